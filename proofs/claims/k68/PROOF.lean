import PyProof.Rows.All
import Wide.All
import OpenK.AllK
import Wide.FinOn
import Lean
import PyProof.EqAt
import PyProof.EqKinds
import PyProof.TupleCall
import PySem.Challenge.RW_joinedever_k68_first_and_last
import PyProof.Draws
import PyProof.ZipIter
import PyProof.TupleIter
import PyProof.ListRange
import PyProof.CollectWalk
import KE.KSortTup
import KE.KDictSum
import PyProof.Rows.Range3
import KE.KEqDict
import KE.KRevIter
import PyProof.EnumStmt
set_option Elab.async false
set_option linter.all false
set_option maxRecDepth 100000
namespace L2
open PySem PySem.Spec PyProof.Rows
abbrev Key := Sum Int Str
def keyIs : Key → Value → Bool
  | .inl k, v => Value.isInt k v
  | .inr x, v => Value.isStrOf x v
def keyH (w : World) : Key → Int
  | .inl k => hashInt k
  | .inr x => hashStr w x
theorem keyIs_shape : ∀ {k : Key} {v : Value}, keyIs k v = true → (∃ i t, k = Sum.inl i ∧ v = Value.int i t) ∨ (∃ x t, k = Sum.inr x ∧ v = Value.str x t)
  | .inl i, v, h => by
    obtain ⟨t, e⟩ := Value.isInt_shape (k := i) (v := v) h
    exact .inl ⟨i, t, rfl, e⟩
  | .inr x, v, h => by
    obtain ⟨t, e⟩ := Value.isStrOf_shape (x := x) (v := v) h
    exact .inr ⟨x, t, rfl, e⟩
theorem keyIs_int (i : Int) (t : Tok) : keyIs (.inl i) (.int i t) = true := by simp [keyIs, Value.isInt]
theorem keyIs_str (x : Str) (t : Tok) : keyIs (.inr x) (.str x t) = true := by simp [keyIs, Value.isStrOf]
theorem key_ll (a b : Int) : decide ((Sum.inl a : Key) = Sum.inl b) = (a == b) := by
  by_cases e : a = b
  · subst e; simp
  · have h : ¬ (Sum.inl a : Key) = Sum.inl b := fun q => e (Sum.inl.inj q)
    rw [decide_eq_false h]
    exact (beq_eq_false_iff_ne.mpr e).symm
theorem key_rr (a b : Str) : decide ((Sum.inr a : Key) = Sum.inr b) = decide (a = b) := by
  by_cases e : a = b
  · subst e; simp
  · have h : ¬ (Sum.inr a : Key) = Sum.inr b := fun q => e (Sum.inr.inj q)
    rw [decide_eq_false h, decide_eq_false e]
theorem key_lr (a : Int) (b : Str) : decide ((Sum.inl a : Key) = Sum.inr b) = false := decide_eq_false (fun q => nomatch q)
theorem key_rl (a : Str) (b : Int) : decide ((Sum.inr a : Key) = Sum.inl b) = false := decide_eq_false (fun q => nomatch q)
def mixKind (prog : Program) (w : World) : PySem.KeyKind prog w Key where
  is := keyIs
  hash := keyH w
  inj := fun v a b ha hb => by
    rcases keyIs_shape ha with ⟨i, t, rfl, rfl⟩ | ⟨x, t, rfl, rfl⟩
    · rcases keyIs_shape hb with ⟨j, u, rfl, e⟩ | ⟨y, u, rfl, e⟩
      · injection e with e1 _; rw [e1]
      · exact nomatch e
    · rcases keyIs_shape hb with ⟨j, u, rfl, e⟩ | ⟨y, u, rfl, e⟩
      · exact nomatch e
      · injection e with e1 _; rw [e1]
  byValue := fun k v h => by
    rcases keyIs_shape h with ⟨i, t, rfl, rfl⟩ | ⟨x, t, rfl, rfl⟩ <;> rfl
  pyHash := fun hv h => by
    rcases keyIs_shape hv with ⟨i, t, rfl, rfl⟩ | ⟨x, t, rfl, rfl⟩
    · exact wpAny_pyHash_int h
    · exact wpAny_pyHash_str h
  eqBool := fun hu hv h => by
    rcases keyIs_shape hu with ⟨i, t, rfl, rfl⟩ | ⟨x, t, rfl, rfl⟩
    · rcases keyIs_shape hv with ⟨j, u, rfl, rfl⟩ | ⟨y, u, rfl, rfl⟩
      · rw [key_ll] at h; exact wpAny_eqBool_int h
      · rw [key_lr] at h; exact SeqAt.EqAt.int_str i t y u _ _ _ _ h
    · rcases keyIs_shape hv with ⟨j, u, rfl, rfl⟩ | ⟨y, u, rfl, rfl⟩
      · rw [key_rl] at h; exact SeqAt.EqAt.str_int x t j u _ _ _ _ h
      · rw [key_rr] at h; exact wpAny_eqBool_str h
  «strs» := fun k x t v h => by
    rcases keyIs_shape h with ⟨i, u, rfl, e⟩ | ⟨y, u, rfl, e⟩
    · exact nomatch e
    · injection e with e1 _
      subst e1
      cases v <;> rfl
theorem mixKind_int (prog : Program) (w : World) (i : Int) (t : Tok) : (mixKind prog w).is (.inl i) (.int i t) = true := keyIs_int i t
theorem mixKind_str (prog : Program) (w : World) (x : Str) (t : Tok) : (mixKind prog w).is (.inr x) (.str x t) = true := keyIs_str x t
end L2
namespace L2
open PySem PySem.Spec PyProof.Rows
inductive V where
  | non | bl (b : Bool) | int (i : Int) | str (x : Str) | byt (b : Array UInt8) | flt (b : UInt64) | ref (a : Addr) | ty (n : String)
  deriving DecidableEq
def RelV : V → Value → Prop
  | .non, u => u = Value.none
  | .bl b, u => u = Value.bool b
  | .int i, u => ∃ t, u = Value.int i t
  | .str x, u => ∃ t, u = Value.str x t
  | .byt b, u => ∃ t, u = Value.bytes b t
  | .flt b, u => ∃ t, u = Value.float b t
  | .ref a, u => u = Value.ref a
  | .ty n, u => u = Value.type n
abbrev Vals : List V → List Value → Prop := Paired RelV
theorem Vals.length {xs : List V} {us : List Value} (r : Vals xs us) : xs.length = us.length := Paired.length r
theorem Vals.get : ∀ {xs : List V} {us : List Value} {i : Nat} {x : V}, Vals xs us → xs[i]? = some x → ∃ u, us[i]? = some u ∧ RelV x u
  | _, _, _, _, .nil, e => by simp at e
  | _, _, 0, _, .cons r _, e => by simp at e; subst e; exact ⟨_, rfl, r⟩
  | _, _, i + 1, x, .cons _ t, e => by
    obtain ⟨u, h1, h2⟩ := Vals.get (i := i) (x := x) t (by simpa using e)
    exact ⟨u, by simpa using h1, h2⟩
theorem Vals.set {x : V} {u : Value} (r : RelV x u) : ∀ {xs : List V} {us : List Value} (i : Nat), Vals xs us → Vals (xs.set i x) (us.set i u)
  | _, _, _, .nil => .nil
  | _, _, 0, .cons _ t => .cons r t
  | _, _, i + 1, .cons q t => .cons q (Vals.set r i t)
theorem Vals.append : ∀ {xs ys : List V} {us ws : List Value}, Vals xs us → Vals ys ws → Vals (xs ++ ys) (us ++ ws)
  | _, _, _, _, .nil, s => s
  | _, _, _, _, .cons r t, s => .cons r (Vals.append t s)
theorem Vals.take : ∀ {xs : List V} {us : List Value} (n : Nat), Vals xs us → Vals (xs.take n) (us.take n)
  | _, _, 0, _ => .nil
  | _, _, _ + 1, .nil => .nil
  | _, _, n + 1, .cons r t => .cons r (Vals.take n t)
theorem Vals.drop : ∀ {xs : List V} {us : List Value} (n : Nat), Vals xs us → Vals (xs.drop n) (us.drop n)
  | _, _, 0, r => r
  | _, _, _ + 1, .nil => .nil
  | _, _, n + 1, .cons _ t => Vals.drop n t
def RelO : Option V → Option Value → Prop
  | some v, some u => RelV v u
  | none, none => True
  | _, _ => False
def KV {κ : Type} : List (κ × V) → List (κ × Value) → Prop := Paired fun (p : κ × V) (q : κ × Value) => p.1 = q.1 ∧ RelV p.2 q.2
def kV : Key → V
  | .inl i => .int i
  | .inr x => .str x
inductive HO where
  | lst (xs : List V)
  | tup (xs : List V)
  | dK (kvs : List (Key × V)) | dT (kvs : List (List Key × V))
  | set (S : Int → Bool) (n : Nat)
  | ins (C dx : Addr) (fs : List (Str × V))
  | own (x : Addr)
  | xd (fs : List (Str × V))
  | met (f x : Addr)
  | rng (lo hi : Int)
  | frz (o : Obj) (u : HO)
  | tbl (ps : Array Value)
  | ext (φ : Heap → Prop)
abbrev Hp := Addr → Option HO
def upd (H : Hp) (a : Addr) (o : HO) : Hp := fun b => if b = a then some o else H b
theorem upd_same {H : Hp} {a : Addr} {o : HO} : upd H a o a = some o := by unfold upd; rw [if_pos rfl]
theorem upd_ne {H : Hp} {a b : Addr} {o : HO} (h : b ≠ a) : upd H a o b = H b := by unfold upd; rw [if_neg h]
theorem upd_upd {H : Hp} {a : Addr} {o u : HO} : upd (upd H a o) a u = upd H a u := by
  funext b; unfold upd; split <;> rfl
theorem ne_of {H : Hp} {a b : Addr} {o u : HO} (h : H a = some o) (h' : H b = some u) (d : o ≠ u) : a ≠ b := by
  intro e; subst e; rw [h] at h'; exact d (Option.some.inj h')
theorem ne_of_none {H : Hp} {a b : Addr} {o : HO} (h : H a = some o) (h' : H b = none) : a ≠ b := by
  intro e; subst e; rw [h] at h'; cases h'
def IsTupN (h : Heap) (a : Addr) (items : Array Value) : Prop := ∃ o, h.get? a = some o ∧ o.cls = .type "tuple" ∧ o.dict = none ∧ ∃ n, o.data = .seq items n
theorem IsTupN.new (h : Heap) (items : Array Value) : IsTupN (h.push { cls := .type "tuple", data := .seq items }) h.objs.size items := ⟨_, Heap.get?_push_size _ rfl, rfl, rfl, _, rfl⟩
theorem IsTupN.tup {h : Heap} {a : Addr} {items : Array Value} (x : IsTupN h a items) : IsTup h a items := let ⟨o, e, c, _, n, d⟩ := x; ⟨o, e, c, n, d⟩
section
variable (P : Program) (w : World)
def ObjOk (H : Hp) (h : Heap) (a : Addr) : HO → Prop
  | .lst xs => xs.length ≤ sizeLine ∧ ∃ (its : List Value) (n : Nat), Vals xs its ∧ h.get? a = some { cls := .type "list", data := .seq its.toArray n }
  | .tup xs => xs.length ≤ sizeLine ∧ ∃ its : List Value, Vals xs its ∧ IsTupN h a its.toArray
  | .dK kvs => kvs.length ≤ sizeLine ∧ (a == sysModules) = false ∧ ∃ vs, KV kvs vs ∧ h.DictOf (mixKind P w) a vs
  | .dT kvs => kvs.length ≤ sizeLine ∧ (a == sysModules) = false ∧ ∃ xs : List (List Key × Addr × Value),
      Paired (fun (p : List Key × V) (q : List Key × Addr × Value) => p.1 = q.1 ∧ H q.2.1 = some (.tup (p.1.map kV)) ∧ RelV p.2 q.2.2) kvs xs ∧
      ∃ o es ep, h.get? a = some o ∧ o.ExactDict ∧ o.data = .dict es ep ∧ es.toList = xs.map (entryOfKey (tupleKind (mixKind P w))) ∧ (xs.map (·.1)).Nodup
  | .set S n => h.SetOf (intKind P w) a S n
  | .ins C dx fs => H dx = some (.own a) ∧ fs.length ≤ 1000 ∧ dx ≠ a ∧ h.get? a = some (PySem.W.instObj C dx) ∧
      ∃ mA, h.Ns1 dx mA ∧ (∀ f, RelO (fs.lookup f) (mA f)) ∧ PySem.Within mA (fs.map (·.1))
  | .own _ => ∃ o, h.get? a = some o
  | .xd fs => ∃ mA, h.Ns1 a mA ∧ ∀ f, RelO (fs.lookup f) (mA f)
  | .rng lo hi => ∃ t u v, h.get? a = some { cls := .type "range", data := .fields #[.int lo t, .int hi u, .int 1 v] }
  | .frz o u => h.get? a = some o ∧ ObjOk H h a u
  | .tbl ps => h.get? a = some { cls := .none, data := .fields ps }
  | .met f x => h.get? a = some (PySem.W.methodObj (.ref f) (.ref x))
  | .ext φ => φ h ∧ (∃ o, h.get? a = some o) ∧ ∀ h1 h2 : Heap, φ h1 → (∀ o, h1.get? a = some o → h2.get? a = some o) → φ h2
def HOk (H : Hp) (h : Heap) : Prop := ∀ a o, H a = some o → ObjOk P w H h a o
end
section
variable {P : Program} {w : World} {H H' : Hp} {h h' : Heap} {a : Addr} {o : HO}
theorem ObjOk.lt (x : ObjOk P w H h a o) : a < h.objs.size := by
  cases o with
  | lst xs => obtain ⟨_, _, _, _, e⟩ := x; exact Heap.lt_size e
  | tup xs => obtain ⟨_, _, _, p⟩ := x; exact p.tup.lt
  | dK kvs => obtain ⟨_, _, _, _, o, _, _, e, _⟩ := x; exact Heap.lt_size e
  | dT kvs => obtain ⟨_, _, _, _, o, _, _, e, _⟩ := x; exact Heap.lt_size e
  | set S n => obtain ⟨o, _, _, _, e, _⟩ := x; exact Heap.lt_size e
  | ins C dx fs => obtain ⟨_, _, _, e, _⟩ := x; exact Heap.lt_size e
  | own y => obtain ⟨_, e⟩ := x; exact Heap.lt_size e
  | xd fs => obtain ⟨_, ⟨_, _, _, e, _⟩, _⟩ := x; exact Heap.lt_size e
  | rng lo hi => obtain ⟨_, _, _, e⟩ := x; exact Heap.lt_size e
  | frz ob u => obtain ⟨e, _⟩ := x; exact Heap.lt_size e
  | tbl ps => exact Heap.lt_size (show h.get? a = some _ from x)
  | met f y => exact Heap.lt_size (show h.get? a = some _ from x)
  | ext φ => obtain ⟨_, ⟨_, e⟩, _⟩ := x; exact Heap.lt_size e
theorem Paired.mapP {α β : Type} {F G : α → β → Prop} : ∀ {l₁ : List α} {l₂ : List β}, Paired F l₁ l₂ → (∀ a b, F a b → G a b) → Paired G l₁ l₂
  | _, _, .nil, _ => .nil
  | _, _, .cons r t, f => .cons (f _ _ r) (Paired.mapP t f)
theorem ObjOk.stay (x : ObjOk P w H h a o) (k : ∀ b u, (b = a ∨ H b = some (.own a)) → h.get? b = some u → h'.get? b = some u)
    (ho : ∀ b, H b = some (.own a) → H' b = some (.own a)) (ht : ∀ b xs, H b = some (.tup xs) → H' b = some (.tup xs)) : ObjOk P w H' h' a o := by
  induction o with
  | lst xs => obtain ⟨z, its, n, r, e⟩ := x; exact ⟨z, its, n, r, k _ _ (.inl rfl) e⟩
  | tup xs => obtain ⟨z, its, r, ob, e, c⟩ := x; exact ⟨z, its, r, ob, k _ _ (.inl rfl) e, c⟩
  | dK kvs => obtain ⟨z, y, vs, r, ob, es, ep, e, c⟩ := x; exact ⟨z, y, vs, r, ob, es, ep, k _ _ (.inl rfl) e, c⟩
  | dT kvs =>
    obtain ⟨z, y, xs, r, ob, es, ep, e, c⟩ := x
    exact ⟨z, y, xs, Paired.mapP r fun p q z => ⟨z.1, ht _ _ z.2.1, z.2.2⟩, ob, es, ep, k _ _ (.inl rfl) e, c⟩
  | set S n => obtain ⟨ob, es, ep, t, e, c⟩ := x; exact ⟨ob, es, ep, t, k _ _ (.inl rfl) e, c⟩
  | ins C dx fs =>
    obtain ⟨d, z, ne, e, mA, ⟨od, es, ep, e2, c⟩, r⟩ := x
    exact ⟨ho _ d, z, ne, k _ _ (.inl rfl) e, mA, ⟨od, es, ep, k _ _ (.inr d) e2, c⟩, r⟩
  | own y => obtain ⟨ob, e⟩ := x; exact ⟨ob, k _ _ (.inl rfl) e⟩
  | xd fs => obtain ⟨mA, ⟨od, es, ep, e, c⟩, r⟩ := x; exact ⟨mA, ⟨od, es, ep, k _ _ (.inl rfl) e, c⟩, r⟩
  | rng lo hi => obtain ⟨t, u, v, e⟩ := x; exact ⟨t, u, v, k _ _ (.inl rfl) e⟩
  | frz ob u ih => obtain ⟨e, q⟩ := x; exact ⟨k _ _ (.inl rfl) e, ih q⟩
  | tbl ps =>
    have e : h.get? a = some { cls := .none, data := .fields ps } := x
    show h'.get? a = some { cls := .none, data := .fields ps }
    exact k a _ (.inl rfl) e
  | met f y =>
    have e : h.get? a = some (PySem.W.methodObj (.ref f) (.ref y)) := x
    show h'.get? a = some (PySem.W.methodObj (.ref f) (.ref y))
    exact k a _ (.inl rfl) e
  | ext φ => obtain ⟨p, ⟨o, e⟩, st⟩ := x; exact ⟨st _ _ p fun o q => k _ _ (.inl rfl) q, ⟨o, k _ _ (.inl rfl) e⟩, st⟩
theorem HOk.lt (x : HOk P w H h) (e : H a = some o) : a < h.objs.size := (x a o e).lt
theorem HOk.fresh (x : HOk P w H h) (e : h.objs.size ≤ a) : H a = none := by
  cases q : H a with
  | none => rfl
  | some u => exact absurd (Nat.lt_of_lt_of_le (x.lt q) e) (Nat.lt_irrefl _)
theorem HOk.kept (x : HOk P w H h) (k : ∀ b u, h.get? b = some u → h'.get? b = some u) : HOk P w H h' := fun a o e =>
  (x a o e).stay (fun b u _ q => k b u q) (fun _ q => q) fun _ _ q => q
theorem HOk.laid (x : HOk P w H h) (k : ∀ b u, h.get? b = some u → h'.get? b = some u) (hp : h.objs.size ≤ a) (new : ObjOk P w (upd H a o) h' a o) : HOk P w (upd H a o) h' := fun b u e => by
  have hn := x.fresh hp
  by_cases hb : b = a
  · subst hb; rw [upd_same] at e; cases e; exact new
  · rw [upd_ne hb] at e
    exact (x b u e).stay (fun c v _ q => k c v q) (fun c q => by rw [upd_ne (ne_of_none q hn)]; exact q) fun c xs q => by rw [upd_ne (ne_of_none q hn)]; exact q
end
def Rd (H : Hp) (a : Addr) (u : HO) : Prop := H a = some u ∨ ∃ o, H a = some (.frz o u)
theorem Rd.ok {P : Program} {w : World} {H : Hp} {h : Heap} {a : Addr} {u : HO} (r : Rd H a u) (x : HOk P w H h) : ObjOk P w H h a u := by
  rcases r with r | ⟨o, r⟩
  · exact x a u r
  · obtain ⟨_, q⟩ := x a _ r
    exact q
def Mut : Option HO → Prop
  | some (.lst _) => True
  | some (.dK _) => True
  | some (.dT _) => True
  | some (.set _ _) => True
  | some (.ins _ _ _) => True
  | some (.ext _) => True
  | _ => False
section
variable {P : Program} {w : World} {H : Hp} {h h' : Heap} {x e : Addr} {o' : HO}
theorem HOk.write (ok : HOk P w H h) (mu : Mut (H x)) (he : e = x ∨ H e = some (.own x)) (k : ∀ b u, b ≠ e → h.get? b = some u → h'.get? b = some u) (heo : ∃ u, h'.get? e = some u)
    (new : ObjOk P w (upd H x o') h' x o') : HOk P w (upd H x o') h' := fun b u q => by
  have nown : ∀ c y, H c = some (.own y) → c ≠ x := fun c y r z => by subst z; rw [r] at mu; exact mu
  have ntup : ∀ c xs, H c = some (.tup xs) → c ≠ x := fun c xs r z => by subst z; rw [r] at mu; exact mu
  by_cases hb : b = x
  · subst hb; rw [upd_same] at q; cases q; exact new
  · rw [upd_ne hb] at q
    by_cases hbe : b = e
    · have q' : H b = some (.own x) := by
        rcases he with z | z
        · exact absurd (hbe.trans z) hb
        · rw [hbe]; exact z
      rw [q] at q'; cases q'
      obtain ⟨v, hv⟩ := heo
      exact ⟨v, by rw [hbe]; exact hv⟩
    · refine (ok b u q).stay (fun c v hc r => k c v ?_ r) (fun c r => by rw [upd_ne (nown c b r)]; exact r) fun c xs r => by rw [upd_ne (ntup c xs r)]; exact r
      rcases hc with rfl | hc
      · exact hbe
      · rintro rfl
        rcases he with z | z
        · exact nown c b hc z
        · rw [hc] at z; cases z; exact hb rfl
end
structure Un (fs ex : List Addr) (H H' : Hp) (h h' : Heap) : Prop where
  keep : ∀ b o, h.get? b = some o → H b = none → b ∉ fs → b ∉ ex → h'.get? b = some o
  slot : ∀ b o, h.get? b = some o → H b = none → b ∈ fs → b ∉ ex → ∃ sl, h'.get? b = some { o with slots := sl }
  free : ∀ b o, h.get? b = some o → H b = none → b ∉ ex → H' b = none
  there : ∀ b o, h.get? b = some o → b ∉ ex → ∃ o', h'.get? b = some o'
  tups : ∀ b xs, H b = some (.tup xs) → H' b = some (.tup xs)
  frzs : ∀ b o u, H b = some (.frz o u) → H' b = some (.frz o u)
  tbls : ∀ b ps, H b = some (.tbl ps) → ∃ more, H' b = some (.tbl (ps ++ more))
section
variable {fs fs' ex ex' : List Addr} {H H1 H2 : Hp} {h h1 h2 h' : Heap} {a x e : Addr} {o : HO}
theorem Un.any (u : Un fs ex H H1 h h1) {b : Addr} {ob : Obj} (q : h.get? b = some ob) (n : H b = none) (hx : b ∉ ex) : ∃ sl, h1.get? b = some { ob with slots := sl } := by
  by_cases hb : b ∈ fs
  · exact u.slot b ob q n hb hx
  · exact ⟨ob.slots, u.keep b ob q n hb hx⟩
theorem Un.kept (k : ∀ b u, h.get? b = some u → h'.get? b = some u) : Un fs ex H H h h' :=
  ⟨fun b ob q _ _ _ => k b ob q, fun b ob q _ _ _ => ⟨ob.slots, k b ob q⟩, fun _ _ _ n _ => n, fun b ob q _ => ⟨ob, k b ob q⟩, fun _ _ q => q, fun _ _ _ q => q, fun _ ps q => ⟨#[], by rw [q]; simp⟩⟩
theorem Un.refl : Un fs ex H H h h := Un.kept fun _ _ q => q
theorem Un.laid (k : ∀ b u, h.get? b = some u → h'.get? b = some u) (hp : h.objs.size ≤ a) (hn : H a = none) : Un fs ex H (upd H a o) h h' where
  keep := fun b u q _ _ _ => k b u q
  slot := fun b u q _ _ _ => ⟨u.slots, k b u q⟩
  free := fun b u q n _ => by rw [upd_ne (Nat.ne_of_lt (Nat.lt_of_lt_of_le (Heap.lt_size q) hp))]; exact n
  there := fun b u q _ => ⟨u, k b u q⟩
  tups := fun b xs q => by rw [upd_ne (ne_of_none q hn)]; exact q
  frzs := fun b u xs q => by rw [upd_ne (ne_of_none q hn)]; exact q
  tbls := fun b ps q => ⟨#[], by rw [upd_ne (ne_of_none q hn), q]; simp⟩
theorem Un.write (mu : Mut (H x)) (he : e = x ∨ H e = some (.own x)) (k : ∀ b u, b ≠ e → h.get? b = some u → h'.get? b = some u) (heo : ∃ u, h'.get? e = some u) : Un fs ex H (upd H x o) h h' := by
  have hx : ∀ b, H b = none → b ≠ x := fun b n z => by subst z; rw [n] at mu; exact mu
  have hb : ∀ b, H b = none → b ≠ e := fun b n z => by
    subst z
    rcases he with r | r
    · exact hx b n r
    · rw [n] at r; cases r
  have hm : ∀ b u, H b = some u → ¬ Mut (some u) → b ≠ x := fun b u q nm z => by subst z; rw [q] at mu; exact nm mu
  refine ⟨fun b u q n _ _ => k b u (hb b n) q, fun b u q n _ _ => ⟨u.slots, k b u (hb b n) q⟩, fun b u q n _ => by rw [upd_ne (hx b n)]; exact n, fun b u q _ => ?_,
    fun b xs q => by rw [upd_ne (hm b _ q fun z => z)]; exact q, fun b u xs q => by rw [upd_ne (hm b _ q fun z => z)]; exact q, fun b ps q => ⟨#[], by rw [upd_ne (hm b _ q fun z => z), q]; simp⟩⟩
  by_cases hbe : b = e
  · subst hbe; exact heo
  · exact ⟨u, k b u hbe q⟩
end
def trk (h : Heap) (H : Hp) : List Addr := (List.range h.objs.size).filter fun a => (H a).isSome
def hidT (h : Heap) (H : Hp) : Heap := PySem.W.hideAll h (trk h H)
theorem hidT_size (h : Heap) (H : Hp) : (hidT h H).objs.size = h.objs.size := PySem.W.hideAll_size _ _
theorem hidT_get {h : Heap} {H : Hp} {b : Addr} {o : Obj} (e : h.get? b = some o) (n : H b = none) : (hidT h H).get? b = some o :=
  PySem.W.hideAll_get _ e fun hm => by
    have q : (H b).isSome = true := (List.mem_filter.mp hm).2
    rw [n] at q; simp at q
theorem of_hidT {h : Heap} {H : Hp} {b : Addr} {o : Obj} (e : (hidT h H).get? b = some o) : h.get? b = some o ∧ H b = none := by
  have e' : h.get? b = some o := PySem.W.of_hideAll (trk h H) e
  refine ⟨e', ?_⟩
  cases q : H b with
  | none => rfl
  | some x =>
    have hm : b ∈ trk h H := List.mem_filter.mpr ⟨List.mem_range.mpr (Heap.lt_size e'), by simp [q]⟩
    have z : (hidT h H).get? b = none := PySem.W.hideAll_none (trk h H) hm
    rw [z] at e; cases e
end L2
namespace L2
open PySem PySem.Spec PyProof.Rows
structure Mod (K : PySem.W.Frag) (mg : Str → Option Value) (base : Heap) : Prop where
  kin : K.In base
  glob : base.Ns mainGlobals mg
  blt : ∃ mb, base.Ns builtinsNs mb ∧ ∀ x : Str, x ≠ "__name__" → mb x = bootBuiltins x
  nolimit : base.NoLimit
structure Cx where
  prog : Program
  w : World
  K : PySem.W.Frag
  mg : Str → Option Value
  base : Heap
  A : Around
  N : List Str
  s₀ : Shared
  H₀ : Hp
  env : Env
  outer : List Env
  stack : List Env
  ex : List Addr
  fn : Str → Bool
  calm : Bool
  pn : List (Addr × Obj)
  xe : Value → Shared → Prop
def frs (l : List Env) : List Addr := l.filterMap (·.frame)
abbrev Cx.fs (X : Cx) : List Addr := frs X.outer
def Vis (sc : Scope) (x : Str) : Prop := sc.names.lookup x = some .local ∨ sc.names.lookup x = some .cell ∨ sc.names.lookup x = some .free
def Loc (sc : Scope) (x : Str) : Prop := sc.names.lookup x = some .local ∨ sc.names.lookup x = some .cell
def Look (env : Env) (h : Heap) (m : Str → Option Value) (x : Str) (u : Value) : Prop :=
  (env.kindOf x = some .local ∧ m x = some u) ∨ ((env.kindOf x = some .cell ∨ env.kindOf x = some .free) ∧ ∃ c, env.cells.lookup x = some c ∧ h.IsCell c (some u))
structure Cx.Ok (X : Cx) : Prop where
  mod : Mod X.K X.mg X.base
  kind : X.env.scope.kind = .function
  glob : X.env.globals = mainGlobals
  blt : X.env.builtins = builtinsNs
  above : X.s₀.heap.objs.size ≤ X.env.locals
  inj : ∀ x y c, X.env.cells.lookup x = some c → X.env.cells.lookup y = some c → x = y
  has : ∀ x, (X.env.kindOf x = some .cell ∨ X.env.kindOf x = some .free) → ∃ c, X.env.cells.lookup x = some c
  cab : ∀ x c, X.fn x = true → X.env.cells.lookup x = some c → X.s₀.heap.objs.size ≤ c
  hd : X.calm = true → X.A.handled = none
  frames : X.A.frames = some X.stack
  stk : X.stack = X.outer ∨ (X.stack = X.env :: X.outer ∧ X.env.frame = some X.env.locals)
  exf : ∀ b ∈ X.ex, b ≠ X.env.locals ∧ ∀ x c, X.env.cells.lookup x = some c → c ≠ b
  bs : ∀ b o, X.base.get? b = some o → X.s₀.heap.get? b = some o ∧ X.H₀ b = none
  bsz : X.base.objs.size ≤ X.s₀.heap.objs.size
  noex : ∀ b o, X.base.get? b = some o → b ∉ X.ex
  exfs : ∀ b ∈ X.ex, b ∉ X.fs
  funs : X.s₀.heap.FunFrames X.base X.outer
  frf : ∀ b ∈ X.fs, X.H₀ b = none
structure Inv (X : Cx) (pins : List (Addr × Obj)) (σ : List (Option V)) (H : Hp) (s : Shared) : Prop where
  ok : X.Ok
  os : s.os = X.s₀.os
  bare : AllBare s.gens
  base : Un X.fs X.ex X.H₀ H X.s₀.heap s.heap
  loc : ∃ m, s.heap.Ns X.env.locals m ∧ ∀ (i : Nat) (x : Str) (v : V), X.N[i]? = some x → σ[i]? = some (some v) → Vis X.env.scope x → ∃ u, RelV v u ∧ Look X.env s.heap m x u
  cell : ∀ x c, X.env.cells.lookup x = some c → ∃ v, s.heap.IsCell c v
  free : H X.env.locals = none
  freeC : ∀ x c, X.env.cells.lookup x = some c → H c = none
  pin : ∀ p ∈ X.pn ++ pins, s.heap.get? p.1 = some p.2 ∧ H p.1 = none ∧ p.1 ≠ X.env.locals ∧ p.1 ∉ X.fs ∧ ∀ v, p.2.data ≠ .cell v
  hok : HOk X.prog X.w H s.heap
  len : σ.length = X.N.length
section
variable {X : Cx} {pins : List (Addr × Obj)} {σ : List (Option V)} {H H' : Hp} {s : Shared} {h' : Heap}
theorem Cx.Ok.nofr (ok : X.Ok) {b : Addr} {o : Obj} (e : X.base.get? b = some o) : b ∉ X.fs := fun hb => by
  have := (ok.funs.mem hb).1
  rw [e] at this; cases this
theorem Inv.bs (I : Inv X pins σ H s) : ∀ b o, X.base.get? b = some o → s.heap.get? b = some o ∧ H b = none := fun b o e =>
  ⟨I.base.keep b o (I.ok.bs b o e).1 (I.ok.bs b o e).2 (I.ok.nofr e) (I.ok.noex b o e), I.base.free b o (I.ok.bs b o e).1 (I.ok.bs b o e).2 (I.ok.noex b o e)⟩
theorem Inv.bk (I : Inv X pins σ H s) : ∀ b o, X.base.get? b = some o → s.heap.get? b = some o := fun b o e => (I.bs b o e).1
theorem Inv.mod (I : Inv X pins σ H s) : Mod X.K X.mg X.base := I.ok.mod
theorem Inv.kIn (I : Inv X pins σ H s) : X.K.In s.heap := I.ok.mod.kin.keeps I.bk
theorem Inv.lt (I : Inv X pins σ H s) : X.env.locals < s.heap.objs.size := let ⟨_, hn, _⟩ := I.loc; hn.lt
theorem Inv.sz (I : Inv X pins σ H s) : X.s₀.heap.objs.size ≤ s.heap.objs.size := Nat.le_trans I.ok.above (Nat.le_of_lt I.lt)
theorem Inv.nofs (I : Inv X pins σ H s) {a : Addr} (h : s.heap.objs.size ≤ a) : a ∉ X.fs := fun hb => by
  obtain ⟨_, o, ho, _⟩ := I.ok.funs.mem hb
  exact absurd (Nat.lt_of_lt_of_le (Heap.lt_size ho) (Nat.le_trans I.sz h)) (Nat.lt_irrefl _)
theorem Inv.cne (I : Inv X pins σ H s) : ∀ x c, X.env.cells.lookup x = some c → c ≠ X.env.locals := fun x c e z => by
  obtain ⟨v, o, ho, hd⟩ := I.cell x c e
  obtain ⟨m, ⟨o', es, ep, ho', hd', _⟩, _⟩ := I.loc
  rw [z, ho'] at ho; cases ho; rw [hd'] at hd; cases hd
theorem Inv.funs (I : Inv X pins σ H s) : s.heap.FunFrames X.base X.outer := by
  have all : ∀ (l : List Env), (∀ b ∈ frs l, b ∈ X.fs) → X.s₀.heap.FunFrames X.base l → s.heap.FunFrames X.base l := by
    intro l
    induction l with
    | nil => intro _ _; trivial
    | cons env r ih =>
      intro hs hl
      obtain ⟨hk, ⟨L, o, hf, hn, ho, hd⟩, hr⟩ := hl
      have hL : L ∈ X.fs := hs L (by unfold frs; rw [List.filterMap_cons, hf]; exact List.mem_cons_self)
      obtain ⟨sl, e⟩ := I.base.slot L o ho (I.ok.frf L hL) hL fun z => I.ok.exfs L z hL
      exact ⟨hk, ⟨L, _, hf, hn, e, hd⟩, ih (fun b hb => hs b (by unfold frs; rw [List.filterMap_cons, hf]; exact List.mem_cons_of_mem _ hb)) hr⟩
  exact all X.outer (fun _ hb => hb) I.ok.funs
theorem Inv.stack (I : Inv X pins σ H s) : s.heap.FunFrames X.base X.stack := by
  rcases I.ok.stk with e | ⟨e, hf⟩
  · rw [e]; exact I.funs
  · rw [e]
    obtain ⟨m, hn, _⟩ := I.loc
    refine .cons (by rw [I.ok.kind]; decide) hf hn ?_ I.funs
    exact Heap.get?_none_of_le (Nat.le_trans I.ok.bsz I.ok.above)
theorem Inv.stkSub (I : Inv X pins σ H s) : ∀ b ∈ frs X.stack, b ∈ X.env.locals :: X.fs := fun b hb => by
  rcases I.ok.stk with e | ⟨e, hf⟩
  · rw [e] at hb; exact List.mem_cons_of_mem _ hb
  · rw [e] at hb
    unfold frs at hb
    rw [List.filterMap_cons, hf] at hb
    exact hb
theorem Inv.stkFree (I : Inv X pins σ H s) : ∀ b ∈ frs X.stack, H b = none := fun b hb => by
  rcases List.mem_cons.mp (I.stkSub b hb) with e | hb
  · rw [e]; exact I.free
  · obtain ⟨_, o, ho, _⟩ := I.ok.funs.mem hb
    exact I.base.free b o ho (I.ok.frf b hb) fun z => I.ok.exfs b z hb
theorem Inv.step {g' : Array GenState} {t' : Nat} {d' : Drawn} {ch : List Addr} (I : Inv X pins σ H s)
    (hch : ∀ b ∈ ch, (b ∈ X.ex ∨ X.s₀.heap.objs.size ≤ b) ∧ b ≠ X.env.locals ∧ (∀ x c, X.env.cells.lookup x = some c → c ≠ b) ∧ ∀ p ∈ X.pn ++ pins, p.1 ≠ b)
    (keep : ∀ b o, b ≠ X.env.locals → b ∉ X.fs → b ∉ ch → s.heap.get? b = some o → H b = none → h'.get? b = some o)
    (slot : ∀ b o, b ≠ X.env.locals → b ∈ X.fs → b ∉ ch → s.heap.get? b = some o → H b = none → ∃ sl, h'.get? b = some { o with slots := sl }) (free : ∀ b o, b ∉ ch → s.heap.get? b = some o → H b = none → H' b = none)
    (there : ∀ b o, b ∉ ch → s.heap.get? b = some o → ∃ o', h'.get? b = some o')
    (tups : ∀ b xs, H b = some (.tup xs) → H' b = some (.tup xs)) (frzs : ∀ b o u, H b = some (.frz o u) → H' b = some (.frz o u)) (tbls : ∀ b ps, H b = some (.tbl ps) → ∃ more, H' b = some (.tbl (ps ++ more)))
    (ns : ∀ m, s.heap.Ns X.env.locals m → h'.Ns X.env.locals m) (hok : HOk X.prog X.w H' h') (hg : AllBare g') :
    Inv X pins σ H' { s with heap := h', gens := g', drawn := d', toks := t' } := by
  have neL : ∀ b o, X.s₀.heap.get? b = some o → b ≠ X.env.locals := fun b o e => Nat.ne_of_lt (Nat.lt_of_lt_of_le (Heap.lt_size e) I.ok.above)
  have neC : ∀ b o, X.s₀.heap.get? b = some o → b ∉ X.ex → b ∉ ch := fun b o e hx hb => by
    rcases (hch b hb).1 with z | z
    · exact hx z
    · exact absurd (Nat.lt_of_lt_of_le (Heap.lt_size e) z) (Nat.lt_irrefl _)
  have cellK : ∀ x c, X.env.cells.lookup x = some c → ∀ v, s.heap.IsCell c v → h'.IsCell c v := fun x c e v ⟨o, ho, hd⟩ => by
    have nch : c ∉ ch := fun z => (hch c z).2.2.1 x c e rfl
    by_cases hc : c ∈ X.fs
    · obtain ⟨sl, q⟩ := slot c o (I.cne x c e) hc nch ho (I.freeC x c e)
      exact ⟨_, q, hd⟩
    · exact ⟨o, keep c o (I.cne x c e) hc nch ho (I.freeC x c e), hd⟩
  refine ⟨I.ok, I.os, hg, ⟨fun b o e n hb hx => ?_, fun b o e n hb hx => ?_, fun b o e n hx => ?_, fun b o e hx => ?_, fun b xs e => tups b xs (I.base.tups b xs e), fun b o xs e => frzs b o xs (I.base.frzs b o xs e), fun b ps e => ?_⟩, ?_, fun x c e => ?_, ?_, fun x c e => ?_, fun p hp => ?_, hok, I.len⟩
  · exact keep b o (neL b o e) hb (neC b o e hx) (I.base.keep b o e n hb hx) (I.base.free b o e n hx)
  · obtain ⟨sl, e1⟩ := I.base.slot b o e n hb hx
    obtain ⟨sl', e2⟩ := slot b _ (neL b o e) hb (neC b o e hx) e1 (I.base.free b o e n hx)
    exact ⟨sl', e2⟩
  · obtain ⟨o', e1⟩ := I.base.there b o e hx
    exact free b o' (neC b o e hx) e1 (I.base.free b o e n hx)
  · obtain ⟨o', e1⟩ := I.base.there b o e hx
    exact there b o' (neC b o e hx) e1
  · obtain ⟨m1, e1⟩ := I.base.tbls b ps e
    obtain ⟨m2, e2⟩ := tbls b _ e1
    exact ⟨m1 ++ m2, by rw [e2, Array.append_assoc]⟩
  · obtain ⟨m, hn, hl⟩ := I.loc
    refine ⟨m, ns m hn, fun i x v e1 e2 e3 => ?_⟩
    obtain ⟨u, r, l⟩ := hl i x v e1 e2 e3
    refine ⟨u, r, ?_⟩
    rcases l with l | ⟨k, c, e, z⟩
    · exact .inl l
    · exact .inr ⟨k, c, e, cellK x c e _ z⟩
  · obtain ⟨v, z⟩ := I.cell x c e
    exact ⟨v, cellK x c e v z⟩
  · obtain ⟨m, ⟨o, _, _, ho, _⟩, _⟩ := I.loc
    exact free _ o (fun z => (hch _ z).2.1 rfl) ho I.free
  · obtain ⟨v, o, ho, hd⟩ := I.cell x c e
    exact free c o (fun z => (hch c z).2.2.1 x c e rfl) ho (I.freeC x c e)
  · obtain ⟨e, n, ne, nf, d⟩ := I.pin p hp
    have nch : p.1 ∉ ch := fun z => (hch p.1 z).2.2.2 p hp rfl
    exact ⟨keep p.1 p.2 ne nf nch e n, free p.1 p.2 nch e n, ne, nf, d⟩
theorem Inv.un {t' : Nat} (I : Inv X pins σ H s) (u : Un X.fs [] H H' s.heap h') (hok : HOk X.prog X.w H' h') : Inv X pins σ H' { s with heap := h', toks := t' } := by
  obtain ⟨m, ⟨o, es, ep, ho, r⟩, _⟩ := id I.loc
  obtain ⟨sl, hL⟩ := u.any ho I.free (by simp)
  exact I.step (g' := s.gens) (d' := s.drawn) (ch := []) (fun _ z => nomatch z) (fun b o _ hb _ e n => u.keep b o e n hb (by simp)) (fun b o _ hb _ e n => u.slot b o e n hb (by simp)) (fun b o _ e n => u.free b o e n (by simp)) (fun b o _ e => u.there b o e (by simp)) u.tups u.frzs u.tbls (fun m' hm => by
    obtain ⟨o', es', ep', ho', r'⟩ := hm
    rw [ho] at ho'; cases ho'
    exact ⟨_, es', ep', hL, r'⟩) hok I.bare
theorem Inv.call {g' : Array GenState} {t' : Nat} {d' : Drawn} {ch : List Addr} (I : Inv X pins σ H s) (u : Un (frs X.stack) ch H H' s.heap h') (hok : HOk X.prog X.w H' h') (hg : AllBare g')
    (hch : ∀ b ∈ ch, (b ∈ X.ex ∨ X.s₀.heap.objs.size ≤ b) ∧ b ≠ X.env.locals ∧ (∀ x c, X.env.cells.lookup x = some c → c ≠ b) ∧ ∀ p ∈ X.pn ++ pins, p.1 ≠ b) :
    Inv X pins σ H' { s with heap := h', gens := g', drawn := d', toks := t' } := by
  obtain ⟨m, ⟨o, es, ep, ho, r⟩, _⟩ := id I.loc
  obtain ⟨sl, hL⟩ := u.any ho I.free fun z => (hch _ z).2.1 rfl
  exact I.step (ch := ch) hch (fun b o hL hb hc e n => u.keep b o e n (fun z => (List.mem_cons.mp (I.stkSub b z)).elim hL hb) hc) (fun b o _ _ hc e n => u.any e n hc) (fun b o hc e n => u.free b o e n hc) (fun b o hc e => u.there b o e hc) u.tups u.frzs u.tbls (fun m' hm => by
    obtain ⟨o', es', ep', ho', r'⟩ := hm
    rw [ho] at ho'; cases ho'
    exact ⟨_, es', ep', hL, r'⟩) hok hg
theorem Inv.turned {t' : Nat} {it : Addr} (I : Inv X pins σ H s) (k : ∀ b o, b ≠ it → s.heap.get? b = some o → h'.get? b = some o) (hn : H it = none) (hL : it ≠ X.env.locals)
    (h1 : it ∈ X.ex ∨ X.s₀.heap.objs.size ≤ it) (h2 : ∀ x c, X.env.cells.lookup x = some c → c ≠ it) (h3 : ∀ p ∈ X.pn ++ pins, p.1 ≠ it) : Inv X pins σ H { s with heap := h', toks := t' } := by
  have nit : ∀ b u, H b = some u → b ≠ it := fun b u e z => by rw [z, hn] at e; cases e
  refine I.step (g' := s.gens) (d' := s.drawn) (ch := [it]) (fun b hb => ?_) (fun b o _ _ hc e _ => k b o (fun z => hc (by simp [z])) e) (fun b o _ _ hc e _ => ⟨o.slots, k b o (fun z => hc (by simp [z])) e⟩) (fun _ _ _ _ n => n)
    (fun b o hc e => ⟨o, k b o (fun z => hc (by simp [z])) e⟩) (fun _ _ e => e) (fun _ _ _ e => e) (fun b ps e => ⟨#[], by rw [e]; simp⟩) (fun m hm => ?_) (fun b u e => ?_) I.bare
  · have e : b = it := by simpa using hb
    subst e
    exact ⟨h1, hL, h2, h3⟩
  · obtain ⟨o, es, ep, ho, r⟩ := hm
    exact ⟨o, es, ep, k _ o (Ne.symm hL) ho, r⟩
  · refine (I.hok b u e).stay (fun c v hc q => k c v ?_ q) (fun _ q => q) fun _ _ q => q
    rcases hc with z | z
    · rw [z]; exact nit b u e
    · exact nit c _ z
theorem Inv.tok (I : Inv X pins σ H s) (t : Nat) : Inv X pins σ H { s with toks := t } := I.un (h' := s.heap) (t' := t) Un.refl I.hok
theorem Inv.kept {t' : Nat} (I : Inv X pins σ H s) (k : ∀ b u, s.heap.get? b = some u → h'.get? b = some u) : Inv X pins σ H { s with heap := h', toks := t' } := I.un (Un.kept k) (I.hok.kept k)
theorem Inv.laid {a : Addr} {o : HO} {t' : Nat} (I : Inv X pins σ H s) (k : ∀ b u, s.heap.get? b = some u → h'.get? b = some u) (hp : s.heap.objs.size ≤ a) (new : ObjOk X.prog X.w (upd H a o) h' a o) :
    Inv X pins σ (upd H a o) { s with heap := h', toks := t' } := I.un (Un.laid k hp (I.hok.fresh hp)) (I.hok.laid k hp new)
theorem Inv.write {x e : Addr} {o : HO} {t' : Nat} (I : Inv X pins σ H s) (mu : Mut (H x)) (he : e = x ∨ H e = some (.own x)) (k : ∀ b u, b ≠ e → s.heap.get? b = some u → h'.get? b = some u) (heo : ∃ u, h'.get? e = some u)
    (new : ObjOk X.prog X.w (upd H x o) h' x o) : Inv X pins σ (upd H x o) { s with heap := h', toks := t' } := I.un (Un.write mu he k heo) (I.hok.write mu he k heo new)
theorem Inv.pins_of {pins' : List (Addr × Obj)} (I : Inv X pins σ H s) (h : ∀ p ∈ pins', s.heap.get? p.1 = some p.2 ∧ H p.1 = none ∧ p.1 ≠ X.env.locals ∧ p.1 ∉ X.fs ∧ ∀ v, p.2.data ≠ .cell v) : Inv X pins' σ H s :=
  ⟨I.ok, I.os, I.bare, I.base, I.loc, I.cell, I.free, I.freeC, fun p hp => (List.mem_append.mp hp).elim (fun z => I.pin p (List.mem_append_left _ z)) (h p), I.hok, I.len⟩
theorem nodup_ix {N : List Str} (hN : N.Nodup) {i j : Nat} {x : Str} (a : N[i]? = some x) (b : N[j]? = some x) : i = j := by
  obtain ⟨h1, e1⟩ := List.getElem?_eq_some_iff.mp a
  obtain ⟨h2, e2⟩ := List.getElem?_eq_some_iff.mp b
  exact (List.getElem_inj hN).mp (e1.trans e2.symm)
theorem store_ok2 {M : Model} {A : Around} {E : Value → Shared → Prop} {i : Nat} {x : Str} {v : V} {u : Value} {Q : Unit → Shared → Prop} (I : Inv X pins σ H s) (hN : X.N.Nodup) (hi : X.N[i]? = some x) (hx : Loc X.env.scope x) (r : RelV v u)
    (h : ∀ s', Inv X pins (σ.set i (some v)) H s' → (∃ a, Heap.SameBut a s.heap s'.heap ∧ (a = X.env.locals ∨ X.env.cells.lookup x = some a)) → Q () s') (hf : X.fn x = true ∨ X.env.scope.names.lookup x = some .local := by first | exact .inl rfl | exact .inr rfl | assumption) : wpAny M A (storeName X.env x u) Q E s := by
  obtain ⟨m, hn, hl⟩ := id I.loc
  have hcls : (X.env.scope.kind == .class || (X.env.scope.kind == .module && X.env.locals != X.env.globals)) = false := by rw [I.ok.kind]; rfl
  have hiσ : i < σ.length := by rw [I.len]; exact (List.getElem?_eq_some_iff.mp hi).1
  have cne := I.cne
  have tracked : ∀ {a : Addr} {h' : Heap}, (∃ o, s.heap.get? a = some o ∧ H a = none) → Heap.SameBut a s.heap h' → HOk X.prog X.w H h' := fun {a h'} ha hs b ob e => by
    obtain ⟨_, _, hfree⟩ := ha
    refine (I.hok b ob e).stay (fun c w' hc q => (hs.2 c ?_).trans q) (fun _ q => q) fun _ _ q => q
    rintro rfl
    rcases hc with rfl | hc
    · rw [hfree] at e; cases e
    · rw [hfree] at hc; cases hc
  rcases hx with hk | hk
  · refine wpAny_storeName_local hk hn (fun h' hn' hs => ?_) hcls
    obtain ⟨oL, _, _, hoL, _⟩ := id hn
    refine h _ ⟨I.ok, I.os, I.bare, ⟨fun b o e n hb hx => ?_, fun b o e n hb hx => ?_, I.base.free, fun b o e hx => ?_, I.base.tups, I.base.frzs, I.base.tbls⟩, ⟨_, hn', fun j y v' e1 e2 e3 => ?_⟩, fun y c e => ?_, I.free, I.freeC, fun p hp => ?_, tracked ⟨oL, hoL, I.free⟩ hs, by simpa using I.len⟩ ⟨_, hs, .inl rfl⟩
    · exact (hs.2 b (Nat.ne_of_lt (Nat.lt_of_lt_of_le (Heap.lt_size e) I.ok.above))).trans (I.base.keep b o e n hb hx)
    · obtain ⟨sl, e1⟩ := I.base.slot b o e n hb hx
      exact ⟨sl, (hs.2 b (Nat.ne_of_lt (Nat.lt_of_lt_of_le (Heap.lt_size e) I.ok.above))).trans e1⟩
    · obtain ⟨o', e1⟩ := I.base.there b o e hx
      exact ⟨o', (hs.2 b (Nat.ne_of_lt (Nat.lt_of_lt_of_le (Heap.lt_size e) I.ok.above))).trans e1⟩
    · by_cases hj : j = i
      · subst hj
        rw [hi] at e1; cases e1
        rw [List.getElem?_set_self hiσ] at e2
        cases e2
        exact ⟨u, r, .inl ⟨hk, by simp⟩⟩
      · rw [List.getElem?_set_ne (Ne.symm hj)] at e2
        obtain ⟨u', r', q⟩ := hl j y v' e1 e2 e3
        refine ⟨u', r', ?_⟩
        rcases q with ⟨k, e⟩ | ⟨k, c, e, z⟩
        · refine .inl ⟨k, ?_⟩
          have : y ≠ x := fun e => hj (nodup_ix hN e1 (e ▸ hi))
          simp [this, e]
        · exact .inr ⟨k, c, e, z.sameBut hs (cne y c e)⟩
    · obtain ⟨w', z⟩ := I.cell y c e
      exact ⟨w', z.sameBut hs (cne y c e)⟩
    · obtain ⟨e, n, ne, nf, d⟩ := I.pin p hp
      exact ⟨(hs.2 p.1 ne).trans e, n, ne, nf, d⟩
  · have hfn : X.fn x = true := by
      rcases hf with z | z
      · exact z
      · rw [z] at hk; cases hk
    obtain ⟨c, hc⟩ := I.ok.has x (.inl hk)
    obtain ⟨w', z⟩ := I.cell x c hc
    refine wpAny_storeName_cell I.ok.kind hk hc z (fun h' hc' hs => ?_)
    obtain ⟨oc, hoc, hocd⟩ := id z
    refine h { s with heap := h' } ⟨I.ok, I.os, I.bare, ⟨fun b o e n hb hx => ?_, fun b o e n hb hx => ?_, I.base.free, fun b o e hx => ?_, I.base.tups, I.base.frzs, I.base.tbls⟩, ⟨m, hn.sameBut hs (Ne.symm (cne x c hc)), fun j y v' e1 e2 e3 => ?_⟩, fun y c' e => ?_, I.free, I.freeC, fun p hp => ?_, tracked ⟨oc, hoc, I.freeC x c hc⟩ hs, by simpa using I.len⟩ ⟨c, hs, .inr hc⟩
    · exact (hs.2 b (Nat.ne_of_lt (Nat.lt_of_lt_of_le (Heap.lt_size e) (I.ok.cab x c hfn hc)))).trans (I.base.keep b o e n hb hx)
    · obtain ⟨sl, e1⟩ := I.base.slot b o e n hb hx
      exact ⟨sl, (hs.2 b (Nat.ne_of_lt (Nat.lt_of_lt_of_le (Heap.lt_size e) (I.ok.cab x c hfn hc)))).trans e1⟩
    · obtain ⟨o', e1⟩ := I.base.there b o e hx
      exact ⟨o', (hs.2 b (Nat.ne_of_lt (Nat.lt_of_lt_of_le (Heap.lt_size e) (I.ok.cab x c hfn hc)))).trans e1⟩
    · by_cases hj : j = i
      · subst hj
        rw [hi] at e1; cases e1
        rw [List.getElem?_set_self hiσ] at e2
        cases e2
        exact ⟨u, r, .inr ⟨.inl hk, c, hc, hc'⟩⟩
      · rw [List.getElem?_set_ne (Ne.symm hj)] at e2
        obtain ⟨u', r', q⟩ := hl j y v' e1 e2 e3
        refine ⟨u', r', ?_⟩
        rcases q with q | ⟨k, c', e, z'⟩
        · exact .inl q
        · refine .inr ⟨k, c', e, z'.sameBut hs ?_⟩
          rintro rfl
          exact hj (nodup_ix hN e1 (I.ok.inj _ _ _ e hc ▸ hi))
    · by_cases hcc : c' = c
      · subst hcc; exact ⟨_, hc'⟩
      · obtain ⟨w2, z2⟩ := I.cell y c' e
        exact ⟨w2, z2.sameBut hs hcc⟩
    · obtain ⟨e, n, ne, nf, d⟩ := I.pin p hp
      refine ⟨(hs.2 p.1 ?_).trans e, n, ne, nf, d⟩
      intro q
      rw [q, hoc] at e
      have q' : oc = p.2 := Option.some.inj e
      exact d w' (by rw [← q']; exact hocd)
theorem store_ok {M : Model} {A : Around} {E : Value → Shared → Prop} {i : Nat} {x : Str} {v : V} {u : Value} {Q : Unit → Shared → Prop} (I : Inv X pins σ H s) (hN : X.N.Nodup) (hi : X.N[i]? = some x) (hx : Loc X.env.scope x) (r : RelV v u)
    (h : ∀ s', Inv X pins (σ.set i (some v)) H s' → Q () s') (hf : X.fn x = true ∨ X.env.scope.names.lookup x = some .local := by first | exact .inl rfl | exact .inr rfl | assumption) : wpAny M A (storeName X.env x u) Q E s :=
  store_ok2 I hN hi hx r (fun s' I' _ => h s' I') hf
theorem Inv.call' {s' : Shared} {ch : List Addr} (I : Inv X pins σ H s) (ho : s'.os = s.os) (u : Un (frs X.stack) ch H H' s.heap s'.heap) (hok : HOk X.prog X.w H' s'.heap) (hg : AllBare s'.gens)
    (hch : ∀ b ∈ ch, (b ∈ X.ex ∨ X.s₀.heap.objs.size ≤ b) ∧ b ≠ X.env.locals ∧ (∀ x c, X.env.cells.lookup x = some c → c ≠ b) ∧ ∀ p ∈ X.pn ++ pins, p.1 ≠ b) : Inv X pins σ H' s' := by
  obtain ⟨h', g', d', t', o'⟩ := s'
  have e : o' = s.os := ho
  subst e
  exact I.call (g' := g') (t' := t') (d' := d') u hok hg hch
end
abbrev XK := Value → Option Addr → Hp → Prop
abbrev St := List (Option V)
abbrev VK := V → Hp → Prop
abbrev TE := St → Hp → VK → Prop
abbrev TT := St → Hp → (Bool → Hp → Prop) → Prop
abbrev TA := St → Hp → (List V → Hp → Prop) → Prop
structure Ends where
  nx : St → Hp → Prop
  rt : VK
  bk : St → Hp → Prop := fun _ _ => False
  ct : St → Hp → Prop := fun _ _ => False
abbrev TS := Ends → St → Hp → Prop
def EP (X : Cx) (pins : List (Addr × Obj)) (σ : St) (Q : VK) (u : Value) (s' : Shared) : Prop := ∃ v H', Inv X pins σ H' s' ∧ RelV v u ∧ Q v H'
def TP (X : Cx) (pins : List (Addr × Obj)) (σ : St) (Q : Bool → Hp → Prop) (b : Bool) (s' : Shared) : Prop := ∃ H', Inv X pins σ H' s' ∧ Q b H'
def AP (X : Cx) (pins : List (Addr × Obj)) (σ : St) (Q : List V → Hp → Prop) (us : List Value) (s' : Shared) : Prop := ∃ vs H', Inv X pins σ H' s' ∧ Vals vs us ∧ Q vs H'
def SP (X : Cx) (pins : List (Addr × Obj)) (D : Ends) (f : Flow) (s' : Shared) : Prop :=
  match f with
  | .next => ∃ σ' H', Inv X pins σ' H' s' ∧ D.nx σ' H'
  | .brk => ∃ σ' H', Inv X pins σ' H' s' ∧ D.bk σ' H'
  | .cont => ∃ σ' H', Inv X pins σ' H' s' ∧ D.ct σ' H'
  | .ret u => ∃ v σ' H', Inv X pins σ' H' s' ∧ RelV v u ∧ D.rt v H'
def PE (X : Cx) (e : Expr) (t : TE) : Prop :=
  ∀ (pins : List (Addr × Obj)) (s : Shared) (σ : St) (H : Hp) (Q : VK), Inv X pins σ H s → t σ H Q → wpAny (model X.prog X.w) X.A (eval e X.env) (EP X pins σ Q) X.xe s
def PT (X : Cx) (e : Expr) (t : TT) : Prop :=
  ∀ (pins : List (Addr × Obj)) (s : Shared) (σ : St) (H : Hp) (Q : Bool → Hp → Prop), Inv X pins σ H s → t σ H Q → wpAny (model X.prog X.w) X.A (isTrue e X.env (eval e X.env)) (TP X pins σ Q) X.xe s
def PW (X : Cx) (e : Expr) (t : TT) : Prop :=
  ∀ (whole : Sem Value) (pins : List (Addr × Obj)) (s : Shared) (σ : St) (H : Hp) (Q : Bool → Hp → Prop), Inv X pins σ H s → t σ H Q → wpAny (model X.prog X.w) X.A (isTrue e X.env whole) (TP X pins σ Q) X.xe s
theorem PW.pt {X : Cx} {e : Expr} {t : TT} (h : PW X e t) : PT X e t := h _
def PA (X : Cx) (es : List Expr) (t : TA) : Prop :=
  ∀ (pos : Pos) (pins : List (Addr × Obj)) (s : Shared) (σ : St) (H : Hp) (Q : List V → Hp → Prop), Inv X pins σ H s → t σ H Q → wpAny (model X.prog X.w) X.A (spliced (backTo pos (starEach es X.env))) (AP X pins σ Q) X.xe s
def PS (X : Cx) (st : Stmt) (t : TS) : Prop :=
  ∀ (pins : List (Addr × Obj)) (s : Shared) (σ : St) (H : Hp) (D : Ends), Inv X pins σ H s → t D σ H → wpAny (model X.prog X.w) X.A (exec st X.env) (SP X pins D) X.xe s
def PSs (X : Cx) (st : List Stmt) (t : TS) : Prop :=
  ∀ (pins : List (Addr × Obj)) (s : Shared) (σ : St) (H : Hp) (D : Ends), Inv X pins σ H s → t D σ H → wpAny (model X.prog X.w) X.A (execs st X.env) (SP X pins D) X.xe s
theorem thn {α : Type} {t : Sem α} {Q Q' : α → Shared → Prop} {M : Model} {A : Around} {E : Value → Shared → Prop} {s : Shared} (h : wpAny M A t Q E s) (hQ : ∀ a s, Q a s → Q' a s) : wpAny M A t Q' E s := wpAny_mono h hQ fun _ _ x => x
end L2
namespace L2
open PySem PySem.Spec PyProof.Rows
section
variable {X : Cx}
inductive TVarP (i : Nat) (σ : St) (H : Hp) (Q : VK) : Prop
  | mk (v : _) : (σ[i]? = some (some v)) → (Q v H) → TVarP i σ H Q
def tVar (i : Nat) : TE := fun σ H Q => TVarP i σ H Q
def tC (v : V) : TE := fun _ H Q => Q v H
theorem pe_var {i : Nat} {x : Str} {pos : Pos} (hN : X.N[i]? = some x) (hv : Vis X.env.scope x) (hd : (x == ("__debug__" : Str)) = false := by decide) (hcd : (x == ("__classdict__" : Str)) = false := by decide) : PE X (.Name x pos) (tVar i) := by
  intro pins s σ H Q I h
  obtain ⟨v, e, h⟩ := h
  obtain ⟨m, hn, hl⟩ := I.loc
  obtain ⟨u, r, l⟩ := hl i x v hN e hv
  have fin : EP X pins σ Q u s := ⟨v, H, I, r, h⟩
  rcases l with ⟨hk, hm⟩ | ⟨hk, c, hc, hcell⟩
  · exact wpAny_Name (wpAny_loadName_local I.ok.kind hk hn hm fin) hd
  · rcases hk with hk | hk
    · exact wpAny_Name (wpAny_loadName_cell I.ok.kind hk hc hcell fin) hd
    · exact wpAny_Name (wpAny_loadName_free I.ok.kind hk hc hcell fin hcd) hd
theorem pe_int {i j pos} : PE X (.Constant (.int i) j pos) (tC (.int i)) := fun _ _ _ H _ I h => wpAny_Constant_int ⟨.int i, H, I.tok _, ⟨_, rfl⟩, h⟩
theorem pe_bl {b j pos} : PE X (.Constant (.bool b) j pos) (tC (.bl b)) := fun _ _ _ H _ I h => Constant_bool ⟨.bl b, H, I, rfl, h⟩
theorem pe_non {j pos} : PE X (.Constant .none j pos) (tC .non) := fun _ _ _ H _ I h => Constant_none ⟨.non, H, I, rfl, h⟩
theorem pe_str {x j pos} : PE X (.Constant (.str x) j pos) (tC (.str x)) := fun _ _ _ H _ I h => Calls.Constant_str ⟨.str x, H, I.tok _, ⟨_, rfl⟩, h⟩
def Gl (X : Cx) (x : Str) : Prop := X.env.kindOf x = some .globalImplicit
theorem ld_glob {E : Value → Shared → Prop} {pins : List (Addr × Obj)} {s : Shared} {σ : St} {H : Hp} {x : Str} {u : Value} {pos : Pos} {Q : Value → Shared → Prop} (I : Inv X pins σ H s) (hg : Gl X x) (hm : X.mg x = some u) (h : Q u s)
    (hd : (x == ("__debug__" : Str)) = false := by decide) : wpAny (model X.prog X.w) X.A (eval (.Name x pos) X.env) Q E s :=
  Calls.Name_function_global I.ok.kind hg (Calls.loadGlobal_global (by rw [I.ok.glob]; exact I.mod.glob.keeps I.bk) hm h) hd
theorem ld_blt {E : Value → Shared → Prop} {pins : List (Addr × Obj)} {s : Shared} {σ : St} {H : Hp} {x : Str} {u : Value} {pos : Pos} {Q : Value → Shared → Prop} (I : Inv X pins σ H s) (hg : Gl X x) (hm : X.mg x = none) (hv : bootBuiltins x = some u) (h : Q u s)
    (hn : x ≠ "__name__" := by decide) (hd : (x == ("__debug__" : Str)) = false := by decide) : wpAny (model X.prog X.w) X.A (eval (.Name x pos) X.env) Q E s := by
  obtain ⟨mb, h1, h2⟩ := I.mod.blt
  exact Calls.Name_function_global I.ok.kind hg (Calls.loadGlobal_builtin (by rw [I.ok.glob]; exact I.mod.glob.keeps I.bk) hm (by rw [I.ok.blt]; exact h1.keeps I.bk) ((h2 x hn).trans hv) h) hd
variable {a b : Expr} {ta tb : TE} {pos : Pos}
inductive BlP (x : V) (H : Hp) (Q : Bool → Hp → Prop) : Prop
  | mk (c : Bool) : (x = .bl c) → (Q c H) → BlP x H Q
def tB (t : TE) : TT := fun σ H Q => t σ H fun x H1 => BlP x H1 Q
theorem pt_val {e : Expr} {t : TE} (h : PE X e t) (he : ∀ whole, isTrue e X.env whole = (do let v ← whole; standAt e.pos; holding [v] (truthy v)) := by intro _; rfl) : PT X e (tB t) := by
  intro pins s σ H Q I hw
  refine isTrue_plain (thn (h pins s σ H _ I hw) fun v s1 ⟨x, H1, I1, r1, q1⟩ => ?_) (he _)
  obtain ⟨d, rfl, q⟩ := q1
  cases r1
  exact wpAny_truthy_bool ⟨H1, I1, q⟩
variable {tA tB' : TT} {rest : List Expr}
def tAnd (t u : TT) : TT := fun σ H Q => t σ H fun c H1 => if c = true then u σ H1 Q else Q false H1
def tOr (t u : TT) : TT := fun σ H Q => t σ H fun c H1 => if c = true then Q true H1 else u σ H1 Q
def tNot (t : TT) : TT := fun σ H Q => t σ H fun c H1 => Q (!c) H1
theorem pw_and1 (ha : PT X a tA) : PW X (.BoolOp .And [a] pos) tA := by
  intro wh pins s σ H Q I h
  refine isTrue_and (thn (ha pins s σ H Q I h) fun c s1 e => ?_)
  cases c with
  | true => exact isTrue_and_nil e
  | false => exact e
theorem pw_or1 (ha : PT X a tA) : PW X (.BoolOp .Or [a] pos) tA := by
  intro wh pins s σ H Q I h
  refine isTrue_or (thn (ha pins s σ H Q I h) fun c s1 e => ?_)
  cases c with
  | false => exact isTrue_or_nil e
  | true => exact e
theorem pw_and (ha : PT X a tA) (hb : PW X (.BoolOp .And (b :: rest) pos) tB') : PW X (.BoolOp .And (a :: b :: rest) pos) (tAnd tA tB') := by
  intro wh pins s σ H Q I h
  refine isTrue_and (thn (ha pins s σ H _ I h) fun c s1 ⟨H1, I1, q1⟩ => ?_)
  cases c with
  | true => exact hb wh pins s1 σ H1 Q I1 q1
  | false => exact ⟨H1, I1, q1⟩
theorem pw_or (ha : PT X a tA) (hb : PW X (.BoolOp .Or (b :: rest) pos) tB') : PW X (.BoolOp .Or (a :: b :: rest) pos) (tOr tA tB') := by
  intro wh pins s σ H Q I h
  refine isTrue_or (thn (ha pins s σ H _ I h) fun c s1 ⟨H1, I1, q1⟩ => ?_)
  cases c with
  | true => exact ⟨H1, I1, q1⟩
  | false => exact hb wh pins s1 σ H1 Q I1 q1
theorem pt_not (ha : PT X a tA) : PT X (.UnaryOp .Not a pos) (tNot tA) := by
  intro pins s σ H Q I h
  exact isTrue_not (ha pins s σ H (fun c H1 => Q (!c) H1) I h)
def tAndV (ta tb : TE) : TE := fun σ H Q => ta σ H fun x H1 => ∃ c, x = .bl c ∧ if c = true then tb σ H1 Q else Q (.bl false) H1
theorem pe_one {op} {t : TE} (h : PE X a t) : PE X (.BoolOp op [a] pos) t := fun pins s σ H Q I hw => BoolOp_one (h pins s σ H Q I hw)
theorem pe_and (ha : PE X a ta) (hb : PE X (.BoolOp .And (b :: rest) pos) tb) : PE X (.BoolOp .And (a :: b :: rest) pos) (tAndV ta tb) := by
  intro pins s σ H Q I h
  refine BoolOp_and (thn (ha pins s σ H _ I h) fun v s1 ⟨x, H1, I1, r1, q1⟩ => ?_)
  obtain ⟨c, rfl, q1⟩ := q1
  cases r1
  refine wpAny_truthy_bool ?_
  cases c with
  | true => exact hb pins s1 σ H1 Q I1 q1
  | false => exact ⟨.bl false, H1, I1, rfl, q1⟩
def tIf (t : TT) (ta tb : TE) : TE := fun σ H Q => t σ H fun c H1 => if c = true then ta σ H1 Q else tb σ H1 Q
theorem pe_ifExp {c : Expr} (hc : PT X c tA) (ha : PE X a ta) (hb : PE X b tb) : PE X (.IfExp c a b pos) (tIf tA ta tb) := by
  intro pins s σ H Q I h
  refine wpAny_IfExp (thn (hc pins s σ H _ I h) fun d s1 ⟨H1, I1, q1⟩ => ?_)
  cases d with
  | true => exact ha pins s1 σ H1 Q I1 q1
  | false => exact hb pins s1 σ H1 Q I1 q1
end
end L2
namespace L2
open PySem PySem.Spec PyProof.Rows
def SqL (K : PySem.W.Frag) (H : Hp) (a : Addr) (xs : List V) : Prop :=
  Rd H a (.lst xs) ∨
    ∃ (o : Obj) (its : Array Value) (n : Nat), K.lookup a = some o ∧ o.cls = .type "list" ∧ o.dict = none ∧ o.data = .seq its n ∧ its.size ≤ sizeLine ∧ Vals xs its.toList
def SqT (K : PySem.W.Frag) (H : Hp) (a : Addr) (xs : List V) : Prop :=
  Rd H a (.tup xs) ∨
    ∃ (o : Obj) (its : Array Value) (n : Nat), K.lookup a = some o ∧ o.cls = .type "tuple" ∧ o.data = .seq its n ∧ its.size ≤ sizeLine ∧ Vals xs its.toList
def absV : Value → Option V
  | .none => some .non
  | .bool b => some (.bl b)
  | .int i _ => some (.int i)
  | .str x _ => some (.str x)
  | .bytes b _ => some (.byt b)
  | .float b _ => some (.flt b)
  | .ref a => some (.ref a)
  | .type n => some (.ty n)
  | _ => none
theorem RelV.abs {x : V} {u : Value} (r : RelV x u) : absV u = some x := by
  cases x with
  | non => cases r; rfl
  | bl _ => cases r; rfl
  | int _ => obtain ⟨t, rfl⟩ := r; rfl
  | str _ => obtain ⟨t, rfl⟩ := r; rfl
  | byt _ => obtain ⟨t, rfl⟩ := r; rfl
  | flt _ => obtain ⟨t, rfl⟩ := r; rfl
  | ref _ => cases r; rfl
  | ty _ => cases r; rfl
theorem RelV.inj {x y : V} {u : Value} (r : RelV x u) (q : RelV y u) : x = y := Option.some.inj (r.abs.symm.trans q.abs)
theorem Vals.inj : ∀ {xs ys : List V} {us : List Value}, Vals xs us → Vals ys us → xs = ys
  | _, _, _, .nil, .nil => rfl
  | _, _, _, .cons r t, .cons r' t' => by rw [r.inj r', Vals.inj t t']
section
variable {X : Cx} {pins : List (Addr × Obj)} {σ : St} {H : Hp} {s : Shared} {a : Addr} {xs ys : List V}
theorem SqL.of {K : PySem.W.Frag} (h : H a = some (.lst xs)) : SqL K H a xs := .inl (.inl h)
theorem SqT.of {K : PySem.W.Frag} (h : H a = some (.tup xs)) : SqT K H a xs := .inl (.inl h)
theorem Inv.list (I : Inv X pins σ H s) (h : SqL X.K H a xs) : ∃ its : List Value, Vals xs its ∧ PlainL s.heap a its.toArray ∧ xs.length ≤ sizeLine := by
  rcases h with h | ⟨o, its, n, hk, hc, hd, hs, hz, r⟩
  · obtain ⟨z, its, n, r, e⟩ := h.ok I.hok
    exact ⟨its, r, ⟨_, n, e, rfl, rfl, rfl⟩, z⟩
  · refine ⟨its.toList, r, ⟨o, n, I.kIn a o hk, hc, hd, by simpa using hs⟩, ?_⟩
    have e := r.length
    simp only [Array.length_toList] at e
    omega
theorem Inv.tuple (I : Inv X pins σ H s) (h : SqT X.K H a xs) : ∃ its : List Value, Vals xs its ∧ IsTup s.heap a its.toArray ∧ xs.length ≤ sizeLine := by
  rcases h with h | ⟨o, its, n, hk, hc, hs, hz, r⟩
  · obtain ⟨z, its, r, p⟩ := h.ok I.hok
    exact ⟨its, r, p.tup, z⟩
  · refine ⟨its.toList, r, ⟨o, I.kIn a o hk, hc, n, by simpa using hs⟩, ?_⟩
    have e := r.length
    simp only [Array.length_toList] at e
    omega
theorem Inv.list_inj (I : Inv X pins σ H s) (h : SqL X.K H a xs) (h' : SqL X.K H a ys) : xs = ys := by
  obtain ⟨its, r, ⟨o, n, e, _, _, d⟩, _⟩ := I.list h
  obtain ⟨its', r', ⟨o', n', e', _, _, d'⟩, _⟩ := I.list h'
  rw [e] at e'; cases e'
  rw [d] at d'
  injection d' with d1 _
  have : its = its' := by simpa using congrArg Array.toList d1
  subst this
  exact r.inj r'
theorem Inv.tuple_inj (I : Inv X pins σ H s) (h : SqT X.K H a xs) (h' : SqT X.K H a ys) : xs = ys := by
  obtain ⟨its, r, ⟨o, e, _, n, d⟩, _⟩ := I.tuple h
  obtain ⟨its', r', ⟨o', e', _, n', d'⟩, _⟩ := I.tuple h'
  rw [e] at e'; cases e'
  rw [d] at d'
  injection d' with d1 _
  have : its = its' := by simpa using congrArg Array.toList d1
  subst this
  exact r.inj r'
end
abbrev Cx.wish (X : Cx) (E : Value → Shared → Prop) : Cx := { X with xe := E }
abbrev Cx.nox (X : Cx) : Cx := X.wish fun _ _ => False
theorem Cx.Ok.wish {X : Cx} (ok : X.Ok) (E : Value → Shared → Prop) : (X.wish E).Ok :=
  ⟨ok.mod, ok.kind, ok.glob, ok.blt, ok.above, ok.inj, ok.has, ok.cab, ok.hd, ok.frames, ok.stk, ok.exf, ok.bs, ok.bsz, ok.noex, ok.exfs, ok.funs, ok.frf⟩
theorem Cx.Ok.unwish {X : Cx} {E : Value → Shared → Prop} (ok : (X.wish E).Ok) : X.Ok :=
  ⟨ok.mod, ok.kind, ok.glob, ok.blt, ok.above, ok.inj, ok.has, ok.cab, ok.hd, ok.frames, ok.stk, ok.exf, ok.bs, ok.bsz, ok.noex, ok.exfs, ok.funs, ok.frf⟩
section
variable {X : Cx} {pins : List (Addr × Obj)} {σ : St} {H : Hp} {s : Shared} {E : Value → Shared → Prop}
theorem Inv.wish (I : Inv X pins σ H s) (E : Value → Shared → Prop) : Inv (X.wish E) pins σ H s := ⟨I.ok.wish E, I.os, I.bare, I.base, I.loc, I.cell, I.free, I.freeC, I.pin, I.hok, I.len⟩
theorem Inv.unwish (I : Inv (X.wish E) pins σ H s) : Inv X pins σ H s := ⟨I.ok.unwish, I.os, I.bare, I.base, I.loc, I.cell, I.free, I.freeC, I.pin, I.hok, I.len⟩
theorem SP.unwish {D : Ends} {f : Flow} {s' : Shared} (h : SP (X.wish E) pins D f s') : SP X pins D f s' := by
  cases f with
  | next => obtain ⟨σ', H', I, q⟩ := h; exact ⟨σ', H', I.unwish, q⟩
  | brk => obtain ⟨σ', H', I, q⟩ := h; exact ⟨σ', H', I.unwish, q⟩
  | cont => obtain ⟨σ', H', I, q⟩ := h; exact ⟨σ', H', I.unwish, q⟩
  | ret u => obtain ⟨v, σ', H', I, r, q⟩ := h; exact ⟨v, σ', H', I.unwish, r, q⟩
theorem PSs.nox {st : List Stmt} {t : TS} (h : PSs X.nox st t) : PSs X st t := fun pins s σ H D I hw =>
  wpAny_mono (h pins s σ H D (I.wish _) hw) (fun _ _ q => q.unwish) fun _ _ z => False.elim z
end
section
variable {X : Cx} {st : Stmt} {rest : List Stmt} {t u : TS} {e : Expr} {te : TE} {pos : Pos}
def tNext : TS := fun D σ H => D.nx σ H
def tSeq (t u : TS) : TS := fun D σ H => t { D with nx := u D } σ H
theorem pss_nil : PSs X [] tNext := fun _ _ σ H _ I h => wpAny_execs_nil ⟨σ, H, I, h⟩
theorem pss_cons (h1 : PS X st t) (h2 : PSs X rest u) : PSs X (st :: rest) (tSeq t u) := by
  intro pins s σ H D I h
  refine wpAny_execs_cons (thn (h1 pins s σ H { D with nx := u D } I h) fun f s1 q => ?_)
  cases f with
  | next =>
    obtain ⟨σ', H', I', q⟩ := q
    exact h2 pins s1 σ' H' D I' q
  | ret v => exact q
  | brk => exact q
  | cont => exact q
theorem pss_one (h1 : PS X st t) : PSs X [st] t := by
  intro pins s σ H D I h
  refine wpAny_execs_cons (thn (h1 pins s σ H D I h) fun f s1 q => ?_)
  cases f with
  | next => exact wpAny_execs_nil q
  | ret v => exact q
  | brk => exact q
  | cont => exact q
theorem Inv.quiet {pins : List (Addr × Obj)} {σ : St} {H : Hp} {s : Shared} (I : Inv X pins σ H s) : interactive X.env = false := by simp [interactive, I.ok.kind]
def tDrop (te : TE) : TS := fun D σ H => te σ H fun _ H1 => D.nx σ H1
theorem ps_expr (he : PE X e te) (hs : swapsWith e none pos.line X.env = pure false := by rfl) : PS X (.Expr e pos) (tDrop te) := by
  intro pins s σ H D I h
  exact wpAny_Expr_any (thn (he pins s σ H _ I h) fun v s1 ⟨x, H1, I1, r1, q1⟩ => ⟨σ, H1, I1, q1⟩) I.quiet hs
def tRet (te : TE) : TS := fun D σ H => te σ H D.rt
theorem ps_ret (he : PE X e te) : PS X (.Return (some e) pos) (tRet te) := by
  intro pins s σ H D I h
  exact wpAny_Return_some (thn (he pins s σ H _ I h) fun v s1 ⟨x, H1, I1, r1, q1⟩ => ⟨x, σ, H1, I1, r1, q1⟩)
def tIfS (c : TT) (t u : TS) : TS := fun D σ H => c σ H fun b H1 => if b = true then t D σ H1 else u D σ H1
theorem ps_if {c : Expr} {a b : List Stmt} {tc : TT} (hc : PT X c tc) (ha : PSs X a t) (hb : PSs X b u) : PS X (.If c a b pos) (tIfS tc t u) := by
  intro pins s σ H D I h
  refine wpAny_If (thn (hc pins s σ H _ I h) fun d s1 ⟨H1, I1, q1⟩ => ?_)
  cases d with
  | true => exact ha pins s1 σ H1 D I1 q1
  | false => exact hb pins s1 σ H1 D I1 q1
def tNever : TS := fun _ _ _ => False
theorem ps_never : PS X st tNever := fun _ _ _ _ _ _ h => h.elim
end
abbrev TG := V → St → Hp → (St → Hp → Prop) → Prop
abbrev TGs := List V → St → Hp → (St → Hp → Prop) → Prop
def PG (X : Cx) (target : Expr) (t : TG) : Prop :=
  ∀ (pins : List (Addr × Obj)) (s : Shared) (σ : St) (H : Hp) (v : V) (u : Value) (Q : St → Hp → Prop), Inv X pins σ H s → RelV v u → t v σ H Q →
    wpAny (model X.prog X.w) X.A (assign target X.env u) (fun _ s' => ∃ σ' H', Inv X pins σ' H' s' ∧ Q σ' H') X.xe s
def PGs (X : Cx) (ts : List Expr) (t : TGs) : Prop :=
  ∀ (pins : List (Addr × Obj)) (s : Shared) (σ : St) (H : Hp) (vs : List V) (us : List Value) (Q : St → Hp → Prop), Inv X pins σ H s → Vals vs us → t vs σ H Q →
    wpAny (model X.prog X.w) X.A (assignInOrder ((assignEach ts X.env).map (·.2)) us) (fun _ s' => ∃ σ' H', Inv X pins σ' H' s' ∧ Q σ' H') X.xe s
abbrev TSet := V → V → V → Hp → (Hp → Prop) → Prop
def PSet (X : Cx) (t : TSet) : Prop :=
  ∀ (pins : List (Addr × Obj)) (s : Shared) (σ : St) (H : Hp) (o i v : V) (ov iv u : Value) (Q : Hp → Prop), Inv X pins σ H s → RelV o ov → RelV i iv → RelV v u → t o i v H Q →
    wpAny (model X.prog X.w) X.A (setItem ov iv u) (fun _ s' => ∃ H', Inv X pins σ H' s' ∧ Q H') X.xe s
section
variable {X : Cx} {pos : Pos}
def gName (i : Nat) : TG := fun v σ H Q => Q (σ.set i (some v)) H
theorem pg_name {i : Nat} {x : Str} (hN : X.N.Nodup) (hi : X.N[i]? = some x) (hx : Loc X.env.scope x) (hf : X.fn x = true ∨ X.env.scope.names.lookup x = some .local := by first | exact .inl rfl | exact .inr rfl | assumption) : PG X (.Name x pos) (gName i) := by
  intro pins s σ H v u Q I r h
  exact wpAny_assign_Name (store_ok I hN hi hx r (fun s' I' => ⟨_, H, I', h⟩) hf)
def gNil : TGs := fun vs σ H Q => vs = [] ∧ Q σ H
def gCons (t : TG) (u : TGs) : TGs := fun vs σ H Q => ∃ v r, vs = v :: r ∧ t v σ H fun σ' H' => u r σ' H' Q
theorem pgs_nil : PGs X [] gNil := by
  intro pins s σ H vs us Q I r h
  obtain ⟨e, h⟩ := h
  subst e
  cases r
  exact assignInOrder_nil ⟨σ, H, I, h⟩
theorem pgs_cons {e : Expr} {es : List Expr} {t : TG} {u : TGs} (h1 : PG X e t) (h2 : PGs X es u)
    (hs : (assignEach (e :: es) X.env).map (·.2) = assign e X.env :: (assignEach es X.env).map (·.2) := by rfl) : PGs X (e :: es) (gCons t u) := by
  intro pins s σ H vs us Q I r h
  obtain ⟨v, vr, e1, h⟩ := h
  subst e1
  cases r with
  | cons r rr =>
    rw [hs]
    refine assignInOrder_cons (thn (h1 pins s σ H _ _ _ I r h) fun _ s1 ⟨σ1, H1, I1, q1⟩ => ?_)
    exact h2 pins s1 σ1 H1 _ _ Q I1 rr q1
def gTup (K : PySem.W.Frag) (n : Nat) (t : TGs) : TG := fun v σ H Q => ∃ a xs, v = .ref a ∧ SqT K H a xs ∧ xs.length = n ∧ t xs σ H Q
theorem pg_tup {es : List Expr} {k : Nat} {t : TGs} {n : Nat} (hc : X.calm = true) (h : PGs X es t)
    (hn : (assignEach es X.env).length = n := by rfl) (hst : (assignEach es X.env).findIdx? (·.1) = none := by rfl) : PG X (.Tuple es k pos) (gTup X.K n t) := by
  intro pins s σ H v u Q I r hw
  obtain ⟨a, xs, e1, hq, hl, hw⟩ := hw
  subst e1
  cases r
  obtain ⟨its, rv, ht, hz⟩ := I.tuple hq
  refine assign_Tuple_tuple (I.ok.hd hc) ht (by simp [hn, ← hl, rv.length]) hst fun h' hx => ?_
  have I1 : Inv X pins σ H { s with heap := h' } := I.kept (t' := s.toks) fun b o e => hx b o (Nat.ne_of_lt (Heap.lt_size e)) e
  exact h pins _ σ H xs _ Q I1 (by simpa using rv) hw
def gSub (to ti : TE) (t : TSet) : TG := fun v σ H Q => to σ H fun o H1 => ti σ H1 fun i H2 => t o i v H2 fun H3 => Q σ H3
theorem pg_sub {o i : Expr} {to ti : TE} {t : TSet} (ho : PE X o to) (hi : PE X i ti) (hs : PSet X t)
    (ha : ∀ v, assign (.Subscript o i pos) X.env v = (do
      let ov ← holding [v] (eval o X.env)
      let iv ← holding [v, ov] (eval i X.env)
      standAt pos
      holding [v, ov, iv] (setItem ov iv v)
      release [v, ov, iv] []) := by intro _; rfl) : PG X (.Subscript o i pos) (gSub to ti t) := by
  intro pins s σ H v u Q I r h
  rw [ha]
  refine wpAny_bind (wpAny_holding (thn (ho pins s σ H _ I h) fun ov s1 ⟨x, H1, I1, r1, q1⟩ => ?_))
  refine wpAny_bind (wpAny_holding (thn (hi pins s1 σ H1 _ I1 q1) fun iv s2 ⟨y, H2, I2, r2, q2⟩ => ?_))
  refine wpAny_bind (wpAny_standAt (wpAny_bind (wpAny_holding (thn (hs pins s2 σ H2 x y v ov iv u _ I2 r1 r2 r q2) fun _ s3 ⟨H3, I3, q3⟩ => ?_))))
  exact wpAny_release ⟨σ, H3, I3, q3⟩
def tAsg (te : TE) (g : TG) : TS := fun D σ H => te σ H fun x H1 => g x σ H1 D.nx
theorem ps_asg {tg e : Expr} {te : TE} {g : TG} (he : PE X e te) (hg : PG X tg g) (hs : swapsWithSole [tg] e pos.line X.env = pure false := by rfl) (hw : swappedStores [tg] e X.env = pure none := by rfl)
    (h1 : (assignEach [tg] X.env).map (·.2) = [assign tg X.env] := by rfl) : PS X (.Assign [tg] e pos) (tAsg te g) := by
  intro pins s σ H D I h
  refine wpAny_Assign_stores (thn (he pins s σ H _ I h) fun v s1 ⟨x, H1, I1, r1, q1⟩ => ?_) hs hw
  rw [h1]
  exact thn (hg pins s1 σ H1 x v _ I1 r1 q1) fun _ s2 q => q
theorem ps_set {i : Nat} {x : Str} {e : Expr} {te : TE} {pos' : Pos} (hN : X.N.Nodup) (hi : X.N[i]? = some x) (hx : Loc X.env.scope x) (he : PE X e te) (hs : swapsWith e (some (.Name x pos')) pos.line X.env = pure false := by rfl) (hf : X.fn x = true ∨ X.env.scope.names.lookup x = some .local := by first | exact .inl rfl | exact .inr rfl | assumption) :
    PS X (.Assign [.Name x pos'] e pos) (tAsg te (gName i)) := by
  intro pins s σ H D I h
  refine wpAny_Assign_Name (thn (he pins s σ H _ I h) fun v s1 ⟨y, H1, I1, r1, q1⟩ => ?_) hs
  exact store_ok I1 hN hi hx r1 (fun s2 I2 => ⟨_, H1, I2, q1⟩) hf
end
section
variable {X : Cx} {pos : Pos}
def tWhile (c : TT) (tb : TS) : TS := fun D σ H => ∃ W : Nat → St → Hp → Prop, (∃ m, W m σ H) ∧ ∀ m σ H, W m σ H →
  c σ H fun b H1 => if b = true then ∃ N : St → Hp → Prop, (∀ σ' H', N σ' H' → ∃ m', m' < m ∧ W m' σ' H') ∧ tb { D with nx := N, ct := N, bk := D.nx } σ H1 else D.nx σ H1
theorem ps_while {c : Expr} {body : List Stmt} {tc : TT} {tb : TS} (hp : PassesOwn (model X.prog X.w) X.A X.env X.xe) (hc : PT X c tc) (hb : PSs X body tb) : PS X (.While c body [] pos) (tWhile tc tb) := by
  intro pins s σ H D I h
  obtain ⟨W, ⟨m0, w0⟩, turn⟩ := h
  refine wpAny_While (codeAny_whileLoop (fun n s' => ∃ σ' H', Inv X pins σ' H' s' ∧ W n σ' H') ?_ m0 ⟨σ, H, I, w0⟩)
  rintro n s1 ⟨σ1, H1, I1, w1⟩
  refine wpAny_passesOwn hp (thn (hc pins s1 σ1 H1 _ I1 (turn n σ1 H1 w1)) fun b s2 ⟨H2, I2, q2⟩ => ?_)
  cases b with
  | true =>
    obtain ⟨N, hN, q2⟩ := q2
    rw [if_pos rfl]
    refine wpAny_passesOwn hp (thn (hb pins s2 σ1 H2 _ I2 q2) fun f s3 q3 => ?_)
    cases f with
    | next =>
      obtain ⟨σ3, H3, I3, n3⟩ := q3
      obtain ⟨m', hm, w3⟩ := hN σ3 H3 n3
      exact ⟨m', hm, σ3, H3, I3, w3⟩
    | cont =>
      obtain ⟨σ3, H3, I3, n3⟩ := q3
      obtain ⟨m', hm, w3⟩ := hN σ3 H3 n3
      exact ⟨m', hm, σ3, H3, I3, w3⟩
    | brk => exact q3
    | ret v => exact q3
  | false =>
    rw [if_neg Bool.false_ne_true]
    exact wpAny_execs_nil ⟨σ1, H2, I2, q2⟩
end
structure It where
  go : Nat → Hp → Prop
  yld : Nat → Hp → V → Hp → Prop
  stop : Nat → Hp → Prop
def FpOk (X : Cx) (pins : List (Addr × Obj)) (H : Hp) (b : Addr) : Prop :=
  H b = none ∧ b ≠ X.env.locals ∧ b ∉ X.fs ∧ (b ∈ X.ex ∨ X.s₀.heap.objs.size ≤ b) ∧ (∀ x c, X.env.cells.lookup x = some c → c ≠ b) ∧ ∀ p ∈ X.pn ++ pins, p.1 ≠ b
theorem Inv.fpOk {X : Cx} {pins : List (Addr × Obj)} {σ : St} {H H' : Hp} {s : Shared} {b : Addr} (I : Inv X pins σ H s) (hb : s.heap.objs.size ≤ b) (hn : H' b = none) : FpOk X pins H' b := by
  refine ⟨hn, Nat.ne_of_gt (Nat.lt_of_lt_of_le I.lt hb), I.nofs hb, .inr (Nat.le_trans I.sz hb), fun x c e z => ?_, fun p hp z => ?_⟩
  · obtain ⟨v, q⟩ := I.cell x c e
    exact absurd (Nat.lt_of_lt_of_le q.lt (by rw [z]; exact hb)) (Nat.lt_irrefl _)
  · exact absurd (Nat.lt_of_lt_of_le (Heap.lt_size (I.pin p hp).1) (by rw [z]; exact hb)) (Nat.lt_irrefl _)
structure Turn (P : Program) (w : World) (K : PySem.W.Frag) (tg : Expr) (J : It) (fp : List Addr) (it : Addr) (tn : Nat → Heap → Prop) : Prop where
  mem : it ∈ fp
  obj : ∀ i h, tn i h → ∀ b ∈ fp, ∃ o, h.get? b = some o ∧ ∀ v, o.data ≠ .cell v
  keep : ∀ i h h', tn i h → (∀ b ∈ fp, ∀ o, h.get? b = some o → h'.get? b = some o) → tn i h'
  item : ∀ (X : Cx), X.prog = P → X.w = w → X.K = K → X.calm = true → ∀ (i : Nat) (pins : List (Addr × Obj)) (s : Shared) (σ : St) (H : Hp) (E : Value → Shared → Prop), Inv X pins σ H s → (∀ b ∈ fp, FpOk X pins H b) → tn i s.heap → J.go i H →
    wpAny (model P w) X.A (pyNext (.ref it)) (fun r s1 => ∃ u, r = some u ∧
      wpAny (model P w) X.A (letOwnedTupleGo tg (.ref it) u) (fun _ s2 => ∃ x H', Inv X pins σ H' s2 ∧ RelV x u ∧ J.yld i H x H' ∧ tn (i + 1) s2.heap ∧ ∀ b ∈ fp, H' b = none) E s1) E s
  done : ∀ (X : Cx), X.prog = P → X.w = w → X.K = K → X.calm = true → ∀ (i : Nat) (pins : List (Addr × Obj)) (s : Shared) (σ : St) (H : Hp) (E : Value → Shared → Prop), Inv X pins σ H s → (∀ b ∈ fp, FpOk X pins H b) → tn i s.heap → J.stop i H →
    wpAny (model P w) X.A (pyNext (.ref it)) (fun r s1 => r = none ∧ Inv X pins σ H s1) E s
  self : ∀ (A : Around) (i : Nat) (s : Shared) (Q : Value → Shared → Prop) (E : Value → Shared → Prop), tn i s.heap → Q (.ref it) s → wpAny (model P w) A (pyIter (.ref it)) Q E s
abbrev TI := St → Hp → (It → Hp → Prop) → Prop
def PIE (X : Cx) (pins : List (Addr × Obj)) (σ : St) (tg : Expr) (R : It → Hp → Prop) (itv : Value) (s2 : Shared) : Prop :=
  ∃ (it : Addr) (fp : List Addr) (tn : Nat → Heap → Prop) (J : It) (H' : Hp), itv = .ref it ∧ Inv X pins σ H' s2 ∧ Turn X.prog X.w X.K tg J fp it tn ∧ tn 0 s2.heap ∧ (∀ b ∈ fp, FpOk X pins H' b) ∧ R J H'
def PI (X : Cx) (tg iter : Expr) (wi : TI) : Prop :=
  ∀ (pins : List (Addr × Obj)) (s : Shared) (σ : St) (H : Hp) (R : It → Hp → Prop), Inv X pins σ H s → wi σ H R →
    wpAny (model X.prog X.w) X.A (eval iter X.env) (fun v s1 => wpAny (model X.prog X.w) X.A (pyIter v) (PIE X pins σ tg R) X.xe s1) X.xe s
theorem go_of {M : Model} {A : Around} {E : Value → Shared → Prop} {s : Shared} {tg : Expr} {it : Addr} {u : Value} {o : Obj} {n : String} {vs : Array Value} {Q : Unit → Shared → Prop} (ho : s.heap.get? it = some o) (hc : o.cls = .type n) (hd : o.data = .fields vs)
    (hn : ["enumerate", "zip", "dict_itemiterator", "dict_reverseitemiterator", "odict_iterator", "itertools.zip_longest", "itertools.pairwise"].contains n = false) (hQ : Q () s) : wpAny M A (letOwnedTupleGo tg (.ref it) u) Q E s := by
  unfold letOwnedTupleGo
  cases tg <;> first
    | exact wpAny_pure hQ
    | (cases u <;> first
        | exact wpAny_pure hQ
        | (refine wpAny_bind (wpAny_load ho ?_)
           rw [hc, hd]
           show wpAny M A (if (["enumerate", "zip", "dict_itemiterator", "dict_reverseitemiterator", "odict_iterator", "itertools.zip_longest", "itertools.pairwise"].contains n && vs[0]? == some (rawInt _)) = true then _ else _) Q E s
           rw [if_neg (by intro h; rw [hn, Bool.false_and] at h; cases h)]
           exact wpAny_pure hQ))
def Itl (K : PySem.W.Frag) (a : Addr) : It :=
  ⟨fun i H => ∃ xs x, SqL K H a xs ∧ xs[i]? = some x, fun i H x H' => H' = H ∧ ∀ xs, SqL K H a xs → xs[i]? = some x, fun i H => ∃ xs, SqL K H a xs ∧ xs.length ≤ i⟩
def Itt (K : PySem.W.Frag) (a : Addr) : It :=
  ⟨fun i H => ∃ xs x, SqT K H a xs ∧ xs[i]? = some x, fun i H x H' => H' = H ∧ ∀ xs, SqT K H a xs → xs[i]? = some x, fun i H => ∃ xs, SqT K H a xs ∧ xs.length ≤ i⟩
def Itr (lo : Int) (n : Nat) : It := ⟨fun i _ => i < n, fun i H x H' => H' = H ∧ x = .int (lo + i), fun i _ => n ≤ i⟩
theorem turn_list {P : Program} {w : World} {K : PySem.W.Frag} {tg : Expr} (a it : Addr) : Turn P w K tg (Itl K a) [it] it (fun i h => h.IsListIter it a i) where
  mem := by simp
  obj := fun i h st b hb => by
    have e : b = it := by simpa using hb
    subst e
    obtain ⟨o, e, c, d⟩ := st
    exact ⟨o, e, fun v z => by rw [d] at z; cases z⟩
  keep := fun i h h' st k => st.at fun o e => k it (by simp) o e
  item := by
    intro X hP hw hK hc i pins s σ H E I hf st hg
    subst hP hw hK
    obtain ⟨xs, x, hq, hx⟩ := hg
    obtain ⟨its, rv, p, hz⟩ := I.list hq
    obtain ⟨u, hu, ru⟩ := rv.get hx
    obtain ⟨f0, f1, f2, f3, f4, f5⟩ := hf it (by simp)
    refine wpAny_pyNext_list_item st p.isList (x := u) (by simpa using hu) fun h' st' sb => ?_
    have I1 : Inv X pins σ H { s with heap := h' } := I.turned (t' := s.toks) (fun b o hb e => (sb.2 b hb).trans e) f0 f1 f3 f4 f5
    obtain ⟨o, e, c, d⟩ := id st'
    exact ⟨u, rfl, go_of (s := { s with heap := h' }) e c d (by decide) ⟨x, H, I1, ru, ⟨rfl, fun ys hy => by rw [I.list_inj hy hq]; exact hx⟩, st', fun b hb => (hf b hb).1⟩⟩
  done := by
    intro X hP hw hK hc i pins s σ H E I hf st hg
    subst hP hw hK
    obtain ⟨xs, hq, hx⟩ := hg
    obtain ⟨its, rv, p, hz⟩ := I.list hq
    obtain ⟨f0, f1, f2, f3, f4, f5⟩ := hf it (by simp)
    have hl := rv.length
    exact wpAny_pyNext_list_end (I.ok.hd hc) st p.isList (by simp; omega) fun h' eb => ⟨rfl, I.turned (t' := s.toks) (fun b o hb e => eb b o hb e) f0 f1 f3 f4 f5⟩
  self := fun _ _ _ _ _ st h => wpAny_pyIter_listiter st h
theorem turn_tuple {P : Program} {w : World} {K : PySem.W.Frag} {tg : Expr} (a it : Addr) : Turn P w K tg (Itt K a) [it] it (fun i h => h.IsTupleIter it a i) where
  mem := by simp
  obj := fun i h st b hb => by
    have e : b = it := by simpa using hb
    subst e
    obtain ⟨o, e, c, d⟩ := st
    exact ⟨o, e, fun v z => by rw [d] at z; cases z⟩
  keep := fun i h h' st k => st.at fun o e => k it (by simp) o e
  item := by
    intro X hP hw hK hc i pins s σ H E I hf st hg
    subst hP hw hK
    obtain ⟨xs, x, hq, hx⟩ := hg
    obtain ⟨its, rv, p, hz⟩ := I.tuple hq
    obtain ⟨u, hu, ru⟩ := rv.get hx
    obtain ⟨f0, f1, f2, f3, f4, f5⟩ := hf it (by simp)
    refine wpAny_pyNext_tuple_item st (show s.heap.IsTuple a its.toArray from p) (x := u) (by simpa using hu) fun h' st' sb => ?_
    have I1 : Inv X pins σ H { s with heap := h' } := I.turned (t' := s.toks) (fun b o hb e => (sb.2 b hb).trans e) f0 f1 f3 f4 f5
    obtain ⟨o, e, c, d⟩ := id st'
    exact ⟨u, rfl, go_of (s := { s with heap := h' }) e c d (by decide) ⟨x, H, I1, ru, ⟨rfl, fun ys hy => by rw [I.tuple_inj hy hq]; exact hx⟩, st', fun b hb => (hf b hb).1⟩⟩
  done := by
    intro X hP hw hK hc i pins s σ H E I hf st hg
    subst hP hw hK
    obtain ⟨xs, hq, hx⟩ := hg
    obtain ⟨its, rv, p, hz⟩ := I.tuple hq
    obtain ⟨f0, f1, f2, f3, f4, f5⟩ := hf it (by simp)
    have hl := rv.length
    exact wpAny_pyNext_tuple_end (I.ok.hd hc) st (show s.heap.IsTuple a its.toArray from p) (by simp; omega) fun h' eb => ⟨rfl, I.turned (t' := s.toks) (fun b o hb e => eb b o hb e) f0 f1 f3 f4 f5⟩
  self := fun _ _ _ _ _ st h => wpAny_pyIter_tupleiter st h
theorem turn_range {P : Program} {w : World} {K : PySem.W.Frag} {tg : Expr} (it : Addr) (lo : Int) (n : Nat) : Turn P w K tg (Itr lo n) [it] it (fun i h => IsRangeIter h it (lo + (i : Nat) * 1) ((n : Int) - (i : Nat)) 1) where
  mem := by simp
  obj := fun i h st b hb => by
    have e : b = it := by simpa using hb
    subst e
    exact ⟨_, st, fun v z => by
      have z' : Data.fields _ = Data.cell v := z
      cases z'⟩
  keep := fun i h h' st k => k it (by simp) _ st
  item := by
    intro X hP hw hK hc i pins s σ H E I hf st hg
    subst hP hw hK
    obtain ⟨f0, f1, f2, f3, f4, f5⟩ := hf it (by simp)
    have W := Walks.range (prog := X.prog) (w := X.w) (I.ok.hd hc) it lo 1 n
    refine W.item i s _ _ hg st fun v h' tk hv st' kk => ?_
    obtain ⟨t, rfl⟩ := hv
    have I1 : Inv X pins σ H { s with heap := h', toks := tk } := I.turned (fun b o hb e => kk b o (by simpa using hb) e) f0 f1 f3 f4 f5
    refine ⟨_, rfl, go_of (s := { s with heap := h', toks := tk }) (n := "range_iterator") st' rfl rfl (by decide) ⟨.int (lo + i), H, I1, ⟨t, ?_⟩, ⟨rfl, rfl⟩, st', fun b hb => (hf b hb).1⟩⟩
    rw [Int.mul_one]
  done := by
    intro X hP hw hK hc i pins s σ H E I hf st hg
    subst hP hw hK
    obtain ⟨f0, f1, f2, f3, f4, f5⟩ := hf it (by simp)
    exact wpAny_pyNext_range_end (I.ok.hd hc) st (by have : n ≤ i := hg; omega) fun h' eb => ⟨rfl, I.turned (t' := s.toks) (fun b o hb e => eb b o hb e) f0 f1 f3 f4 f5⟩
  self := fun _ _ _ _ _ st h => wpAny_pyIter_rangeiter st h
end L2
namespace L2
open PySem PySem.Spec PyProof.Rows
section
variable {X : Cx} {tg : Expr}
def iList (K : PySem.W.Frag) (tl : TE) : TI := fun σ H R => tl σ H fun x H1 => ∃ a, x = .ref a ∧ (∃ xs, SqL K H1 a xs) ∧ R (Itl K a) H1
def iTup (K : PySem.W.Frag) (tl : TE) : TI := fun σ H R => tl σ H fun x H1 => ∃ a, x = .ref a ∧ (∃ xs, SqT K H1 a xs) ∧ R (Itt K a) H1
theorem pi_list {l : Expr} {tl : TE} (hl : PE X l tl) : PI X tg l (iList X.K tl) := by
  intro pins s σ H R I h
  refine thn (hl pins s σ H _ I h) fun v s1 ⟨x, H1, I1, r1, q1⟩ => ?_
  obtain ⟨a, e, ⟨xs, hq⟩, q⟩ := q1
  subst e
  cases r1
  obtain ⟨its, rv, p, hz⟩ := I1.list hq
  refine wpAny_pyIter_list p.isList ?_
  refine ⟨s1.heap.objs.size, [s1.heap.objs.size], _, _, H1, rfl, I1.kept (t' := s1.toks) fun b o e => Heap.get?_push_of_some _ e, turn_list a _, ⟨_, Heap.get?_push_size _ rfl, rfl, rfl⟩, fun b hb => ?_, q⟩
  have e : b = s1.heap.objs.size := by simpa using hb
  subst e
  exact I1.fpOk (Nat.le_refl _) (I1.hok.fresh (Nat.le_refl _))
theorem pi_tup {l : Expr} {tl : TE} (hl : PE X l tl) : PI X tg l (iTup X.K tl) := by
  intro pins s σ H R I h
  refine thn (hl pins s σ H _ I h) fun v s1 ⟨x, H1, I1, r1, q1⟩ => ?_
  obtain ⟨a, e, ⟨xs, hq⟩, q⟩ := q1
  subst e
  cases r1
  obtain ⟨its, rv, p, hz⟩ := I1.tuple hq
  refine wpAny_pyIter_tuple (show s1.heap.IsTuple a its.toArray from p) ?_
  refine ⟨s1.heap.objs.size, [s1.heap.objs.size], _, _, H1, rfl, I1.kept (t' := s1.toks) fun b o e => Heap.get?_push_of_some _ e, turn_tuple a _, ⟨_, Heap.get?_push_size _ rfl, rfl, rfl⟩, fun b hb => ?_, q⟩
  have e : b = s1.heap.objs.size := by simpa using hb
  subst e
  exact I1.fpOk (Nat.le_refl _) (I1.hok.fresh (Nat.le_refl _))
theorem range_it {pins : List (Addr × Obj)} {σ : St} {H : Hp} {s : Shared} {R : It → Hp → Prop} {E : Value → Shared → Prop} {lo hi : Int} {t u v : Tok} {tk : Nat} (I : Inv X pins σ H s) (h1 : -(2 ^ 62) ≤ lo) (h2 : lo < 2 ^ 62) (h3 : -(2 ^ 62) ≤ hi) (h4 : hi < 2 ^ 62)
    (q : R (Itr lo (hi - lo).toNat) H) : wpAny (model X.prog X.w) X.A (pyIter (.ref s.heap.objs.size)) (PIE X pins σ tg R) E { s with heap := s.heap.push { cls := .type "range", data := .fields #[.int lo t, .int hi u, .int 1 v] }, toks := tk } := by
  refine wpAny_pyIter_range (IsRange.new ..) (small_one h1 h2 h3 h4) ?_
  have I1 : Inv X pins σ H { s with heap := s.heap.push { cls := .type "range", data := .fields #[.int lo t, .int hi u, .int 1 v] }, toks := tk } := I.kept fun b o e => Heap.get?_push_of_some _ e
  refine ⟨(s.heap.push { cls := .type "range", data := .fields #[.int lo t, .int hi u, .int 1 v] }).objs.size, [(s.heap.push { cls := .type "range", data := .fields #[.int lo t, .int hi u, .int 1 v] }).objs.size], _, _, H, rfl,
    I1.kept (t' := tk) fun b o e => Heap.get?_push_of_some _ e, turn_range _ lo (hi - lo).toNat, ?_, fun b hb => ?_, q⟩
  · have e1 : lo + ((0 : Nat) : Int) * 1 = lo := by simp
    have e2 : (((hi - lo).toNat : Nat) : Int) - ((0 : Nat) : Int) = Builtin.Range.rangeSize lo hi 1 := by rw [rangeSize_one]; split <;> omega
    show IsRangeIter _ _ (lo + ((0 : Nat) : Int) * 1) ((((hi - lo).toNat : Nat) : Int) - ((0 : Nat) : Int)) 1
    rw [e1, e2]
    exact Heap.get?_push_size _ rfl
  · have e : b = (s.heap.push { cls := .type "range", data := .fields #[.int lo t, .int hi u, .int 1 v] }).objs.size := by simpa using hb
    subst e
    exact I1.fpOk (Nat.le_refl _) (I1.hok.fresh (Nat.le_refl _))
def iRng1 (ta : TA) : TI := fun σ H R => ta σ H fun vs H1 => ∃ j : Int, vs = [.int j] ∧ -(2 ^ 62) ≤ j ∧ j < 2 ^ 62 ∧ R (Itr 0 j.toNat) H1
theorem pi_range1 {a : Expr} {ta : TA} {p pos : Pos} (hg : Gl X "range") (hm : X.mg "range" = none) (ha : PA X [a] ta) (hs : starEach [a] X.env = [(false, eval a X.env)] := by rfl) : PI X tg (.Call (.Name "range" p) [a] [] pos) (iRng1 ta) := by
  intro pins s σ H R I h
  refine Call_ (ld_blt I hg hm boot_range (PyProof.Rows.callWith_type1 (thn (ha pos pins s σ H _ I h) fun us s1 ⟨vs, H1, I1, r1, q1⟩ => ?_) hs rfl))
  obtain ⟨j, e, q1, q2, q⟩ := q1
  subst e
  cases r1 with
  | cons r rr =>
    cases rr
    obtain ⟨t, rfl⟩ := r
    exact call_range_1 (range_it I1 (by decide) (by decide) q1 q2 (by simpa using q))
def tFor (wi : TI) (g : TG) (tb : TS) : TS := fun D σ H => wi σ H fun J H1 => ∃ W : Nat → Nat → St → Hp → Prop, (∃ m, W 0 m σ H1) ∧ ∀ i m σ H, W i m σ H →
  (J.stop i H ∧ D.nx σ H) ∨ (J.go i H ∧ ∃ N : St → Hp → Prop, (∀ σ' H', N σ' H' → ∃ m', m' < m ∧ W (i + 1) m' σ' H') ∧ ∀ x H', J.yld i H x H' → g x σ H' fun σ2 H2 => tb { D with nx := N, ct := N, bk := D.nx } σ2 H2)
def pinsAt (fp : List Addr) (h : Heap) : List (Addr × Obj) := fp.filterMap fun b => (h.get? b).map fun o => (b, o)
theorem mem_pinsAt {fp : List Addr} {h : Heap} {b : Addr} {o : Obj} (hb : b ∈ fp) (e : h.get? b = some o) : (b, o) ∈ pinsAt fp h := List.mem_filterMap.mpr ⟨b, hb, by rw [e]; rfl⟩
theorem of_pinsAt {fp : List Addr} {h : Heap} {p : Addr × Obj} (hp : p ∈ pinsAt fp h) : p.1 ∈ fp ∧ h.get? p.1 = some p.2 := by
  obtain ⟨b, hb, e⟩ := List.mem_filterMap.mp hp
  cases q : h.get? b with
  | none => rw [q] at e; cases e
  | some o =>
    rw [q] at e
    have e' : (b, o) = p := Option.some.inj e
    subst e'
    exact ⟨hb, q⟩
theorem Inv.pinned {pins : List (Addr × Obj)} {σ : St} {H : Hp} {s : Shared} {fp : List Addr} (I : Inv X pins σ H s) (hf : ∀ b ∈ fp, FpOk X pins H b) (ho : ∀ b ∈ fp, ∃ o, s.heap.get? b = some o ∧ ∀ v, o.data ≠ .cell v) : Inv X (pins ++ pinsAt fp s.heap) σ H s :=
  I.pins_of fun p hp => (List.mem_append.mp hp).elim (fun z => I.pin p (List.mem_append_right _ z)) fun z => by
    obtain ⟨hb, e⟩ := of_pinsAt z
    obtain ⟨f0, f1, f2, _⟩ := hf p.1 hb
    obtain ⟨o, e', d⟩ := ho p.1 hb
    rw [e] at e'; cases e'
    exact ⟨e, f0, f1, f2, d⟩
theorem Inv.unpinned {pins pl : List (Addr × Obj)} {σ : St} {H : Hp} {s : Shared} (I : Inv X (pins ++ pl) σ H s) : Inv X pins σ H s := I.pins_of fun p hp => I.pin p (List.mem_append_right _ (List.mem_append_left _ hp))
theorem ps_for {iter : Expr} {body : List Stmt} {wi : TI} {g : TG} {tb : TS} {pos : Pos} (hp : PassesOwn (model X.prog X.w) X.A X.env X.xe) (hc : X.calm = true) (hi : PI X tg iter wi) (hg : PG X tg g) (hb : PSs X body tb)
    (hs : ∀ x, foldedSetIterable iter X.env x = pure x := by intro _; rfl) : PS X (.For tg iter body [] pos) (tFor wi g tb) := by
  intro pins s σ H D I h
  refine wpAny_For (thn (hi pins s σ H _ I h) fun v s1 h1 => thn h1 fun itv s2 h2 => ?_) hs
  obtain ⟨it, fp, tn, J, H2, e, I2, T, st2, f2, W, ⟨m0, w0⟩, turn⟩ := h2
  subst e
  have stat : ∀ {H' : Hp}, (∀ b ∈ fp, H' b = none) → ∀ b ∈ fp, FpOk X pins H' b := fun hn b hb => ⟨hn b hb, (f2 b hb).2⟩
  refine codeAny_forLoop_any (fun n s' => ∃ i σ' H', Inv X pins σ' H' s' ∧ tn i s'.heap ∧ (∀ b ∈ fp, H' b = none) ∧ W i n σ' H') ?_ m0 ⟨0, σ, H2, I2, st2, fun b hb => (f2 b hb).1, w0⟩
  rintro n s3 ⟨i, σ3, H3, I3, st3, fr3, w3⟩
  rcases turn i n σ3 H3 w3 with ⟨stop, qn⟩ | ⟨go, N, hN, step⟩
  · refine wpAny_passesOwn hp (thn (T.done X rfl rfl rfl hc i pins s3 σ3 H3 X.xe I3 (stat fr3) st3 stop) fun r s4 ⟨hr, I4⟩ => ?_)
    subst hr
    exact wpAny_execs_nil ⟨σ3, H3, I4, qn⟩
  · refine wpAny_passesOwn hp (thn (T.item X rfl rfl rfl hc i pins s3 σ3 H3 X.xe I3 (stat fr3) st3 go) fun r s4 ⟨u, hr, h4⟩ => ?_)
    subst hr
    refine wpAny_passesOwn hp (thn h4 fun _ s5 ⟨x, H5, I5, r5, y5, st5, fr5⟩ => ?_)
    have I5' := I5.pinned (stat fr5) (T.obj _ _ st5)
    refine wpAny_passesOwn hp (thn (hg _ s5 σ3 H5 x u _ I5' r5 (step x H5 y5)) fun _ s6 ⟨σ6, H6, I6, q6⟩ => ?_)
    refine wpAny_passesOwn hp (thn (hb _ s6 σ6 H6 _ I6 q6) fun f s7 q7 => ?_)
    have again : ∀ {σ7 : St} {H7 : Hp}, Inv X (pins ++ pinsAt fp s5.heap) σ7 H7 s7 → N σ7 H7 → ∃ m, m < n ∧ ∃ i σ' H', Inv X pins σ' H' s7 ∧ tn i s7.heap ∧ (∀ b ∈ fp, H' b = none) ∧ W i m σ' H' := fun {σ7 H7} I7 n7 => by
      obtain ⟨m', hm, w7⟩ := hN σ7 H7 n7
      refine ⟨m', hm, i + 1, σ7, H7, I7.unpinned, T.keep _ _ _ st5 fun b hb o e => (I7.pin (b, o) (List.mem_append_right _ (List.mem_append_right _ (mem_pinsAt hb e)))).1, fun b hb => ?_, w7⟩
      obtain ⟨o, e, d⟩ := T.obj _ _ st5 b hb
      exact (I7.pin (b, o) (List.mem_append_right _ (List.mem_append_right _ (mem_pinsAt hb e)))).2.1
    cases f with
    | next => obtain ⟨σ7, H7, I7, n7⟩ := q7; exact again I7 n7
    | cont => obtain ⟨σ7, H7, I7, n7⟩ := q7; exact again I7 n7
    | brk => obtain ⟨σ7, H7, I7, q7⟩ := q7; exact ⟨σ7, H7, I7.unpinned, q7⟩
    | ret v => obtain ⟨x7, σ7, H7, I7, r7, q7⟩ := q7; exact ⟨x7, σ7, H7, I7.unpinned, r7, q7⟩
end
theorem for_list {K : PySem.W.Frag} {a : Addr} {xs : List V} {g : TG} {tb : TS} {D : Ends} {σ : St} {H : Hp} (Pv : Nat → St → Hp → Prop) (h0 : Pv 0 σ H) (hl : ∀ i σ H, i ≤ xs.length → Pv i σ H → SqL K H a xs)
    (hs : ∀ i x σ H, xs[i]? = some x → Pv i σ H → g x σ H fun σ2 H2 => tb { D with nx := Pv (i + 1), ct := Pv (i + 1), bk := D.nx } σ2 H2) (hd : ∀ σ H, Pv xs.length σ H → D.nx σ H) :
    ∃ W : Nat → Nat → St → Hp → Prop, (∃ m, W 0 m σ H) ∧ ∀ i m σ H, W i m σ H →
      ((Itl K a).stop i H ∧ D.nx σ H) ∨ ((Itl K a).go i H ∧ ∃ N : St → Hp → Prop, (∀ σ' H', N σ' H' → ∃ m', m' < m ∧ W (i + 1) m' σ' H') ∧ ∀ x H', (Itl K a).yld i H x H' → g x σ H' fun σ2 H2 => tb { D with nx := N, ct := N, bk := D.nx } σ2 H2) := by
  refine ⟨fun i m σ H => m = xs.length - i ∧ i ≤ xs.length ∧ Pv i σ H, ⟨xs.length, by simp, Nat.zero_le _, h0⟩, ?_⟩
  rintro i m σ H ⟨rfl, hi, p⟩
  have q := hl i σ H hi p
  by_cases hlt : i < xs.length
  · refine .inr ⟨⟨xs, xs[i], q, by simp [hlt]⟩, Pv (i + 1), fun σ' H' p' => ⟨xs.length - (i + 1), by omega, rfl, hlt, p'⟩, fun x H' y => ?_⟩
    obtain ⟨e, y⟩ := y
    subst e
    exact hs i x σ _ (y xs q) p
  · have e : i = xs.length := by omega
    subst e
    exact .inl ⟨⟨xs, q, Nat.le_refl _⟩, hd σ H p⟩
theorem for_tup {K : PySem.W.Frag} {a : Addr} {xs : List V} {g : TG} {tb : TS} {D : Ends} {σ : St} {H : Hp} (Pv : Nat → St → Hp → Prop) (h0 : Pv 0 σ H) (hl : ∀ i σ H, i ≤ xs.length → Pv i σ H → SqT K H a xs)
    (hs : ∀ i x σ H, xs[i]? = some x → Pv i σ H → g x σ H fun σ2 H2 => tb { D with nx := Pv (i + 1), ct := Pv (i + 1), bk := D.nx } σ2 H2) (hd : ∀ σ H, Pv xs.length σ H → D.nx σ H) :
    ∃ W : Nat → Nat → St → Hp → Prop, (∃ m, W 0 m σ H) ∧ ∀ i m σ H, W i m σ H →
      ((Itt K a).stop i H ∧ D.nx σ H) ∨ ((Itt K a).go i H ∧ ∃ N : St → Hp → Prop, (∀ σ' H', N σ' H' → ∃ m', m' < m ∧ W (i + 1) m' σ' H') ∧ ∀ x H', (Itt K a).yld i H x H' → g x σ H' fun σ2 H2 => tb { D with nx := N, ct := N, bk := D.nx } σ2 H2) := by
  refine ⟨fun i m σ H => m = xs.length - i ∧ i ≤ xs.length ∧ Pv i σ H, ⟨xs.length, by simp, Nat.zero_le _, h0⟩, ?_⟩
  rintro i m σ H ⟨rfl, hi, p⟩
  have q := hl i σ H hi p
  by_cases hlt : i < xs.length
  · refine .inr ⟨⟨xs, xs[i], q, by simp [hlt]⟩, Pv (i + 1), fun σ' H' p' => ⟨xs.length - (i + 1), by omega, rfl, hlt, p'⟩, fun x H' y => ?_⟩
    obtain ⟨e, y⟩ := y
    subst e
    exact hs i x σ _ (y xs q) p
  · have e : i = xs.length := by omega
    subst e
    exact .inl ⟨⟨xs, q, Nat.le_refl _⟩, hd σ H p⟩
theorem for_range {lo : Int} {n : Nat} {g : TG} {tb : TS} {D : Ends} {σ : St} {H : Hp} (Pv : Nat → St → Hp → Prop) (h0 : Pv 0 σ H)
    (hs : ∀ i σ H, i < n → Pv i σ H → g (.int (lo + i)) σ H fun σ2 H2 => tb { D with nx := Pv (i + 1), ct := Pv (i + 1), bk := D.nx } σ2 H2) (hd : ∀ σ H, Pv n σ H → D.nx σ H) :
    ∃ W : Nat → Nat → St → Hp → Prop, (∃ m, W 0 m σ H) ∧ ∀ i m σ H, W i m σ H →
      ((Itr lo n).stop i H ∧ D.nx σ H) ∨ ((Itr lo n).go i H ∧ ∃ N : St → Hp → Prop, (∀ σ' H', N σ' H' → ∃ m', m' < m ∧ W (i + 1) m' σ' H') ∧ ∀ x H', (Itr lo n).yld i H x H' → g x σ H' fun σ2 H2 => tb { D with nx := N, ct := N, bk := D.nx } σ2 H2) := by
  refine ⟨fun i m σ H => m = n - i ∧ i ≤ n ∧ Pv i σ H, ⟨n, by simp, Nat.zero_le _, h0⟩, ?_⟩
  rintro i m σ H ⟨rfl, hi, p⟩
  by_cases hlt : i < n
  · refine .inr ⟨hlt, Pv (i + 1), fun σ' H' p' => ⟨n - (i + 1), by omega, rfl, hlt, p'⟩, fun x H' y => ?_⟩
    obtain ⟨e, y⟩ := y
    subst e y
    exact hs i σ _ hlt p
  · have e : i = n := by omega
    subst e
    exact .inl ⟨Nat.le_refl _, hd σ H p⟩
end L2
namespace L2
open PySem PySem.Spec PyProof.Rows
abbrev R2 := V → V → Hp → VK → Prop
def OpR (X : Cx) (f : Value → Value → Sem Value) (r : R2) : Prop :=
  ∀ (pins : List (Addr × Obj)) (s : Shared) (σ : St) (H : Hp) (x y : V) (v u : Value) (Q : VK), Inv X pins σ H s → RelV x v → RelV y u → r x y H Q →
    wpAny (model X.prog X.w) X.A (f v u) (EP X pins σ Q) X.xe s
def UnR (X : Cx) (f : Value → Sem Value) (r : V → Hp → VK → Prop) : Prop :=
  ∀ (pins : List (Addr × Obj)) (s : Shared) (σ : St) (H : Hp) (x : V) (v : Value) (Q : VK), Inv X pins σ H s → RelV x v → r x H Q →
    wpAny (model X.prog X.w) X.A (f v) (EP X pins σ Q) X.xe s
def CallR (X : Cx) (f : Value) (r : List V → Hp → VK → Prop) : Prop :=
  ∀ (pins : List (Addr × Obj)) (s : Shared) (σ : St) (H : Hp) (xs : List V) (us : List Value) (Q : VK), Inv X pins σ H s → Vals xs us → r xs H Q →
    wpAny (model X.prog X.w) X.A (call f us) (EP X pins σ Q) X.xe s
def TruR (X : Cx) (r : V → Hp → (Bool → Hp → Prop) → Prop) : Prop :=
  ∀ (pins : List (Addr × Obj)) (s : Shared) (σ : St) (H : Hp) (x : V) (v : Value) (Q : Bool → Hp → Prop), Inv X pins σ H s → RelV x v → r x H Q →
    wpAny (model X.prog X.w) X.A (truthy v) (TP X pins σ Q) X.xe s
def tOp (r : R2) (ta tb : TE) : TE := fun σ H Q => ta σ H fun x H1 => tb σ H1 fun y H2 => r x y H2 Q
def tUn (r : V → Hp → VK → Prop) (ta : TE) : TE := fun σ H Q => ta σ H fun x H1 => r x H1 Q
inductive RIP (C : Int → Int → Prop) (g : Int → Int → V) (x : V) (y : V) (H : Hp) (Q : VK) : Prop
  | mk (i j : _) : (x = .int i) → (y = .int j) → (C i j) → (Q (g i j) H) → RIP C g x y H Q
def rI (C : Int → Int → Prop) (g : Int → Int → V) : R2 := fun x y H Q => RIP C g x y H Q
inductive RI0P (g : Int → Int → V) (x : V) (y : V) (H : Hp) (Q : VK) : Prop
  | mk (i j : _) : (x = .int i) → (y = .int j) → (Q (g i j) H) → RI0P g x y H Q
def rI0 (g : Int → Int → V) : R2 := fun x y H Q => RI0P g x y H Q
inductive RUP (g : Int → V) (x : V) (H : Hp) (Q : VK) : Prop
  | mk (i : _) : (x = .int i) → (Q (g i) H) → RUP g x H Q
def rU (g : Int → V) : V → Hp → VK → Prop := fun x H Q => RUP g x H Q
section
variable {X : Cx} {a b c : Expr} {ta tb tc : TE} {pos : Pos}
theorem binT (ha : PE X a ta) (hb : PE X b tb) {pins : List (Addr × Obj)} {s : Shared} {σ : St} {H : Hp} {R : V → V → Hp → Prop} (I : Inv X pins σ H s)
    (h : ta σ H fun x H1 => tb σ H1 fun y H2 => R x y H2) {Q : Value → Shared → Prop} {f : Value → Value → Sem Value}
    (hf : ∀ v u s2 x y H2, Inv X pins σ H2 s2 → RelV x v → RelV y u → R x y H2 → wpAny (model X.prog X.w) X.A (f v u) Q X.xe s2) :
    wpAny (model X.prog X.w) X.A (eval a X.env) (fun v s₁ => wpAny (model X.prog X.w) X.A (eval b X.env) (fun u s₂ => wpAny (model X.prog X.w) X.A (f v u) Q X.xe s₂) X.xe s₁) X.xe s := by
  refine thn (ha pins s σ H _ I h) fun v s1 ⟨x, H1, I1, r1, q1⟩ => ?_
  refine thn (hb pins s1 σ H1 _ I1 q1) fun u s2 ⟨y, H2, I2, r2, q2⟩ => ?_
  exact hf v u s2 x y H2 I2 r1 r2 q2
theorem pe_op {op : Operator} {r : R2} (ho : OpR X (binaryOp op) r) (ha : PE X a ta) (hb : PE X b tb) : PE X (.BinOp a op b pos) (tOp r ta tb) := by
  intro pins s σ H Q I h
  exact wpAny_BinOp (binT ha hb I h fun v u s2 x y H2 I2 rx ry q => ho pins s2 σ H2 x y v u Q I2 rx ry q)
theorem pe_un {op : UnaryOp} {r : V → Hp → VK → Prop} (ho : UnR X (unaryOp op) r) (ha : PE X a ta) : PE X (.UnaryOp op a pos) (tUn r ta) := by
  intro pins s σ H Q I h
  exact UnaryOp_ (thn (ha pins s σ H _ I h) fun v s1 ⟨x, H1, I1, r1, q1⟩ => ho pins s1 σ H1 x v Q I1 r1 q1)
theorem opI {f : Value → Value → Sem Value} {C : Int → Int → Prop} {g : Int → Int → Int}
    (rule : ∀ (i j : Int) (t u : Tok) (s : Shared) (Q : Value → Shared → Prop) (E : Value → Shared → Prop), C i j → Q (.int (g i j) s.toks) { s with toks := s.toks + 1 } → wpAny (model X.prog X.w) X.A (f (.int i t) (.int j u)) Q E s) :
    OpR X f (rI C fun i j => .int (g i j)) := by
  intro pins s σ H x y v u Q I rx ry h
  obtain ⟨i, j, rfl, rfl, hc, q⟩ := h
  obtain ⟨t, rfl⟩ := rx
  obtain ⟨t', rfl⟩ := ry
  exact rule i j t t' s _ _ hc ⟨.int (g i j), H, I.tok _, ⟨_, rfl⟩, q⟩
theorem opI0 {f : Value → Value → Sem Value} {g : Int → Int → Int}
    (rule : ∀ (i j : Int) (t u : Tok) (s : Shared) (Q : Value → Shared → Prop) (E : Value → Shared → Prop), Q (.int (g i j) s.toks) { s with toks := s.toks + 1 } → wpAny (model X.prog X.w) X.A (f (.int i t) (.int j u)) Q E s) :
    OpR X f (rI0 fun i j => .int (g i j)) := by
  intro pins s σ H x y v u Q I rx ry h
  obtain ⟨i, j, rfl, rfl, q⟩ := h
  obtain ⟨t, rfl⟩ := rx
  obtain ⟨t', rfl⟩ := ry
  exact rule i j t t' s _ _ ⟨.int (g i j), H, I.tok _, ⟨_, rfl⟩, q⟩
theorem opB0 {f : Value → Value → Sem Value} {g : Int → Int → Bool}
    (rule : ∀ (i j : Int) (t u : Tok) (s : Shared) (Q : Value → Shared → Prop) (E : Value → Shared → Prop), Q (.bool (g i j)) s → wpAny (model X.prog X.w) X.A (f (.int i t) (.int j u)) Q E s) :
    OpR X f (rI0 fun i j => .bl (g i j)) := by
  intro pins s σ H x y v u Q I rx ry h
  obtain ⟨i, j, rfl, rfl, q⟩ := h
  obtain ⟨t, rfl⟩ := rx
  obtain ⟨t', rfl⟩ := ry
  exact rule i j t t' s _ _ ⟨.bl (g i j), H, I, rfl, q⟩
def CDiv (i j : Int) : Prop := 0 < j ∧ j < 1073741824
def CPow (i j : Int) : Prop := 0 ≤ j ∧ j ≤ 1000000 ∧ i.natAbs < 2 ^ 64
def CMul (i j : Int) : Prop := (-(2 ^ 64) < i ∧ i < 2 ^ 64) ∨ (-(2 ^ 64) < j ∧ j < 2 ^ 64)
theorem CMul.ok {i j : Int} (h : CMul i j) : IntMulOk i j := by
  rcases h with ⟨h1, h2⟩ | ⟨h1, h2⟩
  · exact .of_left (intBits_le_64 h1 h2)
  · exact .of_right (intBits_le_64 h1 h2)
theorem op_add : OpR X (binaryOp .Add) (rI0 fun i j => .int (i + j)) := opI0 fun _ _ _ _ _ _ _ q => add_int q
theorem op_sub : OpR X (binaryOp .Sub) (rI0 fun i j => .int (i - j)) := opI0 fun _ _ _ _ _ _ _ q => sub_int q
theorem op_mul : OpR X (binaryOp .Mult) (rI CMul fun i j => .int (i * j)) := opI fun _ _ _ _ _ _ _ hc q => mul_int q hc.ok
theorem op_fdiv : OpR X (binaryOp .FloorDiv) (rI CDiv fun i j => .int (i / j)) := opI fun i j _ _ _ _ _ hc q => by
  have h1 : (0 : Int) < j := hc.1
  have h2 : j < 1073741824 := hc.2
  exact floordiv_int (by omega) (by rw [Int.fdiv_eq_ediv_of_nonneg i (by omega)]; exact q) (.inl (PyProof.noPylong_small (by omega)))
theorem op_mod : OpR X (binaryOp .Mod) (rI (fun _ j => 0 < j) fun i j => .int (i % j)) := opI fun i j _ _ _ _ _ hc q => by
  have h1 : (0 : Int) < j := hc
  exact mod_int' (by omega) (by rw [Int.fmod_eq_emod_of_nonneg i (by omega)]; exact q)
theorem op_pow : OpR X (binaryOp .Pow) (rI CPow fun i j => .int (i ^ j.toNat)) := opI fun _ _ _ _ _ _ _ hc q => pow_int_small hc.1 hc.2.1 hc.2.2 q
theorem unI {f : Value → Sem Value} {g : Int → Int}
    (rule : ∀ (i : Int) (t : Tok) (s : Shared) (Q : Value → Shared → Prop) (E : Value → Shared → Prop), Q (.int (g i) s.toks) { s with toks := s.toks + 1 } → wpAny (model X.prog X.w) X.A (f (.int i t)) Q E s) :
    UnR X f (rU fun i => .int (g i)) := by
  intro pins s σ H x v Q I rx h
  obtain ⟨i, rfl, q⟩ := h
  obtain ⟨t, rfl⟩ := rx
  exact rule i t s _ _ ⟨.int (g i), H, I.tok _, ⟨_, rfl⟩, q⟩
theorem un_neg : UnR X (unaryOp .USub) (rU fun i => .int (-i)) := unI fun _ _ _ _ _ q => neg_int q
end
def scal : V → V → Bool
  | .non, .non => true | .non, .int _ => true | .int _, .non => true | .non, .bl _ => true | .bl _, .non => true | .non, .str _ => true | .str _, .non => true
  | .int _, .int _ => true | .bl _, .bl _ => true | .str _, .str _ => true | .byt _, .byt _ => true
  | .int _, .str _ => true | .str _, .int _ => true | .bl _, .str _ => true | .str _, .bl _ => true
  | _, _ => false
def rEq : R2 := fun x y H Q => scal x y = true ∧ Q (.bl (decide (x = y))) H
def rNe : R2 := fun x y H Q => scal x y = true ∧ Q (.bl (!decide (x = y))) H
theorem dec_int {i j : Int} : decide (V.int i = V.int j) = (i == j) := by
  rw [Bool.eq_iff_iff]
  simp
theorem dec_bl {i j : Bool} : decide (V.bl i = V.bl j) = (i == j) := by
  rw [Bool.eq_iff_iff]
  simp
theorem dec_str {i j : Str} : decide (V.str i = V.str j) = (i == j) := by
  rw [Bool.eq_iff_iff]
  simp
theorem dec_byt {i j : Array UInt8} : decide (V.byt i = V.byt j) = (i.toList == j.toList) := by
  rw [Bool.eq_iff_iff]
  cases i
  cases j
  simp
section
variable {X : Cx} {a b c : Expr} {ta tb tc : TE} {pos : Pos}
theorem fin_bl {pins : List (Addr × Obj)} {σ : St} {H : Hp} {s : Shared} {Q : VK} {k k' : Bool} (I : Inv X pins σ H s) (q : Q (.bl k) H) (e : k = k') : EP X pins σ Q (.bool k') s := by
  subst e
  exact ⟨.bl k, H, I, rfl, q⟩
theorem op_eq : OpR X (compareOp .Eq) rEq := by
  intro pins s σ H x y v u Q I rx ry h
  obtain ⟨hs, q⟩ := h
  cases x with
  | non =>
    cases rx
    cases y with
    | non => cases ry; exact PySem.EqNone.eq_none_none (fin_bl I q (by simp))
    | bl j => cases ry; exact PySem.EqNone.eq_none_bool (fin_bl I q (by simp))
    | int j => obtain ⟨t', rfl⟩ := ry; exact PySem.EqNone.eq_none_int (fin_bl I q (by simp))
    | str j => obtain ⟨t', rfl⟩ := ry; exact PySem.EqNone.eq_none_str (fin_bl I q (by simp))
    | _ => exact absurd (show false = true from hs) Bool.false_ne_true
  | bl i =>
    cases rx
    cases y with
    | non => cases ry; exact PySem.EqNone.eq_bool_none (fin_bl I q (by simp))
    | bl j => cases ry; exact eq_bool (fin_bl I q dec_bl)
    | str j => obtain ⟨t', rfl⟩ := ry; exact PySem.EqMixed.eq_bool_str (fin_bl I q (by simp))
    | _ => exact absurd (show false = true from hs) Bool.false_ne_true
  | int i =>
    obtain ⟨t, rfl⟩ := rx
    cases y with
    | non => cases ry; exact PySem.EqNone.eq_int_none (fin_bl I q (by simp))
    | int j => obtain ⟨t', rfl⟩ := ry; exact eq_int (fin_bl I q dec_int)
    | str j => obtain ⟨t', rfl⟩ := ry; exact PySem.EqMixed.eq_int_str (fin_bl I q (by simp))
    | _ => exact absurd (show false = true from hs) Bool.false_ne_true
  | str i =>
    obtain ⟨t, rfl⟩ := rx
    cases y with
    | non => cases ry; exact PySem.EqNone.eq_str_none (fin_bl I q (by simp))
    | bl j => cases ry; exact PySem.EqMixed.eq_str_bool (fin_bl I q (by simp))
    | int j => obtain ⟨t', rfl⟩ := ry; exact PySem.EqMixed.eq_str_int (fin_bl I q (by simp))
    | str j => obtain ⟨t', rfl⟩ := ry; exact eq_str (fin_bl I q dec_str)
    | _ => exact absurd (show false = true from hs) Bool.false_ne_true
  | byt i =>
    obtain ⟨t, rfl⟩ := rx
    cases y with
    | byt j => obtain ⟨t', rfl⟩ := ry; exact PySem.W.eq_bytes (fin_bl I q dec_byt)
    | _ => exact absurd (show false = true from hs) Bool.false_ne_true
  | _ => cases y <;> exact absurd (show false = true from hs) Bool.false_ne_true
theorem op_ne : OpR X (compareOp .NotEq) rNe := by
  intro pins s σ H x y v u Q I rx ry h
  obtain ⟨hs, q⟩ := h
  cases x with
  | non =>
    cases rx
    cases y with
    | non => cases ry; exact PySem.EqNone.ne_none_none (fin_bl I q (by simp))
    | bl j => cases ry; exact PySem.EqNone.ne_none_bool (fin_bl I q (by simp))
    | int j => obtain ⟨t', rfl⟩ := ry; exact PySem.EqNone.ne_none_int (fin_bl I q (by simp))
    | str j => obtain ⟨t', rfl⟩ := ry; exact PySem.EqNone.ne_none_str (fin_bl I q (by simp))
    | _ => exact absurd (show false = true from hs) Bool.false_ne_true
  | bl i =>
    cases rx
    cases y with
    | non => cases ry; exact PySem.EqNone.ne_bool_none (fin_bl I q (by simp))
    | bl j => cases ry; exact ne_bool (fin_bl I q (congrArg not dec_bl))
    | str j => obtain ⟨t', rfl⟩ := ry; exact PySem.EqMixed.ne_bool_str (fin_bl I q (by simp))
    | _ => exact absurd (show false = true from hs) Bool.false_ne_true
  | int i =>
    obtain ⟨t, rfl⟩ := rx
    cases y with
    | non => cases ry; exact PySem.EqNone.ne_int_none (fin_bl I q (by simp))
    | int j => obtain ⟨t', rfl⟩ := ry; exact ne_int (fin_bl I q (congrArg not dec_int))
    | str j => obtain ⟨t', rfl⟩ := ry; exact PySem.EqMixed.ne_int_str (fin_bl I q (by simp))
    | _ => exact absurd (show false = true from hs) Bool.false_ne_true
  | str i =>
    obtain ⟨t, rfl⟩ := rx
    cases y with
    | non => cases ry; exact PySem.EqNone.ne_str_none (fin_bl I q (by simp))
    | bl j => cases ry; exact PySem.EqMixed.ne_str_bool (fin_bl I q (by simp))
    | int j => obtain ⟨t', rfl⟩ := ry; exact PySem.EqMixed.ne_str_int (fin_bl I q (by simp))
    | str j => obtain ⟨t', rfl⟩ := ry; exact ne_str (fin_bl I q (congrArg not dec_str))
    | _ => exact absurd (show false = true from hs) Bool.false_ne_true
  | byt i =>
    obtain ⟨t, rfl⟩ := rx
    cases y with
    | byt j => obtain ⟨t', rfl⟩ := ry; exact PySem.W.ne_bytes (fin_bl I q (congrArg not dec_byt))
    | _ => exact absurd (show false = true from hs) Bool.false_ne_true
  | _ => cases y <;> exact absurd (show false = true from hs) Bool.false_ne_true
theorem op_lt : OpR X (compareOp .Lt) (rI0 fun i j => .bl (decide (i < j))) := opB0 fun _ _ _ _ _ _ _ q => lt_int q
theorem op_le : OpR X (compareOp .LtE) (rI0 fun i j => .bl (decide (i ≤ j))) := opB0 fun _ _ _ _ _ _ _ q => le_int q
theorem op_gt : OpR X (compareOp .Gt) (rI0 fun i j => .bl (decide (j < i))) := opB0 fun _ _ _ _ _ _ _ q => gt_int q
theorem op_ge : OpR X (compareOp .GtE) (rI0 fun i j => .bl (decide (j ≤ i))) := opB0 fun _ _ _ _ _ _ _ q => ge_int q
theorem op_isN : OpR X (compareOp .Is) (fun x y H Q => y = .non ∧ Q (.bl (decide (x = .non))) H) := by
  intro pins s σ H x y v u Q I rx ry h
  obtain ⟨rfl, q⟩ := h
  cases ry
  refine is_none_gen (fin_bl I q ?_)
  cases x <;> first
    | (cases rx; rfl)
    | (obtain ⟨t, rfl⟩ := rx; rfl)
theorem op_notN : OpR X (compareOp .IsNot) (fun x y H Q => y = .non ∧ Q (.bl (!decide (x = .non))) H) := by
  intro pins s σ H x y v u Q I rx ry h
  obtain ⟨rfl, q⟩ := h
  cases ry
  refine isnot_none_gen (fin_bl I q ?_)
  cases x <;> first
    | (cases rx; rfl)
    | (obtain ⟨t, rfl⟩ := rx; rfl)
theorem nomark (b : Expr) {op : CmpOp} (h : op ≠ .In := by decide) (h2 : op ≠ .NotIn := by decide) : behindInMarks op b = false := by
  have e1 : (op == CmpOp.In) = false := by cases op <;> first | rfl | exact absurd rfl h
  have e2 : (op == CmpOp.NotIn) = false := by cases op <;> first | rfl | exact absurd rfl h2
  cases b <;> simp [behindInMarks, e1, e2]
theorem pe_cmpR {op : CmpOp} {r : R2} (ho : OpR X (compareOp op) r) (ha : PE X a ta) (hb : PE X b tb) (hm : behindInMarks op b = false) : PE X (.Compare a [op] [b] pos) (tOp r ta tb) := by
  intro pins s σ H Q I h
  exact wpAny_Compare1 (binT ha hb I h fun v u s2 x y H2 I2 rx ry q => ho pins s2 σ H2 x y v u Q I2 rx ry q) hm
def tTest (t : TE) : TT := fun σ H Q => t σ H fun x H' => BlP x H' Q
theorem pt_cmpR {op : CmpOp} {r : R2} (ho : OpR X (compareOp op) r) (ha : PE X a ta) (hb : PE X b tb) (hm : behindInMarks op b = false) : PT X (.Compare a [op] [b] pos) (tTest (tOp r ta tb)) := by
  intro pins s σ H Q I h
  refine wpAny_isTrue_Compare1 (thn (ha pins s σ H _ I h) fun v s1 ⟨x, H1, I1, r1, q1⟩ => thn (hb pins s1 σ H1 _ I1 q1) fun u s2 ⟨y, H2, I2, r2, q2⟩ =>
    thn (ho pins s2 σ H2 x y v u _ I2 r1 r2 q2) fun c s3 ⟨z, H3, I3, r3, k, e, q3⟩ => ?_) hm
  subst e
  cases r3
  exact wpAny_truthy_bool ⟨H3, I3, q3⟩
def TruV (K : PySem.W.Frag) (x : V) (H : Hp) (k : Bool) : Prop :=
  match x with
  | .non => k = false
  | .bl b => k = b
  | .int i => k = (i != 0)
  | .str y => y.length ≤ sizeLine ∧ k = ((y.length : Int) != 0)
  | .byt y => y.size ≤ sizeLine ∧ k = ((y.size : Int) != 0)
  | .ref p => (∃ xs, SqL K H p xs ∧ k = !xs.isEmpty) ∨ (∃ xs, SqT K H p xs ∧ k = !xs.isEmpty) ∨ ∃ kvs, H p = some (.dK kvs) ∧ k = !kvs.isEmpty
  | _ => False
theorem isEmpty_kv {κ : Type} {kvs : List (κ × V)} {vs : List (κ × Value)} (r : KV kvs vs) : (!vs.isEmpty) = !kvs.isEmpty := by
  cases r <;> rfl
theorem isEmpty_of {xs : List V} {its : List Value} (r : Vals xs its) : (!its.toArray.isEmpty) = !xs.isEmpty := by
  cases r <;> simp
theorem line63 : (sizeLine : Nat) < 2 ^ 63 := by rw [sizeLine_eq]; decide
theorem tru_ok : TruR X (fun x H Q => ∃ k, TruV X.K x H k ∧ Q k H) := by
  intro pins s σ H x v Q I rx h
  obtain ⟨k, e, q⟩ := h
  have hl := line63
  have hs : sizeLine = 16777216 := sizeLine_eq
  cases x with
  | non =>
    cases rx
    have e' : k = false := e
    subst e'
    exact truthy_none ⟨H, I, q⟩
  | bl b =>
    cases rx
    have e' : k = b := e
    subst e'
    exact wpAny_truthy_bool ⟨H, I, q⟩
  | int i =>
    obtain ⟨t, rfl⟩ := rx
    have e' : k = (i != 0) := e
    subst e'
    exact PySem.P.truthy_int ⟨H, I, q⟩
  | str y =>
    obtain ⟨t, rfl⟩ := rx
    obtain ⟨hy, e'⟩ : y.length ≤ sizeLine ∧ k = ((y.length : Int) != 0) := e
    subst e'
    exact PySem.P.truthy_str (by omega) ⟨H, I.tok _, q⟩
  | byt y =>
    obtain ⟨t, rfl⟩ := rx
    obtain ⟨hy, e'⟩ : y.size ≤ sizeLine ∧ k = ((y.size : Int) != 0) := e
    subst e'
    exact PySem.W.truthy_bytes (by exact Nat.le_trans (by assumption) (by decide)) ⟨H, I.tok _, q⟩
  | ref p =>
    cases rx
    have e' : (∃ xs, SqL X.K H p xs ∧ k = !xs.isEmpty) ∨ (∃ xs, SqT X.K H p xs ∧ k = !xs.isEmpty) ∨ ∃ kvs, H p = some (.dK kvs) ∧ k = !kvs.isEmpty := e
    rcases e' with ⟨xs, hx, e'⟩ | ⟨xs, hx, e'⟩ | ⟨kvs, hx, e'⟩
    · subst e'
      obtain ⟨its, r, pl, hz⟩ := I.list hx
      have hlen := r.length
      exact wpAny_truthy_list pl.isList (by simp only [List.size_toArray]; omega) ⟨H, I.tok _, by rw [isEmpty_of r]; exact q⟩
    · subst e'
      obtain ⟨its, r, pl, hz⟩ := I.tuple hx
      have hlen := r.length
      exact truthy_tuple pl (by simp only [List.size_toArray]; omega) ⟨H, I.tok _, by rw [isEmpty_of r]; exact q⟩
    · subst e'
      obtain ⟨hz, hS, vs, r, m⟩ : kvs.length ≤ sizeLine ∧ (p == sysModules) = false ∧ ∃ vs, KV kvs vs ∧ s.heap.DictOf (mixKind X.prog X.w) p vs := I.hok p _ hx
      have hlen : kvs.length = vs.length := Paired.length r
      exact wpAny_truthy_dict hS m (by omega) ⟨H, I.tok _, by rw [isEmpty_kv r]; exact q⟩
  | _ => exact (show False from e).elim
theorem pt_truth (ha : PE X a ta) (he : ∀ whole, isTrue a X.env whole = (do let v ← whole; standAt a.pos; holding [v] (truthy v))) :
    PT X a (fun σ H Q => ta σ H fun x H' => ∃ k, TruV X.K x H' k ∧ Q k H') := by
  intro pins s σ H Q I h
  exact isTrue_plain (thn (ha pins s σ H _ I h) fun v s1 ⟨x, H1, I1, r1, q1⟩ => tru_ok pins s1 σ H1 x v Q I1 r1 q1) (he _)
theorem op_add_str : OpR X (binaryOp .Add) (fun x y H Q => ∃ i j, x = .str i ∧ y = .str j ∧ i.length + j.length ≤ sizeLine ∧ Q (.str (i ++ j)) H) := by
  intro pins s σ H x y v u Q I rx ry h
  obtain ⟨i, j, rfl, rfl, hz, q⟩ := h
  obtain ⟨t, rfl⟩ := rx
  obtain ⟨t', rfl⟩ := ry
  exact add_str (fun t' tk => ⟨.str (i ++ j), H, I.tok _, ⟨_, rfl⟩, q⟩) hz
theorem vals1 {x : V} {us : List Value} (r : Vals [x] us) : ∃ u, us = [u] ∧ RelV x u := by
  cases r with
  | cons r1 r2 => cases r2; exact ⟨_, rfl, r1⟩
theorem vals2 {x y : V} {us : List Value} (r : Vals [x, y] us) : ∃ u w', us = [u, w'] ∧ RelV x u ∧ RelV y w' := by
  cases r with
  | cons r1 r2 =>
    cases r2 with
    | cons r3 r4 => cases r4; exact ⟨_, _, rfl, r1, r3⟩
theorem call_max2 (hc : X.calm = true) : CallR X (.builtin "max") (fun xs H Q => ∃ i j, xs = [.int i, .int j] ∧ Q (.int (if j > i then j else i)) H) := by
  intro pins s σ H xs us Q I r h
  obtain ⟨i, j, rfl, q⟩ := h
  obtain ⟨u, w', rfl, ⟨t, rfl⟩, ⟨t', rfl⟩⟩ := vals2 r
  refine max_two_ints (I.ok.hd hc) fun h' tk k => ⟨_, H, I.kept k, ?_, q⟩
  by_cases hj : j > i
  · rw [if_pos hj, if_pos hj]; exact ⟨_, rfl⟩
  · rw [if_neg hj, if_neg hj]; exact ⟨_, rfl⟩
theorem call_min2 (hc : X.calm = true) : CallR X (.builtin "min") (fun xs H Q => ∃ i j, xs = [.int i, .int j] ∧ Q (.int (if j < i then j else i)) H) := by
  intro pins s σ H xs us Q I r h
  obtain ⟨i, j, rfl, q⟩ := h
  obtain ⟨u, w', rfl, ⟨t, rfl⟩, ⟨t', rfl⟩⟩ := vals2 r
  refine min_two_ints (I.ok.hd hc) fun h' tk k => ⟨_, H, I.kept k, ?_, q⟩
  by_cases hj : j < i
  · rw [if_pos hj, if_pos hj]; exact ⟨_, rfl⟩
  · rw [if_neg hj, if_neg hj]; exact ⟨_, rfl⟩
theorem call_int1 : CallR X (.type "int") (fun xs H Q => (∃ i, xs = [.int i] ∧ Q (.int i) H) ∨ ∃ k, xs = [.bl k] ∧ Q (.int (if k then 1 else 0)) H) := by
  intro pins s σ H xs us Q I r h
  rcases h with ⟨i, rfl, q⟩ | ⟨k, rfl, q⟩
  · obtain ⟨u, rfl, t, rfl⟩ := vals1 r
    exact call_int_int ⟨.int i, H, I, ⟨_, rfl⟩, q⟩
  · obtain ⟨u, rfl, r1⟩ := vals1 r
    cases r1
    exact call_int_bool ⟨.int (if k then 1 else 0), H, I.tok _, ⟨_, rfl⟩, q⟩
end
end L2
namespace L2
open PySem PySem.Spec PyProof.Rows
structure ObjM (h : Heap) (x dx C : Addr) (mA : Str → Option Value) : Prop where
  obj : h.get? x = some (PySem.W.instObj C dx)
  ns : h.Ns1 dx mA
  ne : dx ≠ x
theorem lookIn_ns {h : Heap} {dx : Addr} {mA : Str → Option Value} (n : h.Ns1 dx mA) : ∃ od, h.get? dx = some od ∧ ∀ name, PySem.W.lookIn name od = some (mA name) := by
  obtain ⟨o, es, ep, ho, hd, hk, _, hm⟩ := n
  refine ⟨o, ho, fun name => ?_⟩
  have e := hm name
  unfold nsFind findBy at e
  rw [← Array.find?_toList] at e
  unfold PySem.W.lookIn
  rw [hd]
  dsimp only
  split
  · rename_i y q
    rw [q] at e
    exact congrArg some e
  · rename_i q
    rw [q] at e
    have a : es.toList.any (·.refKey) = false := by
      rw [List.any_eq_false]
      intro y hy
      obtain ⟨z, t, hkey⟩ := hk y (Array.mem_toList_iff.mp hy)
      simp [DictEntry.refKey, hkey]
    have a' : ¬ es.toList.any (·.refKey) = true := by rw [a]; exact Bool.false_ne_true
    rw [if_neg a']
    exact congrArg some e
theorem ObjM.look {h : Heap} {x dx C : Addr} {mA : Str → Option Value} (I : ObjM h x dx C mA) : ∃ od, PySem.W.InstAt h x (PySem.W.instObj C dx) C (some od) ∧ ∀ name, PySem.W.lookIn name od = some (mA name) :=
  let ⟨od, ho, hl⟩ := lookIn_ns I.ns
  ⟨od, ⟨I.obj, rfl, rfl, ho⟩, hl⟩
theorem RelO.some_of {v : V} {o : Option Value} (r : RelO (some v) o) : ∃ u, o = some u ∧ RelV v u := by
  cases o with
  | none => exact (show False from r).elim
  | some u => exact ⟨u, rfl, r⟩
section
variable {P : Program} {w : World} {H H' : Hp} {h h' : Heap} {a C dx : Addr} {fs fs' : List (Str × V)}
theorem ins_get (hok : HOk P w H h) (e : H a = some (.ins C dx fs)) : ∃ mA, ObjM h a dx C mA ∧ (∀ f, RelO (fs.lookup f) (mA f)) ∧ PySem.Within mA (fs.map (·.1)) ∧ fs.length ≤ 1000 ∧ H dx = some (.own a) := by
  obtain ⟨d, z, ne, ob, mA, n, r, q⟩ := (show ObjOk P w H h a (.ins C dx fs) from hok a _ e)
  exact ⟨mA, ⟨ob, n, ne⟩, r, q, z, d⟩
end
structure Cls (K : PySem.W.Frag) (C : Addr) : Prop where
  pg : PySem.W.plainGet K C Str.empty = true
  hd : PySem.W.hasDictIn K C = true
  po : PySem.W.plainOver K C = true
  sa : PySem.W.findIn K (.ref C) "__setattr__" = some (some (.builtin "object.__setattr__"))
theorem Cls.get {K : PySem.W.Frag} {C : Addr} (c : Cls K C) (f : Str) : PySem.W.plainGet K C f = true := c.pg
section
variable {X : Cx} {pins : List (Addr × Obj)} {σ : St} {H : Hp} {s : Shared} {A : Around} {E : Value → Shared → Prop} {Q : Value → Shared → Prop} {c : Value} {b : Bool}
inductive TyOf (K : PySem.W.Frag) (H : Hp) : V → Value → Prop where
  | non : TyOf K H .non (.type "NoneType")
  | bl (x : Bool) : TyOf K H (.bl x) (.type "bool")
  | int (i : Int) : TyOf K H (.int i) (.type "int")
  | str (x : Str) : TyOf K H (.str x) (.type "str")
  | flt (x : UInt64) : TyOf K H (.flt x) (.type "float")
  | lst {a : Addr} {xs : List V} (e : H a = some (.lst xs)) : TyOf K H (.ref a) (.type "list")
  | frz {a : Addr} {o : Obj} {xs : List V} (e : H a = some (.frz o (.lst xs))) : TyOf K H (.ref a) (.type "list")
  | tup {a : Addr} {xs : List V} (e : H a = some (.tup xs)) : TyOf K H (.ref a) (.type "tuple")
  | dK {a : Addr} {kvs : List (Key × V)} (e : H a = some (.dK kvs)) : TyOf K H (.ref a) (.type "dict")
  | dT {a : Addr} {kvs : List (List Key × V)} (e : H a = some (.dT kvs)) : TyOf K H (.ref a) (.type "dict")
  | ins {a C dx : Addr} {fs : List (Str × V)} (e : H a = some (.ins C dx fs)) (cl : Cls K C) (ha : PySem.W.findIn K (.ref C) "__class__" = some (some (.builtin "object.__class__")))
      (hn : PySem.W.specialIn K (.builtin "object.__class__") "__get__" = some (some (.builtin "getset_descriptor.__get__"))) (htk : PySem.W.takesIn K (.builtin "object.__class__") = some true)
      (hm : PySem.W.mroIn K C (.type "object") = some true) : TyOf K H (.ref a) (.ref C)
theorem isinst_ok {x : V} {u t : Value} (I : Inv X pins σ H s) (rx : RelV x u) (ty : TyOf X.K H x t) (e : PySem.W.kitOne X.K t c = some b) (h : ∀ tk, Q (.bool b) { s with toks := tk }) :
    wpAny (model X.prog X.w) A (call (.builtin "isinstance") [u, c]) Q E s := by
  cases ty with
  | non => cases (show u = Value.none from rx); exact PySem.W.kia_one PySem.W.kitx_none I.kIn True.intro e (fun z => nomatch z) h
  | bl y => cases (show u = Value.bool y from rx); exact PySem.W.kia_one PySem.W.kitx_bool I.kIn True.intro e (fun z => nomatch z) h
  | int i => obtain ⟨t, q⟩ := (show ∃ t, u = Value.int i t from rx); cases q; exact PySem.W.kia_one PySem.W.kitx_int I.kIn True.intro e (fun z => nomatch z) h
  | str y => obtain ⟨t, q⟩ := (show ∃ t, u = Value.str y t from rx); cases q; exact PySem.W.kia_one PySem.W.kitx_str I.kIn True.intro e (fun z => nomatch z) h
  | flt y => obtain ⟨t, q⟩ := (show ∃ t, u = Value.float y t from rx); cases q; exact PySem.W.kia_one PySem.W.kitx_float I.kIn True.intro e (fun z => nomatch z) h
  | @lst a xs ea =>
    cases (show u = Value.ref a from rx)
    obtain ⟨_, _, n, _, h1⟩ := (show ObjOk X.prog X.w H s.heap a (.lst xs) from I.hok a _ ea)
    exact PySem.W.kia_one PySem.W.kitx_list I.kIn ⟨_, h1, rfl⟩ e (fun z => nomatch z) h
  | @frz a ob xs ea =>
    cases (show u = Value.ref a from rx)
    obtain ⟨_, _, _, n, _, h1⟩ := (show ObjOk X.prog X.w H s.heap a (.frz ob (.lst xs)) from I.hok a _ ea)
    exact PySem.W.kia_one PySem.W.kitx_list I.kIn ⟨_, h1, rfl⟩ e (fun z => nomatch z) h
  | @tup a xs ea =>
    cases (show u = Value.ref a from rx)
    obtain ⟨_, _, _, p⟩ := (show ObjOk X.prog X.w H s.heap a (.tup xs) from I.hok a _ ea)
    obtain ⟨o, h1, h2, _⟩ := p
    exact PySem.W.kia_one PySem.W.kitx_tuple I.kIn ⟨o, h1, h2⟩ e (fun z => nomatch z) h
  | @dK a kvs ea =>
    cases (show u = Value.ref a from rx)
    obtain ⟨_, _, vs, _, p⟩ := (show ObjOk X.prog X.w H s.heap a (.dK kvs) from I.hok a _ ea)
    obtain ⟨o, es, ep, h1, h2, _⟩ := p
    exact PySem.W.kia_one PySem.W.kitx_dict I.kIn ⟨o, h1, h2.1⟩ e (fun z => nomatch z) h
  | @dT a kvs ea =>
    cases (show u = Value.ref a from rx)
    obtain ⟨_, _, xs, _, o, es, ep, h1, h2, _⟩ := (show ObjOk X.prog X.w H s.heap a (.dT kvs) from I.hok a _ ea)
    exact PySem.W.kia_one PySem.W.kitx_dict I.kIn ⟨o, h1, h2.1⟩ e (fun z => nomatch z) h
  | @ins a C dx fs ea cl ha hn htk hm =>
    cases (show u = Value.ref a from rx)
    obtain ⟨mA, O, _⟩ := ins_get I.hok ea
    obtain ⟨od, J, _⟩ := O.look
    exact PySem.W.kia_one (PySem.W.kitx_own (cl.get _) cl.hd ha hn htk hm) I.kIn J e (fun z => nomatch z) h
end
end L2
namespace L2
open PySem PySem.Spec PyProof.Rows
structure Room (k : Nat) (A : Around) : Prop where
  hd : A.handled = none
  dp : A.depth + 3 * k + 5 < recursionLimit
  un : A.units + 16 * k + 200 < cLine
  gd : A.guards = some []
theorem Room.mono {j k : Nat} {A : Around} (r : Room k A) (h : j ≤ k) : Room j A := ⟨r.hd, by have := r.dp; omega, by have := r.un; omega, r.gd⟩
theorem Room.deeper {k : Nat} {A : Around} (r : Room (k + 1) A) (env : Env) : Room k (A.deeper env) :=
  ⟨r.hd, by have := r.dp; show A.depth + 1 + 3 * k + 5 < _; omega, by have := r.un; show A.units + 3 + 16 * k + 200 < _; omega, by show pushGuards [] A.guards = some []; rw [r.gd]; rfl⟩
theorem Room.depth {k : Nat} {A : Around} (r : Room k A) : A.depth < recursionLimit := by have := r.dp; omega
theorem Room.units {k : Nat} {A : Around} (r : Room k A) : A.units + 64 < cLine := by have := r.un; omega
def tNil : TA := fun _ H Q => Q [] H
def tCons (ta : TE) (tr : TA) : TA := fun σ H Q => ta σ H fun x H1 => tr σ H1 fun xs H2 => Q (x :: xs) H2
section
variable {X : Cx} {e : Expr} {es : List Expr} {te : TE} {t : TA} {pos : Pos}
theorem pa_nil : PA X [] tNil := fun _ _ _ _ H Q I h => Calls.spliced_nil ⟨[], H, I, .nil, h⟩
theorem pa_cons (ha : PE X e te) (hr : PA X es t) (hs : starEach (e :: es) X.env = (false, eval e X.env) :: starEach es X.env := by rfl) : PA X (e :: es) (tCons te t) := by
  intro pos pins s σ H Q I h
  rw [hs]
  show wpAny _ _ (spliced ((false, eval e X.env) :: backTo pos (starEach es X.env))) _ _ s
  refine Calls.spliced_cons (thn (ha pins s σ H _ I h) fun u s1 ⟨x, H1, I1, r1, q1⟩ => ?_)
  exact thn (hr pos pins s1 σ H1 _ I1 q1) fun us s2 ⟨xs, H2, I2, r2, q2⟩ => ⟨x :: xs, H2, I2, .cons r1 r2, q2⟩
def tTup (t : TA) : TE := fun σ H Q => t σ H fun xs H1 => xs.length ≤ sizeLine ∧ ∀ p, H1 p = none → Q (.ref p) (upd H1 p (.tup xs))
def tLst (t : TA) : TE := fun σ H Q => t σ H fun xs H1 => xs.length ≤ sizeLine ∧ ∀ p, H1 p = none → Q (.ref p) (upd H1 p (.lst xs))
theorem pe_tup {x1} (h : PA X es t) : PE X (.Tuple es x1 pos) (tTup t) := by
  intro pins s σ H Q I hq
  refine wpAny_Tuple_spliced (thn (h pos pins s σ H _ I hq) fun us s1 ⟨xs, H1, I1, r, z, q⟩ => ⟨by rw [← r.length]; exact z, ?_⟩)
  have hf : H1 s1.heap.objs.size = none := I1.hok.fresh (Nat.le_refl _)
  refine ⟨.ref s1.heap.objs.size, upd H1 s1.heap.objs.size (.tup xs), I1.laid (t' := s1.toks) (fun b u e => Heap.get?_push_of_some _ e) (Nat.le_refl _) ?_, rfl, q _ hf⟩
  exact ⟨z, us, r, IsTupN.new _ _⟩
theorem pe_lst (h : PA X es t) : PE X (.List es pos) (tLst t) := by
  intro pins s σ H Q I hq
  refine wpAny_List_spliced (thn (h pos pins s σ H _ I hq) fun us s1 ⟨xs, H1, I1, r, z, q⟩ => ⟨by rw [← r.length]; exact z, ?_⟩)
  have hf : H1 s1.heap.objs.size = none := I1.hok.fresh (Nat.le_refl _)
  refine ⟨.ref s1.heap.objs.size, upd H1 s1.heap.objs.size (.lst xs), I1.laid (t' := s1.toks) (fun b u e => Heap.get?_push_of_some _ e) (Nat.le_refl _) ?_, rfl, q _ hf⟩
  exact ⟨z, us, 0, r, Heap.get?_push_size _ rfl⟩
end
abbrev Sp := List V → Hp → VK → XK → Prop
abbrev CXT := List Env → Hp → Shared → XK → Value → Shared → Prop
structure Env0 (P : Program) (w : World) (K : PySem.W.Frag) (mg : Str → Option Value) (base : Heap) (A : Around) (outer : List Env) (s : Shared) (H : Hp) : Prop where
  frames : A.frames = some outer
  mod : Mod K mg base
  bs : ∀ b o, base.get? b = some o → s.heap.get? b = some o ∧ H b = none
  bsz : base.objs.size ≤ s.heap.objs.size
  funs : s.heap.FunFrames base outer
  frf : ∀ b ∈ frs outer, H b = none
  hok : HOk P w H s.heap
  bare : AllBare s.gens
def CE (outer : List Env) (P : Program) (w : World) (H : Hp) (s : Shared) (Q : VK) (u : Value) (s' : Shared) : Prop :=
  ∃ v H', s'.os = s.os ∧ AllBare s'.gens ∧ Un (frs outer) [] H H' s.heap s'.heap ∧ HOk P w H' s'.heap ∧ RelV v u ∧ Q v H'
def CR (CX : CXT) (outer : List Env) (P : Program) (w : World) (H : Hp) (s : Shared) (Q : VK) (E : XK) (r : Result) (s' : Shared) : Prop :=
  match r with
  | .ok (.ret u) => CE outer P w H s Q u s'
  | .ok _ => False
  | .error e => CX outer H s E e s'
structure FnOk (P : Program) (w : World) (K : PySem.W.Frag) (mg : Str → Option Value) (base : Heap) (CX : CXT) (k : Nat) (f : Addr) (fd : FuncData) (ps : List Str) (sp : Sp) : Prop where
  len : ∀ vs H Q E, sp vs H Q E → vs.length = ps.length
  run : ∀ (A : Around) (outer : List Env) (s : Shared) (H : Hp) (args : Args) (us : List Value) (vs : List V) (Q : VK) (E : XK), Room k A → Env0 P w K mg base A outer s H → BindsTo s fd args (ps.zip us) → Vals vs us → sp vs H Q E →
    codeAny (model P w) A (.call (.ref f) args) (CR CX outer P w H s Q E) s
theorem FnOk.mono {P : Program} {w : World} {K : PySem.W.Frag} {mg : Str → Option Value} {base : Heap} {CX : CXT} {j k : Nat} {f : Addr} {fd : FuncData} {ps : List Str} {sp : Sp} (F : FnOk P w K mg base CX j f fd ps sp) (h : j ≤ k) :
    FnOk P w K mg base CX k f fd ps sp := ⟨F.len, fun A outer s H args us vs Q E hr => F.run A outer s H args us vs Q E (hr.mono h)⟩
section
variable {X : Cx} {pins : List (Addr × Obj)} {σ : St} {H : Hp} {s s' : Shared}
theorem Inv.env0 (I : Inv X pins σ H s) : Env0 X.prog X.w X.K X.mg X.base X.A X.stack s H :=
  ⟨I.ok.frames, I.ok.mod, I.bs, Nat.le_trans I.ok.bsz I.sz, I.stack, I.stkFree, I.hok, I.bare⟩
theorem Inv.after {Q : VK} {u : Value} (I : Inv X pins σ H s) (h : CE X.stack X.prog X.w H s Q u s') : EP X pins σ Q u s' := by
  obtain ⟨v, H', os, bare, un, hok, r, q⟩ := h
  obtain ⟨hh, g, d, t, os'⟩ := s'
  obtain rfl : os' = s.os := os
  exact ⟨v, H', I.call (h' := hh) (g' := g) (d' := d) (t' := t) (ch := []) un hok bare (fun b z => absurd z (by simp)), r, q⟩
end
def tCall (sp : Sp) (dvs : List V) (E : XK) (t : TA) : TE := fun σ H Q => t σ H fun vs H1 => sp (vs ++ dvs) H1 Q E
def Binds (K : PySem.W.Frag) (fd : FuncData) (ps : List Str) (ds : List Value) : Prop :=
  ∀ (s : Shared) (us : List Value), K.In s.heap → (us ++ ds).length = ps.length → BindsTo s fd ⟨us, []⟩ (ps.zip (us ++ ds))
theorem Binds.all {K : PySem.W.Frag} {fd : FuncData} {ps : List Str} (h : ∀ us : List Value, us.length = ps.length → bindArgs fd ⟨us, []⟩ = pure (ps.zip us)) : Binds K fd ps [] := fun s us _ hl => by
  rw [List.append_nil] at hl ⊢
  exact .of_eq (h us hl)
def Passes (CX : CXT) (X : Cx) (E : XK) : Prop := ∀ (pins : List (Addr × Obj)) (σ : St) (H : Hp) (s : Shared) (e : Value) (s' : Shared), Inv X pins σ H s → CX X.stack H s E e s' → X.xe e s'
section
variable {X : Cx} {CX : CXT} {k : Nat} {f C : Addr} {fd : FuncData} {ps : List Str} {sp : Sp} {dvs : List V} {ds : List Value} {E : XK} {x m : Str} {p pos apos : Pos} {e o : Expr} {es : List Expr} {ta : TE} {t : TA}
theorem run_fn {pins : List (Addr × Obj)} {σ : St} {H : Hp} {s : Shared} {Q : VK} {us : List Value} {vs : List V} (F : FnOk X.prog X.w X.K X.mg X.base CX k f fd ps sp) (hr : Room k X.A) (hb : Binds X.K fd ps ds) (hd : Vals dvs ds) (hx : Passes CX X E)
    (I : Inv X pins σ H s) (r : Vals vs us) (h : sp (vs ++ dvs) H Q E) : wpAny (model X.prog X.w) X.A (call (.ref f) us) (EP X pins σ Q) X.xe s := by
  have r2 : Vals (vs ++ dvs) (us ++ ds) := r.append hd
  have hl : (us ++ ds).length = ps.length := by rw [← r2.length]; exact F.len _ _ _ _ h
  refine wpAny_call (codeAny_mono (F.run X.A X.stack s H ⟨us, []⟩ (us ++ ds) (vs ++ dvs) Q E hr I.env0 (hb s us I.kIn hl) r2 h) fun r s' hq => ?_)
  cases r with
  | error e => exact hx pins σ H s e s' I hq
  | ok fl =>
    cases fl with
    | ret u => exact I.after hq
    | next => exact False.elim hq
    | brk => exact False.elim hq
    | cont => exact False.elim hq
theorem pe_call (F : FnOk X.prog X.w X.K X.mg X.base CX k f fd ps sp) (hr : Room k X.A) (hg : Gl X x) (hm : X.mg x = some (.ref f)) (hk : PySem.W.keepIn X.K (.ref f) = true) (hb : Binds X.K fd ps ds) (hd : Vals dvs ds) (hx : Passes CX X E)
    (ha : PA X (e :: es) t) (hdb : (x == ("__debug__" : Str)) = false := by decide) (he : starEach (e :: es) X.env = (false, eval e X.env) :: starEach es X.env := by rfl) (hpl : (backTo pos (starEach es X.env)).any (·.1) = false := by rfl) :
    PE X (.Call (.Name x p) (e :: es) [] pos) (tCall sp dvs E t) := by
  intro pins s σ H Q I h
  refine wpAny_Call_Name_kw (ld_glob I hg hm ?_ hdb)
  refine PySem.W.callWith_K (h₀ := X.base) I.ok.mod.kin hk (thn (ha pos pins s σ H _ I h) fun us s1 ⟨vs, H1, I1, r, q⟩ => ⟨I1.kIn, ?_⟩) he hpl
  exact run_fn F hr hb hd hx I1 r q
end
section
variable {X : Cx} {CX : CXT} {k : Nat} {f C : Addr} {fd : FuncData} {ps ks : List Str} {sp : Sp} {E : XK} {x m : Str} {p pos apos kpos : Pos} {e o : Expr} {es : List Expr} {kws : List Keyword} {te ta : TE} {t tk : TA} {nm : Option Str}
variable {g : List Value → List Value → List Value} {gV : List V → List V → List V}
end
structure FnScope (N P : List Str) (sc : Scope) : Prop where
  kind : sc.kind = .function
  co : sc.isCoroutine = false
  gen : sc.isGenerator = false
  nd : N.Nodup
  pre : N.take P.length = P
  par : ∀ x ∈ P, sc.names.lookup x = some .local ∨ sc.names.lookup x = some .cell
  nofree : ∀ y ∈ sc.names, y.2 ≠ .free
theorem bindL_out {kindOf : Str → Option NameKind} {x : Str} : ∀ {binds : List (Str × Value)} {m : Str → Option Value}, (∀ v, (x, v) ∉ binds) → bindL kindOf binds m x = m x
  | [], _, _ => rfl
  | (n, v) :: r, m, h => by
    unfold bindL
    rw [bindL_out fun w hw => h w (List.mem_cons_of_mem _ hw)]
    split
    · have : x ≠ n := by rintro rfl; exact h v List.mem_cons_self
      simp [this]
    · rfl
theorem bindC_out {kindOf : Str → Option NameKind} {x : Str} : ∀ {binds : List (Str × Value)} {m : Str → Option Value}, (∀ v, (x, v) ∉ binds) → bindC kindOf binds m x = m x
  | [], _, _ => rfl
  | (n, v) :: r, m, h => by
    unfold bindC
    rw [bindC_out fun w hw => h w (List.mem_cons_of_mem _ hw)]
    split
    · rfl
    · have : x ≠ n := by rintro rfl; exact h v List.mem_cons_self
      simp [this]
theorem bindL_get {kindOf : Str → Option NameKind} {x : Str} {v : Value} : ∀ {P : List Str} {vs : List Value} {i : Nat} {m : Str → Option Value}, P.Nodup → P[i]? = some x → vs[i]? = some v → kindOf x = some .local →
    bindL kindOf (P.zip vs) m x = some v
  | [], _, _, _, _, h, _, _ => by simp at h
  | _ :: _, [], _, _, _, _, h, _ => by simp at h
  | p :: P, w :: vs, 0, m, nd, h1, h2, hk => by
    simp at h1 h2; subst h1; subst h2
    show bindL kindOf ((p, w) :: P.zip vs) m p = _
    unfold bindL
    rw [bindL_out fun v hv => (List.nodup_cons.mp nd).1 (List.of_mem_zip hv).1, if_pos hk]
    simp
  | p :: P, w :: vs, i + 1, m, nd, h1, h2, hk => by
    show bindL kindOf ((p, w) :: P.zip vs) m x = _
    unfold bindL
    exact bindL_get (i := i) (List.nodup_cons.mp nd).2 (by simpa using h1) (by simpa using h2) hk
theorem bindC_get {kindOf : Str → Option NameKind} {x : Str} {v : Value} : ∀ {P : List Str} {vs : List Value} {i : Nat} {m : Str → Option Value}, P.Nodup → P[i]? = some x → vs[i]? = some v → kindOf x ≠ some .local →
    bindC kindOf (P.zip vs) m x = some v
  | [], _, _, _, _, h, _, _ => by simp at h
  | _ :: _, [], _, _, _, _, h, _ => by simp at h
  | p :: P, w :: vs, 0, m, nd, h1, h2, hk => by
    simp at h1 h2; subst h1; subst h2
    show bindC kindOf ((p, w) :: P.zip vs) m p = _
    unfold bindC
    rw [bindC_out fun v hv => (List.nodup_cons.mp nd).1 (List.of_mem_zip hv).1, if_neg hk]
    simp
  | p :: P, w :: vs, i + 1, m, nd, h1, h2, hk => by
    show bindC kindOf ((p, w) :: P.zip vs) m x = _
    unfold bindC
    exact bindC_get (i := i) (List.nodup_cons.mp nd).2 (by simpa using h1) (by simpa using h2) hk
def start (N : List Str) (vs : List V) : St := vs.map some ++ List.replicate (N.length - vs.length) none
def cxOf (CX : CXT) (P : Program) (w : World) (K : PySem.W.Frag) (mg : Str → Option Value) (base : Heap) (N : List Str) (qual : Str) (scope : Scope) (f : Addr) (cd : Value) (A : Around) (outer : List Env) (s : Shared) (H : Hp) (E : XK) : Cx where
  prog := P
  w := w
  K := K
  mg := mg
  base := base
  A := A.deeper (envOfC qual scope s.heap.objs.size f cd)
  N := N
  s₀ := s
  H₀ := H
  env := envOfC qual scope s.heap.objs.size f cd
  outer := outer
  stack := envOfC qual scope s.heap.objs.size f cd :: outer
  ex := []
  calm := true
  fn := fun _ => true
  pn := []
  xe := fun e s' => wpAny (model P w) (A.deeper (envOfC qual scope s.heap.objs.size f cd)) (leaving (envOfC qual scope s.heap.objs.size f cd) e) (fun _ s'' => CX outer H s E e s'') (fun e' s'' => CX outer H s E e' s'') s'
theorem cell_has {sc : Scope} {n : Nat} {x : Str} (h : sc.names.lookup x = some .cell) : ∃ c, (cellsFrom n sc.names []).lookup x = some c := by
  have q := PySem.W.cellsFrom_some sc.names n [] (.inl h)
  exact Option.isSome_iff_exists.mp q
theorem inv_start {CX : CXT} {P : Program} {w : World} {K : PySem.W.Frag} {mg : Str → Option Value} {base : Heap} {N ps : List Str} {qual : Str} {scope : Scope} {f : Addr} {cd : Value} {A : Around} {outer : List Env} {s s1 : Shared} {H : Hp} {E : XK} {us : List Value} {vs : List V}
    (S : FnScope N ps scope) (hd : A.handled = none) (e0 : Env0 P w K mg base A outer s H) (hl : vs.length = ps.length) (r : Vals vs us)
    (x : InCallC s s.heap.objs.size (bindL (envOfC qual scope s.heap.objs.size f cd).kindOf (ps.zip us) fun _ => none) (cellsFrom (s.heap.objs.size + 1) scope.names []) (bindC (envOfC qual scope s.heap.objs.size f cd).kindOf (ps.zip us) fun _ => none) s1) :
    Inv (cxOf CX P w K mg base N qual scope f cd A outer s H E) [] (start N vs) H s1 := by
  have hpl : ps.length ≤ N.length := by have := congrArg List.length S.pre; rw [List.length_take] at this; omega
  obtain ⟨h1, tk, rfl, hk⟩ := x.done
  have noA : ∀ b : Addr, b ∉ (cxOf CX P w K mg base N qual scope f cd A outer s H E).ex := fun b z => absurd (show b ∈ ([] : List Addr) from z) (by simp)
  refine ⟨⟨e0.mod, S.kind, rfl, rfl, Nat.le_refl _, fun y z c h1 h2 => ?_, fun y hy => ?_, fun y c _ h => ?_, fun _ => hd, Around.frames_deeper e0.frames, .inr ⟨rfl, rfl⟩, fun b z => absurd z (noA b), e0.bs, e0.bsz, fun b _ _ => noA b, fun b z => absurd z (noA b), e0.funs, e0.frf⟩,
    rfl, e0.bare, Un.kept hk, ⟨_, x.toInCall.ns, fun i y v h1 h2 h3 => ?_⟩, fun y c h => ⟨_, x.cell y c h⟩, e0.hok.fresh (Nat.le_refl _), fun y c h => ?_, fun p hp => absurd (show p ∈ ([] : List (Addr × Obj)) from hp) (by simp), e0.hok.kept hk, ?_⟩
  · exact name_of_addr x.apart (PySem.mem_of_lookup h1) (PySem.mem_of_lookup h2)
  · have hy : scope.names.lookup y = some .cell ∨ scope.names.lookup y = some .free := hy
    rcases hy with hy | hy
    · exact cell_has hy
    · exact absurd rfl (S.nofree _ (PySem.mem_of_lookup hy))
  · exact Nat.le_of_lt (x.above y c (PySem.mem_of_lookup h))
  · have hi : i < vs.length := by
      unfold start at h2
      by_cases hi : i < vs.length
      · exact hi
      · rw [List.getElem?_append_right (by simpa using hi)] at h2
        rw [List.getElem?_replicate] at h2
        split at h2 <;> cases h2
    have ha : vs[i]? = some v := by
      unfold start at h2
      rw [List.getElem?_append_left (by simpa using hi), List.getElem?_map] at h2
      cases e : vs[i]? with
      | none => rw [e] at h2; cases h2
      | some a => rw [e] at h2; cases h2; rfl
    obtain ⟨u, hu, rv⟩ := r.get ha
    have hp : ps[i]? = some y := by
      rw [← S.pre, List.getElem?_take_of_lt (by omega)]; exact h1
    have ndP : ps.Nodup := by rw [← S.pre]; exact S.nd.sublist (List.take_sublist _ _)
    refine ⟨u, rv, ?_⟩
    rcases S.par y (List.mem_of_getElem? hp) with k | k
    · exact .inl ⟨k, bindL_get ndP hp hu k⟩
    · obtain ⟨c, e⟩ := cell_has (n := s.heap.objs.size + 1) k
      refine .inr ⟨.inl k, c, e, ?_⟩
      have q := x.cell y c e
      rw [bindC_get ndP hp hu (by show scope.names.lookup y ≠ _; rw [k]; decide)] at q
      exact q
  · exact e0.hok.fresh (Nat.le_of_lt (x.above y c (PySem.mem_of_lookup h)))
  · unfold start
    show _ = N.length
    rw [List.length_append, List.length_map, List.length_replicate]
    omega
theorem fn_of {CX : CXT} {P : Program} {w : World} {K : PySem.W.Frag} {mg : Str → Option Value} {base : Heap} {k : Nat} {f : Addr} {name qual : Str} {params : Arguments} {body : List Stmt} {scope : Scope} {dV kV doc pm cdv ct oc : Value} {an od : Option Addr}
    {osl : Array (Option Value)} {N ps : List Str} {sp : Sp} (lk : K.lookup f = some ⟨oc, od, .func (PySem.W.fnOf name qual params body scope dV kV doc pm an cdv ct), osl⟩) (hcd : PySem.W.codeIn K cdv qual = true) (S : FnScope N ps scope)
    (len : ∀ vs H Q E, sp vs H Q E → vs.length = ps.length)
    (hbody : ∀ (A : Around) (outer : List Env) (s : Shared) (H : Hp) (vs : List V) (Q : VK) (E : XK), Room k (A.deeper (envOfC qual scope s.heap.objs.size f cdv)) → sp vs H Q E →
      ∃ t, PSs (cxOf CX P w K mg base N qual scope f cdv A outer s H E) body t ∧ t { nx := fun _ H' => Q .non H', rt := Q } (start N vs) H) :
    FnOk P w K mg base CX (k + 1) f (PySem.W.fnOf name qual params body scope dV kV doc pm an cdv ct) ps sp := by
  refine ⟨len, fun A outer s H args us vs Q E hr e0 hb r hsp => ?_⟩
  have hl := len _ _ _ _ hsp
  have KX : K.In s.heap := e0.mod.kin.keeps fun b o e => (e0.bs b o e).1
  have lim : s.heap.NoLimit := e0.mod.nolimit.keeps fun b o e => (e0.bs b o e).1
  have hkind : ∀ y ∈ ps.zip us, scope.names.lookup y.1 = some .local ∨ (scope.names.lookup y.1 = some .cell ∧ ((cellsFrom (s.heap.objs.size + 1) scope.names []).lookup y.1).isSome = true) := fun ⟨n, v⟩ hy => by
    rcases S.par n (List.of_mem_zip hy).1 with q | q
    · exact .inl q
    · exact .inr ⟨q, PySem.W.cellsFrom_some _ _ _ (.inl q)⟩
  refine codeAny_call_function hr.depth (KX _ _ lk) rfl S.co S.gen rfl (PySem.W.codeRec_of KX hcd) (hb _ _ _ _ ?_)
  refine wpAny_newFunctionEnv_cells S.kind hkind fun env he s1 x => ?_
  subst he
  refine ⟨lim.keeps x.toInCall.keep, codeAny_func ?_⟩
  obtain ⟨t, ht, hq⟩ := hbody A outer s H vs Q E (hr.deeper _) hsp
  have I : Inv (cxOf CX P w K mg base N qual scope f cdv A outer s H E) [] (start N vs) H s1 := inv_start S hr.hd e0 hl r x
  refine wpAny_mono (ht [] s1 (start N vs) H _ I hq) (fun fl s' hs => ?_) fun e s' hs => hs
  have fin : ∀ {σ' : St} {H' : Hp} {v : V} {u : Value}, Inv (cxOf CX P w K mg base N qual scope f cdv A outer s H E) [] σ' H' s' → RelV v u → Q v H' → CE outer P w H s Q u s' :=
    fun {σ' H' v u} J rv q => ⟨v, H', J.os, J.bare, J.base, J.hok, rv, q⟩
  cases fl with
  | ret u =>
    obtain ⟨v, σ', H', J, rv, q⟩ := hs
    exact fin J rv q
  | next =>
    obtain ⟨σ', H', J, q⟩ := hs
    exact fin (v := V.non) (u := Value.none) J rfl q
  | brk =>
    obtain ⟨_, _, _, q⟩ := hs
    exact False.elim q
  | cont =>
    obtain ⟨_, _, _, q⟩ := hs
    exact False.elim q
end L2
namespace L2
open PySem PySem.Spec PyProof.Rows
section
variable {X : Cx} {x : Str} {p pos : Pos} {e : Expr} {es : List Expr} {t : TA} {id T : String} {r : List V → Hp → VK → Prop}
def tCB (r : List V → Hp → VK → Prop) (t : TA) : TE := fun σ H Q => t σ H fun vs H1 => r vs H1 Q
theorem pe_callB (hc : CallR X (.builtin id) r) (hg : Gl X x) (hm : X.mg x = none) (hv : bootBuiltins x = some (.builtin id)) (ha : PA X (e :: es) t) (hn : x ≠ "__name__" := by decide) (hdb : (x == ("__debug__" : Str)) = false := by decide)
    (he : starEach (e :: es) X.env = (false, eval e X.env) :: starEach es X.env := by rfl) (hpl : (backTo pos (starEach es X.env)).any (·.1) = false := by rfl) : PE X (.Call (.Name x p) (e :: es) [] pos) (tCB r t) := by
  intro pins s σ H Q I h
  refine wpAny_Call_Name_kw (ld_blt I hg hm hv ?_ hn hdb)
  exact PyProof.Rows.callWith_builtin1 (thn (ha pos pins s σ H _ I h) fun us s1 ⟨vs, H1, I1, r1, q1⟩ => hc pins s1 σ H1 vs us Q I1 r1 q1) he hpl
theorem pe_callTy (hc : CallR X (.type T) r) (hg : Gl X x) (hm : X.mg x = none) (hv : bootBuiltins x = some (.type T)) (ha : PA X (e :: es) t) (hn : x ≠ "__name__" := by decide) (hdb : (x == ("__debug__" : Str)) = false := by decide)
    (he : starEach (e :: es) X.env = (false, eval e X.env) :: starEach es X.env := by rfl) (hpl : (backTo pos (starEach es X.env)).any (·.1) = false := by rfl) : PE X (.Call (.Name x p) (e :: es) [] pos) (tCB r t) := by
  intro pins s σ H Q I h
  refine wpAny_Call_Name_kw (ld_blt I hg hm hv ?_ hn hdb)
  exact PyProof.Rows.callWith_type1 (thn (ha pos pins s σ H _ I h) fun us s1 ⟨vs, H1, I1, r1, q1⟩ => hc pins s1 σ H1 vs us Q I1 r1 q1) he hpl
end
end L2
namespace HT
open PySem PyProof.Rows
section
open PySem.SeqAt
open PySem.AutoSeq1 (wpAny_loadPart')
open PySem.MeetsSeq PySem.MeetsSeq2 PySem.MeetsSeq3
end
section
variable {prog : Program} {w : World} {A : Around} {E : Value → Shared → Prop} {s : Shared}
theorem cat_tup {t b : Addr} {vs ws : List Value} {Q : Value → Shared → Prop} (ht : IsTup s.heap t vs.toArray) (hb : IsTup s.heap b ws.toArray) (hv : vs ≠ [])
    (h1 : ws = [] → Q (.ref t) s) (h2 : ws ≠ [] → Q (.ref s.heap.objs.size) { s with heap := s.heap.push { cls := .type "tuple", data := .seq (vs ++ ws).toArray } })
    (hsz : vs.length + ws.length ≤ sizeLine) : wpAny (model prog w) A (binaryOp .Add (.ref t) (.ref b)) Q E s := by
  obtain ⟨⟨cls, dd, data, sl⟩, ho, hc, n, hd⟩ := id ht
  obtain ⟨⟨cls2, dd2, data2, sl2⟩, ho2, hc2, n2, hd2⟩ := id hb
  simp only at hc hd hc2 hd2
  subst hc hd hc2 hd2
  have e : vs.toArray ++ ws.toArray = (vs ++ ws).toArray := by simp
  by_cases hw : ws = []
  · exact concat_meets ⟨_, ho, rfl⟩ ⟨_, ho2, rfl⟩ noFill_tuple_add seq_tuple_add PySem.F.slot_tuple_add PySem.F.entry_tuple_add (PySem.F.args_tuple_add_2 _ _)
      (tuple_addW1 t b vs.toArray ws.toArray n n2 dd dd2 sl sl2 (by simpa using hv) (by simp [hw])) ⟨ho, ho2, h1 hw⟩
  · refine concat_meets ⟨_, ho, rfl⟩ ⟨_, ho2, rfl⟩ noFill_tuple_add seq_tuple_add PySem.F.slot_tuple_add PySem.F.entry_tuple_add (PySem.F.args_tuple_add_2 _ _)
      (tuple_addW2 t b vs.toArray ws.toArray n n2 dd dd2 sl sl2 (by simpa using hv) (by simpa using hw) (by rw [List.size_toArray, List.size_toArray]; exact hsz)) ⟨ho, ho2, ?_⟩
    rw [e]
    exact h2 hw
def sIx (n d : Nat) : Option Int → Nat
  | none => d
  | some v => if v < 0 then (v + (n : Int)).toNat else min v.toNat n
theorem sIx_none (n d : Nat) : sIx n d none = d := rfl
theorem sIx_nat (n d k : Nat) : sIx n d (some (k : Int)) = min k n := by
  show (if (k : Int) < 0 then ((k : Int) + (n : Int)).toNat else min (k : Int).toNat n) = min k n
  rw [if_neg (by omega), Int.toNat_natCast]
theorem sIx_le (n d : Nat) (hd : d ≤ n) (o : Option Int) : sIx n d o ≤ n := by
  cases o with
  | none => exact hd
  | some v =>
    show (if v < 0 then (v + (n : Int)).toNat else min v.toNat n) ≤ n
    by_cases hv : v < 0
    · rw [if_pos hv]; omega
    · rw [if_neg hv]; exact Nat.min_le_right _ _
theorem clip_eq (v : Int) (n d : Nat) : (if v < 0 then max (v + (n : Int)) 0 else min v (n : Int)) = ((sIx n d (some v) : Nat) : Int) := by
  show (if v < 0 then max (v + (n : Int)) 0 else min v (n : Int)) = (((if v < 0 then (v + (n : Int)).toNat else min v.toNat n) : Nat) : Int)
  by_cases hv : v < 0
  · simp only [if_pos hv]; omega
  · simp only [if_neg hv]; omega
theorem adjust_gen (lo hi : Option Int) (n : Nat) : Builtin.Slice.sliceAdjust lo hi 1 (n : Int) = (((sIx n 0 lo : Nat) : Int), ((sIx n n hi : Nat) : Int)) := by
  have h1 : ¬ ((1 : Int) < 0) := by decide
  unfold Builtin.Slice.sliceAdjust
  simp only [h1, if_false]
  refine Prod.ext ?_ ?_
  · cases lo with
    | none => rfl
    | some v => exact clip_eq v n 0
  · cases hi with
    | none => rfl
    | some v => exact clip_eq v n n
theorem places_gen (i j : Nat) : Builtin.Slice.slicePlaces (i : Int) (j : Int) 1 = j - i := by
  unfold Builtin.Slice.slicePlaces
  have h1 : (1 : Int) > 0 := by decide
  simp only [h1, if_true, Int.ediv_one]
  split <;> omega
theorem slicePart_ {v : Value} {o : Option Int} {Q : Option Int → Shared → Prop} (p : IsPart v o) (h : Q o s) : wpAny (model prog w) A (Builtin.Slice.slicePartIndex v) Q E s := by
  cases p with
  | none => exact slicePart_none h
  | int i t => exact slicePart_int h
theorem sliceApplied_gen {sl : Addr} {vl vu : Value} {lo hi : Option Int} {n : Nat} {Q : Int × Int × Nat → Shared → Prop} (hs : s.heap.IsSliceOf sl vl vu .none) (pl : IsPart vl lo) (pu : IsPart vu hi)
    (h : Q (((sIx n 0 lo : Nat) : Int), 1, sIx n n hi - sIx n 0 lo) s) : wpAny (model prog w) A (Builtin.Slice.sliceApplied (.ref sl) (pure (n : Int))) Q E s := by
  obtain ⟨os, hos, hcs, hds⟩ := id hs
  unfold Builtin.Slice.sliceApplied Builtin.Slice.sliceFields
  refine wpAny_bind (wpAny_bind (wpAny_field hos hds (x := vl) rfl (wpAny_bind (wpAny_field hos hds (x := vu) rfl (wpAny_bind (wpAny_field hos hds (x := .none) rfl (wpAny_pure ?_)))))))
  refine wpAny_bind (slicePart_none ?_)
  show wpAny _ _ (if ((1 : Int) == 0) = true then _ else _) _ _ s
  rw [if_neg (by decide)]
  refine wpAny_bind (slicePart_ pl (wpAny_bind (slicePart_ pu (wpAny_bind (wpAny_pure ?_)))))
  show wpAny _ _ (match Builtin.Slice.sliceAdjust lo hi 1 (n : Int) with | (lo, hi) => pure (lo, (1 : Int), Builtin.Slice.slicePlaces lo hi 1)) _ _ s
  rw [adjust_gen lo hi n]
  show wpAny _ _ (pure (((sIx n 0 lo : Nat) : Int), (1 : Int), Builtin.Slice.slicePlaces ((sIx n 0 lo : Nat) : Int) ((sIx n n hi : Nat) : Int) 1)) _ _ s
  rw [places_gen]
  exact wpAny_pure h
theorem pick_gen (xs : Array Value) (i k : Nat) : ((List.range k).filterMap fun (m : Nat) => xs[((i : Int) + (m : Int) * 1).toNat]?).toArray = ((xs.toList.drop i).take k).toArray := by
  have e : (fun (m : Nat) => xs[((i : Int) + (m : Int) * 1).toNat]?) = fun m => xs[i + m]? := by
    funext m
    have : ((i : Int) + (m : Int) * 1).toNat = i + m := by omega
    rw [this]
  rw [e]
  have := pick_run xs i k
  rw [List.filterMap_map] at this
  have e2 : ((fun x => xs[x]?) ∘ fun x => i + x) = fun m => xs[i + m]? := rfl
  rw [e2] at this
  rw [this]
theorem getItem_tuple_cut {t sl : Addr} {items : Array Value} {vl vu : Value} {lo hi : Option Int} {Q : Value → Shared → Prop} (ht : IsTup s.heap t items) (hs : s.heap.IsSliceOf sl vl vu .none) (pl : IsPart vl lo) (pu : IsPart vu hi)
    (hw : ¬ (sIx items.size 0 lo = 0 ∧ sIx items.size items.size hi = items.size))
    (h : Q (.ref s.heap.objs.size) { s with heap := s.heap.push { cls := .type "tuple", data := .seq ((items.toList.drop (sIx items.size 0 lo)).take (sIx items.size items.size hi - sIx items.size 0 lo)).toArray } })
    (hsz : items.size ≤ sizeLine) : wpAny (model prog w) A (getItem (.ref t) (.ref sl)) Q E s := by
  have htake : sizeOk (.seq ((items.toList.drop (sIx items.size 0 lo)).take (sIx items.size items.size hi - sIx items.size 0 lo)).toArray) := by
    show ((items.toList.drop (sIx items.size 0 lo)).take (sIx items.size items.size hi - sIx items.size 0 lo)).toArray.size ≤ sizeLine
    rw [List.size_toArray, List.length_take, List.length_drop, Array.length_toList]
    omega
  have hj : sIx items.size items.size hi ≤ items.size := sIx_le _ _ (Nat.le_refl _) hi
  obtain ⟨os, hos, hcs, hds⟩ := id hs
  have hTs : s.TypeIs (.ref sl) "slice" := ⟨os, hos, hcs⟩
  unfold getItem
  try with_reducible refine wpAny_holding ?_
  first | refine wpAny_bind (wpAny_pure ?_) | skip
  refine wpAny_bind (wpAny_sequenceKey ht.typeIs (by decide) ?_)
  refine wpAny_bind (wpAny_callSpecial?_slot (name := Str.ofString "__getitem__") ht.typeIs PyProof.Rows.slot_tuple_getitem
    (wpAny_call_entry PyProof.Rows.slot_tuple_getitem ht.typeIs entry_tuple_getitem ?_ (args_tuple_getitem _ _)))
  show wpAny _ _ (Builtin.Tuple.tupleItemsOf (.ref t) >>= _) _ _ s
  refine wpAny_bind (tupleItemsOf_ ht ?_)
  refine wpAny_bind (wpAny_typeOf hTs ?_)
  rw [if_pos (by decide)]
  refine wpAny_bind (sliceApplied_gen hs pl pu ?_)
  have hno : ¬ ((((sIx items.size 0 lo : Nat) : Int) == 0 && (1 : Int) == 1 && (sIx items.size items.size hi - sIx items.size 0 lo) == items.size) = true) := by
    intro q
    rw [Bool.and_eq_true, Bool.and_eq_true] at q
    have q1 : ((sIx items.size 0 lo : Nat) : Int) = 0 := eq_of_beq q.1.1
    have q2 : sIx items.size items.size hi - sIx items.size 0 lo = items.size := eq_of_beq q.2
    exact hw ⟨by omega, by omega⟩
  show wpAny _ _ (if (((sIx items.size 0 lo : Nat) : Int) == 0 && (1 : Int) == 1 && (sIx items.size items.size hi - sIx items.size 0 lo) == items.size) = true then _ else _) _ _ s
  rw [if_neg hno, pick_gen]
  first
    | exact wpAny_bind (m := Builtin.Tuple.tupleExact _) (wpAny_newObj_type (wpAny_pure ⟨_, rfl, wpAny_pure h⟩) htake)
    | exact wpAny_bind (m := Builtin.Tuple.tupleExact _) (wpAny_newObj_type (wpAny_bind (wpAny_pure (wpAny_pure ⟨_, rfl, wpAny_pure h⟩))) htake)
    | exact wpAny_bind (wpAny_bind (m := Builtin.Tuple.tupleExact _) (wpAny_newObj_type (wpAny_pure (wpAny_pure ⟨_, rfl, wpAny_pure h⟩)) htake))
    | exact wpAny_bind (wpAny_bind (m := Builtin.Tuple.tupleExact _) (wpAny_newObj_type (wpAny_pure ⟨_, rfl, wpAny_pure h⟩) htake))
end
end HT
namespace L2
open PySem PySem.Spec PyProof.Rows
abbrev TO := St → Hp → (Option Int → Hp → Prop) → Prop
def PO (X : Cx) (e : Option Expr) (t : TO) : Prop :=
  ∀ (pins : List (Addr × Obj)) (s : Shared) (σ : St) (H : Hp) (Q : Option Int → Hp → Prop), Inv X pins σ H s → t σ H Q →
    wpAny (model X.prog X.w) X.A (evalPart e X.env) (fun u s' => ∃ o H', Inv X pins σ H' s' ∧ IsPart u o ∧ Q o H') X.xe s
def tNoPart : TO := fun _ H Q => Q none H
def tPart (t : TE) : TO := fun σ H Q => t σ H fun x H1 => ∃ i, x = .int i ∧ Q (some i) H1
theorem intsAre_of {ns : List Int} : ∀ {us : List Value}, Vals (ns.map V.int) us → IntsAre us ns := by
  induction ns with
  | nil => intro us r; rw [List.map_nil] at r; cases r; exact .nil
  | cons n ns ih =>
    intro us r
    rw [List.map_cons] at r
    cases r with
    | cons r1 r2 =>
      obtain ⟨t, e⟩ := r1
      subst e
      exact .cons n t (ih r2)
section
variable {X : Cx} {e : Expr} {te : TE} {lo hi : Option Expr} {tl th : TO} {pos p2 : Pos}
theorem po_none : PO X none tNoPart := by
  intro pins s σ H Q I h
  rw [evalPart_none]
  exact wpAny_pure ⟨none, H, I, .none, h⟩
theorem po_some (h : PE X e te) : PO X (some e) (tPart te) := by
  intro pins s σ H Q I hw
  rw [evalPart_some]
  refine thn (h pins s σ H _ I hw) fun u s1 ⟨x, H1, I1, r1, q1⟩ => ?_
  obtain ⟨i, rfl, q⟩ := q1
  obtain ⟨t, rfl⟩ := r1
  exact ⟨some i, H1, I1, .int i t, q⟩
def SlR (X : Cx) (r : V → Option Int → Option Int → Hp → VK → Prop) : Prop :=
  ∀ (pins : List (Addr × Obj)) (s : Shared) (σ : St) (H : Hp) (x : V) (v vl vu : Value) (lo hi : Option Int) (sl : Addr) (Q : VK), Inv X pins σ H s → RelV x v → s.heap.IsSliceOf sl vl vu .none → IsPart vl lo → IsPart vu hi → r x lo hi H Q →
    ∃ T id, typeLookup (.type T) "__getitem__" = pure (some (.builtin id)) ∧ s.TypeIs v T ∧ wpAny (model X.prog X.w) X.A (getItem v (.ref sl)) (EP X pins σ Q) X.xe s
def tSl (r : V → Option Int → Option Int → Hp → VK → Prop) (te : TE) (tl th : TO) : TE := fun σ H Q => te σ H fun x H1 => tl σ H1 fun l H2 => th σ H2 fun u H3 => r x l u H3 Q
theorem pe_slice {r : V → Option Int → Option Int → Hp → VK → Prop} (hr : SlR X r) (he : PE X e te) (hl : PO X lo tl) (hu : PO X hi th) : PE X (.Subscript e (.Slice lo hi none p2) pos) (tSl r te tl th) := by
  intro pins s σ H Q I h
  refine Subscript_ (thn (he pins s σ H _ I h) fun v s1 ⟨x, H1, I1, r1, q1⟩ => ?_)
  refine wpAny_Slice (thn (hl pins s1 σ H1 _ I1 q1) fun vl s2 ⟨l, H2, I2, pl, q2⟩ => thn (hu pins s2 σ H2 _ I2 q2) fun vu s3 ⟨u, H3, I3, pu, q3⟩ => ?_)
  rw [evalPart_none]
  refine wpAny_pure ?_
  have I4 : Inv X pins σ H3 { s3 with heap := s3.heap.push { cls := .type "slice", data := .fields #[vl, vu, .none] } } := I3.kept (t' := s3.toks) fun b ob q => Heap.get?_push_of_some _ q
  obtain ⟨T, id, hT, ht, hg⟩ := hr pins { s3 with heap := s3.heap.push { cls := .type "slice", data := .fields #[vl, vu, .none] } } σ H3 x v vl vu l u s3.heap.objs.size Q I4 r1 (Heap.IsSliceOf.new ..) pl pu q3
  show wpAny (model X.prog X.w) X.A (subscriptTail e (.Slice lo hi none p2) v (.ref s3.heap.objs.size)) (EP X pins σ Q) X.xe { s3 with heap := s3.heap.push { cls := .type "slice", data := .fields #[vl, vu, .none] } }
  exact tail_any (ops := [.ref s3.heap.objs.size, v]) ht hT hg (by with_unfolding_all rfl)
def cutV (xs : List V) (lo hi : Option Int) : List V := (xs.drop (HT.sIx xs.length 0 lo)).take (HT.sIx xs.length xs.length hi - HT.sIx xs.length 0 lo)
theorem cutV_length (xs : List V) (lo hi : Option Int) : (cutV xs lo hi).length ≤ xs.length := by
  unfold cutV
  rw [List.length_take, List.length_drop]
  omega
inductive RSlTP (K : PySem.W.Frag) (x : V) (lo : Option Int) (hi : Option Int) (H : Hp) (Q : VK) : Prop
  | mk (a xs : _) : (x = .ref a) → (SqT K H a xs) → (¬ (HT.sIx xs.length 0 lo = 0 ∧ HT.sIx xs.length xs.length hi = xs.length)) → (∀ p, H p = none → Q (.ref p) (upd H p (.tup (cutV xs lo hi)))) → RSlTP K x lo hi H Q
def rSlT (K : PySem.W.Frag) : V → Option Int → Option Int → Hp → VK → Prop := fun x lo hi H Q => RSlTP K x lo hi H Q
theorem sl_tup : SlR X (rSlT X.K) := by
  intro pins s σ H x v vl vu lo hi sl Q I rx hs pl pu h
  obtain ⟨a, xs, rfl, hx, hw, q⟩ := h
  cases rx
  obtain ⟨its, r, ht, hz⟩ := I.tuple hx
  have hlen : its.toArray.size = xs.length := by rw [List.size_toArray]; exact r.length.symm
  refine ⟨"tuple", _, PyProof.Rows.slot_tuple_getitem.lookup, ht.typeIs, ?_⟩
  refine HT.getItem_tuple_cut ht hs pl pu (by rw [hlen]; exact hw) ?_ (by rw [hlen]; exact hz)
  rw [hlen]
  refine ⟨.ref s.heap.objs.size, _, I.laid (t' := s.toks) (o := .tup (cutV xs lo hi)) (fun b ob q => Heap.get?_push_of_some _ q) (Nat.le_refl _) ?_, rfl, q _ (I.hok.fresh (Nat.le_refl _))⟩
  exact ⟨Nat.le_trans (cutV_length xs lo hi) hz, _, (r.drop (HT.sIx xs.length 0 lo)).take (HT.sIx xs.length xs.length hi - HT.sIx xs.length 0 lo), IsTupN.new _ _⟩
theorem Vals.nil_iff {xs : List V} {us : List Value} (r : Vals xs us) : us = [] ↔ xs = [] := by
  cases r with
  | nil => simp
  | cons _ _ => simp
end
end L2
namespace L2
open PySem PySem.Spec PyProof.Rows
def ixN (n : Nat) (i : Int) : Option Nat := if 0 ≤ i then (if i < n then some i.toNat else none) else if -(n : Int) ≤ i then some (i + n).toNat else none
def atI {α : Type} (xs : List α) (i : Int) : Option α := (ixN xs.length i).bind fun j => xs[j]?
theorem ixN_seq {n : Nat} {i : Int} {j : Nat} (h : ixN n i = some j) : seqIndex? i n = some j ∧ j < n ∧ -(n : Int) ≤ i ∧ i < n := by
  unfold ixN at h
  by_cases h0 : 0 ≤ i
  · rw [if_pos h0] at h
    by_cases h1 : i < n
    · rw [if_pos h1] at h
      have e : i.toNat = j := Option.some.inj h
      exact ⟨by rw [seqIndex_of h0 h1, e], by omega, by omega, h1⟩
    · rw [if_neg h1] at h; cases h
  · rw [if_neg h0] at h
    by_cases h1 : -(n : Int) ≤ i
    · rw [if_pos h1] at h
      have e : (i + n).toNat = j := Option.some.inj h
      exact ⟨by rw [seqIndex_neg (by omega) h1, e], by omega, h1, by omega⟩
    · rw [if_neg h1] at h; cases h
theorem atI_get {α : Type} {xs : List α} {i : Int} {v : α} (h : atI xs i = some v) : ∃ j, seqIndex? i xs.length = some j ∧ xs[j]? = some v ∧ j < xs.length ∧ -(xs.length : Int) ≤ i ∧ i < xs.length := by
  unfold atI at h
  cases e : ixN xs.length i with
  | none => rw [e] at h; cases h
  | some j =>
    rw [e] at h
    obtain ⟨h1, h2, h3, h4⟩ := ixN_seq e
    exact ⟨j, h1, h, h2, h3, h4⟩
theorem atI_nat {α : Type} {xs : List α} {j : Nat} {v : α} (h : xs[j]? = some v) : atI xs (j : Int) = some v := by
  have hj : j < xs.length := (List.getElem?_eq_some_iff.mp h).1
  have e : ixN xs.length (j : Int) = some j := by
    unfold ixN
    rw [if_pos (by exact Int.natCast_nonneg _), if_pos (by omega)]; simp
  unfold atI; rw [e]; exact h
theorem atI_last {α : Type} (xs : List α) (v : α) : atI (xs ++ [v]) (-1) = some v := by
  have hl : (xs ++ [v]).length = xs.length + 1 := by simp
  have e : ixN (xs ++ [v]).length (-1) = some xs.length := by
    unfold ixN
    rw [hl, if_neg (by decide), if_pos (by omega)]
    congr 1
    omega
  unfold atI
  rw [e]
  show (xs ++ [v])[xs.length]? = some v
  simp
def PlainIx (b : Expr) : Prop := ∀ o i, subscripted b false o i = operate [o, i] (getItem o i)
def IxR (X : Cx) (r : R2) : Prop :=
  ∀ (value slice : Expr) (pins : List (Addr × Obj)) (s : Shared) (σ : St) (H : Hp) (x y : V) (v u : Value) (Q : VK), Inv X pins σ H s → RelV x v → RelV y u → r x y H Q →
    subscripted slice false v u = operate [v, u] (getItem v u) → wpAny (model X.prog X.w) X.A (subscriptTail value slice v u) (EP X pins σ Q) X.xe s
def MtR (X : Cx) (id : String) (r : V → List V → Hp → VK → Prop) : Prop :=
  ∀ (pins : List (Addr × Obj)) (s : Shared) (σ : St) (H : Hp) (x : V) (xs : List V) (v : Value) (us : List Value) (Q : VK), Inv X pins σ H s → RelV x v → Vals xs us → r x xs H Q →
    wpAny (model X.prog X.w) X.A (call (.builtin id) (v :: us)) (EP X pins σ Q) X.xe s
section
variable {X : Cx} {a b : Expr} {ta tb : TE} {pos : Pos}
theorem pe_ix {r : R2} (hr : IxR X r) (ha : PE X a ta) (hb : PE X b tb) (hs : PlainIx b) : PE X (.Subscript a b pos) (tOp r ta tb) := by
  intro pins s σ H Q I h
  exact Subscript_ (binT ha hb I h fun v u s2 x y H2 I2 rx ry q => hr a b pins s2 σ H2 x y v u Q I2 rx ry q (hs _ _))
inductive RIxLP (K : PySem.W.Frag) (x : V) (y : V) (H : Hp) (Q : VK) : Prop
  | mk (p xs i v : _) : (x = .ref p) → (y = .int i) → (SqL K H p xs) → (atI xs i = some v) → (Q v H) → RIxLP K x y H Q
def rIxL (K : PySem.W.Frag) : R2 := fun x y H Q => RIxLP K x y H Q
inductive RIxTP (K : PySem.W.Frag) (x : V) (y : V) (H : Hp) (Q : VK) : Prop
  | mk (p xs i v : _) : (x = .ref p) → (y = .int i) → (SqT K H p xs) → (atI xs i = some v) → (Q v H) → RIxTP K x y H Q
def rIxT (K : PySem.W.Frag) : R2 := fun x y H Q => RIxTP K x y H Q
inductive RIxSP (x : V) (y : V) (H : Hp) (Q : VK) : Prop
  | mk (z i c : _) : (x = .str z) → (y = .int i) → (z.length ≤ sizeLine) → (atI z.cps.toList i = some c) → (Q (.str ⟨#[c]⟩) H) → RIxSP x y H Q
def rIxS : R2 := fun x y H Q => RIxSP x y H Q
theorem ix_list : IxR X (rIxL X.K) := by
  intro value slice pins s σ H x y v u Q I rx ry h hs
  obtain ⟨p, xs, i, z, rfl, rfl, hq, he, q⟩ := h
  cases rx
  obtain ⟨t, rfl⟩ := ry
  obtain ⟨its, r, pl, hz⟩ := I.list hq
  obtain ⟨j, h1, h2, h3, h4, h5⟩ := atI_get he
  obtain ⟨w, ew, rw'⟩ := r.get h2
  have hl := r.length
  have hn := line63
  have fin : EP X pins σ Q w s := ⟨z, H, I, rw', q⟩
  by_cases h0 : 0 ≤ i
  · have hj : i.toNat = j := by
      rw [seqIndex_of h0 h5] at h1
      exact Option.some.inj h1
    exact item_listR pl.isList h0 (by omega) (by rw [hj]; simpa using ew) fin hs
  · have hj : (i + (its.toArray.size : Int)).toNat = j := by
      rw [seqIndex_neg (by omega) h4] at h1
      rw [List.size_toArray, ← hl]
      exact Option.some.inj h1
    exact subscriptTail_builtinR (x := w) pl.isList.typeIs slot_list_getitem.lookup
      (wpAny_getItem_list_neg (Q := fun r s' => r = w ∧ EP X pins σ Q r s') pl.isList (by omega) (by rw [List.size_toArray] <;> omega) (by omega) (by rw [hj]; simpa using ew) ⟨rfl, fin⟩) hs
theorem ix_tup : IxR X (rIxT X.K) := by
  intro value slice pins s σ H x y v u Q I rx ry h hs
  obtain ⟨p, xs, i, z, rfl, rfl, hq, he, q⟩ := h
  cases rx
  obtain ⟨t, rfl⟩ := ry
  obtain ⟨its, r, pl, hz⟩ := I.tuple hq
  obtain ⟨j, h1, h2, h3, h4, h5⟩ := atI_get he
  obtain ⟨w, ew, rw'⟩ := r.get h2
  have hl := r.length
  have hn := line63
  have fin : EP X pins σ Q w s := ⟨z, H, I, rw', q⟩
  exact subscriptTail_builtinR (x := w) pl.typeIs slot_tuple_getitem.lookup
    (getItem_tuple (j := j) (Q := fun r s' => r = w ∧ EP X pins σ Q r s') pl (by omega) (by omega) (by rw [List.size_toArray, ← hl]; exact h1) (by simpa using ew) ⟨rfl, fin⟩) hs
theorem ix_str : IxR X rIxS := by
  intro value slice pins s σ H x y v u Q I rx ry h hs
  obtain ⟨z, i, c, rfl, rfl, hz, he, q⟩ := h
  obtain ⟨t, rfl⟩ := rx
  obtain ⟨t', rfl⟩ := ry
  obtain ⟨j, h1, h2, h3, h4, h5⟩ := atI_get he
  have hl : z.cps.toList.length = z.length := by simp [Str.length]
  rw [hl] at h1 h4 h5
  have hn := line63
  exact tail_any (typeIs_str s z t) slot_str_getitem.lookup (getItem_str (c := c) (by
    have e1 : decide (i < -(2 ^ 63 : Int)) = false := decide_eq_false (by omega)
    have e2 : decide (i ≥ 2 ^ 63) = false := decide_eq_false (by omega)
    rw [e1, e2, Bool.or_false]) (by rw [h1]; simpa using h2) ⟨.str ⟨#[c]⟩, H, I.tok _, ⟨_, rfl⟩, q⟩) hs
theorem mapSeq_set (its : List Value) (n j : Nat) (u : Value) : Obj.mapSeq (·.setIfInBounds j u) { cls := .type "list", data := .seq its.toArray n } = { cls := .type "list", data := .seq (its.set j u).toArray n } := by
  simp [Obj.mapSeq]
theorem Inv.lst {pins : List (Addr × Obj)} {σ : St} {H : Hp} {s : Shared} {p : Addr} {xs : List V} (I : Inv X pins σ H s) (h : H p = some (.lst xs)) :
    ∃ (its : List Value) (n : Nat), Vals xs its ∧ s.heap.get? p = some { cls := .type "list", data := .seq its.toArray n } ∧ xs.length ≤ sizeLine := by
  obtain ⟨z, its, n, r, e⟩ := I.hok p _ h
  exact ⟨its, n, r, e, z⟩
theorem Inv.lstUpd {pins : List (Addr × Obj)} {σ : St} {H : Hp} {s : Shared} {p : Addr} {xs ys : List V} {its its' : List Value} {n n' : Nat} {f : Obj → Obj} (I : Inv X pins σ H s) (h : H p = some (.lst xs))
    (ho : s.heap.get? p = some { cls := .type "list", data := .seq its.toArray n }) (hf : f { cls := .type "list", data := .seq its.toArray n } = { cls := .type "list", data := .seq its'.toArray n' }) (r : Vals ys its') (hz : ys.length ≤ sizeLine) (t : Nat) :
    Inv X pins σ (upd H p (.lst ys)) { s with heap := s.heap.update p f, toks := t } := by
  have e : (s.heap.update p f).get? p = some { cls := .type "list", data := .seq its'.toArray n' } := by
    rw [Heap.get?_update_self f ho (by rw [hf] <;> rfl), hf]
  refine I.write (x := p) (e := p) (by rw [h]; trivial) (.inl rfl) (fun b u hb q => (Heap.get?_update_other _ _ (Ne.symm hb)).trans q) ⟨_, e⟩ ?_
  exact ⟨hz, its', n', r, e⟩
inductive RSetLP (o : V) (i : V) (v : V) (H : Hp) (Q : (Hp → Prop)) : Prop
  | mk (p xs k j : _) : (o = .ref p) → (i = .int k) → (H p = some (.lst xs)) → (ixN xs.length k = some j) → (Q (upd H p (.lst (xs.set j v)))) → RSetLP o i v H Q
def rSetL : V → V → V → Hp → (Hp → Prop) → Prop := fun o i v H Q => RSetLP o i v H Q
theorem set_list : PSet X rSetL := by
  intro pins s σ H o i v ov iv u Q I ro ri rv h
  obtain ⟨p, xs, k, j, rfl, rfl, hp, hj, q⟩ := h
  cases ro
  obtain ⟨t, rfl⟩ := ri
  obtain ⟨its, n, r, ho, hz⟩ := I.lst hp
  obtain ⟨h1, h2, h3, h4⟩ := ixN_seq hj
  have hl := r.length
  have hn := line63
  have I' : Inv X pins σ (upd H p (.lst (xs.set j v))) { s with heap := s.heap.update p (Obj.mapSeq (·.setIfInBounds j u)) } :=
    I.lstUpd hp ho (mapSeq_set its n j u) (r.set rv j) (by rw [List.length_set]; exact hz) s.toks
  by_cases h0 : 0 ≤ k
  · have hk : k.toNat = j := by
      rw [seqIndex_of h0 h4] at h1
      exact Option.some.inj h1
    exact PySem.W.ki_setAt ho h0 (by omega) (by rw [List.size_toArray, ← hl]; exact h4) (by rw [hk]; exact ⟨_, I', q⟩)
  · have hk : (k + (its.toArray.size : Int)).toNat = j := by
      rw [seqIndex_neg (by omega) h3] at h1
      rw [List.size_toArray, ← hl]
      exact Option.some.inj h1
    exact PySem.W.ki_setBack ho (by omega) (by rw [List.size_toArray, ← hl]; exact h3) (by omega) (by rw [hk]; exact ⟨_, I', q⟩)
theorem slice_bounds (lo hi : Option Int) (n : Nat) : (sliceBounds lo hi none n).1 = ((HT.sIx n 0 lo : Nat) : Int) ∧ (sliceBounds lo hi none n).2.1 = ((HT.sIx n n hi : Nat) : Int) ∧ (sliceBounds lo hi none n).2.2 = 1 := by
  refine ⟨?_, ?_, rfl⟩
  · cases lo with
    | none => simp [sliceBounds, HT.sIx]
    | some i =>
      simp only [sliceBounds, HT.sIx, Option.getD_none, show (1 : Int) > 0 by decide, if_true]
      by_cases h : i < 0
      · simp only [h, if_true] <;> omega
      · simp only [h, if_false] <;> omega
  · cases hi with
    | none => simp [sliceBounds, HT.sIx]
    | some i =>
      simp only [sliceBounds, HT.sIx, Option.getD_none, show (1 : Int) > 0 by decide, if_true]
      by_cases h : i < 0
      · simp only [h, if_true] <;> omega
      · simp only [h, if_false] <;> omega
theorem slicePick_cut (its : List Value) (lo hi : Option Int) : slicePick its.toArray lo hi none = ((its.drop (HT.sIx its.length 0 lo)).take (HT.sIx its.length its.length hi - HT.sIx its.length 0 lo)).toArray := by
  obtain ⟨h1, h2, h3⟩ := slice_bounds lo hi its.toArray.size
  unfold slicePick
  rw [h1, h2, h3]
  simp only [sliceRange_one, pick_run, List.size_toArray] <;> rfl
inductive RSlLP (K : PySem.W.Frag) (x : V) (lo : Option Int) (hi : Option Int) (H : Hp) (Q : VK) : Prop
  | mk (a xs : _) : (x = .ref a) → (SqL K H a xs) → (∀ p, H p = none → Q (.ref p) (upd H p (.lst (cutV xs lo hi)))) → RSlLP K x lo hi H Q
def rSlL (K : PySem.W.Frag) : V → Option Int → Option Int → Hp → VK → Prop := fun x lo hi H Q => RSlLP K x lo hi H Q
theorem sl_list : SlR X (rSlL X.K) := by
  intro pins s σ H x v vl vu lo hi sl Q I rx hs pl pu h
  obtain ⟨a, xs, rfl, hx, q⟩ := h
  cases rx
  obtain ⟨its, r, ht, hz⟩ := I.list hx
  have hlen := r.length
  refine ⟨"list", _, slot_list_getitem.lookup, ht.isList.typeIs, ?_⟩
  refine wpAny_getItem_list_slice ht.isList hs pl pu .none (by simp) ?_ (by rw [List.size_toArray] <;> omega)
  rw [slicePick_cut, ← hlen]
  refine ⟨.ref s.heap.objs.size, _, I.laid (t' := s.toks) (o := .lst (cutV xs lo hi)) (fun b ob q => Heap.get?_push_of_some _ q) (Nat.le_refl _) ?_, rfl, q _ (I.hok.fresh (Nat.le_refl _))⟩
  exact ⟨Nat.le_trans (cutV_length xs lo hi) hz, _, 0, (r.drop (HT.sIx xs.length 0 lo)).take (HT.sIx xs.length xs.length hi - HT.sIx xs.length 0 lo), Heap.get?_push_size _ rfl⟩
def flatV : V → Bool
  | .non => true
  | .bl _ => true
  | .int _ => true
  | .str _ => true
  | _ => false
def eqV : V → V → Bool
  | .non, .non => true
  | .bl a, .bl b => a == b
  | .bl a, .int b => (if a then 1 else 0) == b
  | .int a, .bl b => a == (if b then 1 else 0)
  | .int a, .int b => a == b
  | .str a, .str b => a == b
  | _, _ => false
theorem eqAt_V {A : Around} {s : Shared} {y x : V} {u v : Value} (ry : RelV y u) (rx : RelV x v) (fy : flatV y = true) (fx : flatV x = true) : SeqAt.EqAt A s u v (eqV y x) := by
  cases y with
  | non =>
    cases ry
    cases x with
    | non => cases rx; exact SeqAt.EqAt.same _
    | bl b => cases rx; exact SeqAt.EqAt.none_bool b
    | int b => obtain ⟨t, rfl⟩ := rx; exact SeqAt.EqAt.none_int b t
    | str b => obtain ⟨t, rfl⟩ := rx; exact SeqAt.EqAt.none_str b t
    | _ => exact absurd (show false = true from fx) Bool.false_ne_true
  | bl a =>
    cases ry
    cases x with
    | non => cases rx; exact SeqAt.EqAt.bool_none a
    | bl b => cases rx; exact SeqAt.EqAt.bool_bool a b
    | int b => obtain ⟨t, rfl⟩ := rx; exact SeqAt.EqAt.bool_int a b t
    | str b => obtain ⟨t, rfl⟩ := rx; exact SeqAt.EqAt.bool_str a b t
    | _ => exact absurd (show false = true from fx) Bool.false_ne_true
  | int a =>
    obtain ⟨t', rfl⟩ := ry
    cases x with
    | non => cases rx; exact SeqAt.EqAt.int_none a t'
    | bl b => cases rx; exact SeqAt.EqAt.int_bool a t' b
    | int b => obtain ⟨t, rfl⟩ := rx; exact SeqAt.EqAt.int_int a t' b t
    | str b => obtain ⟨t, rfl⟩ := rx; exact SeqAt.EqAt.int_str a t' b t
    | _ => exact absurd (show false = true from fx) Bool.false_ne_true
  | str a =>
    obtain ⟨t', rfl⟩ := ry
    cases x with
    | non => cases rx; exact SeqAt.EqAt.str_none a t'
    | bl b => cases rx; exact SeqAt.EqAt.str_bool a t' b
    | int b => obtain ⟨t, rfl⟩ := rx; exact SeqAt.EqAt.str_int a t' b t
    | str b => obtain ⟨t, rfl⟩ := rx; exact SeqAt.EqAt.str_str a t' b t
    | _ => exact absurd (show false = true from fx) Bool.false_ne_true
  | _ => exact absurd (show false = true from fy) Bool.false_ne_true
def eqU (x : V) (u : Value) : Bool := match u with
  | .none => eqV .non x
  | .bool b => eqV (.bl b) x
  | .int i _ => eqV (.int i) x
  | .str z _ => eqV (.str z) x
  | _ => false
theorem eqU_of {x y : V} {u : Value} (r : RelV y u) (f : flatV y = true) : eqU x u = eqV y x := by
  cases y with
  | non => cases r; rfl
  | bl b => cases r; rfl
  | int i => obtain ⟨t, rfl⟩ := r; rfl
  | str z => obtain ⟨t, rfl⟩ := r; rfl
  | _ => exact absurd (show false = true from f) Bool.false_ne_true
theorem any_eqU {x : V} : ∀ {xs : List V} {us : List Value}, Vals xs us → xs.all flatV = true → us.any (eqU x) = xs.any fun y => eqV y x
  | _, _, .nil, _ => rfl
  | y :: xs, u :: us, .cons r t, f => by
    rw [List.all_cons, Bool.and_eq_true] at f
    rw [List.any_cons, List.any_cons, eqU_of r f.1, any_eqU t f.2]
theorem mem_eqAt {A : Around} {s : Shared} {x : V} {v : Value} (rx : RelV x v) (fx : flatV x = true) : ∀ {xs : List V} {us : List Value}, Vals xs us → xs.all flatV = true → ∀ u ∈ us, SeqAt.EqAt A s u v (eqU x u)
  | _, _, .nil, _ => fun u hu => by cases hu
  | y :: xs, u :: us, .cons r t, f => fun u' hu => by
    rw [List.all_cons, Bool.and_eq_true] at f
    rcases List.mem_cons.mp hu with rfl | hu
    · rw [eqU_of r f.1]; exact eqAt_V r rx f.1 fx
    · exact mem_eqAt rx fx t f.2 u' hu
def inV (x : V) (xs : List V) : Bool := xs.any fun y => eqV y x
inductive RInP (K : PySem.W.Frag) (neg : Bool) (x : V) (y : V) (H : Hp) (Q : VK) : Prop
  | mk (p xs : _) : (y = .ref p) → ((SqL K H p xs ∨ SqT K H p xs)) → (flatV x = true) → (xs.all flatV = true) → (Q (.bl (if neg then !inV x xs else inV x xs)) H) → RInP K neg x y H Q
def rIn (K : PySem.W.Frag) (neg : Bool) : R2 := fun x y H Q => RInP K neg x y H Q
theorem op_in_seq : OpR X (compareOp .In) (rIn X.K false) := by
  intro pins s σ H x y v u Q I rx ry h
  obtain ⟨p, xs, rfl, hq, fx, fs, q⟩ := h
  cases ry
  rcases hq with hq | hq
  · obtain ⟨its, r, pl, hz⟩ := I.list hq
    refine SeqAt.in_listAt (eqU x) pl.isList (fun w hw => mem_eqAt rx fx r fs w (by simpa using hw)) ⟨.bl _, H, I, rfl, ?_⟩
    rw [show its.toArray.any (eqU x) = its.any (eqU x) by simp, any_eqU r fs]
    exact q
  · obtain ⟨its, r, pl, hz⟩ := I.tuple hq
    refine SeqAt.in_tupleAt (eqU x) pl (fun w hw => mem_eqAt rx fx r fs w (by simpa using hw)) ⟨.bl _, H, I, rfl, ?_⟩
    rw [show its.toArray.any (eqU x) = its.any (eqU x) by simp, any_eqU r fs]
    exact q
theorem op_notIn_seq : OpR X (compareOp .NotIn) (rIn X.K true) := by
  intro pins s σ H x y v u Q I rx ry h
  obtain ⟨p, xs, rfl, hq, fx, fs, q⟩ := h
  cases ry
  rcases hq with hq | hq
  · obtain ⟨its, r, pl, hz⟩ := I.list hq
    refine SeqAt.notIn_listAt (eqU x) pl.isList (fun w hw => mem_eqAt rx fx r fs w (by simpa using hw)) ⟨.bl _, H, I, rfl, ?_⟩
    rw [show its.toArray.any (eqU x) = its.any (eqU x) by simp, any_eqU r fs]
    exact q
  · obtain ⟨its, r, pl, hz⟩ := I.tuple hq
    refine SeqAt.notIn_tupleAt (eqU x) pl (fun w hw => mem_eqAt rx fx r fs w (by simpa using hw)) ⟨.bl _, H, I, rfl, ?_⟩
    rw [show its.toArray.any (eqU x) = its.any (eqU x) by simp, any_eqU r fs]
    exact q
theorem call_len_seq : CallR X (.builtin "len") (fun xs H Q => ∃ p ys, xs = [.ref p] ∧ (SqL X.K H p ys ∨ SqT X.K H p ys) ∧ Q (.int ys.length) H) := by
  intro pins s σ H xs us Q I r h
  obtain ⟨p, ys, rfl, hq, q⟩ := h
  obtain ⟨u, rfl, rx⟩ := vals1 r
  cases rx
  have hn := line63
  rcases hq with hq | hq
  · obtain ⟨its, r', pl, hz⟩ := I.list hq
    have hlen := r'.length
    exact Calls.call_len_list pl.isList (by simp only [List.size_toArray] <;> omega) ⟨.int ys.length, H, I.tok _, ⟨s.toks + 1, by rw [List.size_toArray, hlen]⟩, q⟩
  · obtain ⟨its, r', pl, hz⟩ := I.tuple hq
    have hlen := r'.length
    exact len_tuple pl (by simp only [List.size_toArray] <;> omega) ⟨.int ys.length, H, I.tok _, ⟨s.toks + 1, by rw [List.size_toArray, hlen]⟩, q⟩
theorem call_list_of : CallR X (.type "list") (fun xs H Q => ∃ p ys, xs = [.ref p] ∧ (SqL X.K H p ys ∨ SqT X.K H p ys) ∧ ∀ l, H l = none → Q (.ref l) (upd H l (.lst ys))) := by
  intro pins s σ H xs us Q I r h
  obtain ⟨p, ys, rfl, hq, q⟩ := h
  obtain ⟨u, rfl, rx⟩ := vals1 r
  cases rx
  have fin : ∀ (its : List Value), Vals ys its → ys.length ≤ sizeLine → ∀ (h' : Heap) (c' : Nat), (∀ b o', s.heap.get? b = some o' → h'.get? b = some o') →
      h'.get? s.heap.objs.size = some { cls := .type "list", dict := none, data := .seq its.toArray c', slots := #[] } → EP X pins σ Q (.ref s.heap.objs.size) { s with heap := h' } := fun its r' hz h' c' kp e =>
    ⟨.ref s.heap.objs.size, _, I.laid (t' := s.toks) kp (Nat.le_refl _) (show ObjOk X.prog X.w _ h' _ (.lst ys) from ⟨hz, its, c', r', e⟩), rfl, q _ (I.hok.fresh (Nat.le_refl _))⟩
  rcases hq with hq | hq
  · obtain ⟨its, r', pl, hz⟩ := I.list hq
    have hlen := r'.length
    obtain ⟨o, ho, hc, n, hd⟩ := pl.isList
    exact call_list_seq p (.inl rfl) ho hc hd (fun h' c' kp e => fin its r' hz h' c' kp e) (by simp only [List.size_toArray] <;> omega)
  · obtain ⟨its, r', pl, hz⟩ := I.tuple hq
    have hlen := r'.length
    obtain ⟨o, ho, hc, n, hd⟩ := pl
    exact call_list_seq p (.inr rfl) ho hc hd (fun h' c' kp e => fin its r' hz h' c' kp e) (by simp only [List.size_toArray] <;> omega)
theorem call_tuple_of : CallR X (.type "tuple") (fun xs H Q => ∃ p ys, xs = [.ref p] ∧ ((SqL X.K H p ys ∧ ∀ l, H l = none → Q (.ref l) (upd H l (.tup ys))) ∨ (SqT X.K H p ys ∧ Q (.ref p) H))) := by
  intro pins s σ H xs us Q I r h
  obtain ⟨p, ys, rfl, h⟩ := h
  obtain ⟨u, rfl, rx⟩ := vals1 r
  cases rx
  rcases h with ⟨hq, q⟩ | ⟨hq, q⟩
  · obtain ⟨its, r', pl, hz⟩ := I.list hq
    have hlen := r'.length
    refine call_tuple_list pl.isList (fun h' kp => ?_) (by simp only [List.size_toArray] <;> omega)
    have I1 : Inv X pins σ H { s with heap := h' } := I.kept (t' := s.toks) kp
    have I2 : Inv X pins σ (upd H h'.objs.size (.tup ys)) { s with heap := h'.push { cls := .type "tuple", data := .seq its.toArray } } :=
      I1.laid (t' := s.toks) (fun b o e => Heap.get?_push_of_some _ e) (Nat.le_refl _) (show ObjOk X.prog X.w _ _ _ (.tup ys) from ⟨hz, its, r', IsTupN.new _ _⟩)
    exact ⟨.ref h'.objs.size, _, I2, rfl, q _ (I1.hok.fresh (Nat.le_refl _))⟩
  · obtain ⟨its, r', pl, hz⟩ := I.tuple hq
    exact call_tuple_same pl ⟨.ref p, H, I, rfl, q⟩
def tyV (K : PySem.W.Frag) (T : String) (x : V) (H : Hp) : Prop := match x with
  | .str _ => T = "str"
  | .int _ => T = "int"
  | .ref p => (T = "list" ∧ ∃ xs, SqL K H p xs) ∨ (T = "tuple" ∧ ((∃ o, K.lookup p = some o ∧ o.cls = .type "tuple" ∧ o.dict = none) ∨ ∃ xs, H p = some (.tup xs))) ∨
      (T = "dict" ∧ ((∃ kvs, H p = some (.dK kvs)) ∨ ∃ kvs, H p = some (.dT kvs))) ∨ (T = "set" ∧ ∃ S n, H p = some (.set S n))
  | _ => False
theorem tyV_is {pins : List (Addr × Obj)} {σ : St} {H : Hp} {s : Shared} {T : String} {x : V} {v : Value} (I : Inv X pins σ H s) (r : RelV x v) (ty : tyV X.K T x H) :
    s.TypeIs v T ∧ ∀ a, v = .ref a → ∃ ob, s.heap.get? a = some ob ∧ ob.dict = none := by
  cases x with
  | str z =>
    obtain ⟨t, rfl⟩ := r
    cases (show T = "str" from ty)
    exact ⟨typeIs_str s z t, fun _ e => nomatch e⟩
  | int i =>
    obtain ⟨t, rfl⟩ := r
    cases (show T = "int" from ty)
    exact ⟨typeIs_int s i t, fun _ e => nomatch e⟩
  | ref p =>
    cases r
    rcases ty with ⟨rfl, xs, hq⟩ | ⟨rfl, ⟨o, hk, hc, hd⟩ | ⟨xs, hx⟩⟩ | ⟨rfl, hk⟩ | ⟨rfl, S, n, hk⟩
    · obtain ⟨its, _, pl, _⟩ := I.list hq
      refine ⟨pl.isList.typeIs, fun a e => ?_⟩
      cases e
      obtain ⟨o, n, e, c, hd, _⟩ := pl
      exact ⟨o, e, hd⟩
    · refine ⟨⟨o, I.kIn p o hk, hc⟩, fun a e => ?_⟩
      cases e
      exact ⟨o, I.kIn _ o hk, hd⟩
    · obtain ⟨_, _, _, o, e, c, d, _⟩ := (show ObjOk X.prog X.w H s.heap p (.tup xs) from I.hok p _ hx)
      refine ⟨⟨o, e, c⟩, fun a e2 => ?_⟩
      cases e2
      exact ⟨o, e, d⟩
    · have z : ∃ o, s.heap.get? p = some o ∧ o.ExactDict := by
        rcases hk with ⟨kvs, hk⟩ | ⟨kvs, hk⟩
        · obtain ⟨_, _, _, _, o, _, _, e, ex, _⟩ := I.hok p _ hk
          exact ⟨o, e, ex⟩
        · obtain ⟨_, _, _, _, o, _, _, e, ex, _⟩ := I.hok p _ hk
          exact ⟨o, e, ex⟩
      obtain ⟨o, e, ex⟩ := z
      refine ⟨⟨o, e, ex.1⟩, fun a e2 => ?_⟩
      cases e2
      exact ⟨o, e, ex.2.1⟩
    · obtain ⟨o, _, _, _, e, ex, _⟩ := I.hok p _ hk
      refine ⟨⟨o, e, ex.1⟩, fun a e2 => ?_⟩
      cases e2
      exact ⟨o, e, ex.2.1⟩
  | _ => exact False.elim ty
def tBM (K : PySem.W.Frag) (T : String) (r : V → List V → Hp → VK → Prop) (to : TE) (t : TA) : TE := fun σ H Q => to σ H fun x H1 => tyV K T x H1 ∧ t σ H1 fun xs H2 => r x xs H2 Q
variable {o e : Expr} {es : List Expr} {to : TE} {t : TA} {name : Str} {apos cpos : Pos} {T id : String} {r : V → List V → Hp → VK → Prop}
theorem pe_bm (pa : PlainAttrs T) (slot : Slot T name id) (hty : typeOf (.builtin id) = pure (.type "method_descriptor")) (hm : MtR X id r) (ho : PE X o to) (ha : PA X (e :: es) t)
    (hbase : attributeBase o name X.env (eval o X.env) = eval o X.env := by rfl)
    (hfew : ((backTo cpos (starEach (e :: es) X.env)).all (fun x => !x.1) && (backToKw cpos (keywordEach [] X.env)).all (fun x => x.1.isSome)
      && decide ((e :: es).length + ([] : List Keyword).length + (if ([] : List Keyword).isEmpty then 0 else 1) < 30)) = true := by rfl)
    (hline : (apos.endLine == cpos.line) = true := by rfl) (hs : starEach (e :: es) X.env = (false, eval e X.env) :: starEach es X.env := by rfl) (hplain : (backTo cpos (starEach es X.env)).any (·.1) = false := by rfl) :
    PE X (.Call (.Attribute o name apos) (e :: es) [] cpos) (tBM X.K T r to t) := by
  intro pins s σ H Q I h
  refine wpAny_Call_method_late hbase hfew hline rfl (thn (ho pins s σ H _ I h) fun v s1 ⟨x, H1, I1, r1, ty, q1⟩ => ?_)
  obtain ⟨h1, h2⟩ := tyV_is I1 r1 ty
  refine ⟨T, id, pa, slot, hty, h1, h2, ?_⟩
  have hA := ha cpos pins s1 σ H1 _ I1 q1
  rw [hs] at hA ⊢
  refine Calls.callWith_builtin (by show (false || (backTo cpos (starEach es X.env)).any (·.1)) = false; rw [hplain] <;> rfl) (Calls.evalArgs_plain ?_)
  exact thn hA fun us s2 ⟨vs, H2, I2, r2, q2⟩ => hm pins s2 σ H2 x vs v us Q I2 r1 r2 q2
end
end L2
namespace L2
open PySem PySem.Spec PyProof.Rows
def MtM (X : Cx) (id : String) (r : V → List V → Hp → VK → Prop) : Prop :=
  ∀ (pins : List (Addr × Obj)) (s : Shared) (σ : St) (H : Hp) (x : V) (xs : List V) (v : Value) (us : List Value) (Q : VK), Inv X pins σ H s → RelV x v → Vals xs us → r x xs H Q →
    wpAny (model X.prog X.w) X.A (call (.builtin id) (v :: us)) (EP X pins σ Q) X.xe s
theorem Vals.one : ∀ {x : V} {us : List Value}, Vals [x] us → ∃ u, us = [u] ∧ RelV x u
  | _, _, .cons r .nil => ⟨_, rfl, r⟩
theorem Vals.eraseIdx : ∀ {xs : List V} {us : List Value} (i : Nat), Vals xs us → Vals (xs.eraseIdx i) (us.eraseIdx i)
  | _, _, _, .nil => .nil
  | _, _, 0, .cons _ t => t
  | _, _, i + 1, .cons r t => .cons r (Vals.eraseIdx i t)
theorem Vals.rep {xs : List V} {us : List Value} (h : Vals xs us) : ∀ k : Nat, Vals (List.replicate k xs).flatten (List.replicate k us).flatten
  | 0 => .nil
  | k + 1 => by
    rw [List.replicate_succ, List.replicate_succ, List.flatten_cons, List.flatten_cons]
    exact Vals.append h (Vals.rep h k)
theorem len_erase {α : Type} : ∀ (l : List α) (i : Nat), (l.eraseIdx i).length ≤ l.length
  | [], _ => Nat.le_refl _
  | _ :: _, 0 => Nat.le_succ _
  | _ :: r, i + 1 => Nat.succ_le_succ (len_erase r i)
theorem foldl_rep (its : List Value) : ∀ (k : Nat) (acc : List Value),
    List.foldl (fun x1 x2 => x1 ++ x2) acc.toArray (List.replicate k its.toArray) = (acc ++ (List.replicate k its).flatten).toArray
  | 0, acc => by simp
  | k + 1, acc => by
    have e : acc.toArray ++ its.toArray = (acc ++ its).toArray := by simp
    have e2 : (acc ++ its) ++ (List.replicate k its).flatten = acc ++ (List.replicate (k + 1) its).flatten := by
      rw [List.replicate_succ, List.flatten_cons, List.append_assoc]
    rw [← e2, ← foldl_rep its k (acc ++ its), ← e, List.replicate_succ, List.foldl_cons]
section
variable {X : Cx} {pins : List (Addr × Obj)} {σ : St} {H : Hp} {s : Shared} {l b : Addr} {xs ys zs : List V}
theorem Inv.lset {its its' : List Value} {n : Nat} {f : Array Value → Array Value} {t' : Nat} (I : Inv X pins σ H s) (hH : H l = some (.lst xs))
    (e : s.heap.get? l = some { cls := .type "list", data := .seq its.toArray n }) (hf : f its.toArray = its'.toArray) (hv : Vals ys its') (hz : ys.length ≤ sizeLine) :
    Inv X pins σ (upd H l (.lst ys)) { s with heap := s.heap.update l (Obj.mapSeq f), toks := t' } := by
  have q := PySem.IsL.update e f
  rw [hf] at q
  refine I.write (x := l) (e := l) (by rw [hH]; exact trivial) (.inl rfl) (fun b' u hb hu => (Heap.get?_update_other s.heap (Obj.mapSeq f) (Ne.symm hb)).trans hu) ⟨_, q⟩ ?_
  exact ⟨hz, its', _, hv, q⟩
theorem Inv.lnew {its : List Value} {t' : Nat} (I : Inv X pins σ H s) (hv : Vals ys its) (hz : ys.length ≤ sizeLine) :
    Inv X pins σ (upd H s.heap.objs.size (.lst ys)) { s with heap := s.heap.push { cls := .type "list", data := .seq its.toArray }, toks := t' } :=
  I.laid (fun _ _ q => Heap.get?_push_of_some _ q) (Nat.le_refl _) ⟨hz, its, 0, hv, Heap.get?_push_size _ rfl⟩
theorem Inv.fresh (I : Inv X pins σ H s) : H s.heap.objs.size = none := I.hok.fresh (Nat.le_refl _)
theorem Inv.lstM (I : Inv X pins σ H s) (hH : H l = some (.lst xs)) : xs.length ≤ sizeLine ∧ ∃ (its : List Value) (n : Nat), Vals xs its ∧ xs.length = its.length ∧ s.heap.get? l = some { cls := .type "list", data := .seq its.toArray n } := by
  obtain ⟨z, its, n, r, e⟩ := I.hok l _ hH
  exact ⟨z, its, n, r, r.length, e⟩
theorem notLongL {n : Nat} (h : n ≤ sizeLine) : Builtin.List.listTooLong n = false := by
  unfold Builtin.List.listTooLong
  exact decide_eq_false (by omega)
end
section
variable {X : Cx}
inductive RAppendP (x : V) (vs : List V) (H : Hp) (Q : VK) : Prop
  | mk (l xs y : _) : (x = .ref l) → (vs = [y]) → (H l = some (.lst xs)) → (xs.length < sizeLine) → (Q .non (upd H l (.lst (xs ++ [y])))) → RAppendP x vs H Q
def rAppend : V → List V → Hp → VK → Prop := fun x vs H Q => RAppendP x vs H Q
theorem mt_append : MtM X "list.append" rAppend := by
  intro pins s σ H x vs v us Q I rx rv h
  obtain ⟨l, xs, y, rfl, rfl, hH, hz, q⟩ := h
  cases rx
  obtain ⟨u, rfl, ru⟩ := rv.one
  obtain ⟨z, its, n, r, hl, e⟩ := I.lstM hH
  refine call_meets F.slot_list_append ⟨_, e, rfl⟩ F.entry_list_append (F.args_list_append_2 _ _) (PySem.list_append l its.toArray n u (by rw [List.size_toArray]; omega)) ⟨e, ?_⟩
  refine ⟨.non, _, I.lset (its' := its ++ [u]) hH e (by simp) (r.append (.cons ru .nil)) ?_, rfl, q⟩
  rw [List.length_append, List.length_singleton]
  assumption
inductive RPopAtP (x : V) (vs : List V) (H : Hp) (Q : VK) : Prop
  | mk (l xs i k y : _) : (x = .ref l) → (vs = [.int i]) → (H l = some (.lst xs)) → (-(2 ^ 63) ≤ i) → (i < 2 ^ 63) → (seqIndex? i xs.length = some k) → (xs[k]? = some y) → (Q y (upd H l (.lst (xs.eraseIdx k)))) → RPopAtP x vs H Q
def rPopAt : V → List V → Hp → VK → Prop := fun x vs H Q => RPopAtP x vs H Q
theorem mt_popAt : MtM X "list.pop" rPopAt := by
  intro pins s σ H x vs v us Q I rx rv h
  obtain ⟨l, xs, i, k, y, rfl, rfl, hH, h1, h2, hk, hy, q⟩ := h
  cases rx
  obtain ⟨u, rfl, ru⟩ := rv.one
  obtain ⟨t, rfl⟩ := ru
  obtain ⟨z, its, n, r, hl, e⟩ := I.lstM hH
  obtain ⟨w, hw, rw'⟩ := r.get hy
  refine call_meets F.slot_list_pop ⟨_, e, rfl⟩ F.entry_list_pop (F.args_list_pop_2 _ _)
    (MeetsSeq.list_pop_at l its.toArray n i t k w (fitsIndex_both h1 h2) (by rw [List.size_toArray, ← hl]; exact hk) (by rw [← Array.getElem?_toList]; exact hw) (by rw [List.size_toArray]; omega)) ⟨e, ?_⟩
  refine ⟨y, _, I.lset (its' := its.eraseIdx k) hH e ?_ (r.eraseIdx k) ?_, rw', q⟩
  · show its.toArray.eraseIdxIfInBounds k = (its.eraseIdx k).toArray
    rw [List.eraseIdxIfInBounds_toArray]
  · have := len_erase xs k
    exact Nat.le_trans (by assumption) (by assumption)
inductive RCatP (x : V) (y : V) (H : Hp) (Q : VK) : Prop
  | mk (l b xs zs : _) : (x = .ref l) → (y = .ref b) → (H l = some (.lst xs)) → (H b = some (.lst zs)) → (xs.length + zs.length ≤ sizeLine) → (∀ p, H p = none → Q (.ref p) (upd H p (.lst (xs ++ zs)))) → RCatP x y H Q
def rCat : R2 := fun x y H Q => RCatP x y H Q
theorem op_cat : OpR X (binaryOp .Add) rCat := by
  intro pins s σ H x y v u Q I rx ry h
  obtain ⟨l, b, xs, zs, rfl, rfl, hH, hB, hz, q⟩ := h
  cases rx
  cases ry
  obtain ⟨z, its, n, r, hl, e⟩ := I.lstM hH
  obtain ⟨z2, its2, n2, r2, hl2, e2⟩ := I.lstM hB
  refine PySem.P.add_list e e2 ?_ (by rw [List.size_toArray, List.size_toArray]; omega)
  have ea : its.toArray ++ its2.toArray = (its ++ its2).toArray := by simp
  rw [ea]
  exact ⟨.ref _, _, I.lnew (t' := s.toks) (r.append r2) (by rw [List.length_append]; assumption), rfl, q _ I.fresh⟩
inductive RRepP (x : V) (y : V) (H : Hp) (Q : VK) : Prop
  | mk (l k xs : _) : (x = .ref l) → (y = .int k) → (H l = some (.lst xs)) → (-(2 ^ 63) ≤ k) → (k < 2 ^ 63) → (xs.length * k.toNat ≤ sizeLine) → (∀ p, H p = none → Q (.ref p) (upd H p (.lst (List.replicate k.toNat xs).flatten))) → RRepP x y H Q
def rRep : R2 := fun x y H Q => RRepP x y H Q
theorem len_rep {α : Type} (xs : List α) (k : Nat) : (List.replicate k xs).flatten.length = k * xs.length := by
  induction k with
  | zero => simp
  | succ k ih => rw [List.replicate_succ, List.flatten_cons, List.length_append, ih, Nat.succ_mul, Nat.add_comm]
theorem op_rep : OpR X (binaryOp .Mult) rRep := by
  intro pins s σ H x y v u Q I rx ry h
  obtain ⟨l, k, xs, rfl, rfl, hH, h1, h2, hz, q⟩ := h
  cases rx
  obtain ⟨t, rfl⟩ := ry
  obtain ⟨z, its, n, r, hl, e⟩ := I.lstM hH
  have hlen : its.toArray.size * k.toNat ≤ sizeLine := by rw [List.size_toArray, ← hl]; exact hz
  have hcap : ¬ its.toArray.size * k.toNat > (2 ^ 63 - 1) / 8 := by
    have : (sizeLine : Nat) ≤ (2 ^ 63 - 1) / 8 := by decide
    omega
  have hfit : ¬ (!Builtin.List.listFitsIndex k) = true := by
    rw [fitsIndex_both h1 h2]
    exact Bool.false_ne_true
  have hlong : ¬ Builtin.List.listTooLong (its.toArray.size * k.toNat) = true := by
    rw [notLongL hlen]
    exact Bool.false_ne_true
  have hnew : List.foldl (fun x1 x2 => x1 ++ x2) #[] (List.replicate (if its.toArray.isEmpty = true then 0 else k.toNat) its.toArray) = (List.replicate k.toNat its).flatten.toArray := by
    have f0 : ∀ m : Nat, List.foldl (fun x1 x2 => x1 ++ x2) #[] (List.replicate m its.toArray) = (List.replicate m its).flatten.toArray := fun m => by
      have := foldl_rep its m []
      rw [List.nil_append] at this
      exact this
    rw [f0]
    cases its with
    | nil => simp
    | cons a r' => rw [if_neg (by simp)]
  refine wpAny_binaryOp_repeat_ref (T := "list") (U := "int") (by decide) ⟨_, e, rfl⟩ (fun s' => typeIs_int s' k t) noFill_list_mul F.fills_int_mul F.slot_int_rmul repeat_list F.slot_int_index.lookup
    (call_meets F.slot_int_rmul (typeIs_int s k t) F.entry_int_rmul (F.args_int_rmul_2 _ _) (int___rmul___int_list k t l its.toArray n)
      ⟨e, rfl, ⟨_, e, rfl⟩, call_meets F.slot_list_mul ⟨_, e, rfl⟩ F.entry_list_mul (F.args_list_mul_2 _ _) (AutoListH.list___mul___list_int_3 l its.toArray n k t hfit hcap hlong) ⟨e, ?_⟩⟩)
  rw [hnew]
  exact ⟨.ref _, _, I.lnew (t' := s.toks) (r.rep k.toNat) (by rw [len_rep, Nat.mul_comm]; exact hz), rfl, q _ I.fresh⟩
end
end L2
namespace L2
open PySem PySem.Spec PyProof.Rows
section
variable {κ : Type} [DecidableEq κ]
def valV (kvs : List (κ × V)) (k : κ) : Option V := (kvs.find? fun kv => decide (kv.1 = k)).map (·.2)
def putK (kvs : List (κ × V)) (k : κ) (v : V) : List (κ × V) :=
  if (kvs.any fun kv => decide (kv.1 = k)) = true then kvs.map (fun kv => if kv.1 = k then (kv.1, v) else kv) else kvs ++ [(k, v)]
def dropK (kvs : List (κ × V)) (k : κ) : List (κ × V) := kvs.filter fun kv => decide (kv.1 ≠ k)
theorem valV_pos {p : κ × V} {r : List (κ × V)} {k : κ} (e : p.1 = k) : valV (p :: r) k = some p.2 := by simp [valV, List.find?_cons, e]
theorem valV_neg {p : κ × V} {r : List (κ × V)} {k : κ} (e : ¬ p.1 = k) : valV (p :: r) k = valV r k := by simp [valV, List.find?_cons, e]
theorem valV_any (k : κ) : ∀ kvs : List (κ × V), (kvs.any fun kv => decide (kv.1 = k)) = (valV kvs k).isSome
  | [] => rfl
  | p :: r => by
    rw [List.any_cons]
    by_cases e : p.1 = k
    · simp only [valV_pos e, decide_eq_true e, Bool.true_or, Option.isSome_some]
    · rw [valV_neg e, decide_eq_false e, Bool.false_or]; exact valV_any k r
theorem length_putK (kvs : List (κ × V)) (k : κ) (v : V) : (putK kvs k v).length ≤ kvs.length + 1 := by
  unfold putK
  split
  · rw [List.length_map]; exact Nat.le_add_right _ _
  · rw [List.length_append, List.length_cons, List.length_nil]; exact Nat.add_le_add_left (by decide) _
theorem putK_new {kvs : List (κ × V)} {k : κ} (v : V) (h : valV kvs k = none) : putK kvs k v = kvs ++ [(k, v)] := by
  unfold putK
  rw [valV_any, h]
  exact if_neg (by decide)
theorem RelO.isSome_eq {o : Option V} {u : Option Value} (r : RelO o u) : o.isSome = u.isSome := by
  cases o with
  | none => cases u with
    | none => rfl
    | some _ => exact (show False from r).elim
  | some _ => cases u with
    | none => exact (show False from r).elim
    | some _ => rfl
theorem KV.val {kvs : List (κ × V)} {vs : List (κ × Value)} (r : KV kvs vs) (k : κ) : RelO (valV kvs k) (valueAt vs k) := by
  unfold KV at r
  induction r with
  | nil => exact True.intro
  | @cons p q ps qs h t ih =>
    obtain ⟨h1, h2⟩ := h
    by_cases e : p.1 = k
    · have e' : q.1 = k := h1.symm.trans e
      have b : valueAt (q :: qs) k = some q.2 := by simp [valueAt, List.find?_cons, e']
      rw [valV_pos e, b]; exact h2
    · have e' : ¬ q.1 = k := fun z => e (h1.trans z)
      have b : valueAt (q :: qs) k = valueAt qs k := by simp [valueAt, List.find?_cons, e']
      rw [valV_neg e, b]; exact ih
theorem KV.any {kvs : List (κ × V)} {vs : List (κ × Value)} (r : KV kvs vs) (k : κ) : (kvs.any fun kv => decide (kv.1 = k)) = vs.any fun kv => decide (kv.1 = k) := by
  unfold KV at r
  induction r with
  | nil => rfl
  | cons h t ih => rw [List.any_cons, List.any_cons, ih, h.1]
theorem KV.repl {kvs : List (κ × V)} {vs : List (κ × Value)} (r : KV kvs vs) (k : κ) {y : V} {u : Value} (ry : RelV y u) :
    KV (kvs.map fun kv => if kv.1 = k then (kv.1, y) else kv) (vs.map fun kv => if kv.1 = k then (kv.1, u) else kv) := by
  unfold KV at r ⊢
  induction r with
  | nil => exact .nil
  | @cons p q ps qs h t ih =>
    rw [List.map_cons, List.map_cons]
    refine .cons ?_ ih
    obtain ⟨h1, h2⟩ := h
    by_cases e : p.1 = k
    · rw [if_pos e, if_pos (h1.symm.trans e)]; exact ⟨h1, ry⟩
    · rw [if_neg e, if_neg (fun z => e (h1.trans z))]; exact ⟨h1, h2⟩
theorem KV.put {kvs : List (κ × V)} {vs : List (κ × Value)} (r : KV kvs vs) (k : κ) {y : V} {u : Value} (ry : RelV y u) : KV (putK kvs k y) (stored vs k u) := by
  unfold putK stored
  rw [r.any k]
  by_cases e : (vs.any fun kv => decide (kv.1 = k)) = true
  · rw [if_pos e, if_pos e]; exact r.repl k ry
  · rw [if_neg e, if_neg e]; exact Paired.snoc r ⟨rfl, ry⟩
theorem KV.drop {kvs : List (κ × V)} {vs : List (κ × Value)} (r : KV kvs vs) (k : κ) : KV (dropK kvs k) (without vs k) := by
  unfold KV at r ⊢
  unfold dropK without
  induction r with
  | nil => exact .nil
  | @cons p q ps qs h t ih =>
    obtain ⟨h1, h2⟩ := h
    rw [List.filter_cons, List.filter_cons]
    by_cases e : p.1 = k
    · have a : ¬ decide (p.1 ≠ k) = true := by simp [e]
      have b : ¬ decide (q.1 ≠ k) = true := by simp [h1.symm.trans e]
      rw [if_neg a, if_neg b]; exact ih
    · have e' : ¬ q.1 = k := fun z => e (h1.trans z)
      have a : decide (p.1 ≠ k) = true := by simp [e]
      have b : decide (q.1 ≠ k) = true := by simp [e']
      rw [if_pos a, if_pos b]; exact .cons ⟨h1, h2⟩ ih
theorem KV.length {kvs : List (κ × V)} {vs : List (κ × Value)} (r : KV kvs vs) : kvs.length = vs.length := Paired.length r
theorem dropK_le (kvs : List (κ × V)) (k : κ) : (dropK kvs k).length ≤ kvs.length := List.length_filter_le _ _
end
theorem kV_is {P : Program} {w : World} {k : Key} {u : Value} (r : RelV (kV k) u) : (mixKind P w).is k u = true := by
  cases k with
  | inl i => obtain ⟨t, e⟩ := (show ∃ t, u = Value.int i t from r); subst e; exact mixKind_int P w i t
  | inr x => obtain ⟨t, e⟩ := (show ∃ t, u = Value.str x t from r); subst e; exact mixKind_str P w x t
theorem items_are {P : Program} {w : World} : ∀ {ks : List Key} {us : List Value}, Vals (ks.map kV) us → ItemsAre (mixKind P w) ks us
  | [], _, r => by rw [List.map_nil] at r; cases r; exact .nil
  | k :: ks, _, r => by
    rw [List.map_cons] at r
    cases r with
    | cons h t => exact .cons (kV_is h) (items_are t)
abbrev KT (H : Hp) : List (List Key × V) → List (List Key × Addr × Value) → Prop := Paired fun p q => p.1 = q.1 ∧ H q.2.1 = some (.tup (p.1.map kV)) ∧ RelV p.2 q.2.2
theorem KT.val {H : Hp} {kvs : List (List Key × V)} {xs : List (List Key × Addr × Value)} (r : KT H kvs xs) (k : List Key) : RelO (valV kvs k) ((atKey xs k).map (·.2)) := by
  induction r with
  | nil => exact True.intro
  | @cons p q ps qs h t ih =>
    obtain ⟨h1, _, h2⟩ := h
    by_cases e : p.1 = k
    · have e' : q.1 = k := h1.symm.trans e
      have b : atKey (q :: qs) k = some q.2 := by simp [atKey, List.find?_cons, e']
      rw [valV_pos e, b]; exact h2
    · have e' : ¬ q.1 = k := fun z => e (h1.trans z)
      have b : atKey (q :: qs) k = atKey qs k := by simp [atKey, List.find?_cons, e']
      rw [valV_neg e, b]; exact ih
theorem KT.repl {H : Hp} {kvs : List (List Key × V)} {xs : List (List Key × Addr × Value)} (r : KT H kvs xs) (k : List Key) {y : V} {u : Value} (ry : RelV y u) :
    KT H (kvs.map fun kv => if kv.1 = k then (kv.1, y) else kv) (xs.map (putAt k u)) := by
  induction r with
  | nil => exact .nil
  | @cons p q ps qs h t ih =>
    rw [List.map_cons, List.map_cons]
    refine .cons ?_ ih
    obtain ⟨h1, h2, h3⟩ := h
    unfold putAt
    by_cases e : p.1 = k
    · rw [if_pos e, if_pos (h1.symm.trans e)]; exact ⟨h1, h2, ry⟩
    · rw [if_neg e, if_neg (fun z => e (h1.trans z))]; exact ⟨h1, h2, h3⟩
theorem KT.put {H : Hp} {kvs : List (List Key × V)} {xs : List (List Key × Addr × Value)} (r : KT H kvs xs) (k : List Key) {b : Addr} {y : V} {u : Value} (hb : H b = some (.tup (k.map kV))) (ry : RelV y u) :
    KT H (putK kvs k y) (storedH xs k b u) := by
  have e : (kvs.any fun kv => decide (kv.1 = k)) = (atKey xs k).isSome := by
    rw [valV_any, (r.val k).isSome_eq, Option.isSome_map]
  unfold putK storedH
  rw [e]
  by_cases q : (atKey xs k).isSome = true
  · rw [if_pos q, if_pos q]; exact r.repl k ry
  · rw [if_neg q, if_neg q]; exact Paired.snoc r ⟨rfl, hb, ry⟩
theorem KT.keeps {H H' : Hp} {kvs : List (List Key × V)} {xs : List (List Key × Addr × Value)} (r : KT H kvs xs) (ht : ∀ b ys, H b = some (.tup ys) → H' b = some (.tup ys)) : KT H' kvs xs :=
  Paired.mapP r fun _ _ z => ⟨z.1, ht _ _ z.2.1, z.2.2⟩
section
variable {P : Program} {w : World} {H : Hp} {h : Heap} {a : Addr}
theorem rd_of {u : HO} (ok : HOk P w H h) (e : Rd H a u) : ObjOk P w H h a u := e.ok ok
theorem dk_rd {kvs : List (Key × V)} (ok : HOk P w H h) (e : Rd H a (.dK kvs)) : kvs.length ≤ sizeLine ∧ (a == sysModules) = false ∧ ∃ vs, KV kvs vs ∧ h.DictOf (mixKind P w) a vs :=
  show ObjOk P w H h a (.dK kvs) from rd_of ok e
theorem dk_of {kvs : List (Key × V)} (ok : HOk P w H h) (e : H a = some (.dK kvs)) : kvs.length ≤ sizeLine ∧ (a == sysModules) = false ∧ ∃ vs, KV kvs vs ∧ h.DictOf (mixKind P w) a vs := dk_rd ok (.inl e)
theorem key_of {ks : List Key} (ok : HOk P w H h) (e : H a = some (.tup (ks.map kV))) : (tupleKind (mixKind P w)).is h ks a := by
  obtain ⟨_, its, r, o, h1, h2, _, n, h3⟩ := (show ObjOk P w H h a (.tup (ks.map kV)) from ok a _ e)
  exact ⟨o, its.toArray, n, h1, h2, h3, by simpa using items_are r⟩
theorem dt_rd {kvs : List (List Key × V)} (ok : HOk P w H h) (e : Rd H a (.dT kvs)) : kvs.length ≤ sizeLine ∧ (a == sysModules) = false ∧
    ∃ xs, KT H kvs xs ∧ h.DictOfH (tupleKind (mixKind P w)) a xs := by
  obtain ⟨z, y, xs, r, o, es, ep, h1, h2, h3, h4, h5⟩ := (show ObjOk P w H h a (.dT kvs) from rd_of ok e)
  refine ⟨z, y, xs, r, o, es, ep, h1, h2, h3, h4, fun x hx => ?_, h5⟩
  have all : ∀ {l : List (List Key × V)} {m : List (List Key × Addr × Value)}, KT H l m → ∀ x ∈ m, (tupleKind (mixKind P w)).is h x.1 x.2.1 := by
    intro l m q
    induction q with
    | nil => intro x hx; exact nomatch hx
    | @cons p q ps qs hq t ih =>
      intro x hx
      rcases List.mem_cons.mp hx with e | hx
      · subst e
        exact key_of ok (by rw [← hq.1]; exact hq.2.1)
      · exact ih x hx
  exact all r x hx
theorem dt_of {kvs : List (List Key × V)} (ok : HOk P w H h) (e : H a = some (.dT kvs)) : kvs.length ≤ sizeLine ∧ (a == sysModules) = false ∧
    ∃ xs, KT H kvs xs ∧ h.DictOfH (tupleKind (mixKind P w)) a xs := dt_rd ok (.inl e)
end
def DGet (H : Hp) (a : Addr) (y : V) (r : Option V) : Prop :=
  (∃ kvs k, Rd H a (.dK kvs) ∧ y = kV k ∧ r = valV kvs k) ∨ ∃ kvs k b, Rd H a (.dT kvs) ∧ y = .ref b ∧ H b = some (.tup (k.map kV)) ∧ r = valV kvs k
def DPut (H : Hp) (a : Addr) (y v : V) (H' : Hp) : Prop :=
  (∃ kvs k, H a = some (.dK kvs) ∧ y = kV k ∧ kvs.length < sizeLine ∧ H' = upd H a (.dK (putK kvs k v))) ∨
  ∃ kvs k b, H a = some (.dT kvs) ∧ y = .ref b ∧ H b = some (.tup (k.map kV)) ∧ kvs.length < sizeLine ∧ H' = upd H a (.dT (putK kvs k v))
theorem DGet.k {H : Hp} {a : Addr} {kvs : List (Key × V)} {k : Key} (e : H a = some (.dK kvs)) : DGet H a (kV k) (valV kvs k) := .inl ⟨kvs, k, .inl e, rfl, rfl⟩
theorem DPut.k {H : Hp} {a : Addr} {kvs : List (Key × V)} {k : Key} {v : V} (e : H a = some (.dK kvs)) (hl : kvs.length < sizeLine) : DPut H a (kV k) v (upd H a (.dK (putK kvs k v))) := .inl ⟨kvs, k, e, rfl, hl, rfl⟩
section
variable {X : Cx} {pins : List (Addr × Obj)} {σ : St} {H : Hp} {s : Shared} {a : Addr} {y v : V} {u r : Value} {o : Option V} {A : Around} {E : Value → Shared → Prop}
theorem Inv.big (I : Inv X pins σ H s) : sysModules < s.heap.objs.size := by
  have h : mainGlobals < s.heap.objs.size := (I.mod.glob.keeps I.bk).lt
  exact Nat.lt_trans (by decide) h
theorem d_getItem {Q : Value → Shared → Prop} (hu : A.units + 1 < cLine) (I : Inv X pins σ H s) (g : DGet H a y (some v)) (ry : RelV y u) (h : ∀ w' s', Inv X pins σ H s' → RelV v w' → Q w' s') :
    wpAny (model X.prog X.w) A (getItem (.ref a) u) Q E s := by
  rcases g with ⟨kvs, k, e, ey, l⟩ | ⟨kvs, k, b, e, ey, eb, l⟩
  · subst ey
    obtain ⟨z, hd, vs, rel, dd⟩ := dk_rd I.hok e
    obtain ⟨w', hw, rw'⟩ := RelO.some_of (v := v) (o := valueAt vs k) (by rw [l]; exact rel.val k)
    exact wpAny_getItem_of (kV_is ry) dd.mapOf hw (h w' _ (I.tok _) rw')
  · subst ey
    cases (show u = Value.ref b from ry)
    obtain ⟨z, hd, xs, rel, dd⟩ := dt_rd I.hok e
    obtain ⟨w', hw, rw'⟩ := RelO.some_of (v := v) (o := (atKey xs k).map (·.2)) (by rw [l]; exact rel.val k)
    obtain ⟨p, hp, hp2⟩ := Option.map_eq_some_iff.mp hw
    refine wpAny_getItem_heap (tupleKind_room_in1 hu) (key_of I.hok eb) dd hp ?_
    rw [hp2]
    exact h w' _ (I.tok _) rw'
theorem d_write {h' : Heap} {t' : Nat} {ob : HO} (I : Inv X pins σ H s) (mu : Mut (H a)) (hs : Heap.SameBut a s.heap h') (he : ∃ q, h'.get? a = some q) (new : ObjOk X.prog X.w (upd H a ob) h' a ob) :
    Inv X pins σ (upd H a ob) { s with heap := h', toks := t' } :=
  I.write (x := a) (e := a) mu (.inl rfl) (fun b q hb z => (hs.2 b hb).trans z) he new
theorem dk_new {P : Program} {w : World} {H' : Hp} {h' : Heap} {kvs : List (Key × V)} {vs : List (Key × Value)} (z : kvs.length ≤ sizeLine) (hd : (a == sysModules) = false) (rel : KV kvs vs) (dd : h'.DictOf (mixKind P w) a vs) :
    ObjOk P w H' h' a (.dK kvs) := ⟨z, hd, vs, rel, dd⟩
theorem d_setItem {H' : Hp} {Q : Unit → Shared → Prop} (hu : A.units + 1 < cLine) (I : Inv X pins σ H s) (g : DPut H a y v H') (ry : RelV y u) (rv : RelV v r) (h : ∀ s', Inv X pins σ H' s' → Q () s') :
    wpAny (model X.prog X.w) A (setItem (.ref a) u r) Q E s := by
  rcases g with ⟨kvs, k, e, ey, l, eH⟩ | ⟨kvs, k, b, e, ey, eb, l, eH⟩
  · subst ey eH
    obtain ⟨z, hd, vs, rel, dd⟩ := dk_of I.hok e
    have hz : vs.length ≤ sizeLine := by rw [← rel.length]; exact z
    have hl : (putK kvs k v).length ≤ sizeLine := by have := length_putK kvs k v; exact Nat.le_trans (by assumption) (by assumption)
    refine wpAny_setItem_pairs (hsz := hz) (kV_is ry) dd fun h' dd' hs => h _ ?_
    have he : ∃ q, h'.get? a = some q := let ⟨q, _, _, hq, _⟩ := dd'; ⟨q, hq⟩
    exact d_write I (by rw [e]; exact True.intro) hs he (dk_new hl hd (rel.put k rv) dd')
  · subst ey eH
    cases (show u = Value.ref b from ry)
    obtain ⟨z, hd, xs, rel, dd⟩ := dt_of I.hok e
    have hz : xs.length ≤ sizeLine := by rw [← Paired.length rel]; exact z
    have hl : (putK kvs k v).length ≤ sizeLine := by have := length_putK kvs k v; exact Nat.le_trans (by assumption) (by assumption)
    refine wpAny_setItem_heap (hsz := hz) (tupleKind_room_in1 hu) (key_of I.hok eb) dd fun h' dd' hs => h _ ?_
    obtain ⟨q, es, ep, hq, h2, h3, h4, _, h5⟩ := dd'
    refine d_write I (by rw [e]; exact True.intro) hs ⟨q, hq⟩ ⟨hl, hd, _, (rel.put k eb rv).keeps fun c ys ec => ?_, q, es, ep, hq, h2, h3, h4, h5⟩
    rw [upd_ne (ne_of ec e (fun z => nomatch z))]
    exact ec
end
section
variable {X : Cx} {pins : List (Addr × Obj)} {σ : St} {H : Hp} {s : Shared} {a : Addr} {kvs : List (Key × V)} {k : Key} {u : Value} {A : Around} {E : Value → Shared → Prop}
theorem d_delItem {Q : Unit → Shared → Prop} (I : Inv X pins σ H s) (e : H a = some (.dK kvs)) (ry : RelV (kV k) u) (l : (valV kvs k).isSome = true) (h : ∀ s', Inv X pins σ (upd H a (.dK (dropK kvs k))) s' → Q () s') :
    wpAny (model X.prog X.w) A (delItem (.ref a) u) Q E s := by
  obtain ⟨z, hd, vs, rel, dd⟩ := dk_of I.hok e
  refine wpAny_delItem_slot dd.typeIs (by decide) PySem.F.slot_dict_delitem
    (call_meetsIn PySem.F.slot_dict_delitem dd.typeIs PySem.F.entry_dict_delitem (PySem.F.args_dict_delitem_2 _ _) (meets_dict_delitem_pairs (mixKind X.prog X.w) a (kV_is ry)) ⟨vs, dd, by rw [← rel.length]; exact z, by rw [← (rel.val k).isSome_eq]; exact l, fun h' dd' hs => h _ ?_⟩)
  have he : ∃ q, h'.get? a = some q := let ⟨q, _, _, hq, _⟩ := dd'; ⟨q, hq⟩
  exact d_write I (by rw [e]; exact True.intro) hs he (dk_new (Nat.le_trans (dropK_le kvs k) z) hd (rel.drop k) dd')
theorem d_pop {v : V} {more : List Value} {Q : Value → Shared → Prop} (I : Inv X pins σ H s) (e : H a = some (.dK kvs)) (ry : RelV (kV k) u) (l : valV kvs k = some v) (hm : more = [] ∨ ∃ x, more = [x])
    (h : ∀ w' s', Inv X pins σ (upd H a (.dK (dropK kvs k))) s' → RelV v w' → Q w' s') : wpAny (model X.prog X.w) A (call (.builtin "dict.pop") (.ref a :: u :: more)) Q E s := by
  obtain ⟨z, hd, vs, rel, dd⟩ := dk_of I.hok e
  obtain ⟨w', hw, rw'⟩ := RelO.some_of (v := v) (o := valueAt vs k) (by rw [← l]; exact rel.val k)
  have hp : (keyPart u).isSome = true := by
    cases k with
    | inl i => obtain ⟨t, q⟩ := (show ∃ t, u = Value.int i t from ry); subst q; rfl
    | inr x => obtain ⟨t, q⟩ := (show ∃ t, u = Value.str x t from ry); subst q; rfl
  have ha : argsOk "dict.pop" ⟨.ref a :: u :: more, []⟩ := by
    rcases hm with q | ⟨x, q⟩
    · subst q; exact PySem.F.args_dict_pop_2 _ _
    · subst q; exact PySem.F.args_dict_pop_3 _ _ _
  refine call_meetsIn PySem.F.slot_dict_pop dd.typeIs PySem.F.entry_dict_pop ha (meets_dict_pop_there (mixKind X.prog X.w) a (kV_is ry) more hm hp)
    ⟨vs, w', dd, by rw [← rel.length]; exact z, hw, fun h' dd' hs => h w' _ ?_ rw'⟩
  have he : ∃ q, h'.get? a = some q := let ⟨q, _, _, hq, _⟩ := dd'; ⟨q, hq⟩
  exact d_write I (by rw [e]; exact True.intro) hs he (dk_new (Nat.le_trans (dropK_le kvs k) z) hd (rel.drop k) dd')
end
def NoSl (i : Expr) : Prop := ∀ ov iv, subscripted i false ov iv = operate [ov, iv] (getItem ov iv)
theorem subD_of {prog : Program} {w : World} {A : Around} {E : Value → Shared → Prop} {s : Shared} {env : Env} {value slice : Expr} {pos : Pos} {T id : String} {Q : Value → Shared → Prop}
    (hl : typeLookup (.type T) "__getitem__" = pure (some (.builtin id))) (hs : NoSl slice)
    (h : wpAny (model prog w) A (eval value env) (fun o s₁ => wpAny (model prog w) A (eval slice env) (fun i s₂ => s₂.TypeIs o T ∧ wpAny (model prog w) A (getItem o i) Q E s₂) E s₁) E s) :
    wpAny (model prog w) A (eval (.Subscript value slice pos) env) Q E s := by
  refine Subscript_ (wpAny_mono h (fun o s₁ h₁ => wpAny_mono h₁ (fun i s₂ h₂ => ?_) fun _ _ x => x) fun _ _ x => x)
  obtain ⟨hT, h₂⟩ := h₂
  unfold subscriptTail
  refine wpAny_bind ?_
  rw [getitemInPython_of_ne hT.not_modules]
  refine wpAny_bind (wpAny_specialOf hT hl ?_)
  have fin : wpAny (model prog w) A (subscripted slice false o i) (fun r s₃ => wpAny (model prog w) A (letTemporaryGo value o r >>= fun _ => pure r) Q E s₃) E s₂ := by
    rw [hs o i]
    exact wpAny_operating (wpAny_mono h₂ (fun r s₃ h₃ => wpAny_bind (wpAny_letTemporaryGo (wpAny_pure h₃))) fun _ _ x => x)
  first
    | exact wpAny_pure (wpAny_bind fin)
    | exact wpAny_bind (wpAny_pure (wpAny_bind fin))
    | exact wpAny_bind fin
theorem dict_typeIs {X : Cx} {pins : List (Addr × Obj)} {σ : St} {H : Hp} {s : Shared} {a : Addr} {y : V} {o : Option V} (I : Inv X pins σ H s) (g : DGet H a y o) : s.TypeIs (.ref a) "dict" := by
  rcases g with ⟨kvs, k, e, _, _⟩ | ⟨kvs, k, b, e, _, _, _⟩
  · obtain ⟨_, _, vs, _, dd⟩ := dk_rd I.hok e
    exact dd.typeIs
  · obtain ⟨_, _, xs, _, dd⟩ := dt_rd I.hok e
    exact dd.typeIs
def tDGet (td ty : TE) : TE := fun σ H Q => td σ H fun x H1 => ty σ H1 fun y H2 => ∃ a v, x = .ref a ∧ DGet H2 a y (some v) ∧ Q v H2
def sDPut (td ty tv : TE) : TS := fun D σ H => tv σ H fun v H1 => td σ H1 fun x H2 => ty σ H2 fun y H3 => ∃ a H4, x = .ref a ∧ DPut H3 a y v H4 ∧ D.nx σ H4
def sDDel (td ty : TE) : TS := fun D σ H => td σ H fun x H1 => ty σ H1 fun y H2 => ∃ a kvs k, x = .ref a ∧ H2 a = some (.dK kvs) ∧ y = kV k ∧ (valV kvs k).isSome = true ∧ D.nx σ (upd H2 a (.dK (dropK kvs k)))
section
variable {X : Cx} {o i e value : Expr} {pos pos' tpos : Pos} {td ty tv : TE}
theorem pe_dget (hu : X.A.units + 1 < cLine) (ho : PE X o td) (hi : PE X i ty) (hs : NoSl i) : PE X (.Subscript o i pos) (tDGet td ty) := by
  intro pins s σ H Q I h
  refine subD_of PySem.F.slot_dict_getitem.lookup hs (thn (ho pins s σ H _ I h) fun u s1 ⟨x, H1, I1, rx, q1⟩ => thn (hi pins s1 σ H1 _ I1 q1) fun iv s2 ⟨y, H2, I2, ry, a, v, ex, g, q2⟩ => ?_)
  subst ex
  obtain rfl : u = Value.ref a := rx
  exact ⟨dict_typeIs I2 g, d_getItem hu I2 g ry fun w' s3 I3 rw' => ⟨v, H2, I3, rw', q2⟩⟩
theorem ps_dput (hu : X.A.units + 1 < cLine) (ho : PE X o td) (hi : PE X i ty) (hv : PE X value tv) (hs : swapsWith value (some (.Subscript o i pos')) pos.line X.env = pure false) :
    PS X (.Assign [.Subscript o i pos'] value pos) (sDPut td ty tv) := by
  intro pins s σ H D I h
  refine wpAny_Assign_Subscript (thn (hv pins s σ H _ I h) fun r s1 ⟨v, H1, I1, rv, q1⟩ => thn (ho pins s1 σ H1 _ I1 q1) fun u s2 ⟨x, H2, I2, rx, q2⟩ => thn (hi pins s2 σ H2 _ I2 q2) fun iv s3 ⟨y, H3, I3, ry, a, H4, ex, g, q3⟩ => ?_) hs
  subst ex
  obtain rfl : u = Value.ref a := rx
  exact d_setItem hu I3 g ry rv fun s4 I4 => ⟨σ, H4, I4, q3⟩
theorem ps_ddel (ho : PE X o td) (hi : PE X i ty) : PS X (.Delete [.Subscript o i tpos] pos) (sDDel td ty) := by
  intro pins s σ H D I h
  refine wpAny_Delete (wpAny_deleteEach_cons (wpAny_delete_Subscript (thn (ho pins s σ H _ I h) fun u s1 ⟨x, H1, I1, rx, q1⟩ => thn (hi pins s1 σ H1 _ I1 q1) fun iv s2 ⟨y, H2, I2, ry, a, kvs, k, ex, e, ey, l, q2⟩ => ?_)))
  subst ex ey
  obtain rfl : u = Value.ref a := rx
  exact d_delItem I2 e ry l fun s3 I3 => wpAny_deleteEach_nil ⟨σ, _, I3, q2⟩
end
theorem dk_empty {P : Program} {w : World} {H : Hp} (h : Heap) (hb : sysModules < h.objs.size) : ObjOk P w H (h.push { cls := .type "dict", data := .dict #[] }) h.objs.size (.dK []) :=
  ⟨Nat.zero_le _, beq_eq_false_iff_ne.mpr (Ne.symm (Nat.ne_of_lt hb)), [], .nil, Heap.DictOf.new h⟩
def tDNewK : TE := fun _ H Q => ∀ p, H p = none → Q (.ref p) (upd H p (.dK []))
section
variable {X : Cx} {pos : Pos}
theorem pe_dnewK : PE X (.Dict [] [] pos) tDNewK := fun pins s σ H Q I h =>
  wpAny_Dict_empty ⟨.ref s.heap.objs.size, _, I.laid (a := s.heap.objs.size) (o := .dK []) (t' := s.toks) (fun _ _ q => Heap.get?_push_of_some _ q) (Nat.le_refl _) (dk_empty s.heap I.big), rfl, h _ (I.hok.fresh (Nat.le_refl _))⟩
end
def tPairs : List (TE × TE) → St → Hp → (List (V × V) → Hp → Prop) → Prop
  | [], _, H, Q => Q [] H
  | (tk, tv) :: r, σ, H, Q => tk σ H fun x H1 => tv σ H1 fun y H2 => tPairs r σ H2 fun ps H3 => Q ((x, y) :: ps) H3
abbrev VV : List (V × V) → List (Value × Value) → Prop := Paired fun p q => RelV p.1 q.1 ∧ RelV p.2 q.2
def PPs (X : Cx) (pos : Pos) (keys : List (Option Expr)) (values : List Expr) (trs : List (TE × TE)) : Prop :=
  ∀ (pins : List (Addr × Obj)) (s : Shared) (σ : St) (H : Hp) (Q : List (V × V) → Hp → Prop), Inv X pins σ H s → tPairs trs σ H Q →
    wpAny (model X.prog X.w) X.A (evalPairs (pairTrees keys values X.env pos)) (fun vs s' => ∃ ps H', Inv X pins σ H' s' ∧ VV ps vs ∧ Q ps H') X.xe s
theorem pps_nil {X : Cx} {pos : Pos} : PPs X pos [] [] [] := fun pins s σ H Q I h => pairTrees_nil_walk ⟨[], H, I, .nil, h⟩
theorem pps_cons {X : Cx} {pos : Pos} {k v : Expr} {ks : List (Option Expr)} {vs : List Expr} {tk tv : TE} {trs : List (TE × TE)} (hk : PE X k tk) (hv : PE X v tv) (hr : PPs X pos ks vs trs) :
    PPs X pos (some k :: ks) (v :: vs) ((tk, tv) :: trs) := fun pins s σ H Q I h =>
  pairTrees_cons_walk (thn (hk pins s σ H _ I h) fun u s1 ⟨x, H1, I1, rx, q1⟩ => thn (hv pins s1 σ H1 _ I1 q1) fun w2 s2 ⟨y, H2, I2, ry, q2⟩ =>
    thn (hr pins s2 σ H2 _ I2 q2) fun ws s3 ⟨ps, H3, I3, rel, q3⟩ => ⟨(x, y) :: ps, H3, I3, .cons ⟨rx, ry⟩ rel, q3⟩)
def mergeK (kvs more : List (Key × V)) : List (Key × V) := more.foldl (fun acc kv => putK acc kv.1 kv.2) kvs
theorem KV.merge : ∀ {more : List (Key × V)} {rs : List (Key × Value)} {kvs : List (Key × V)} {vs : List (Key × Value)}, KV more rs → KV kvs vs → KV (mergeK kvs more) (merged vs rs) := by
  intro more rs kvs vs r
  unfold KV at r
  induction r generalizing kvs vs with
  | nil => intro q; exact q
  | @cons p q ps qs h t ih =>
    intro r0
    have e : KV (putK kvs p.1 p.2) (stored vs q.1 q.2) := by
      have := r0.put p.1 h.2
      rw [← h.1]; exact this
    exact ih e
theorem length_mergeK : ∀ (more kvs : List (Key × V)), (mergeK kvs more).length ≤ kvs.length + more.length
  | [], kvs => by show kvs.length ≤ kvs.length + 0; exact Nat.le_add_right _ _
  | p :: r, kvs => by
    have h1 := length_mergeK r (putK kvs p.1 p.2)
    have h2 := length_putK kvs p.1 p.2
    show (mergeK (putK kvs p.1 p.2) r).length ≤ _
    rw [List.length_cons]; omega
theorem carries_of {P : Program} {w : World} : ∀ {kvs : List (Key × V)} {ws : List (Value × Value)}, VV (kvs.map fun kv => (kV kv.1, kv.2)) ws → ∃ rs, Carries (mixKind P w) ws rs ∧ KV kvs rs
  | [], _, r => by rw [List.map_nil] at r; cases r; exact ⟨[], True.intro, .nil⟩
  | p :: kvs, _, r => by
    rw [List.map_cons] at r
    cases r with
    | @cons a b as bs h t =>
      obtain ⟨rs, c, q⟩ := carries_of (P := P) (w := w) t
      obtain ⟨b1, b2⟩ := b
      exact ⟨(p.1, b2) :: rs, ⟨kV_is h.1, rfl, c⟩, .cons ⟨rfl, h.2⟩ q⟩
def tDisp (trs : List (TE × TE)) : TE := fun σ H Q => ∀ p, H p = none → tPairs trs σ (upd H p (.dK [])) fun ps H2 => H2 p = some (.dK []) ∧ ∃ kvs : List (Key × V), ps = kvs.map (fun kv => (kV kv.1, kv.2)) ∧ kvs.length ≤ 15 ∧ Q (.ref p) (upd H2 p (.dK (mergeK [] kvs)))
theorem pe_disp {X : Cx} {pos : Pos} {keys : List (Option Expr)} {values : List Expr} {trs : List (TE × TE)} (h : PPs X pos keys values trs) (hall : keys.all (·.isSome) = true) (hl : keys.length = values.length) (h0 : keys ≠ [])
    (h15 : keys.length ≤ 15) : PE X (.Dict keys values pos) (tDisp trs) := by
  intro pins s σ H Q I q
  have hn := I.hok.fresh (Nat.le_refl s.heap.objs.size)
  have I1 := I.laid (a := s.heap.objs.size) (o := .dK []) (h' := s.heap.push { cls := .type "dict", data := .dict #[] }) (t' := s.toks) (fun _ _ q => Heap.get?_push_of_some _ q) (Nat.le_refl _) (dk_empty s.heap I.big)
  refine wpAny_Dict_walk (knd := mixKind X.prog X.w) hall hl h0 h15 (thn (h pins _ σ _ _ I1 (q _ hn)) fun ws s2 ⟨ps, H2, I2, rel, e, kvs, ep, lk, q2⟩ => ?_)
  subst ep
  obtain ⟨rs, c, rk⟩ := carries_of (P := X.prog) (w := X.w) rel
  obtain ⟨z, hd, vs0, r0, dd⟩ := dk_of I2.hok e
  cases r0
  refine ⟨rs, c, dd, fun h' dd' hs => ⟨.ref s.heap.objs.size, _, ?_, rfl, q2⟩⟩
  have hz : (mergeK [] kvs).length ≤ sizeLine := by
    have h1 := length_mergeK kvs []
    rw [List.length_nil] at h1
    rw [sizeLine_eq]; omega
  have he : ∃ q, h'.get? s.heap.objs.size = some q := let ⟨q, _, _, hq, _⟩ := dd'; ⟨q, hq⟩
  exact d_write I2 (by rw [e]; exact True.intro) hs he (dk_new hz hd (rk.merge .nil) dd')
structure M1 (X : Cx) (o : Expr) (m : Str) (apos : Pos) (e : Expr) (cpos : Pos) : Prop where
  base : attributeBase o m X.env (eval o X.env) = eval o X.env
  few : ((backTo cpos (starEach [e] X.env)).all (fun x => !x.1) && (backToKw cpos (keywordEach [] X.env)).all (fun x => x.1.isSome)
    && decide (([e] : List Expr).length + ([] : List Keyword).length + (if ([] : List Keyword).isEmpty then 0 else 1) < 30)) = true
  line : (apos.endLine == cpos.line) = true
  trees : backTo cpos (starEach [e] X.env) = [(false, eval e X.env)]
def IsD (H : Hp) (a : Addr) : Prop := (∃ kvs, Rd H a (.dK kvs)) ∨ ∃ kvs, Rd H a (.dT kvs)
theorem isD_at {X : Cx} {pins : List (Addr × Obj)} {σ : St} {H : Hp} {s : Shared} {a : Addr} (I : Inv X pins σ H s) (d : IsD H a) :
    s.TypeIs (.ref a) "dict" ∧ (∀ b, Value.ref a = .ref b → ∃ ob, s.heap.get? b = some ob ∧ ob.dict = none) ∧ (a == sysModules) = false := by
  rcases d with ⟨kvs, e⟩ | ⟨kvs, e⟩
  · obtain ⟨_, hd, vs, _, dd⟩ := dk_rd I.hok e
    refine ⟨dd.typeIs, fun b q => ?_, hd⟩
    cases q
    obtain ⟨ob, _, _, h1, h2, _⟩ := dd
    exact ⟨ob, h1, h2.2.1⟩
  · obtain ⟨_, hd, xs, _, dd⟩ := dt_rd I.hok e
    refine ⟨dd.typeIs, fun b q => ?_, hd⟩
    cases q
    obtain ⟨ob, _, _, h1, h2, _⟩ := dd
    exact ⟨ob, h1, h2.2.1⟩
def tDPop1 (td ty : TE) : TE := fun σ H Q => td σ H fun x H1 => ∃ a, x = .ref a ∧ IsD H1 a ∧ ty σ H1 fun y H2 => ∃ kvs k v, H2 a = some (.dK kvs) ∧ y = kV k ∧ valV kvs k = some v ∧ Q v (upd H2 a (.dK (dropK kvs k)))
section
variable {X : Cx} {o e f : Expr} {apos cpos : Pos} {td ty tx : TE}
theorem pe_dpop1 (ho : PE X o td) (he : PE X e ty) (m : M1 X o "pop" apos e cpos) : PE X (.Call (.Attribute o "pop" apos) [e] [] cpos) (tDPop1 td ty) := by
  intro pins s σ H Q I h
  refine wpAny_Call_method m.base m.few m.line PySem.F.plainAttrs_dict PySem.F.slot_dict_pop PySem.F.type_dict_pop (thn (ho pins s σ H _ I h) fun u s1 ⟨x, H1, I1, rx, a, ex, d, q1⟩ => ?_)
  subst ex
  obtain rfl : u = Value.ref a := rx
  obtain ⟨t1, t2, _⟩ := isD_at I1 d
  refine ⟨t1, t2, ?_⟩
  rw [m.trees]
  refine Calls.callWith_builtin rfl (Calls.evalArgs_plain (Calls.spliced_cons (thn (he pins s1 σ H1 _ I1 q1) fun iv s2 ⟨y, H2, I2, ry, kvs, k, v, ea, ey, l, q2⟩ => Calls.spliced_nil ?_)))
  subst ey
  exact d_pop I2 ea ry l (.inl rfl) fun w' s3 I3 rw' => ⟨v, _, I3, rw', q2⟩
end
end L2
namespace Att
open PySem PySem.W PySem.Calls PyProof.Rows
theorem ints_of_wellAll {P : Params} {h : Heap} : ∀ (ns : List Int) (vs : List Value), WellAll P h vs (ns.map WData.int) → IntsAre vs ns := by
  intro ns
  induction ns with
  | nil =>
    intro vs w
    rw [List.map_nil] at w
    cases w
    exact .nil
  | cons n ns ih =>
    intro vs w
    rw [List.map_cons] at w
    cases w with
    | cons a b =>
      cases a
      exact .cons _ _ (ih _ b)
theorem script_of {l : OpenLaw} {n : Nat} (hn : l.most = some n) {P : Params} {h : Heap} {args : List WData} {vals : List Value}
    (hpre : l.row.toRowW.claim.pre args = true) (hwl : WellAll P h vals args) :
    ∃ a vs ns, vals = [Value.ref a] ∧ args = [WData.list (ns.map WData.int)] ∧ h.get? a = some { cls := .type "list", data := .seq vs.toArray } ∧ IntsAre vs ns ∧ ns.length ≤ n := by
  have hsh : WShape.hasAll [] args [.list .int] = true := (pre_splitW hpre).1
  have hc : l.pre.holds [] { args := args } = true := (pre_splitW hpre).2
  obtain ⟨d, r, rfl, h1, h2⟩ := hasAllW_cons hsh
  obtain rfl := hasAllW_nil h2
  obtain ⟨xs, rfl, h3⟩ := hasW_list h1
  obtain ⟨ns, rfl⟩ := items_int h3
  have hlen : ns.length ≤ n := by
    unfold OpenLaw.pre at hc
    have h4 : (WTm.not (.lt (.lit (.int (n : Int))) (.len (.arg 0)))).holds [] { args := [.list (ns.map .int)] } = true := by
      have h4 := (holds_andW hc).1
      rw [hn] at h4
      exact h4
    have h5 := condW_of h4 (w_not (w_lt w_lit (w_len_list (w_arg rfl))))
    rw [List.length_map] at h5
    refine Nat.le_of_not_lt fun q => ?_
    have q' : (n : Int) < ((ns.length : Nat) : Int) := by omega
    first
      | (rw [decide_eq_true q'] at h5; exact absurd h5 (by decide))
      | (simp at h5; omega)
  cases hwl with
  | cons w1 w2 =>
    cases w2
    cases w1 with
    | list ho hall => exact ⟨_, _, ns, rfl, rfl, ho, ints_of_wellAll ns _ hall, hlen⟩
theorem post_true (l : OpenLaw) (args : List WData) : l.row.toRowW.claim.post args (.bool true) args = true :=
  postW_of (r := l.row.toRowW) (X := (true == true))
    (show WShape.has [] (.bool true) .bool = true by first | rfl | decide | simp [WShape.has, WShape.arms, WShape.armsAll])
    (show (WTm.eq .res (.lit (.bool true))).value [] { args := args, res := some (.bool true), after := args } = some (.bool (true == true)) from w_eq_bool (w_res rfl) w_lit) rfl
theorem attach_call {l : OpenLaw} {n : Nat} {q : Program} {loose : List Str} {XP : (Str → Option Value) → Heap → Prop} {YP : World → Heap → Prop} {d : DefRec}
    (hn : l.most = some n) (hdf : d.params.defaults = [])
    (call : ∀ (w : World) (s₀ s₁ : Shared) (mg mb : Str → Option Value) (fa : Addr) (o : Obj) (pm cd doc : Value) (a : Addr) (vs : List Value) (ns : List Int),
      Ground q loose [] XP w s₀ mg mb s₁.heap → YP w s₁.heap →
      s₁.heap.get? fa = some o → o.data = .func (docDef d.name d.params d.body d.scope pm cd doc) → s₁.heap.CodeRec cd d.name → mg d.name = some (.ref fa) →
      s₁.heap.get? a = some { cls := .type "list", data := .seq vs.toArray } → IntsAre vs ns → ns.length ≤ n → s₁.gens = #[] →
      codeAny (model l.prog w) callerA (.call (.ref fa) ⟨[.ref a], []⟩) (fun r s' => r = .ok (.ret (.bool true)) ∧ OldK s₁.heap s'.heap ∧ s'.os = s₁.os ∧ AllBare s'.gens) s₁) :
    WalkO q loose XP YP l.row.toRowW d [] (fun f vs => PySem.call f vs) := by
  intro w s₀ s₁ mg mb G Y fa o pm cd doc dV kV ho hd hcd hD hmg hg args vals as hpre hlay hrd hwl hlo
  obtain rfl : dV = .none := Dflts.none hD hdf
  obtain rfl : kV = .none := Dflts.noKw hD
  obtain ⟨a, vs, ns, rfl, rfl, hobj, hints, hlen⟩ := script_of hn hpre hwl
  refine enter_call (codeAny_mono (call w s₀ s₁ mg mb fa o pm cd doc a vs ns G Y ho (fd_plain hd) hcd hmg hobj hints hlen hg) fun r s' hq => ?_)
  obtain ⟨rfl, h2, h3, h4⟩ := hq
  exact ⟨.inl ⟨.bool true, .bool true, [], rfl, fun _ => rfl, .bool true, post_true l _, fun _ => ⟨List.Pairwise.nil, fun _ hm => (nomatch hm)⟩⟩, h2, h3, h4⟩
end Att
namespace L2
open PySem PySem.Spec PyProof.Rows
theorem vals_ints : ∀ {vs : List Value} {ns : List Int}, IntsAre vs ns → Vals (ns.map V.int) vs
  | _, _, .nil => .nil
  | _, _, .cons n t h => .cons ⟨t, rfl⟩ (vals_ints h)
def Only (H : Hp) : Prop := ∀ b, H b = none ∨ ∃ o xs, H b = some (.frz o (.lst xs))
theorem law_call {P : Program} {w : World} {K : PySem.W.Frag} {mg mb : Str → Option Value} {CX : CXT} {k : Nat} {fa a : Addr} {fd : FuncData} {x : Str} {sp : Sp} {s₁ : Shared} {vs : List Value} {ns : List Int}
    (KX : K.In s₁.heap) (hns : s₁.heap.Ns mainGlobals mg) (hb : s₁.heap.Ns builtinsNs mb) (hbb : ∀ x : Str, x ≠ "__name__" → mb x = bootBuiltins x) (hlim : s₁.heap.NoLimit) (hg : s₁.gens = #[])
    (ha : s₁.heap.get? a = some { cls := .type "list", data := .seq vs.toArray }) (hi : IntsAre vs ns) (hl : ns.length ≤ sizeLine) (hr : Room k callerA)
    (F : ∀ base : Heap, K.In base → base.Ns mainGlobals mg → FnOk P w K mg base CX k fa fd [x] sp) (hbind : ∀ (s : Shared) (u : Value), BindsTo s fd ⟨[u], []⟩ [(x, u)])
    (hsp : ∀ H : Hp, Only H → SqL K H a (ns.map V.int) → sp [.ref a] H (fun v _ => v = .bl true) fun _ _ _ => False)
    (hCX : ∀ H e s', CX [] H s₁ (fun _ _ _ => False) e s' → False) :
    codeAny (model P w) callerA (.call (.ref fa) ⟨[.ref a], []⟩) (fun r s' => r = .ok (.ret (.bool true)) ∧ OldK s₁.heap s'.heap ∧ s'.os = s₁.os ∧ AllBare s'.gens) s₁ := by
  have rv := vals_ints hi
  have lenV := hi.length
  have core : ∀ H : Hp, Only H → SqL K H a (ns.map V.int) → HOk P w H s₁.heap → (∀ b, H b ≠ none → b = a) → (H a ≠ none → K.lookup a = none) →
      codeAny (model P w) callerA (.call (.ref fa) ⟨[.ref a], []⟩) (fun r s' => r = .ok (.ret (.bool true)) ∧ OldK s₁.heap s'.heap ∧ s'.os = s₁.os ∧ AllBare s'.gens) s₁ := by
    intro H hO hS hok hA hK
    have base_of : ∀ {b : Addr} {o : Obj}, s₁.heap.get? b = some o → H b = none → (hidT s₁.heap H).get? b = some o := fun e n => hidT_get e n
    have noA : ∀ {b : Addr} {o : Obj} {es : Array DictEntry} {ep : Nat}, s₁.heap.get? b = some o → o.data = .dict es ep → H b = none := fun {b o es ep} e d => by
      cases q : H b with
      | none => rfl
      | some u =>
        have e' : b = a := hA b (by rw [q]; simp)
        subst e'
        rw [ha] at e; cases e
        have d' : Data.seq vs.toArray _ = Data.dict es ep := d
        cases d'
    have nsK : ∀ {b : Addr} {m : Str → Option Value}, s₁.heap.Ns b m → (hidT s₁.heap H).Ns b m := fun {b m} ⟨o, es, ep, e, d, r⟩ => ⟨o, es, ep, base_of e (noA e d), d, r⟩
    have hKb : K.In (hidT s₁.heap H) := fun b o e => base_of (KX b o e) (by
      cases q : H b with
      | none => rfl
      | some u =>
        have e' : b = a := hA b (by rw [q]; simp)
        subst e'
        rw [hK (by rw [q]; simp)] at e; cases e)
    have hM : Mod K mg (hidT s₁.heap H) := ⟨hKb, nsK hns, ⟨mb, nsK hb, hbb⟩, let ⟨mc, h1, h2⟩ := hlim; ⟨mc, nsK h1, h2⟩⟩
    have e0 : Env0 P w K mg (hidT s₁.heap H) callerA [] s₁ H := ⟨rfl, hM, fun b o e => of_hidT e, Nat.le_of_eq (hidT_size _ _), trivial, fun b hb => absurd (show b ∈ ([] : List Addr) from hb) (by simp), hok, .of_eq hg⟩
    refine codeAny_mono ((F _ hKb (nsK hns)).run callerA [] s₁ H ⟨[.ref a], []⟩ [.ref a] [.ref a] _ _ hr e0 (hbind s₁ (.ref a)) (.cons rfl .nil) (hsp H hO hS)) fun r s' h => ?_
    cases r with
    | error e => exact (hCX H e s' h).elim
    | ok fl =>
      cases fl with
      | next => exact False.elim h
      | brk => exact False.elim h
      | cont => exact False.elim h
      | ret u =>
        obtain ⟨v, H', os, bare, un, hok', r', q⟩ := h
        have q' : v = .bl true := q
        subst q'
        obtain rfl : u = Value.bool true := r'
        refine ⟨rfl, OldK.of_keep fun b o e => ?_, os, bare⟩
        cases q : H b with
        | none => exact un.keep b o e q (by intro z; exact absurd (show b ∈ ([] : List Addr) from z) (by simp)) (by simp)
        | some u =>
          rcases hO b with z | ⟨ob, xs, z⟩
          · rw [q] at z; cases z
          · have z2 := un.frzs b ob _ z
            obtain ⟨e1, _⟩ := hok b _ z
            obtain ⟨e2, _⟩ := hok' b _ z2
            rw [e] at e1; cases e1
            exact e2
  cases hk : K.lookup a with
  | some o =>
    have e := KX a o hk
    rw [ha] at e
    cases e
    refine core (fun _ => none) (fun _ => .inl rfl) (.inr ⟨_, vs.toArray, _, hk, rfl, rfl, rfl, by rw [List.size_toArray, lenV]; exact hl, by simpa using rv⟩) (fun b u z => by have z' : (none : Option HO) = some u := z; cases z') (fun b z => absurd rfl z) fun z => absurd rfl z
  | none =>
    refine core (fun b => if b = a then some (.frz { cls := .type "list", data := .seq vs.toArray } (.lst (ns.map V.int))) else none) (fun b => ?_) (.inl (.inr ⟨{ cls := .type "list", data := .seq vs.toArray }, if_pos rfl⟩)) (fun b u z => ?_) (fun b z => ?_) fun _ => hk
    · by_cases hb : b = a
      · exact .inr ⟨_, _, if_pos hb⟩
      · exact .inl (if_neg hb)
    · by_cases hb : b = a
      · have z' := (if_pos hb).symm.trans z
        cases z'
        subst hb
        exact ⟨ha, by rw [List.length_map]; exact hl, vs, _, rv, ha⟩
      · have z' := (if_neg hb).symm.trans z
        cases z'
    · by_cases hb : b = a
      · exact hb
      · exact absurd (if_neg hb) z
end L2
namespace L2
open PySem PySem.Spec PyProof.Rows
theorem walk_of {l : PySem.W.OpenLaw} {n k : Nat} {q : Program} {loose : List Str} {XP : (Str → Option Value) → Heap → Prop} {YP : World → Heap → Prop} {d : DefRec} {K : Params → PySem.W.Frag} {CX : World → CXT} {sp : World → Sp} {x : Str}
    (hn : l.most = some n) (hn2 : n ≤ sizeLine) (hdf : d.params.defaults = []) (hr : Room k callerA)
    (hY : ∀ (w : World) (h : Heap), YP w h → (K w.params).In h)
    (F : ∀ (w : World) (mg : Str → Option Value) (fa : Addr) (h : Heap), (K w.params).In h → h.Ns mainGlobals mg → mg d.name = some (.ref fa) →
      ∃ fd : FuncData, (∀ (s : Shared) (u : Value), BindsTo s fd ⟨[u], []⟩ [(x, u)]) ∧
        ∀ base : Heap, (K w.params).In base → base.Ns mainGlobals mg → FnOk l.prog w (K w.params) mg base (CX w) k fa fd [x] (sp w))
    (hsp : ∀ (w : World) (H : Hp) (a : Addr) (ns : List Int), ns.length ≤ n → Only H → SqL (K w.params) H a (ns.map V.int) → sp w [.ref a] H (fun v _ => v = .bl true) fun _ _ _ => False)
    (hCX : ∀ (w : World) (H : Hp) (s : Shared) (e : Value) (s' : Shared), CX w [] H s (fun _ _ _ => False) e s' → False) :
    PySem.W.WalkO q loose XP YP l.row.toRowW d [] (fun f vs => PySem.call f vs) := by
  refine Att.attach_call hn hdf fun w s₀ s₁ mg mb fa o pm cd doc a vs ns G Y ho hd hcd hmg hobj hints hlen hg => ?_
  have KX := hY w _ Y
  obtain ⟨fd, hb, hF⟩ := F w mg fa _ KX G.T.g hmg
  exact law_call KX G.T.g G.T.b G.T.builtins G.T.nolimit hg hobj hints (Nat.le_trans hlen hn2) hr hF hb (fun H hO hS => hsp w H a ns hlen hO hS) fun H e s' => hCX w H s₁ e s'
end L2
/- THE LAST THEOREM (shape; LID, My.* are yours):
   My.Adr: a structure of the addresses that your layer names (classes, functions); My.Txt K t: a structure (Prop) of the equations over K;
   My.txt_mk : {K} {implicit addresses ..} (e1 : nsIn K mainGlobals "law" = some (some (.ref f))) (e2 : K.lookup f = some ⟨oc, od, .func (fnOf "law" "law" params body scope dV kV doc pm an cdv ct), sl⟩) (e3 : codeIn K cdv "law" = true) .. : ∃ t, My.Txt K t
set_option maxRecDepth 100000 in
set_option maxHeartbeats 0 in
theorem PySem.Challenge.cw_LID_holds : PySem.Challenge.rw_LID.Holds := by
  w_on; o_law; k_head; (case hw => w_witness2)
  k_fill
  refine L2.walk_of (l := PySem.Challenge.rw_LID) (n := 63) (k := 40) (x := "script") (CX := fun w => ..) (sp := fun _ => My.sp_law) rfl (by decide) rfl ⟨rfl, by decide, by decide⟩ (fun w h Y => PySem.W.kIn_of Y) ?F ?S ?C
  case F =>
    intro w mg fa h KX G hmg
    have T : ∃ t, My.Txt (L2.KOf KX) t := by
      dsimp only [L2.KOf]                          -- K must stand as «<heap const> w.params» for k_is
      refine' My.txt_mk ?e1 ?e2 ?e3 ..
      (case e1 => PySem.W.k_is)                    -- in the order: a name -> its address -> its object -> its parts
      (case e2 => PySem.W.k_is)
      ..
    obtain ⟨t, T⟩ := T
    have e0 := hmg.symm.trans (PySem.W.mg_of KX G T.law)
    cases e0                                       -- fa is the law's own address
    exact ⟨_, fun s u => .of_eq rfl, fun base kb nb => My.law_fn T kb nb⟩     -- if «.of_eq rfl» comes too early: refine' ⟨_, ?b, fun base kb nb => My.law_fn T kb nb⟩; exact fun s u => .of_eq rfl
  case S => exact fun w H a ns hl hO hS => ..
  case C => exact ..
(the tactic k_is has no namespace: write k_is) -/
namespace L2
open PySem PySem.Spec PyProof.Rows
def defArgs (s : Stmt) : Arguments := match s with
  | .FunctionDef _ a _ _ _ _ _ _ _ _ => a
  | _ => { posonlyargs := [], args := [], vararg := none, kwonlyargs := [], kw_defaults := [], kwarg := none, defaults := [] }
def defBody (s : Stmt) : List Stmt := match s with
  | .FunctionDef _ _ b _ _ _ _ _ _ _ => b
  | _ => []
def defScope (s : Stmt) : Scope := match s with
  | .FunctionDef _ _ _ _ _ _ sc _ _ _ => sc
  | _ => { kind := .function, names := [], isGenerator := false, isCoroutine := false }
abbrev CX0 : CXT := fun _ _ _ _ _ _ => False
abbrev E0 : XK := fun _ _ _ => False
theorem pass0 {X : Cx} : Passes CX0 X E0 := fun _ _ _ _ _ _ _ h => h.elim
structure Fun (K : PySem.W.Frag) (x qual : Str) (st : Stmt) (f : Addr) (fd : FuncData) : Prop where
  ex : ∃ (oc : Value) (od : Option Addr) (kV doc pm : Value) (an : Option Addr) (cdv ct : Value) (osl : Array (Option Value)),
    fd = PySem.W.fnOf x qual (defArgs st) (defBody st) (defScope st) .none kV doc pm an cdv ct ∧ K.lookup f = some ⟨oc, od, .func fd, osl⟩ ∧ PySem.W.codeIn K cdv qual = true
  kp : PySem.W.keepIn K (.ref f) = true
section
variable {P : Program} {w : World} {K : PySem.W.Frag} {mg : Str → Option Value} {base : Heap}
theorem Fun.ok {x qual : Str} {st : Stmt} {f : Addr} {fd : FuncData} {N ps : List Str} {k : Nat} {sp : Sp} (F : Fun K x qual st f fd) (S : FnScope N ps (defScope st)) (len : ∀ vs H Q E, sp vs H Q E → vs.length = ps.length)
    (hbody : ∀ (cdv : Value) (A : Around) (outer : List Env) (s : Shared) (H : Hp) (vs : List V) (Q : VK) (E : XK), Room k (A.deeper (envOfC qual (defScope st) s.heap.objs.size f cdv)) → sp vs H Q E →
      ∃ t, PSs (cxOf CX0 P w K mg base N qual (defScope st) f cdv A outer s H E).nox (defBody st) t ∧ t { nx := fun _ H' => Q .non H', rt := Q } (start N vs) H) : FnOk P w K mg base CX0 (k + 1) f fd ps sp := by
  obtain ⟨oc, od, kV, doc, pm, an, cdv, ct, osl, rfl, lk, hcd⟩ := F.ex
  refine fn_of lk hcd S len fun A outer s H vs Q E hr hsp => ?_
  obtain ⟨t, h, q⟩ := hbody cdv A outer s H vs Q E hr hsp
  exact ⟨t, h.nox, q⟩
theorem Fun.binds {x qual : Str} {st : Stmt} {f : Addr} {fd : FuncData} {ps : List Str} (F : Fun K x qual st f fd)
    (h : ∀ (kV doc pm : Value) (an : Option Addr) (cdv ct : Value) (us : List Value), us.length = ps.length → bindArgs (PySem.W.fnOf x qual (defArgs st) (defBody st) (defScope st) .none kV doc pm an cdv ct) ⟨us, []⟩ = pure (ps.zip us)) : Binds K fd ps [] := by
  obtain ⟨oc, od, kV, doc, pm, an, cdv, ct, osl, rfl, lk, hcd⟩ := F.ex
  exact .all (h kV doc pm an cdv ct)
theorem fun_mk {x qual : Str} {st : Stmt} {f : Addr} {oc : Value} {od an : Option Addr} {osl : Array (Option Value)} {kV doc pm cdv ct : Value} (l : K.lookup f = some ⟨oc, od, .func (PySem.W.fnOf x qual (defArgs st) (defBody st) (defScope st) .none kV doc pm an cdv ct), osl⟩)
    (c : PySem.W.codeIn K cdv qual = true) (k : PySem.W.keepIn K (.ref f) = true) : Fun K x qual st f (PySem.W.fnOf x qual (defArgs st) (defBody st) (defScope st) .none kV doc pm an cdv ct) := ⟨⟨oc, od, kV, doc, pm, an, cdv, ct, osl, rfl, l, c⟩, k⟩
end
theorem hu_of {A : Around} {k : Nat} (hr : Room k A) : A.units + 1 < cLine := Nat.lt_of_le_of_lt (Nat.add_le_add_left (by decide : 1 ≤ 64) _) hr.units
theorem small1000 {n : Nat} (h : n ≤ 1000) : n < sizeLine := Nat.lt_of_le_of_lt h (by decide)
section
variable {X : Cx}
theorem pv (i : Nat) {x : Str} {pos : Pos} (hN : X.N[i]? = some x := by rfl) (hv : Vis X.env.scope x := by first | exact Or.inl rfl | exact Or.inr (Or.inl rfl) | exact Or.inr (Or.inr rfl)) (hd : (x == ("__debug__" : Str)) = false := by decide)
    (hcd : (x == ("__classdict__" : Str)) = false := by decide) : PE X (.Name x pos) (tVar i) := pe_var hN hv hd hcd
end
theorem iteF {A B : Prop} (h : B) : if false = true then A else B := by
  rw [if_neg Bool.false_ne_true]
  exact h
theorem iteT {A B : Prop} (h : A) : if true = true then A else B := by
  rw [if_pos rfl]
  exact h
theorem ite2 {c A B : Prop} [Decidable c] (h1 : c → A) (h2 : ¬ c → B) : if c then A else B := by
  by_cases h : c
  · rw [if_pos h]
    exact h1 h
  · rw [if_neg h]
    exact h2 h
def Same (H H' : Hp) : Prop := ∀ b o, H b = some o → H' b = some o
theorem Same.trans {H H1 H2 : Hp} (a : Same H H1) (b : Same H1 H2) : Same H H2 := fun c o h => b c o (a c o h)
end L2
namespace L2
theorem hideG {p : Prop} (h : ∀ G : Prop, (p → G) → G) : p := h p id
end L2
set_option maxHeartbeats 4000000
namespace L2
open PySem PySem.Spec PyProof.Rows
def closes (env : Env) : List (Str × NameKind) → List (Str × Addr) → List (Str × Addr)
  | [], cs => cs
  | (n, k) :: r, cs => closes env r (if k = .free then (n, (env.cells.lookup n).getD 0) :: cs else cs)
theorem closes_ok {env : Env} : ∀ (ns : List (Str × NameKind)) (cs : List (Str × Addr)), (∀ p ∈ ns, p.2 = .free → (env.cells.lookup p.1).isSome = true) →
    (forIn ns cs fun (x : Str × NameKind) r => (do
      let mut cs := r
      if x.2 == .free then cs := (x.1, ← cellOf env x.1) :: cs
      pure (ForInStep.yield cs) : Sem (ForInStep (List (Str × Addr))))) = pure (closes env ns cs)
  | [], cs, _ => rfl
  | (n, k) :: r, cs, h => by
    have ih := fun cs => closes_ok (env := env) r cs fun p hp => h p (List.mem_cons_of_mem _ hp)
    rw [List.forIn_cons]
    by_cases hk : k = .free
    · subst hk
      have q := h (n, .free) List.mem_cons_self rfl
      obtain ⟨c, hc⟩ := Option.isSome_iff_exists.mp q
      have e : cellOf env n = pure c := by unfold cellOf; rw [hc]
      simp only [e]
      simp [closes, hc, ih]
      have := ih ((n, c) :: cs)
      simpa using this
    · have hb : (k == NameKind.free) = false := by simpa using hk
      simp [closes, hk]
      have := ih cs
      simpa using this
theorem closureFor_closes {scope : Scope} {env : Env} (h : ∀ p ∈ scope.names, p.2 = .free → (env.cells.lookup p.1).isSome = true) : closureFor scope env = pure (closes env scope.names []) := by
  have q := closes_ok (env := env) scope.names [] h
  unfold closureFor
  simp at q ⊢
  exact q
theorem closes_sub {env : Env} : ∀ (ns : List (Str × NameKind)) (cs : List (Str × Addr)), (∀ p ∈ ns, p.2 = .free → (env.cells.lookup p.1).isSome = true) → (∀ y c, cs.lookup y = some c → env.cells.lookup y = some c) →
    ∀ y c, (closes env ns cs).lookup y = some c → env.cells.lookup y = some c
  | [], cs, _, h, y, c, e => h y c e
  | (n, k) :: r, cs, h, hc, y, c, e => by
    unfold closes at e
    refine closes_sub r _ (fun p hp => h p (List.mem_cons_of_mem _ hp)) ?_ y c e
    intro y c e
    by_cases hk : k = .free
    · subst hk
      rw [if_pos rfl] at e
      obtain ⟨d, hd⟩ := Option.isSome_iff_exists.mp (h (n, .free) List.mem_cons_self rfl)
      rw [List.lookup_cons] at e
      cases q : y == n with
      | true =>
        rw [q] at e
        have : y = n := by simpa using q
        subst this
        rw [hd] at e ⊢
        exact e
      | false =>
        rw [q] at e
        exact hc y c e
    · rw [if_neg hk] at e
      exact hc y c e
theorem closes_keep {env : Env} {y : Str} : ∀ (ns : List (Str × NameKind)) (cs : List (Str × Addr)), (cs.lookup y).isSome = true → ((closes env ns cs).lookup y).isSome = true
  | [], cs, h => h
  | (n, k) :: r, cs, h => by
    unfold closes
    refine closes_keep r _ ?_
    split
    · rw [List.lookup_cons]
      split
      · rfl
      · exact h
    · exact h
theorem closes_has {env : Env} {y : Str} : ∀ (ns : List (Str × NameKind)) (cs : List (Str × Addr)), (y, NameKind.free) ∈ ns → ((closes env ns cs).lookup y).isSome = true
  | (n, k) :: r, cs, h => by
    unfold closes
    rcases List.mem_cons.mp h with e | e
    · cases e
      refine closes_keep r _ ?_
      rw [if_pos rfl, List.lookup_cons]
      simp
    · exact closes_has r _ e
def compCx (X : Cx) (scope : Scope) (N : List Str) (C : Addr) (s : Shared) (H : Hp) (ex : List Addr) (pins : List (Addr × Obj)) : Cx where
  prog := X.prog
  w := X.w
  K := X.K
  mg := X.mg
  base := X.base
  A := X.A
  N := N
  s₀ := s
  H₀ := H
  env := compEnvC scope (closes X.env scope.names []) C X.env
  outer := X.stack
  stack := X.stack
  ex := ex
  fn := fun _ => false
  calm := X.calm
  pn := X.pn ++ pins
  xe := fun _ _ => False
def cst (nT : Nat) (js : List Nat) (σ : St) : St := List.replicate nT none ++ js.map fun j => (σ[j]?).join
structure CScope (X : Cx) (scope : Scope) (T F : List Str) (js : List Nat) : Prop where
  kind : scope.kind = .function
  nocell : ∀ y ∈ scope.names, y.2 ≠ .cell
  names : ∀ x ∈ scope.names, x.2 = .local → scope.names.lookup x.1 = some .local
  free : ∀ x ∈ scope.names, x.2 = .free → X.env.kindOf x.1 = some .cell
  loc : ∀ y ∈ T, (relabel scope X.env).names.lookup y = some .local
  cel : ∀ y ∈ F, (relabel scope X.env).names.lookup y = some .cell ∧ X.env.kindOf y = some .cell ∧ (y, NameKind.free) ∈ scope.names
  all : ∀ x ∈ (relabel scope X.env).names, (x.2 = .cell ∨ x.2 = .free) → (x.1, NameKind.free) ∈ scope.names
  js : js.map (fun j => X.N[j]?) = F.map some
section
variable {X : Cx} {scope : Scope} {T F : List Str} {js : List Nat}
theorem comp_inv {pins : List (Addr × Obj)} {σ : St} {H : Hp} {s : Shared} {h1 : Heap} {tk : Nat} {fp : List Addr} {m : Str → Option Value} (S : CScope X scope T F js) (I : Inv X pins σ H s)
    (hn : h1.Ns s.heap.objs.size m) (kk : ∀ b o, s.heap.get? b = some o → h1.get? b = some o) (hf : ∀ b ∈ fp, FpOk X pins H b ∧ ∃ o, s.heap.get? b = some o ∧ ∀ v, o.data ≠ .cell v) :
    Inv (compCx X scope (T ++ F) s.heap.objs.size s H fp pins) [] (cst T.length js σ) H { s with heap := h1, toks := tk } := by
  have sub := closes_sub (env := X.env) scope.names [] (fun p hp hk => by
    obtain ⟨c, e⟩ := I.ok.has p.1 (.inl (S.free p hp hk))
    rw [e]; rfl) (fun y c e => by simp at e)
  have ltC : ∀ y c, X.env.cells.lookup y = some c → c < s.heap.objs.size := fun y c e => by
    obtain ⟨v, z⟩ := I.cell y c e
    exact z.lt
  refine ⟨⟨I.ok.mod, ?_, I.ok.glob, I.ok.blt, Nat.le_refl _, fun x y c e1 e2 => I.ok.inj x y c (sub x c e1) (sub y c e2), fun x hx => ?_, fun x c hx => absurd hx Bool.false_ne_true, I.ok.hd, I.ok.frames, .inl rfl, fun b hb => ?_, I.bs, ?_, fun b o e hb => ?_, fun b hb hs => ?_, I.stack, I.stkFree⟩,
    rfl, I.bare, Un.kept kk, ⟨m, hn, fun i x v e1 e2 e3 => ?_⟩, fun x c e => ?_, I.hok.fresh (Nat.le_refl _), fun x c e => I.freeC x c (sub x c e), fun p hp => ?_, I.hok.kept kk, ?_⟩
  · show (relabel scope X.env).kind = .function
    exact S.kind
  · have hx : (relabel scope X.env).names.lookup x = some .cell ∨ (relabel scope X.env).names.lookup x = some .free := hx
    have hm : (x, NameKind.free) ∈ scope.names := by
      rcases hx with h | h
      · exact S.all _ (PySem.mem_of_lookup h) (.inl rfl)
      · exact S.all _ (PySem.mem_of_lookup h) (.inr rfl)
    exact Option.isSome_iff_exists.mp (closes_has scope.names [] hm)
  · obtain ⟨⟨f0, f1, f2, f3, f4, f5⟩, o, ho, _⟩ := hf b hb
    exact ⟨Nat.ne_of_lt (Heap.lt_size ho), fun x c e => f4 x c (sub x c e)⟩
  · exact Nat.le_trans I.ok.bsz I.sz
  · obtain ⟨⟨f0, f1, f2, f3, f4, f5⟩, _⟩ := hf b hb
    rcases f3 with z | z
    · exact I.ok.noex b o e z
    · exact absurd (Nat.lt_of_lt_of_le (Heap.lt_size e) (Nat.le_trans I.ok.bsz z)) (Nat.lt_irrefl _)
  · obtain ⟨⟨f0, f1, f2, f3, f4, f5⟩, _⟩ := hf b hb
    rcases List.mem_cons.mp (I.stkSub b hs) with z | z
    · exact f1 z
    · exact f2 z
  · -- a name's value
    have hi : T.length ≤ i := by
      by_cases hi : i < T.length
      · unfold cst at e2
        rw [List.getElem?_append_left (by simpa using hi), List.getElem?_replicate] at e2
        split at e2 <;> cases e2
      · exact Nat.not_lt.mp (by assumption)
    obtain ⟨k, rfl⟩ : ∃ k, i = T.length + k := ⟨i - T.length, by omega⟩
    have e1 : (T ++ F)[T.length + k]? = some x := e1
    rw [List.getElem?_append_right (by assumption)] at e1
    have e1 : F[k]? = some x := by simpa using e1
    unfold cst at e2
    rw [List.getElem?_append_right (by simp)] at e2
    have e2 : (js.map fun j => (σ[j]?).join)[k]? = some (some v) := by simpa using e2
    rw [List.getElem?_map] at e2
    cases ej : js[k]? with
    | none => rw [ej] at e2; cases e2
    | some j =>
      rw [ej] at e2
      have e2 : (σ[j]?).join = some v := by simpa using e2
      have e3' : σ[j]? = some (some v) := by
        cases q : σ[j]? with
        | none => rw [q] at e2; cases e2
        | some z => rw [q] at e2; cases z with
          | none => cases e2
          | some z => simp at e2; rw [e2]
      have eN : X.N[j]? = some x := by
        have q := congrArg (fun l => l[k]?) S.js
        simp only [List.getElem?_map, ej, e1] at q
        simpa using q
      obtain ⟨c1, c2, c3⟩ := S.cel x (List.mem_of_getElem? e1)
      obtain ⟨m0, hn0, hl⟩ := I.loc
      obtain ⟨u, ru, lk⟩ := hl j x v eN e3' (.inr (.inl c2))
      refine ⟨u, ru, ?_⟩
      rcases lk with ⟨z, _⟩ | ⟨_, c, ec, hc⟩
      · rw [c2] at z; cases z
      · obtain ⟨c', ec'⟩ := Option.isSome_iff_exists.mp (closes_has (env := X.env) scope.names [] c3)
        have := sub x c' ec'
        rw [ec] at this; cases this
        refine .inr ⟨.inl c1, c, ec', ?_⟩
        obtain ⟨o, ho, hd⟩ := hc
        exact ⟨o, kk _ _ ho, hd⟩
  · obtain ⟨v, o, ho, hd⟩ := I.cell x c (sub x c e)
    exact ⟨v, o, kk _ _ ho, hd⟩
  · have hp : p ∈ (X.pn ++ pins) ++ [] := hp
    rw [List.append_nil] at hp
    obtain ⟨e, n, ne, nf, d⟩ := I.pin p hp
    refine ⟨kk _ _ e, n, Nat.ne_of_lt (Heap.lt_size e), fun z => ?_, d⟩
    rcases List.mem_cons.mp (I.stkSub p.1 z) with q | q
    · exact ne q
    · exact nf q
  · unfold cst
    show _ = (T ++ F).length
    have q := congrArg List.length S.js
    simp at q
    simp [q]
def PIf (X : Cx) (ifs : List Expr) (t : TT) : Prop :=
  ∀ (pins : List (Addr × Obj)) (s : Shared) (σ : St) (H : Hp) (Q : Bool → Hp → Prop), Inv X pins σ H s → t σ H Q →
    wpAny (model X.prog X.w) X.A (forIn ifs true fun c r => if r = true then do let ok ← isTrue c X.env (eval c X.env); pure (ForInStep.yield ok) else pure (ForInStep.yield r)) (TP X pins σ Q) X.xe s
def tYes : TT := fun _ H Q => Q true H
theorem pif_nil : PIf X [] tYes := fun pins s σ H Q I h => wpAny_tests_nil ⟨H, I, h⟩
theorem pif_one {c : Expr} {t : TT} (h : PT X c t) : PIf X [c] t := fun pins s σ H Q I hw => wpAny_tests_one (h pins s σ H Q I hw)
def cturn (g : TG) (ti : TT) (te : TE) (D : Addr) (x : V) (σ : St) (ys : List V) (H : Hp) (N : St → List V → Hp → Prop) : Prop :=
  g x σ H fun σ2 H2 => ti σ2 H2 fun b H3 => if b = true then te σ2 H3 fun y H4 => H4 D = some (.lst ys) ∧ ys.length < sizeLine ∧ N σ2 (ys ++ [y]) (upd H4 D (.lst (ys ++ [y]))) else N σ2 ys H3
def cgo (J : It) (g : TG) (ti : TT) (te : TE) (D : Addr) (σ : St) (H : Hp) (Q : VK) : Prop :=
  ∃ W : Nat → Nat → St → List V → Hp → Prop, (∃ m, W 0 m σ [] (upd H D (.lst []))) ∧ ∀ i m σ ys H, W i m σ ys H → H D = some (.lst ys) ∧
    ((J.stop i H ∧ Q (.ref D) H) ∨ (J.go i H ∧ ∃ N : St → List V → Hp → Prop, (∀ σ' ys' H', N σ' ys' H' → ∃ m', m' < m ∧ W (i + 1) m' σ' ys' H') ∧ ∀ x H', J.yld i H x H' → cturn g ti te D x σ ys H' N))
def tComp (wi : TI) (g : TG) (ti : TT) (te : TE) (nT : Nat) (js : List Nat) : TE := fun σ H Q => wi σ H fun J H1 => ∀ D, H1 D = none → cgo J g ti te D (cst nT js σ) H1 Q
theorem comp_out {pins : List (Addr × Obj)} {σ σ' : St} {H H' : Hp} {s s' : Shared} {h' : Heap} {N : List Str} {fp : List Addr} (I : Inv X pins σ H s) (hf : ∀ b ∈ fp, FpOk X pins H b)
    (J : Inv (compCx X scope N s.heap.objs.size s H fp pins) [] σ' H' s') (sb : Heap.SameBut s.heap.objs.size s'.heap h') : Inv X pins σ H' { s' with heap := h' } := by
  have ne : ∀ b o, s.heap.get? b = some o → b ≠ s.heap.objs.size := fun b o e => Nat.ne_of_lt (Heap.lt_size e)
  have u := J.base
  have u' : Un (frs X.stack) fp H H' s.heap h' :=
    ⟨fun b o e n h1 h2 => sb.extBut b o (ne b o e) (u.keep b o e n h1 h2), fun b o e n h1 h2 => by
      obtain ⟨sl, q⟩ := u.slot b o e n h1 h2
      exact ⟨sl, sb.extBut b _ (ne b o e) q⟩, u.free, fun b o e h => by
      obtain ⟨o', q⟩ := u.there b o e h
      exact ⟨o', sb.extBut b _ (ne b o e) q⟩, u.tups, u.frzs, u.tbls⟩
  have nC : H' s.heap.objs.size = none := J.free
  have hok : HOk X.prog X.w H' h' := fun b o e => by
    refine (J.hok b o e).stay (fun c v hc q => sb.extBut c v ?_ q) (fun _ q => q) fun _ _ q => q
    rcases hc with z | z
    · rw [z]; intro z'; rw [z', nC] at e; cases e
    · intro z'; rw [z', nC] at z; cases z
  exact I.call' (s' := { s' with heap := h' }) J.os u' hok J.bare fun b hb => by
    obtain ⟨f0, f1, f2, f3, f4, f5⟩ := hf b hb
    exact ⟨f3, f1, f4, f5⟩
theorem comp_go {tg elt iter : Expr} {ifs : List Expr} {pos : Pos} {g : TG} {ti : TT} {te : TE} {wi : TI} {pins : List (Addr × Obj)} {σ : St} {H : Hp} {s : Shared} {use : Option (Value → Sem Unit)} {QQ : Value → Shared → Prop} {Q : VK} (S : CScope X scope T F js) (hc : X.calm = true)
    (hi : PI X tg iter wi) (hg : ∀ C s H ex pins, PG (compCx X scope (T ++ F) C s H ex pins) tg g) (hif : ∀ C s H ex pins, PIf (compCx X scope (T ++ F) C s H ex pins) ifs ti) (he : ∀ C s H ex pins, PE (compCx X scope (T ++ F) C s H ex pins) elt te)
    (I : Inv X pins σ H s) (h : tComp wi g ti te T.length js σ H Q)
    (fin : ∀ (D C : Addr) (s' : Shared) (H' : Hp) (m : Str → Option Value), s'.heap.Ns C m → Q (.ref D) H' → FpOk X pins H' C → (∀ h', Heap.SameBut C s'.heap h' → Inv X pins σ H' { s' with heap := h' }) →
      compPost (model X.prog X.w) X.A X.xe use QQ (.ref D) C (.ok .next) s')
    (hs : ∀ x, foldedSetIterable iter X.env x = pure x) :
    wpAny (model X.prog X.w) X.A (comprehension (.ListComp elt [⟨tg, iter, ifs, 0⟩] scope pos) scope X.env (firstIterPos [⟨tg, iter, ifs, 0⟩] pos) (newList []) false (eval iter X.env) use) QQ X.xe s := by
  refine wpAny_comprehension_free (use := use) rfl hs (closureFor_closes fun p hp hk => ?_) S.kind S.names (thn (hi pins s σ H _ I h) fun v s1 h1 => thn h1 fun itv s2 h2 => ?_)
  · obtain ⟨c, e⟩ := I.ok.has p.1 (.inl (S.free p hp hk))
    rw [e]; rfl
  obtain ⟨it, fp, tn, J, H2, rfl, I2, Tn, st2, f2, h2⟩ := h2
  obtain ⟨W, ⟨m0, w0⟩, turn⟩ := h2 s2.heap.objs.size I2.fresh
  refine wpAny_newObj_type (wpAny_newFunctionEnv S.nocell (by intro y hy; simp at hy) (fun h₁ hns₁ hsb₁ => ?_) S.kind)
  have I3 := I2.lnew (t' := s2.toks) (ys := []) (its := []) Paired.nil (Nat.zero_le _)
  generalize hs3 : ({ s2 with heap := s2.heap.push { cls := .type "list", data := .seq ([] : List Value).toArray }, toks := s2.toks } : Shared) = s3 at I3
  have hf3 : ∀ b ∈ fp, FpOk X pins (upd H2 s2.heap.objs.size (.lst [])) b ∧ ∃ o, s3.heap.get? b = some o ∧ ∀ v, o.data ≠ .cell v := fun b hb => by
    obtain ⟨f0, fr⟩ := f2 b hb
    obtain ⟨o, e, d⟩ := Tn.obj _ _ st2 b hb
    refine ⟨⟨by rw [upd_ne (Nat.ne_of_lt (Heap.lt_size e))]; exact f0, fr⟩, o, ?_, d⟩
    rw [← hs3]
    exact Heap.get?_push_of_some _ e
  have e3 : s3.heap = s2.heap.push { cls := .type "list", data := .seq ([] : List Value).toArray } := by rw [← hs3]
  have kk : ∀ b o, s3.heap.get? b = some o → h₁.get? b = some o := fun b o e => by
    rw [e3] at e
    exact hsb₁.extBut b o (Nat.ne_of_lt (Heap.lt_size e)) (Heap.get?_push_of_some _ e)
  have hns : h₁.Ns s3.heap.objs.size (fun x => ([] : List (Str × Value)).reverse.lookup x) := by rw [e3]; exact hns₁
  have I4 := comp_inv (tk := s3.toks + ([] : List (Str × Value)).length) S I3 hns kk hf3
  have stat : ∀ {H' : Hp} {pl : List (Addr × Obj)}, (∀ p ∈ pl, ∀ b ∈ fp, p.1 ≠ b) → (∀ b ∈ fp, H' b = none) → ∀ b ∈ fp, FpOk (compCx X scope (T ++ F) s3.heap.objs.size s3 (upd H2 s2.heap.objs.size (.lst [])) fp pins) pl H' b := fun {H' pl} hp hn b hb => by
    obtain ⟨⟨f0, f1, f2, f3, f4, f5⟩, o, e, d⟩ := hf3 b hb
    obtain ⟨x1, x2⟩ := I4.ok.exf b hb
    refine ⟨hn b hb, x1, I4.ok.exfs b hb, .inl hb, x2, fun p hq => ?_⟩
    rcases List.mem_append.mp hq with z | z
    · exact f5 p z
    · exact hp p z b hb
  have loop : codeAny (model X.prog X.w) X.A (.compLoop (.ListComp elt [⟨tg, iter, ifs, 0⟩] scope pos) 0 (.ref it) (.ref s2.heap.objs.size) (compEnvC scope (closes X.env scope.names []) s3.heap.objs.size X.env))
      (compPost (model X.prog X.w) X.A X.xe use QQ (.ref s2.heap.objs.size) s3.heap.objs.size) { s3 with heap := h₁, toks := s3.toks + ([] : List (Str × Value)).length } := by
    refine codeAny_loop rfl (fun n s' => ∃ i σ' ys H', Inv (compCx X scope (T ++ F) s3.heap.objs.size s3 (upd H2 s2.heap.objs.size (.lst [])) fp pins) [] σ' H' s' ∧ tn i s'.heap ∧ (∀ b ∈ fp, H' b = none) ∧ W i n σ' ys H') ?_ m0 ⟨0, _, [], _, I4, ?_, fun b hb => (hf3 b hb).1.1, w0⟩
    · rintro n s5 ⟨i, σ5, ys, H5, I5, st5, fr5, w5⟩
      show wpAny _ X.A ((compTurn (.ListComp elt [⟨tg, iter, ifs, 0⟩] scope pos) 0 (.ref it) (.ref s2.heap.objs.size) (compEnvC scope (closes X.env scope.names []) s3.heap.objs.size X.env)).onRaise (fun x => do noteFrame x _; theTreesLotGoes x)) _ _ s5
      refine wpAny_noted ?_
      rw [compTurn_list]
      refine wpAny_bind (wpAny_standAt (wpAny_bind ?_))
      obtain ⟨hD, tu⟩ := turn i n σ5 ys H5 w5
      rcases tu with ⟨stop, qq⟩ | ⟨go, NN, hNN, step⟩
      · refine thn (Tn.done (compCx X scope (T ++ F) s3.heap.objs.size s3 (upd H2 s2.heap.objs.size (.lst [])) fp pins) rfl rfl rfl hc i [] s5 σ5 H5 _ I5 (stat (pl := []) (fun _ hp => absurd hp List.not_mem_nil) fr5) st5 stop) fun r s6 ⟨hr, I6⟩ => ?_
        subst hr
        refine wpAny_pure ?_
        obtain ⟨m6, hn6, _⟩ := I6.loc
        have lC : s.heap.objs.size ≤ s.heap.objs.size := Nat.le_refl _
        exact fin _ _ s6 H5 m6 hn6 qq (I3.fpOk (Nat.le_refl _) I6.free) fun h' sb => comp_out I3 (fun b hb => (hf3 b hb).1) I6 sb
      · refine thn (Tn.item (compCx X scope (T ++ F) s3.heap.objs.size s3 (upd H2 s2.heap.objs.size (.lst [])) fp pins) rfl rfl rfl hc i [] s5 σ5 H5 _ I5 (stat (pl := []) (fun _ hp => absurd hp List.not_mem_nil) fr5) st5 go) fun r s6 ⟨u, hr, h6⟩ => ?_
        subst hr
        refine wpAny_bind (thn h6 fun _ s7 ⟨x, H7, I7, r7, y7, st7, fr7⟩ => ?_)
        have I7' := I7.pinned (stat (pl := []) (fun _ hp => absurd hp List.not_mem_nil) fr7) (Tn.obj _ _ st7)
        have back : ∀ {σ8 : St} {H8 : Hp} {s8 : Shared} {ys8 : List V} {m' : Nat}, Inv (compCx X scope (T ++ F) s3.heap.objs.size s3 (upd H2 s2.heap.objs.size (.lst [])) fp pins) ([] ++ pinsAt fp s7.heap) σ8 H8 s8 → m' < n → W (i + 1) m' σ8 ys8 H8 →
            ∃ m, m < n ∧ ∃ i σ' ys H', Inv (compCx X scope (T ++ F) s3.heap.objs.size s3 (upd H2 s2.heap.objs.size (.lst [])) fp pins) [] σ' H' s8 ∧ tn i s8.heap ∧ (∀ b ∈ fp, H' b = none) ∧ W i m σ' ys H' := fun {σ8 H8 s8 ys8 m'} I8 hm w8 => by
          refine ⟨m', hm, i + 1, σ8, ys8, H8, I8.unpinned, Tn.keep _ _ _ st7 fun b hb o e => (I8.pin (b, o) (List.mem_append_right _ (List.mem_append_right _ (mem_pinsAt hb e)))).1, fun b hb => ?_, w8⟩
          obtain ⟨o, e, d⟩ := Tn.obj _ _ st7 b hb
          exact (I8.pin (b, o) (List.mem_append_right _ (List.mem_append_right _ (mem_pinsAt hb e)))).2.1
        refine wpAny_bind (wpAny_mono (hg _ _ _ _ _ _ s7 σ5 H7 x u _ I7' r7 (step x H7 y7)) (fun _ s8 ⟨σ8, H8, I8, q8⟩ => ?_) fun _ _ z => z.elim)
        refine wpAny_bind (wpAny_mono (hif _ _ _ _ _ _ s8 σ8 H8 _ I8 q8) (fun ok s9 ⟨H9, I9, q9⟩ => ?_) fun _ _ z => z.elim)
        cases ok with
        | false =>
          rw [if_neg Bool.false_ne_true] at q9
          obtain ⟨m', hm, w9⟩ := hNN _ _ _ q9
          exact wpAny_pure ⟨rfl, back I9 hm w9⟩
        | true =>
          rw [if_pos rfl] at q9
          refine wpAny_bind (wpAny_bind (wpAny_mono (he _ _ _ _ _ _ s9 σ8 H9 _ I9 q9) (fun yv s10 ⟨y, H10, I10, r10, d10, l10, q10⟩ => ?_) fun _ _ z => z.elim))
          obtain ⟨m', hm, w10⟩ := hNN _ _ _ q10
          obtain ⟨z10, its, n10, rv, el, eo⟩ := I10.lstM d10
          refine wpAny_bind (wpAny_list_append_plain (items := its.toArray) ⟨n10, eo⟩ (fun h' hl' sb' => ?_) (by simp; omega))
          obtain ⟨n11, eo'⟩ := hl'
          have I11 := I10.write (x := s2.heap.objs.size) (e := s2.heap.objs.size) (o := .lst (ys ++ [y])) (t' := s10.toks) (by rw [d10]; exact trivial) (.inl rfl) (fun b o hb e => sb'.extBut b o hb e) ⟨_, eo'⟩ ⟨by simp; assumption, its ++ [yv], n11, rv.append (.cons r10 .nil), by simpa using eo'⟩
          exact wpAny_pure (wpAny_pure ⟨rfl, back I11 hm w10⟩)
    · refine Tn.keep _ _ _ st2 fun b hb o e => kk b o ?_
      rw [e3]
      exact Heap.get?_push_of_some _ e
  have st1 : tn 0 h₁ := Tn.keep _ _ _ st2 fun b hb o e => kk b o (by rw [e3]; exact Heap.get?_push_of_some _ e)
  exact codeAny_compStart_list loop (Tn.self _ 0 _ _ _ st1 loop)
theorem pe_comp {tg elt iter : Expr} {ifs : List Expr} {pos : Pos} {g : TG} {ti : TT} {te : TE} {wi : TI} (S : CScope X scope T F js) (hc : X.calm = true)
    (hi : PI X tg iter wi) (hg : ∀ C s H ex pins, PG (compCx X scope (T ++ F) C s H ex pins) tg g) (hif : ∀ C s H ex pins, PIf (compCx X scope (T ++ F) C s H ex pins) ifs ti) (he : ∀ C s H ex pins, PE (compCx X scope (T ++ F) C s H ex pins) elt te)
    (hs : ∀ x, foldedSetIterable iter X.env x = pure x := by intro _; rfl) : PE X (.ListComp elt [⟨tg, iter, ifs, 0⟩] scope pos) (tComp wi g ti te T.length js) := by
  intro pins s σ H Q I h
  rw [eval_ListComp]
  exact comp_go (use := none) S hc hi hg hif he I h (fun D C s' H' m hn q _ hinv => ⟨m, hn, fun h' sb => ⟨.ref D, H', hinv h' sb, rfl, q⟩⟩) hs
theorem ps_comp {i : Nat} {x : Str} {pos' spos : Pos} {tg elt iter : Expr} {ifs : List Expr} {pos : Pos} {g : TG} {ti : TT} {te : TE} {wi : TI} (hN : X.N.Nodup) (hx1 : X.N[i]? = some x) (hx2 : Loc X.env.scope x) (S : CScope X scope T F js) (hc : X.calm = true)
    (hi : PI X tg iter wi) (hg : ∀ C s H ex pins, PG (compCx X scope (T ++ F) C s H ex pins) tg g) (hif : ∀ C s H ex pins, PIf (compCx X scope (T ++ F) C s H ex pins) ifs ti) (he : ∀ C s H ex pins, PE (compCx X scope (T ++ F) C s H ex pins) elt te)
    (hsw : swapsWith (.ListComp elt [⟨tg, iter, ifs, 0⟩] scope pos) (some (.Name x pos')) spos.line X.env = pure true := by rfl)
    (hf : X.fn x = true ∨ X.env.scope.names.lookup x = some .local := by first | exact .inl rfl | exact .inr rfl | assumption)
    (hs : ∀ x, foldedSetIterable iter X.env x = pure x := by intro _; rfl) : PS X (.Assign [.Name x pos'] (.ListComp elt [⟨tg, iter, ifs, 0⟩] scope pos) spos) (tAsg (tComp wi g ti te T.length js) (gName i)) := by
  intro pins s σ H D I h
  rw [exec_Assign_Name_used _ _ _ _ hsw]
  refine wpAny_bind (wpAny_standAt (wpAny_bind ?_))
  show wpAny _ X.A (do let _ ← comprehension (.ListComp elt [⟨tg, iter, ifs, 0⟩] scope pos) scope X.env _ (newList []) false (eval iter X.env) (some (assign (.Name x pos') X.env))) _ _ s
  refine wpAny_bind (wpAny_mono (comp_go (use := some (assign (.Name x pos') X.env)) (QQ := fun _ s' => SP X pins D .next s') S hc hi hg hif he I h (fun d C s' H' m hn q fC hinv => ?_) hs) (fun _ s' hq => wpAny_pure (wpAny_pure hq)) fun _ _ e => e)
  have I1 : Inv X pins σ H' s' := hinv s'.heap (Heap.SameBut.refl ..)
  obtain ⟨oC, es, ep, ho, hd, hr⟩ := id hn
  obtain ⟨f0, f1, f2, f3, f4, f5⟩ := fC
  have I2 : Inv X (pins ++ [(C, oC)]) σ H' s' := I1.pins_of fun p hp => (List.mem_append.mp hp).elim (fun z => I1.pin p (List.mem_append_right _ z)) fun z => by
    have e := List.mem_singleton.mp z
    subst e
    exact ⟨ho, f0, f1, f2, fun v z => by rw [hd] at z; cases z⟩
  show wpAny _ X.A (assign (.Name x pos') X.env (.ref d)) _ _ _
  refine wpAny_assign_Name (store_ok (v := .ref d) I2 hN hx1 hx2 rfl (fun s'' I'' => ?_) hf)
  have e2 := (I''.pin (C, oC) (List.mem_append_right _ (List.mem_append_right _ (List.mem_singleton.mpr rfl)))).1
  refine ⟨m, ⟨oC, es, ep, e2, hd, hr⟩, fun h' sb => ?_⟩
  exact ⟨_, H', I''.unpinned.turned (t' := s''.toks) (it := C) (fun b o hb e => sb.extBut b o hb e) f0 f1 f3 f4 f5, q⟩
end
section
variable {g : TG} {ti : TT} {te : TE} {Q : VK} {D : Addr} {σ : St} {H : Hp}
theorem comp_list {K : PySem.W.Frag} {a : Addr} {xs : List V} (Pv : Nat → St → List V → Hp → Prop) (h0 : Pv 0 σ [] (upd H D (.lst []))) (hl : ∀ i σ ys H, i ≤ xs.length → Pv i σ ys H → SqL K H a xs ∧ H D = some (.lst ys))
    (hs : ∀ i x σ ys H, xs[i]? = some x → Pv i σ ys H → cturn g ti te D x σ ys H (Pv (i + 1))) (hd : ∀ σ ys H, Pv xs.length σ ys H → Q (.ref D) H) :
    cgo (Itl K a) g ti te D σ H Q := by
  refine ⟨fun i m σ ys H => m = xs.length - i ∧ i ≤ xs.length ∧ Pv i σ ys H, ⟨xs.length, by simp, Nat.zero_le _, h0⟩, ?_⟩
  rintro i m σ ys H ⟨rfl, hi, p⟩
  obtain ⟨q, hD⟩ := hl i σ ys H hi p
  refine ⟨hD, ?_⟩
  by_cases hlt : i < xs.length
  · refine .inr ⟨⟨xs, xs[i], q, by simp [hlt]⟩, Pv (i + 1), fun σ' ys' H' p' => ⟨xs.length - (i + 1), by omega, rfl, hlt, p'⟩, fun x H' y => ?_⟩
    obtain ⟨e, y⟩ := y
    subst e
    exact (hs i x σ ys _ (y xs q) p)
  · have e : i = xs.length := by omega
    subst e
    exact .inl ⟨⟨xs, q, Nat.le_refl _⟩, hd σ ys H p⟩
theorem comp_tup {K : PySem.W.Frag} {a : Addr} {xs : List V} (Pv : Nat → St → List V → Hp → Prop) (h0 : Pv 0 σ [] (upd H D (.lst []))) (hl : ∀ i σ ys H, i ≤ xs.length → Pv i σ ys H → SqT K H a xs ∧ H D = some (.lst ys))
    (hs : ∀ i x σ ys H, xs[i]? = some x → Pv i σ ys H → cturn g ti te D x σ ys H (Pv (i + 1))) (hd : ∀ σ ys H, Pv xs.length σ ys H → Q (.ref D) H) :
    cgo (Itt K a) g ti te D σ H Q := by
  refine ⟨fun i m σ ys H => m = xs.length - i ∧ i ≤ xs.length ∧ Pv i σ ys H, ⟨xs.length, by simp, Nat.zero_le _, h0⟩, ?_⟩
  rintro i m σ ys H ⟨rfl, hi, p⟩
  obtain ⟨q, hD⟩ := hl i σ ys H hi p
  refine ⟨hD, ?_⟩
  by_cases hlt : i < xs.length
  · refine .inr ⟨⟨xs, xs[i], q, by simp [hlt]⟩, Pv (i + 1), fun σ' ys' H' p' => ⟨xs.length - (i + 1), by omega, rfl, hlt, p'⟩, fun x H' y => ?_⟩
    obtain ⟨e, y⟩ := y
    subst e
    exact (hs i x σ ys _ (y xs q) p)
  · have e : i = xs.length := by omega
    subst e
    exact .inl ⟨⟨xs, q, Nat.le_refl _⟩, hd σ ys H p⟩
theorem comp_range {lo : Int} {n : Nat} (Pv : Nat → St → List V → Hp → Prop) (h0 : Pv 0 σ [] (upd H D (.lst []))) (hl : ∀ i σ ys H, i ≤ n → Pv i σ ys H → H D = some (.lst ys))
    (hs : ∀ i σ ys H, i < n → Pv i σ ys H → cturn g ti te D (.int (lo + i)) σ ys H (Pv (i + 1))) (hd : ∀ σ ys H, Pv n σ ys H → Q (.ref D) H) :
    cgo (Itr lo n) g ti te D σ H Q := by
  refine ⟨fun i m σ ys H => m = n - i ∧ i ≤ n ∧ Pv i σ ys H, ⟨n, by simp, Nat.zero_le _, h0⟩, ?_⟩
  rintro i m σ ys H ⟨rfl, hi, p⟩
  have hD := hl i σ ys H hi p
  refine ⟨hD, ?_⟩
  by_cases hlt : i < n
  · refine .inr ⟨hlt, Pv (i + 1), fun σ' ys' H' p' => ⟨n - (i + 1), by omega, rfl, hlt, p'⟩, fun x H' y => ?_⟩
    obtain ⟨e, y⟩ := y
    subst e y
    exact (hs i σ ys _ hlt p)
  · have e : i = n := by omega
    subst e
    exact .inl ⟨Nat.le_refl _, hd σ ys H p⟩
end
end L2
set_option maxHeartbeats 4000000
namespace L2
open PySem PySem.Spec PyProof.Rows
mutual
inductive Rep (K : PySem.W.Frag) (H : Hp) : V → PyData → Prop
  | non : Rep K H .non .none
  | bl (b : Bool) : Rep K H (.bl b) (.bool b)
  | int (i : Int) : Rep K H (.int i) (.int i)
  | str (x : Str) : Rep K H (.str x) (.str x)
  | lst {a : Addr} {xs : List V} {ds : List PyData} : SqL K H a xs → RepAll K H xs ds → Rep K H (.ref a) (.list ds)
  | tup {a : Addr} {xs : List V} {ds : List PyData} : SqT K H a xs → RepAll K H xs ds → Rep K H (.ref a) (.tuple ds)
inductive RepAll (K : PySem.W.Frag) (H : Hp) : List V → List PyData → Prop
  | nil : RepAll K H [] []
  | cons {x : V} {xs : List V} {d : PyData} {ds : List PyData} : Rep K H x d → RepAll K H xs ds → RepAll K H (x :: xs) (d :: ds)
end
mutual
theorem Rep.reads {X : Cx} {pins : List (Addr × Obj)} {σ : St} {H : Hp} {s : Shared} (I : Inv X pins σ H s) : ∀ {v : V} {d : PyData} {u : Value}, Rep X.K H v d → RelV v u → ∃ as, Reads s.heap u d as
  | _, _, _, .non, r => by cases r; exact ⟨_, .none⟩
  | _, _, _, .bl b, r => by cases r; exact ⟨_, .bool b⟩
  | _, _, _, .int i, r => by obtain ⟨t, rfl⟩ := r; exact ⟨_, .int i t⟩
  | _, _, _, .str x, r => by obtain ⟨t, rfl⟩ := r; exact ⟨_, .str x t⟩
  | _, _, _, .lst hq hx, r => by
    cases r
    obtain ⟨its, rv, hl, hz⟩ := I.list hq
    obtain ⟨as, ra⟩ := RepAll.reads I hx rv
    obtain ⟨o, ho, hc, n, hd⟩ := hl.isList
    exact ⟨_, .list ho hc hd ra⟩
  | _, _, _, .tup hq hx, r => by
    cases r
    obtain ⟨its, rv, hl, hz⟩ := I.tuple hq
    obtain ⟨as, ra⟩ := RepAll.reads I hx rv
    obtain ⟨o, ho, hc, n, hd⟩ := hl
    exact ⟨_, .tuple ho hc hd ra⟩
theorem RepAll.reads {X : Cx} {pins : List (Addr × Obj)} {σ : St} {H : Hp} {s : Shared} (I : Inv X pins σ H s) : ∀ {xs : List V} {ds : List PyData} {us : List Value}, RepAll X.K H xs ds → Vals xs us → ∃ as, ReadsAll s.heap us ds as
  | _, _, _, .nil, .nil => ⟨_, .nil⟩
  | _, _, _, .cons h t, .cons r rs => by
    obtain ⟨a, ra⟩ := Rep.reads I h r
    obtain ⟨b, rb⟩ := RepAll.reads I t rs
    exact ⟨_, .cons ra rb⟩
end
section
variable {X : Cx} {a b c e : Expr} {ta tb tc te : TE} {pos p2 : Pos}
inductive RNeDP (K : PySem.W.Frag) (x : V) (y : V) (H : Hp) (Q : VK) : Prop
  | mk (da db : _) : (Rep K H x da) → (Rep K H y db) → (da.canLay0 = true) → (db.canLay0 = true) → (da.depth ≤ 20) → (Q (.bl (!PyData.eqv da db)) H) → RNeDP K x y H Q
def rNeD (K : PySem.W.Frag) : R2 := fun x y H Q => RNeDP K x y H Q
theorem op_neD (hu : X.A.units + 64 < cLine) : OpR X (compareOp .NotEq) (rNeD X.K) := by
  intro pins s σ H x y u v Q I rx ry h
  obtain ⟨da, db, h1, h2, h3, h4, h5, q⟩ := h
  obtain ⟨as, r1⟩ := h1.reads I rx
  obtain ⟨bs, r2⟩ := h2.reads I ry
  exact SeqAt.compareNe_reads r1 r2 h3 h4 (by omega) ⟨.bl _, H, I, rfl, q⟩
theorem call_sum (hc : X.calm = true) : CallR X (.builtin "sum") (fun xs H Q => ∃ (p : Addr) (ns : List Int), xs = [.ref p] ∧ SqL X.K H p (ns.map V.int) ∧ Q (.int ns.sum) H) := by
  intro pins s σ H xs us Q I r h
  obtain ⟨p, ns, rfl, hq, q⟩ := h
  obtain ⟨u, rfl, rx⟩ := vals1 r
  cases rx
  obtain ⟨its, rv, hl, hz⟩ := I.list hq
  have hi := intsAre_of rv
  obtain ⟨ys, e⟩ := hi.allInts.items
  have hl' := hl.isList
  rw [e] at hl'
  refine sum_intListG (I.ok.hd hc) hl' fun h' tk t' hk => ⟨.int ns.sum, H, I.kept hk, ⟨t', ?_⟩, q⟩
  have e2 : ys.toList.map (·.1) = ns := by
    have q2 := nums_intItems ys
    rw [← e] at q2
    rw [← q2]
    exact hi.numsOf
  rw [preSum_eq, e2, List.take_of_length_le (by rw [← e2]; simp)]
theorem call_isi : CallR X (.builtin "isinstance") (fun xs H Q => ∃ (x : V) (t : Value) (c : String) (b : Bool), xs = [x, .ty c] ∧ TyOf X.K H x t ∧ PySem.W.kitOne X.K t (.type c) = some b ∧ Q (.bl b) H) := by
  intro pins s σ H xs us Q I r h
  obtain ⟨x, t, c, b, rfl, ty, e, q⟩ := h
  obtain ⟨u, v, rfl, rx, ry⟩ := vals2 r
  cases ry
  exact isinst_ok I rx ty e fun tk => ⟨.bl b, H, I.tok tk, rfl, q⟩
theorem pe_ty {x : Str} {T : String} (hg : Gl X x) (hm : X.mg x = none) (hv : bootBuiltins x = some (.type T)) (hn : x ≠ "__name__" := by decide) (hd : (x == ("__debug__" : Str)) = false := by decide) : PE X (.Name x pos) (tC (.ty T)) :=
  fun pins s σ H Q I h => ld_blt I hg hm hv ⟨.ty T, H, I, rfl, h⟩ hn hd
inductive RCatTTP (K : PySem.W.Frag) (x : V) (y : V) (H : Hp) (Q : VK) : Prop
  | mk (a b : Addr) (xs ys : List V) : (x = .ref a) → (y = .ref b) → (SqT K H a xs) → (SqT K H b ys) → (xs.length + ys.length ≤ sizeLine) → ((xs = [] → Q (.ref b) H)) → ((xs ≠ [] → ys = [] → Q (.ref a) H)) → ((xs ≠ [] → ys ≠ [] → ∀ p, H p = none → Q (.ref p) (upd H p (.tup (xs ++ ys))))) → RCatTTP K x y H Q
def rCatTT (K : PySem.W.Frag) : R2 := fun x y H Q => RCatTTP K x y H Q
theorem op_catTT : OpR X (binaryOp .Add) (rCatTT X.K) := by
  intro pins s σ H x y u v Q I rx ry h
  obtain ⟨p, q, xs, ys, rfl, rfl, hx, hy, hz, h1, h2, h3⟩ := h
  cases rx; cases ry
  obtain ⟨its, r1, t1, z1⟩ := I.tuple hx
  obtain ⟨its2, r2, t2, z2⟩ := I.tuple hy
  have l1 := r1.length
  have l2 := r2.length
  by_cases e : xs = []
  · subst e
    have ei : its = [] := by cases its with | nil => rfl | cons _ _ => cases l1
    subst ei
    obtain ⟨⟨cls, dd, data, sl⟩, ho, hc, n, hd⟩ := id t1
    obtain ⟨⟨cls2, dd2, data2, sl2⟩, ho2, hc2, n2, hd2⟩ := id t2
    simp only at hc hd hc2 hd2
    subst hc hd hc2 hd2
    exact PySem.concat_meets ⟨_, ho, rfl⟩ ⟨_, ho2, rfl⟩ noFill_tuple_add seq_tuple_add PySem.F.slot_tuple_add PySem.F.entry_tuple_add (PySem.F.args_tuple_add_2 _ _)
      (tuple_addW0 p q _ _ n n2 dd dd2 sl sl2 (by rfl)) ⟨ho, ho2, ⟨.ref q, H, I, rfl, h1 rfl⟩⟩
  · refine HT.cat_tup t1 t2 (fun z => e ((Vals.nil_iff r1).mp z)) (fun z => ⟨.ref p, H, I, rfl, h2 e ((Vals.nil_iff r2).mp z)⟩) (fun z => ?_) (by omega)
    exact ⟨.ref s.heap.objs.size, _, I.laid (t' := s.toks) (o := .tup (xs ++ ys)) (fun b ob q => Heap.get?_push_of_some _ q) (Nat.le_refl _) ⟨by simpa using hz, its ++ its2, r1.append r2, IsTupN.new _ _⟩, rfl, h3 e (fun z' => z ((Vals.nil_iff r2).mpr z')) _ I.fresh⟩
end
section
variable {prog : Program} {w : World} {A : Around} {E : Value → Shared → Prop}
variable {s : Shared}
end
end L2
set_option maxHeartbeats 4000000
namespace L2
open PySem PySem.Spec PyProof.Rows
section
variable {X : Cx} {a b c e : Expr} {ta tb tc te : TE} {pos p2 : Pos}
inductive RSlSP (x : V) (lo : Option Int) (hi : Option Int) (H : Hp) (Q : VK) : Prop
  | mk (z : _) : (x = .str z) → (z.length ≤ sizeLine) → (Q (.str (Txt.slice z lo hi)) H) → RSlSP x lo hi H Q
def rSlS : V → Option Int → Option Int → Hp → VK → Prop := fun x lo hi H Q => RSlSP x lo hi H Q
theorem sl_str : SlR X rSlS := by
  intro pins s σ H x v vl vu lo hi sl Q I rx hs pl pu h
  obtain ⟨z, rfl, hz, q⟩ := h
  obtain ⟨t, rfl⟩ := rx
  refine ⟨"str", _, PySem.F.slot_str_getitem.lookup, typeIs_str _ _ _, ?_⟩
  have fin : ∀ t' k, EP X pins σ Q (.str (Txt.slice z lo hi) t') { s with toks := k } := fun t' k => ⟨.str _, H, I.tok k, ⟨t', rfl⟩, q⟩
  cases pl with
  | none =>
    cases pu with
    | none => exact wpAny_getItem_str_slice (l := none) (u := none) (st := none) hs rfl (post_val_or_str ⟨Nat.le_trans (Txt.slice_le z _ _) hz, fin⟩)
    | int j tj => exact wpAny_getItem_str_slice (l := none) (u := some (j, tj)) (st := none) hs rfl (post_val_or_str ⟨Nat.le_trans (Txt.slice_le z _ _) hz, fin⟩)
  | int i ti =>
    cases pu with
    | none => exact wpAny_getItem_str_slice (l := some (i, ti)) (u := none) (st := none) hs rfl (post_val_or_str ⟨Nat.le_trans (Txt.slice_le z _ _) hz, fin⟩)
    | int j tj => exact wpAny_getItem_str_slice (l := some (i, ti)) (u := some (j, tj)) (st := none) hs rfl (post_val_or_str ⟨Nat.le_trans (Txt.slice_le z _ _) hz, fin⟩)
theorem strsAre_of : ∀ {ys : List Str} {us : List Value}, Vals (ys.map V.str) us → StrsAre us ys
  | [], _, .nil => .nil
  | y :: ys, _, .cons h t => by
    obtain ⟨u, rfl⟩ := h
    exact .cons y u (strsAre_of t)
inductive RJoinP (K : PySem.W.Frag) (x : V) (vs : List V) (H : Hp) (Q : VK) : Prop
  | mk (z : Str) (l : Addr) (ys : List Str) : (x = .str z) → (vs = [.ref l]) → (SqL K H l (ys.map V.str)) → ((ys.map (·.length)).sum + ys.length * z.length ≤ 16777216) → (Q (.str (Txt.join z ys)) H) → RJoinP K x vs H Q
def rJoin (K : PySem.W.Frag) : V → List V → Hp → VK → Prop := fun x vs H Q => RJoinP K x vs H Q
theorem mt_join : MtM X "str.join" (rJoin X.K) := by
  intro pins s σ H x xs v us Q I rx r h
  obtain ⟨z, l, ys, rfl, rfl, hl, hz, q⟩ := h
  obtain ⟨t, rfl⟩ := rx
  obtain ⟨u, rfl, ru⟩ := vals1 r
  cases ru
  obtain ⟨its, rv, hp, _⟩ := I.list hl
  exact join_list hp.isList (strsAre_of rv) hz fun t' k => ⟨.str _, H, I.tok k, ⟨t', rfl⟩, q⟩
end
def relab (scope osc : Scope) : Scope := { scope with names := scope.names.map fun (n, k) => if (k == .free && osc.kind == .function && osc.names.lookup n == some .cell) then (n, .cell) else (n, k) }
structure CS (osc scope : Scope) (T F : List Str) : Prop where
  kind : scope.kind = .function
  nocell : ∀ y ∈ scope.names, y.2 ≠ .cell
  names : ∀ x ∈ scope.names, x.2 = .local → scope.names.lookup x.1 = some .local
  free : ∀ x ∈ scope.names, x.2 = .free → osc.names.lookup x.1 = some .cell
  loc : ∀ y ∈ T, (relab scope osc).names.lookup y = some .local
  cel : ∀ y ∈ F, (relab scope osc).names.lookup y = some .cell ∧ osc.names.lookup y = some .cell ∧ (y, NameKind.free) ∈ scope.names
  all : ∀ x ∈ (relab scope osc).names, (x.2 = .cell ∨ x.2 = .free) → (x.1, NameKind.free) ∈ scope.names
theorem CS.to {X : Cx} {scope osc : Scope} {T F : List Str} {js : List Nat} (h : CS osc scope T F) (hj : js.map (fun j => X.N[j]?) = F.map some) (ho : X.env.scope = osc) : CScope X scope T F js := by
  subst ho
  exact ⟨h.kind, h.nocell, h.names, h.free, h.loc, h.cel, h.all, hj⟩
theorem PSs.imp' {X : Cx} {st : List PySem.Stmt} {t t' : TS} (h : PSs X st t) (f : ∀ D σ H, t' D σ H → t D σ H) : PSs X st t' := fun pins s σ H D I h' => h pins s σ H D I (f D σ H h')
end L2
set_option maxHeartbeats 4000000
namespace L2
open PySem PySem.Spec PyProof.Rows
section
variable {X : Cx} {pins : List (Addr × Obj)} {σ : St} {H : Hp} {s : Shared}
theorem Inv.turnedL {t' : Nat} {h' : Heap} (ch : List Addr) (I : Inv X pins σ H s) (k : ∀ b o, b ∉ ch → s.heap.get? b = some o → h'.get? b = some o) (hf : ∀ b ∈ ch, FpOk X pins H b) : Inv X pins σ H { s with heap := h', toks := t' } := by
  have out : ∀ b u, H b = some u → b ∉ ch := fun b u e z => by rw [(hf b z).1] at e; cases e
  have outL : X.env.locals ∉ ch := fun z => (hf _ z).2.1 rfl
  refine I.step (g' := s.gens) (d' := s.drawn) (ch := ch) (fun b hb => ⟨(hf b hb).2.2.2.1, (hf b hb).2.1, (hf b hb).2.2.2.2.1, (hf b hb).2.2.2.2.2⟩) (fun b o _ _ hc e _ => k b o hc e) (fun b o _ _ hc e _ => ⟨o.slots, k b o hc e⟩)
    (fun _ _ _ _ n => n) (fun b o hc e => ⟨o, k b o hc e⟩) (fun _ _ e => e) (fun _ _ _ e => e) (fun b ps e => ⟨#[], by rw [e]; simp⟩) (fun m hm => ?_) (fun b u e => ?_) I.bare
  · obtain ⟨o, es, ep, ho, r⟩ := hm
    exact ⟨o, es, ep, k _ o outL ho, r⟩
  · refine (I.hok b u e).stay (fun c v hc q => k c v ?_ q) (fun _ q => q) fun _ _ q => q
    rcases hc with z | z
    · rw [z]; exact out b u e
    · exact out c _ z
theorem FpOk.up {b T : Addr} {o : HO} (h : FpOk X pins H b) (n : b ≠ T) : FpOk X pins (upd H T o) b := ⟨by rw [upd_ne n]; exact h.1, h.2⟩
end
end L2
set_option maxHeartbeats 4000000
namespace PySem
open Builtin
end PySem
namespace PySem
open Builtin
structure ZAp (z TI TO i1 i2 : Addr) (f1 f2 : List Addr) : Prop where
  a1 : TI ≠ z
  a2 : TO ≠ z
  a3 : i1 ≠ z
  a4 : i2 ≠ z
  a5 : TI ≠ TO
  a6 : TI ≠ i1
  a7 : TI ≠ i2
  a8 : TO ≠ i1
  a9 : TO ≠ i2
  b1 : i1 ≠ i2
  b2 : z ∉ f1
  b3 : z ∉ f2
  b4 : TO ∉ f1
  b5 : TO ∉ f2
  b6 : i1 ∉ f2
  b7 : i2 ∉ f1
section
variable {prog : Program} {w : World} {A : Around} {E : Value → Shared → Prop} {s : Shared} {z TI TO i1 i2 : Addr} {f1 f2 : List Addr} {n1 n2 : Nat} {P1 P2 : Nat → Value → Prop} {S1 S2 : Nat → Heap → Prop}
theorem zip_itemD {k : Nat} {a b : Value} {Q : Value → Shared → Prop} (D : ZAp z TI TO i1 i2 f1 f2) (D1 : Draws prog w A i1 f1 n1 P1 S1) (D2 : Draws prog w A i2 f2 n2 P2 S2)
    (hZ : IsZip s.heap z TI TO .none) (pI : IsPair s.heap TI (.ref i1) (.ref i2)) (pO : IsPair s.heap TO a b) (t1 : S1 k s.heap) (t2 : S2 k s.heap) (l1 : k < n1) (l2 : k < n2)
    (hQ : ∀ h' tk x y, P1 k x → P2 k y → IsZip h' z TI TO (rawInt s.heap.objs.size) → IsPair h' TO x y → S1 (k + 1) h' → S2 (k + 1) h' → IsPair h' s.heap.objs.size x y →
      (∀ c o, c ≠ z → c ≠ TO → c ≠ i1 → c ≠ i2 → s.heap.get? c = some o → h'.get? c = some o) → Q (.ref s.heap.objs.size) { s with heap := h', toks := tk }) :
    wpAny (model prog w) A (Builtin.«zip.__next__» ⟨[.ref z], []⟩) (fun fin s' => ∃ v, fin = .done (.ret v) ∧ Q v s') E s := by
  show wpAny _ _ (field (.ref z) 2 >>= fun _ => _) _ _ _
  refine wpAny_bind (wpAny_field hZ rfl (x := .bool false) rfl ?_)
  show wpAny _ _ (field (.ref z) 3 >>= fun _ => _) _ _ _
  refine wpAny_bind (wpAny_field hZ rfl (x := .ref TI) rfl ?_)
  refine wpAny_bind (wpAny_seqItems pI rfl ?_)
  show wpAny _ _ (Builtin.SmallTypes.ownedTupleIsFree (.ref z) >>= fun _ => _) _ _ _
  refine wpAny_bind ?_
  unfold Builtin.SmallTypes.ownedTupleIsFree
  refine wpAny_bind (wpAny_field hZ rfl (x := .none) rfl (wpAny_pure ?_))
  simp only [if_true]
  refine wpAny_bind (wpAny_rule (wpAny_bind (wpAny_field hZ rfl (x := .ref TO) rfl ?_)))
  refine wpAny_bind (wpAny_setField_rec hZ (by simp) fun g1 zg1 k1 => ?_)
  replace zg1 : IsZip g1 z TI TO .ellipsis := zg1
  refine wpAny_bind ?_
  simp only [List.zipIdx_cons, List.zipIdx_nil, List.forIn_cons, List.forIn_nil]
  refine wpAny_bind (wpAny_bind (wpAny_onRaise ?_))
  show wpAny _ _ (Builtin.SmallTypes.nextOf (.ref i1) >>= fun _ => _) _ _ _
  refine wpAny_bind (D1.item k _ _ _ l1 (D1.frame _ _ _ t1 fun c hc o e => k1.extBut _ _ (fun q => D.b2 (q ▸ hc)) e) fun x g2 tk2 px sg2 k2 => wpAny_pure ?_)
  have pO2 : IsPair g2 TO a b := k2.extBut _ _ D.a8 (k1.extBut _ _ D.a2 pO)
  refine wpAny_bind (wpAny_seqItems pO2 rfl (wpAny_bind (wpAny_updateSeq_pair pO2 fun g3 pO3 k3 => ?_)))
  replace pO3 : IsPair g3 TO x b := pO3
  refine wpAny_bind (wpAny_letGo (wpAny_pure (wpAny_bind (wpAny_bind (wpAny_onRaise ?_)))))
  show wpAny _ _ (Builtin.SmallTypes.nextOf (.ref i2) >>= fun _ => _) _ _ _
  have t2' : S2 k g3 := D2.frame _ _ _ t2 fun c hc o e => k3.extBut _ _ (fun q => D.b5 (q ▸ hc)) (k2.extBut _ _ (fun q => D.b6 (q ▸ hc)) (k1.extBut _ _ (fun q => D.b3 (q ▸ hc)) e))
  refine wpAny_bind (D2.item k _ _ _ l2 t2' fun y g4 tk4 py sg4 k4 => wpAny_pure ?_)
  have pO4 : IsPair g4 TO x b := k4.extBut _ _ D.a9 pO3
  refine wpAny_bind (wpAny_seqItems pO4 rfl (wpAny_bind (wpAny_updateSeq_pair pO4 fun g5 pO5 k5 => ?_)))
  replace pO5 : IsPair g5 TO x y := pO5
  refine wpAny_bind (wpAny_letGo (wpAny_pure (wpAny_pure (wpAny_bind (wpAny_seqItems pO5 rfl (wpAny_bind (wpAny_newTuple ?_)))))))
  have sz : g5.objs.size = s.heap.objs.size := by rw [k5.1, k4.1, k3.1, k2.1, k1.1]
  have zg5 : IsZip g5 z TI TO .ellipsis := k5.extBut _ _ D.a2.symm (k4.extBut _ _ D.a4.symm (k3.extBut _ _ D.a2.symm (k2.extBut _ _ D.a3.symm zg1)))
  have kk : ∀ c o, c ≠ z → c ≠ TO → c ≠ i1 → c ≠ i2 → s.heap.get? c = some o → g5.get? c = some o := fun c o c1 c2 c3 c4 e => k5.extBut _ _ c2 (k4.extBut _ _ c4 (k3.extBut _ _ c2 (k2.extBut _ _ c3 (k1.extBut _ _ c1 e))))
  have u1 : S1 (k + 1) g5 := D1.frame _ _ _ sg2 fun c hc o e => k5.extBut _ _ (fun q => D.b4 (q ▸ hc)) (k4.extBut _ _ (fun q => D.b7 (q ▸ hc)) (k3.extBut _ _ (fun q => D.b4 (q ▸ hc)) e))
  have u2 : S2 (k + 1) g5 := D2.frame _ _ _ sg4 fun c hc o e => k5.extBut _ _ (fun q => D.b5 (q ▸ hc)) e
  have zlt : z < g5.objs.size := Heap.lt_size zg5
  show wpAny _ _ (Builtin.SmallTypes.ownedTupleHandOut (.ref z) (.ref g5.objs.size) >>= fun _ => _) _ _ _
  refine wpAny_bind ?_
  unfold Builtin.SmallTypes.ownedTupleHandOut
  have zg6 : IsZip (g5.push { cls := .type "tuple", data := .seq #[x, y] }) z TI TO .ellipsis := Heap.get?_push_of_some _ zg5
  refine wpAny_bind (wpAny_setField_rec zg6 (by simp) fun g7 zg7 k7 => ?_)
  replace zg7 : IsZip g7 z TI TO (rawInt g5.objs.size) := zg7
  refine wpAny_setField_rec zg7 (by simp) fun g8 zg8 k8 => ?_
  replace zg8 : IsZip g8 z TI TO (rawInt g5.objs.size) := zg8
  have up : ∀ c o, c ≠ z → g5.get? c = some o → g8.get? c = some o := fun c o c1 e => k8.extBut _ _ c1 (k7.extBut _ _ c1 (Heap.get?_push_of_some _ e))
  have pT : IsPair g8 g5.objs.size x y := k8.extBut _ _ (Nat.ne_of_gt zlt) (k7.extBut _ _ (Nat.ne_of_gt zlt) (Heap.get?_push_size _ rfl))
  rw [sz] at zg8 pT
  refine wpAny_pure ⟨_, rfl, ?_⟩
  show Q (.ref g5.objs.size) _
  rw [sz]
  exact hQ g8 _ x y px py zg8 (up _ _ D.a2 pO5) (D1.frame _ _ _ u1 fun c hc o e => up c o (fun q => D.b2 (q ▸ hc)) e) (D2.frame _ _ _ u2 fun c hc o e => up c o (fun q => D.b3 (q ▸ hc)) e) pT fun c o c1 c2 c3 c4 e => up c o c1 (kk c o c1 c2 c3 c4 e)
theorem zip_endD {k : Nat} {a b : Value} {Q : Fin → Shared → Prop} (D : ZAp z TI TO i1 i2 f1 f2) (D1 : Draws prog w A i1 f1 n1 P1 S1) (D2 : Draws prog w A i2 f2 n2 P2 S2)
    (hZ : IsZip s.heap z TI TO .none) (pI : IsPair s.heap TI (.ref i1) (.ref i2)) (pO : IsPair s.heap TO a b) (t1 : S1 k s.heap) (t2 : S2 k s.heap) (hend : k = n1 ∨ (k < n1 ∧ k = n2))
    (hE : ∀ h' tk e, (∀ c o, c ≠ z → c ≠ TO → c ≠ i1 → c ≠ i2 → s.heap.get? c = some o → h'.get? c = some o) → (∃ o, h'.get? e = some o ∧ o.cls = .type "StopIteration") → E (.ref e) { s with heap := h', toks := tk }) :
    wpAny (model prog w) A (Builtin.«zip.__next__» ⟨[.ref z], []⟩) Q E s := by
  show wpAny _ _ (field (.ref z) 2 >>= fun _ => _) _ _ _
  refine wpAny_bind (wpAny_field hZ rfl (x := .bool false) rfl ?_)
  show wpAny _ _ (field (.ref z) 3 >>= fun _ => _) _ _ _
  refine wpAny_bind (wpAny_field hZ rfl (x := .ref TI) rfl ?_)
  refine wpAny_bind (wpAny_seqItems pI rfl ?_)
  show wpAny _ _ (Builtin.SmallTypes.ownedTupleIsFree (.ref z) >>= fun _ => _) _ _ _
  refine wpAny_bind ?_
  unfold Builtin.SmallTypes.ownedTupleIsFree
  refine wpAny_bind (wpAny_field hZ rfl (x := .none) rfl (wpAny_pure ?_))
  simp only [if_true]
  refine wpAny_bind (wpAny_rule (wpAny_bind (wpAny_field hZ rfl (x := .ref TO) rfl ?_)))
  refine wpAny_bind (wpAny_setField_rec hZ (by simp) fun g1 zg1 k1 => ?_)
  replace zg1 : IsZip g1 z TI TO .ellipsis := zg1
  refine wpAny_bind ?_
  simp only [List.zipIdx_cons, List.zipIdx_nil, List.forIn_cons, List.forIn_nil]
  refine wpAny_bind (wpAny_bind (wpAny_onRaise ?_))
  show wpAny _ _ (Builtin.SmallTypes.nextOf (.ref i1) >>= fun _ => _) _ _ _
  have t1' : S1 k g1 := D1.frame _ _ _ t1 fun c hc o e => k1.extBut _ _ (fun q => D.b2 (q ▸ hc)) e
  rcases hend with rfl | ⟨l1, rfl⟩
  · refine wpAny_bind (D1.done _ _ _ t1' fun g2 e k2 he => ?_)
    obtain ⟨oe, ge, ce⟩ := he
    have zg2 : IsZip g2 z TI TO .ellipsis := k2 _ _ D.a3.symm zg1
    have ne : e ≠ z := fun q => by subst q; rw [zg2] at ge; cases ge; simp at ce
    exact wpAny_setField_rec zg2 (by simp) fun g3 _ k3 => hE g3 _ e (fun c o c1 _ c3 _ q => k3.extBut _ _ c1 (k2 _ _ c3 (k1.extBut _ _ c1 q))) ⟨oe, k3.extBut _ _ ne ge, ce⟩
  · refine wpAny_bind (D1.item k _ _ _ l1 t1' fun x g2 tk2 px sg2 k2 => wpAny_pure ?_)
    have pO2 : IsPair g2 TO a b := k2.extBut _ _ D.a8 (k1.extBut _ _ D.a2 pO)
    refine wpAny_bind (wpAny_seqItems pO2 rfl (wpAny_bind (wpAny_updateSeq_pair pO2 fun g3 pO3 k3 => ?_)))
    refine wpAny_bind (wpAny_letGo (wpAny_pure (wpAny_bind (wpAny_bind (wpAny_onRaise ?_)))))
    show wpAny _ _ (Builtin.SmallTypes.nextOf (.ref i2) >>= fun _ => _) _ _ _
    have t2' : S2 k g3 := D2.frame _ _ _ t2 fun c hc o e => k3.extBut _ _ (fun q => D.b5 (q ▸ hc)) (k2.extBut _ _ (fun q => D.b6 (q ▸ hc)) (k1.extBut _ _ (fun q => D.b3 (q ▸ hc)) e))
    refine wpAny_bind (D2.done _ _ _ t2' fun g4 e k4 he => ?_)
    obtain ⟨oe, ge, ce⟩ := he
    have zg4 : IsZip g4 z TI TO .ellipsis := k4 _ _ D.a4.symm (k3.extBut _ _ D.a2.symm (k2.extBut _ _ D.a3.symm zg1))
    have ne : e ≠ z := fun q => by subst q; rw [zg4] at ge; cases ge; simp at ce
    exact wpAny_setField_rec zg4 (by simp) fun g5 _ k5 => hE g5 _ e (fun c o c1 c2 c3 c4 q => k5.extBut _ _ c1 (k4 _ _ c4 (k3.extBut _ _ c2 (k2.extBut _ _ c3 (k1.extBut _ _ c1 q))))) ⟨oe, k5.extBut _ _ ne ge, ce⟩
end
end PySem
namespace PySem
open Builtin
section
variable {prog : Program} {w : World} {A : Around} {E : Value → Shared → Prop} {s : Shared} {z TI TO i1 i2 : Addr} {f1 f2 : List Addr} {n1 n2 : Nat} {P1 P2 : Nat → Value → Prop} {S1 S2 : Nat → Heap → Prop}
theorem pyNext_zip_itemD {k : Nat} {a b : Value} {Q : Option Value → Shared → Prop} (D : ZAp z TI TO i1 i2 f1 f2) (D1 : Draws prog w A.in1 i1 f1 n1 P1 S1) (D2 : Draws prog w A.in1 i2 f2 n2 P2 S2)
    (hZ : IsZip s.heap z TI TO .none) (pI : IsPair s.heap TI (.ref i1) (.ref i2)) (pO : IsPair s.heap TO a b) (t1 : S1 k s.heap) (t2 : S2 k s.heap) (l1 : k < n1) (l2 : k < n2)
    (hQ : ∀ h' tk x y, P1 k x → P2 k y → IsZip h' z TI TO (rawInt s.heap.objs.size) → IsPair h' TO x y → S1 (k + 1) h' → S2 (k + 1) h' → IsPair h' s.heap.objs.size x y →
      (∀ c o, c ≠ z → c ≠ TO → c ≠ i1 → c ≠ i2 → s.heap.get? c = some o → h'.get? c = some o) → Q (some (.ref s.heap.objs.size)) { s with heap := h', toks := tk }) :
    wpAny (model prog w) A (pyNext (.ref z)) Q E s := by
  have tz : s.TypeIs (.ref z) "zip" := ⟨_, hZ, rfl⟩
  unfold pyNext
  exact wpAny_bind (wpAny_attempt (wpAny_callSpecial?_slot (name := Str.ofString "__next__") tz F.slot_zip_next (wpAny_call_entry F.slot_zip_next tz F.entry_zip_next
      (zip_itemD D D1 D2 hZ pI pO t1 t2 l1 l2 fun h' tk x y a1 a2 a3 a4 a5 a6 a7 a8 => wpAny_pure (hQ h' tk x y a1 a2 a3 a4 a5 a6 a7 a8)) (F.args_zip_next_1 _))))
theorem pyNext_zip_endD {k : Nat} {a b : Value} {Q : Option Value → Shared → Prop} (D : ZAp z TI TO i1 i2 f1 f2) (D1 : Draws prog w A.in1 i1 f1 n1 P1 S1) (D2 : Draws prog w A.in1 i2 f2 n2 P2 S2)
    (hZ : IsZip s.heap z TI TO .none) (pI : IsPair s.heap TI (.ref i1) (.ref i2)) (pO : IsPair s.heap TO a b) (t1 : S1 k s.heap) (t2 : S2 k s.heap) (hend : k = n1 ∨ (k < n1 ∧ k = n2))
    (hQ : ∀ h' tk, (∀ c o, c ≠ z → c ≠ TO → c ≠ i1 → c ≠ i2 → s.heap.get? c = some o → h'.get? c = some o) → Q none { s with heap := h', toks := tk }) :
    wpAny (model prog w) A (pyNext (.ref z)) Q E s := by
  have tz : s.TypeIs (.ref z) "zip" := ⟨_, hZ, rfl⟩
  unfold pyNext
  refine wpAny_bind (wpAny_attempt (wpAny_callSpecial?_slot (name := Str.ofString "__next__") tz F.slot_zip_next (wpAny_call_entry F.slot_zip_next tz F.entry_zip_next (zip_endD D D1 D2 hZ pI pO t1 t2 hend fun h' tk e hk he => ?_) (F.args_zip_next_1 _))))
  obtain ⟨o, ho, hc⟩ := he
  exact wpAny_bind (wpAny_isInstance (T := "StopIteration") (b := true) ⟨o, ho, hc⟩ isSubtype_stop (wpAny_pure (hQ _ _ hk)))
end
end PySem
namespace L2
open PySem PySem.Spec PyProof.Rows
theorem zap_of {z TI TO i1 i2 a b : Addr} (nd : [z, TI, TO, i1, i2].Nodup) (na : a ∉ [z, TI, TO, i1, i2]) (nb : b ∉ [z, TI, TO, i1, i2]) : ZAp z TI TO i1 i2 [i1, a] [i2, b] := by
  simp only [List.nodup_cons, List.mem_cons, List.mem_nil_iff, or_false, not_or, List.nodup_nil, and_true, not_false_eq_true] at nd na nb
  obtain ⟨⟨q1, q2, q3, q4⟩, ⟨q5, q6, q7⟩, ⟨q8, q9⟩, q10⟩ := nd
  obtain ⟨r1, r2, r3, r4, r5⟩ := na
  obtain ⟨s1, s2, s3, s4, s5⟩ := nb
  constructor <;> first | exact Ne.symm ‹_› | assumption | (simp only [List.mem_cons, List.mem_nil_iff, or_false, not_or]; constructor <;> first | assumption | exact Ne.symm ‹_›)
end L2
set_option maxHeartbeats 4000000
namespace HT
open PySem PyProof.Rows
section
variable {prog : Program} {w : World} {A : Around} {E : Value → Shared → Prop} {s : Shared}
theorem getItem_tuple_self {t sl : Addr} {items : Array Value} {vl vu : Value} {lo hi : Option Int} {Q : Value → Shared → Prop} (ht : IsTup s.heap t items) (hs : s.heap.IsSliceOf sl vl vu .none) (pl : IsPart vl lo) (pu : IsPart vu hi)
    (hw : sIx items.size 0 lo = 0 ∧ sIx items.size items.size hi = items.size) (h : Q (.ref t) s) : wpAny (model prog w) A (getItem (.ref t) (.ref sl)) Q E s := by
  obtain ⟨os, hos, hcs, hds⟩ := id hs
  have tsl : s.TypeIs (.ref sl) "slice" := ⟨os, hos, hcs⟩
  unfold getItem
  try with_reducible refine wpAny_holding ?_
  first | refine wpAny_bind (wpAny_pure ?_) | skip
  refine wpAny_bind (wpAny_sequenceKey ht.typeIs (by decide) (wpAny_bind (wpAny_callSpecial?_slot (name := Str.ofString "__getitem__") ht.typeIs PyProof.Rows.slot_tuple_getitem (wpAny_call_entry PyProof.Rows.slot_tuple_getitem ht.typeIs entry_tuple_getitem ?_ (args_tuple_getitem _ _)))))
  show wpAny _ _ (Builtin.Tuple.tupleItemsOf (.ref t) >>= fun _ => _) _ _ s
  refine wpAny_bind (tupleItemsOf_ ht (wpAny_bind (wpAny_typeOf tsl ?_)))
  rw [if_pos (by decide)]
  refine wpAny_bind (sliceApplied_gen hs pl pu ?_)
  have yes : (((sIx items.size 0 lo : Nat) : Int) == 0 && (1 : Int) == 1 && (sIx items.size items.size hi - sIx items.size 0 lo) == items.size) = true := by rw [hw.1, hw.2]; simp
  show wpAny _ _ (ite ((((sIx items.size 0 lo : Nat) : Int) == 0 && (1 : Int) == 1 && (sIx items.size items.size hi - sIx items.size 0 lo) == items.size) = true) _ _) _ _ s
  rw [if_pos yes]
  refine wpAny_bind (m := Builtin.Tuple.tupleIsExact (.ref t)) ?_
  unfold Builtin.Tuple.tupleIsExact
  refine wpAny_bind (wpAny_typeOf ht.typeIs (wpAny_pure ?_))
  rw [if_pos (by decide)]
  exact wpAny_bind (wpAny_rule (wpAny_pure ⟨_, rfl, wpAny_pure h⟩))
end
end HT
namespace L2
open PySem PySem.Spec PyProof.Rows
section
variable {X : Cx}
inductive RSlTAP (K : PySem.W.Frag) (x : V) (lo : Option Int) (hi : Option Int) (H : Hp) (Q : VK) : Prop
  | mk (a xs : _) : (x = .ref a) → (SqT K H a xs) → (((HT.sIx xs.length 0 lo = 0 ∧ HT.sIx xs.length xs.length hi = xs.length) → Q (.ref a) H)) → ((¬ (HT.sIx xs.length 0 lo = 0 ∧ HT.sIx xs.length xs.length hi = xs.length) → ∀ p, H p = none → Q (.ref p) (upd H p (.tup (cutV xs lo hi))))) → RSlTAP K x lo hi H Q
def rSlTA (K : PySem.W.Frag) : V → Option Int → Option Int → Hp → VK → Prop := fun x lo hi H Q => RSlTAP K x lo hi H Q
theorem sl_tupA : SlR X (rSlTA X.K) := by
  intro pins s σ H x v vl vu lo hi sl Q I rx hs pl pu h
  obtain ⟨a, xs, rfl, hx, q1, q2⟩ := h
  by_cases hw : HT.sIx xs.length 0 lo = 0 ∧ HT.sIx xs.length xs.length hi = xs.length
  · cases rx
    obtain ⟨its, r, ht, hz⟩ := I.tuple hx
    have hlen : its.toArray.size = xs.length := by rw [List.size_toArray]; exact r.length.symm
    exact ⟨"tuple", _, PyProof.Rows.slot_tuple_getitem.lookup, ht.typeIs, HT.getItem_tuple_self ht hs pl pu (by rw [hlen]; exact hw) ⟨.ref a, H, I, rfl, q1 hw⟩⟩
  · exact sl_tup pins s σ H _ v vl vu lo hi sl Q I rx hs pl pu ⟨a, xs, rfl, hx, hw, q2 hw⟩
end
theorem op_eqNil {X : Cx} (hu : X.A.units + 64 < cLine) : OpR X (compareOp .Eq) (fun x y H Q => ∃ (a b : Addr) (xs : List V), x = .ref a ∧ y = .ref b ∧ SqL X.K H a xs ∧ SqL X.K H b [] ∧ Q (.bl xs.isEmpty) H) := by
  intro pins s σ H x y u v Q I rx ry h
  obtain ⟨a, b, xs, rfl, rfl, ha, hb, q⟩ := h
  cases rx
  cases ry
  cases xs with
  | nil =>
    obtain ⟨as, r1⟩ := Rep.reads (u := .ref a) I (Rep.lst ha .nil) rfl
    obtain ⟨bs, r2⟩ := Rep.reads (u := .ref b) I (Rep.lst hb .nil) rfl
    exact SeqAt.compareEq_reads r1 r2 rfl rfl (by simp only [PyData.depth, PyData.depthAll]; omega) ⟨.bl _, H, I, rfl, q⟩
  | cons x xs =>
    obtain ⟨its, r1, h1, _⟩ := I.list ha
    obtain ⟨its2, r2, h2, _⟩ := I.list hb
    have l1 := r1.length
    have l2 := r2.length
    refine SeqAt.eq_list_lengthsAt h1.isList h2.isList (by simp at l1 l2 ⊢; omega) (by omega) ⟨.bl _, H, I, rfl, q⟩
theorem same_new {H : Hp} {p : Addr} {o : HO} (h : H p = none) : Same H (upd H p o) := fun b u e => by rw [upd_ne (ne_of_none e h)]; exact e
theorem same_refl (H : Hp) : Same H H := fun _ _ e => e
theorem small {n : Nat} (h : n ≤ 10000) : n ≤ sizeLine := by rw [sizeLine_eq]; exact Nat.le_trans (by assumption) (by decide)
theorem none_of {H H' : Hp} {a : Addr} (s : Same H H') (h : H' a = none) : H a = none := by
  cases e : H a with
  | none => rfl
  | some o => rw [s _ _ e] at h; cases h
theorem pg_tupK {X : Cx} {es : List Expr} {k : Nat} {t : TGs} {pos : Pos} (K : PySem.W.Frag) (n : Nat) (hK : X.K = K) (hc : X.calm = true) (h : PGs X es t) (hn : (assignEach es X.env).length = n := by rfl) (hst : (assignEach es X.env).findIdx? (·.1) = none := by rfl) : PG X (.Tuple es k pos) (gTup K n t) := by
  subst hK
  exact pg_tup hc h hn hst
end L2
set_option maxHeartbeats 4000000
namespace PySem
open Builtin
end PySem
namespace PySem
open Builtin
end PySem
namespace L2
open PySem PySem.Spec PyProof.Rows
end L2
set_option maxHeartbeats 4000000
namespace PySem
open Builtin
end PySem
namespace L2
open PySem PySem.Spec PyProof.Rows
end L2
namespace PySem
open Builtin
end PySem
namespace L2
open PySem PySem.Spec PyProof.Rows
end L2
set_option maxHeartbeats 1000000
namespace Srt
open PySem PySem.W PyProof.Rows
structure Ord (lt : Nat → Nat → Bool) : Prop where
  asym : ∀ a b, lt a b = true → lt b a = false
  ntr : ∀ a b c, lt a b = false → lt b c = false → lt a c = false
def ev {α : Type} (lt : Nat → Nat → Bool) : KasT α → α
  | .ret a => a
  | .ask i j k => ev lt (k (lt i j))
theorem ev_bind {α β : Type} (lt : Nat → Nat → Bool) (f : α → KasT β) : ∀ t : KasT α, ev lt (t.bind f) = ev lt (f (ev lt t))
  | .ret _ => rfl
  | .ask i j k => ev_bind lt f (k (lt i j))
def AsksP {α : Type} (n : Nat) (P : α → Prop) : KasT α → Prop
  | .ret a => P a
  | .ask i j k => i < n ∧ j < n ∧ ∀ b, AsksP n P (k b)
theorem AsksP.bind {α β : Type} {n : Nat} {P : α → Prop} {R : β → Prop} {f : α → KasT β} (hf : ∀ a, P a → AsksP n R (f a)) : ∀ {t : KasT α}, AsksP n P t → AsksP n R (t.bind f)
  | .ret a, h => hf a h
  | .ask i j k, h => ⟨h.1, h.2.1, fun b => AsksP.bind hf (h.2.2 b)⟩
theorem AsksP.ev {α : Type} {n : Nat} {P : α → Prop} (lt : Nat → Nat → Bool) : ∀ {t : KasT α}, AsksP n P t → P (Srt.ev lt t)
  | .ret _, h => h
  | .ask i j k, h => AsksP.ev (n := n) (P := P) lt (t := k (lt i j)) (h.2.2 (lt i j))
theorem AsksP.wp {α : Type} {n : Nat} {P : α → Prop} {cmp : Nat → Nat → (Bool → Shared → Prop) → Shared → Prop} {lt : Nat → Nat → Bool} {s : Shared} (hc : ∀ i j (C : Bool → Shared → Prop), i < n → j < n → C (lt i j) s → cmp i j C s) {Q : α → Shared → Prop} : ∀ {t : KasT α}, AsksP n P t → Q (Srt.ev lt t) s → t.kasWp cmp Q s
  | .ret _, _, q => q
  | .ask i j k, h, q => hc i j _ h.1 h.2.1 (AsksP.wp hc (h.2.2 (lt i j)) q)
abbrev g (p : Array Nat) (k : Nat) : Nat := p.getD k 0
theorem g_eq (p : Array Nat) (k : Nat) : g p k = (p[k]?).getD 0 := by
  show p.getD k 0 = _
  simp [Array.getD_eq_getD_getElem?]
theorem g_rev {p : Array Nat} {i j : Nat} (hj : j ≤ p.size) (k : Nat) : g (kas_rev p i j) k = if i ≤ k ∧ k < j then g p (i + j - 1 - k) else g p k := by
  rw [g_eq]
  unfold kas_rev
  rw [getElem?_mirror_all hj]
  split <;> rw [g_eq]
theorem g_bub {p : Array Nat} {src d : Nat} (hs : src < p.size) (hd : d ≤ src) (k : Nat) : g (bubble p src d) k = if k = src - d then g p src else if src - d < k ∧ k ≤ src then g p (k - 1) else g p k := by
  rw [g_eq, getElem?_bubble hs d hd, g_eq, g_eq, g_eq]
  split
  · rfl
  · split <;> rfl
theorem rev_size (p : Array Nat) (i j : Nat) : (kas_rev p i j).size = p.size := mirror_size _ _ _ _
theorem rev_perm (p : Array Nat) (i j : Nat) : (kas_rev p i j).Perm p := mirror_perm _ _ _ _
def Pm (n : Nat) (p : Array Nat) : Prop := p.Perm (List.range n).toArray
theorem Pm.size {n : Nat} {p : Array Nat} (h : Pm n p) : p.size = n := by
  have := Array.Perm.size_eq h
  simpa using this
theorem Pm.lt {n : Nat} {p : Array Nat} (h : Pm n p) (h0 : 0 < n) (k : Nat) : g p k < n := by
  rw [g_eq]
  cases e : p[k]? with
  | none => exact h0
  | some x =>
    have hx : x ∈ p := Array.mem_of_getElem? e
    have := (Array.Perm.mem_iff h).mp hx
    simpa using this
section
variable {n : Nat} (h0 : 0 < n)
include h0
theorem asks_asc {p : Array Nat} (h : Pm n p) : ∀ f m, AsksP n (fun _ => True) (kas_asc p f m)
  | 0, _ => trivial
  | f + 1, m => ⟨h.lt h0 _, h.lt h0 _, fun b => by cases b <;> first | exact trivial | exact asks_asc h f (m + 1)⟩
theorem asks_desc : ∀ f {p : Array Nat} (m q : Nat), Pm n p → AsksP n (fun r => Pm n r.1) (kas_desc f p m q)
  | 0, _, _, _, h => h
  | f + 1, p, m, q, h => by
    refine ⟨h.lt h0 _, h.lt h0 _, fun b => ?_⟩
    cases b with
    | true =>
      show AsksP n _ (if q > 0 then _ else _)
      by_cases hq : q > 0
      · rw [if_pos hq]; exact asks_desc f _ _ ((rev_perm _ _ _).trans h)
      · rw [if_neg hq]; exact asks_desc f _ _ h
    | false =>
      refine ⟨h.lt h0 _, h.lt h0 _, fun d => ?_⟩
      cases d with
      | true => exact h
      | false => exact asks_desc f _ _ h
theorem asks_tail3 {p : Array Nat} (m nrem : Nat) (h : Pm n p) : AsksP n (fun r => Pm n r.2) (kas_tail3 m nrem p) := by
  have hr : Pm n (kas_rev p 0 m) := (rev_perm _ _ _).trans h
  refine AsksP.bind (n := n) (P := fun _ => True) (R := fun r : Nat × Array Nat => Pm n r.2) (fun k _ => ?_) (asks_asc h0 hr _ _)
  exact hr
theorem asks_descPart {p : Array Nat} (m nrem : Nat) (h : Pm n p) : AsksP n (fun r => Pm n r.2) (kas_descPart m nrem p) :=
  (asks_desc h0 _ _ _ h).bind fun r hr => by
    by_cases hq : r.2.2 > 0
    · rw [if_pos hq]; exact asks_tail3 h0 _ _ ((rev_perm _ _ _).trans hr)
    · rw [if_neg hq]; exact asks_tail3 h0 _ _ hr
theorem asks_count {p : Array Nat} (nrem : Nat) (h : Pm n p) : AsksP n (fun r => Pm n r.2) (kas_count nrem p) :=
  (asks_asc h0 h _ _).bind fun m _ => by
    by_cases h1 : (m == nrem) = true
    · rw [if_pos h1]; exact h
    · rw [if_neg h1]
      by_cases h2 : m > 1
      · rw [if_pos h2]
        refine ⟨h.lt h0 _, h.lt h0 _, fun c => ?_⟩
        cases c with
        | true => exact h
        | false => exact asks_descPart h0 _ _ ((rev_perm _ _ _).trans h)
      · rw [if_neg h2]; exact asks_descPart h0 _ _ h
theorem asks_place {p : Array Nat} (k : Nat) (h : Pm n p) : ∀ f l r, AsksP n (fun _ => True) (kas_place p k f l r)
  | 0, _, _ => trivial
  | f + 1, l, r => by
    show AsksP n _ (if l ≥ r then _ else _)
    by_cases hl : l ≥ r
    · rw [if_pos hl]; trivial
    · rw [if_neg hl]
      refine ⟨h.lt h0 _, h.lt h0 _, fun c => ?_⟩
      cases c with
      | true => exact asks_place k h f _ _
      | false => exact asks_place k h f _ _
theorem asks_bin : ∀ f {p : Array Nat} (k : Nat), Pm n p → AsksP n (Pm n) (kas_bin f p k)
  | 0, _, _, h => h
  | f + 1, p, k, h => (asks_place h0 k h _ _ _).bind fun l _ => asks_bin f (k + 1) ((bubble_perm _ _ _).trans h)
theorem asks_sort : AsksP n (Pm n) (kas_sort n) :=
  (asks_count h0 n (Array.Perm.refl _)).bind fun r hr => by
    by_cases h1 : r.1 < n
    · rw [if_pos h1]; exact asks_bin h0 _ _ hr
    · rw [if_neg h1]; exact hr
end
section
variable {lt : Nat → Nat → Bool} (O : Ord lt)
def Sto (lt : Nat → Nat → Bool) (p : Array Nat) (k : Nat) : Prop := ∀ i j, i ≤ j → j < k → lt (g p j) (g p i) = false
def Dto (lt : Nat → Nat → Bool) (p : Array Nat) (k : Nat) : Prop := ∀ i j, i ≤ j → j < k → lt (g p i) (g p j) = false
def Eqv (lt : Nat → Nat → Bool) (a b : Nat) : Prop := lt a b = false ∧ lt b a = false
include O
theorem irr (a : Nat) : lt a a = false := by
  cases h : lt a a with
  | false => rfl
  | true => have := O.asym a a h; rw [h] at this; cases this
theorem ev_asc {p : Array Nat} : ∀ f m, 1 ≤ m → Sto lt p m → m ≤ ev lt (kas_asc p f m) ∧ ev lt (kas_asc p f m) ≤ m + f ∧ Sto lt p (ev lt (kas_asc p f m)) ∧ (ev lt (kas_asc p f m) < m + f → lt (g p (ev lt (kas_asc p f m))) (g p (ev lt (kas_asc p f m) - 1)) = true)
  | 0, m, _, hs => ⟨Nat.le_refl _, Nat.le_refl _, hs, fun h => absurd h (Nat.lt_irrefl _)⟩
  | f + 1, m, h1, hs => by
    show m ≤ ev lt (if lt (g p m) (g p (m - 1)) = true then .ret m else kas_asc p f (m + 1)) ∧ ev lt (if lt (g p m) (g p (m - 1)) = true then .ret m else kas_asc p f (m + 1)) ≤ m + (f + 1) ∧ Sto lt p (ev lt (if lt (g p m) (g p (m - 1)) = true then .ret m else kas_asc p f (m + 1))) ∧ (ev lt (if lt (g p m) (g p (m - 1)) = true then .ret m else kas_asc p f (m + 1)) < m + (f + 1) → lt (g p (ev lt (if lt (g p m) (g p (m - 1)) = true then .ret m else kas_asc p f (m + 1)))) (g p (ev lt (if lt (g p m) (g p (m - 1)) = true then .ret m else kas_asc p f (m + 1)) - 1)) = true)
    by_cases c : lt (g p m) (g p (m - 1)) = true
    · rw [if_pos c]
      exact ⟨Nat.le_refl _, Nat.le_add_right _ _, hs, fun _ => c⟩
    · rw [if_neg c]
      have c : lt (g p m) (g p (m - 1)) = false := by simpa using c
      have hs' : Sto lt p (m + 1) := fun i j hij hj => by
        by_cases e : j = m
        · subst e
          by_cases e2 : i = j
          · subst e2; exact irr O _
          · exact O.ntr _ _ _ c (hs i (j - 1) (by omega) (by exact Nat.sub_lt (by assumption) (by decide)))
        · exact hs i j hij (by omega)
      obtain ⟨a, b, d, e⟩ := ev_asc f (m + 1) (by exact Nat.lt_succ_of_lt (by assumption)) hs'
      exact ⟨by exact Nat.le_of_lt (by assumption), by omega, d, fun h => e (by omega)⟩
theorem Dto.eqv {p p1 : Array Nat} {k : Nat} (h : Dto lt p k) (he : ∀ i, i < k → Eqv lt (g p1 i) (g p i)) : Dto lt p1 k := fun i j hij hj =>
  O.ntr _ _ _ (he i (by exact Nat.lt_of_le_of_lt (by assumption) (by assumption))).1 (O.ntr _ _ _ (h i j hij hj) (he j hj).2)
def Blk (lt : Nat → Nat → Bool) (p : Array Nat) (m q : Nat) : Prop := q + 1 ≤ m ∧ ∀ i j, m - (q + 1) ≤ i → i < m → m - (q + 1) ≤ j → j < m → Eqv lt (g p i) (g p j)
theorem rev_blk {p : Array Nat} {m q : Nat} (hm : m ≤ p.size) (hb : Blk lt p m q) : ∀ i, Eqv lt (g (kas_rev p (m - (q + 1)) m) i) (g p i) := fun i => by
  have h1 := hb.1
  rw [g_rev hm]
  split
  · exact hb.2 _ _ (by omega) (by omega) (by omega) (by omega)
  · exact ⟨irr O _, irr O _⟩
theorem ev_desc : ∀ f {p : Array Nat} (m q : Nat), 1 ≤ m → m + f ≤ p.size → Dto lt p m → Blk lt p m q →
    let r := ev lt (kas_desc f p m q); m ≤ r.2.1 ∧ r.2.1 ≤ m + f ∧ r.1.size = p.size ∧ Dto lt r.1 r.2.1 ∧ Blk lt r.1 r.2.1 r.2.2
  | 0, p, m, q, _, _, hd, hb => ⟨Nat.le_refl _, Nat.le_refl _, rfl, hd, hb⟩
  | f + 1, p, m, q, h1, hz, hd, hb => by
    intro r
    have b1 := hb.1
    have single : ∀ (p' : Array Nat), Blk lt p' (m + 1) 0 := fun p' => ⟨by exact Nat.lt_succ_of_lt (by assumption), fun i j a b c d => by
      have : i = j := by omega
      subst this; exact ⟨irr O _, irr O _⟩⟩
    have low : lt (g p (m - 1)) (g p m) = false → Dto lt p (m + 1) := fun c i j hij hj => by
      by_cases e : j = m
      · subst e
        by_cases e2 : i = j
        · subst e2; exact irr O _
        · exact O.ntr _ _ _ (hd i (j - 1) (by omega) (by exact Nat.sub_lt (by assumption) (by decide))) c
      · exact hd i j hij (by omega)
    by_cases c : lt (g p m) (g p (m - 1)) = true
    · have cl := low (O.asym _ _ c)
      by_cases hq : q > 0
      · have e : r = ev lt (kas_desc f (kas_rev p (m - (q + 1)) m) (m + 1) 0) := by
          show ev lt (if lt (g p m) (g p (m - 1)) = true then (if q > 0 then _ else _) else _) = _
          rw [if_pos c, if_pos hq]
        obtain ⟨a, b, s, d, k⟩ := ev_desc f (p := kas_rev p (m - (q + 1)) m) (m + 1) 0 (by exact Nat.lt_succ_of_lt (by assumption)) (by rw [rev_size]; omega) (Dto.eqv O cl fun i _ => rev_blk O (by omega) hb i) (single _)
        rw [e]
        exact ⟨by exact Nat.le_of_lt (by assumption), by omega, by rw [s, rev_size], d, k⟩
      · have e : r = ev lt (kas_desc f p (m + 1) 0) := by
          show ev lt (if lt (g p m) (g p (m - 1)) = true then (if q > 0 then _ else _) else _) = _
          rw [if_pos c, if_neg hq]
        obtain ⟨a, b, s, d, k⟩ := ev_desc f (p := p) (m + 1) 0 (by exact Nat.lt_succ_of_lt (by assumption)) (by omega) cl (single _)
        rw [e]
        exact ⟨by exact Nat.le_of_lt (by assumption), by omega, s, d, k⟩
    · have c' : lt (g p m) (g p (m - 1)) = false := by simpa using c
      by_cases d1 : lt (g p (m - 1)) (g p m) = true
      · have e : r = (p, m, q) := by
          show ev lt (if lt (g p m) (g p (m - 1)) = true then _ else KasT.ask _ _ fun d => if d = true then _ else _) = _
          rw [if_neg c]
          show ev lt (if lt (g p (m - 1)) (g p m) = true then KasT.ret (p, m, q) else _) = _
          rw [if_pos d1]
          rfl
        rw [e]
        exact ⟨Nat.le_refl _, Nat.le_add_right _ _, rfl, hd, hb⟩
      · have d' : lt (g p (m - 1)) (g p m) = false := by simpa using d1
        have e : r = ev lt (kas_desc f p (m + 1) (q + 1)) := by
          show ev lt (if lt (g p m) (g p (m - 1)) = true then _ else KasT.ask _ _ fun d => if d = true then _ else _) = _
          rw [if_neg c]
          show ev lt (if lt (g p (m - 1)) (g p m) = true then KasT.ret (p, m, q) else _) = _
          rw [if_neg d1]
        have blk : Blk lt p (m + 1) (q + 1) := ⟨by exact Nat.succ_le_succ (by assumption), fun i j i1 i2 j1 j2 => by
          have to : ∀ k, m - (q + 1) ≤ k → k < m + 1 → Eqv lt (g p k) (g p (m - 1)) := fun k k1 k2 => by
            by_cases z : k = m
            · subst z; exact ⟨c', d'⟩
            · exact hb.2 k (m - 1) k1 (by omega) (by omega) (by exact Nat.sub_lt (by assumption) (by decide))
          have a := to i (by omega) i2
          have b := to j (by omega) j2
          exact ⟨O.ntr _ _ _ a.1 b.2, O.ntr _ _ _ b.1 a.2⟩⟩
        obtain ⟨a, b, s, d, k⟩ := ev_desc f (p := p) (m + 1) (q + 1) (by exact Nat.lt_succ_of_lt (by assumption)) (by omega) (low d') blk
        rw [e]
        exact ⟨by exact Nat.le_of_lt (by assumption), by omega, s, d, k⟩
theorem Dto.rev {p : Array Nat} {m : Nat} (hm : m ≤ p.size) (h : Dto lt p m) : Sto lt (kas_rev p 0 m) m := fun i j hij hj => by
  rw [g_rev hm, g_rev hm, if_pos ⟨by exact Nat.zero_le _, by assumption⟩, if_pos ⟨by exact Nat.zero_le _, by exact Nat.lt_of_le_of_lt (by assumption) (by assumption)⟩]
  exact h _ _ (by omega) (by omega)
theorem ev_tail3 {p : Array Nat} {m nrem : Nat} (h1 : 1 ≤ m) (hn : m ≤ nrem) (hz : nrem ≤ p.size) (h : Dto lt p m) : let r := ev lt (kas_tail3 m nrem p); 1 ≤ r.1 ∧ r.1 ≤ nrem ∧ Sto lt r.2 r.1 := by
  intro r
  have e : r = (ev lt (kas_asc (kas_rev p 0 m) (nrem - m) m), kas_rev p 0 m) := ev_bind lt _ _
  obtain ⟨a, b, c, _⟩ := ev_asc O (p := kas_rev p 0 m) (nrem - m) m h1 (Dto.rev O (by exact Nat.le_trans (by assumption) (by assumption)) h)
  rw [e]
  exact ⟨by show 1 ≤ _; exact Nat.le_trans (by assumption) (by assumption), by show _ ≤ nrem; omega, c⟩
theorem ev_descPart {p : Array Nat} {m nrem : Nat} (hn : m + 1 ≤ nrem) (hz : nrem ≤ p.size) (h : Dto lt p (m + 1)) : let r := ev lt (kas_descPart m nrem p); 1 ≤ r.1 ∧ r.1 ≤ nrem ∧ Sto lt r.2 r.1 := by
  intro r
  have single : Blk lt p (m + 1) 0 := ⟨by omega, fun i j a b c d => by
    have : i = j := by omega
    subst this; exact ⟨irr O _, irr O _⟩⟩
  obtain ⟨a, b, s, d, k⟩ := ev_desc O (nrem - (m + 1)) (p := p) (m + 1) 0 (by omega) (by omega) h single
  have e : r = ev lt (if (ev lt (kas_desc (nrem - (m + 1)) p (m + 1) 0)).2.2 > 0 then kas_tail3 (ev lt (kas_desc (nrem - (m + 1)) p (m + 1) 0)).2.1 nrem (kas_rev (ev lt (kas_desc (nrem - (m + 1)) p (m + 1) 0)).1 ((ev lt (kas_desc (nrem - (m + 1)) p (m + 1) 0)).2.1 - ((ev lt (kas_desc (nrem - (m + 1)) p (m + 1) 0)).2.2 + 1)) (ev lt (kas_desc (nrem - (m + 1)) p (m + 1) 0)).2.1) else kas_tail3 (ev lt (kas_desc (nrem - (m + 1)) p (m + 1) 0)).2.1 nrem (ev lt (kas_desc (nrem - (m + 1)) p (m + 1) 0)).1) := ev_bind lt _ _
  rw [e]
  generalize ev lt (kas_desc (nrem - (m + 1)) p (m + 1) 0) = x at a b s d k
  by_cases hq : x.2.2 > 0
  · rw [if_pos hq]
    exact ev_tail3 O (by omega) (by omega) (by rw [rev_size]; omega) (Dto.eqv O d fun i _ => rev_blk O (by omega) k i)
  · rw [if_neg hq]
    exact ev_tail3 O (by omega) (by omega) (by omega) d
theorem ev_count {p : Array Nat} {nrem : Nat} (h1 : 1 ≤ nrem) (hz : nrem ≤ p.size) : let r := ev lt (kas_count nrem p); 1 ≤ r.1 ∧ r.1 ≤ nrem ∧ Sto lt r.2 r.1 := by
  intro r
  have s1 : Sto lt p 1 := fun i j hij hj => by
    have a : i = 0 := by omega
    have b : j = 0 := by omega
    subst a b; exact irr O _
  obtain ⟨a, b, c, e⟩ := ev_asc O (p := p) (nrem - 1) 1 (Nat.le_refl _) s1
  have er : r = ev lt ((fun n => if (n == nrem) = true then KasT.ret (n, p) else if n > 1 then KasT.ask (p.getD 0 0) (p.getD (n - 1) 0) fun c => if c = true then KasT.ret (n, p) else kas_descPart n nrem (kas_rev p 0 n) else kas_descPart n nrem p) (ev lt (kas_asc p (nrem - 1) 1))) := ev_bind lt _ _
  rw [er]
  generalize ev lt (kas_asc p (nrem - 1) 1) = m at a b c e
  dsimp only
  by_cases h2 : (m == nrem) = true
  · rw [if_pos h2]
    exact ⟨a, by show m ≤ nrem; omega, c⟩
  · rw [if_neg h2]
    have hm : m < nrem := by
      have : m ≠ nrem := by simpa using h2
      omega
    have last := e (by omega)
    by_cases h3 : m > 1
    · rw [if_pos h3]
      show let r := ev lt (if lt (g p 0) (g p (m - 1)) = true then KasT.ret (m, p) else kas_descPart m nrem (kas_rev p 0 m)); 1 ≤ r.1 ∧ r.1 ≤ nrem ∧ Sto lt r.2 r.1
      by_cases h4 : lt (g p 0) (g p (m - 1)) = true
      · rw [if_pos h4]
        exact ⟨a, by show m ≤ nrem; exact Nat.le_of_lt (by assumption), c⟩
      · rw [if_neg h4]
        have h4 : lt (g p 0) (g p (m - 1)) = false := by simpa using h4
        have all : ∀ i j, i < m → j < m → lt (g p i) (g p j) = false := fun i j hi hj => O.ntr _ _ _ (O.ntr _ _ _ (c 0 i (by exact Nat.zero_le _) hi) h4) (c j (m - 1) (by omega) (by exact Nat.sub_lt (by assumption) (by decide)))
        have blk : Blk lt p m (m - 1) := ⟨by exact Nat.sub_lt (by assumption) (by decide), fun i j _ i2 _ j2 => ⟨all i j i2 j2, all j i j2 i2⟩⟩
        have d1 : Dto lt p (m + 1) := fun i j hij hj => by
          by_cases z : j = m
          · subst z
            by_cases z2 : i = j
            · subst z2; exact irr O _
            · exact O.ntr _ _ _ (all i (j - 1) (by omega) (by exact Nat.sub_lt (by assumption) (by decide))) (O.asym _ _ last)
          · exact all i j (by omega) (by omega)
        have rb := rev_blk O (by omega) blk
        rw [show m - (m - 1 + 1) = 0 by omega] at rb
        exact ev_descPart O (by assumption) (by rw [rev_size]; assumption) (Dto.eqv O d1 fun i _ => rb i)
    · rw [if_neg h3]
      have : m = 1 := by omega
      subst this
      refine ev_descPart O (by assumption) hz fun i j hij hj => ?_
      by_cases z : i = j
      · subst z; exact irr O _
      · have a0 : i = 0 := by omega
        have b1 : j = 1 := by omega
        subst a0 b1
        exact O.asym _ _ last
theorem ev_place {p : Array Nat} {k : Nat} : ∀ f l r, r - l ≤ f → l ≤ r → r ≤ k → (∀ i, i < l → lt (g p k) (g p i) = false) → (∀ i, r ≤ i → i < k → lt (g p k) (g p i) = true) → Sto lt p k →
    let x := ev lt (kas_place p k f l r); x ≤ k ∧ (∀ i, i < x → lt (g p k) (g p i) = false) ∧ ∀ i, x ≤ i → i < k → lt (g p k) (g p i) = true
  | 0, l, r, hf, hlr, hrk, h1, h2, _ => by
    have : l = r := by omega
    subst this
    exact ⟨hrk, h1, h2⟩
  | f + 1, l, r, hf, hlr, hrk, h1, h2, hs => by
    intro x
    by_cases hl : l ≥ r
    · have e : x = l := by
        show ev lt (if l ≥ r then KasT.ret l else _) = l
        rw [if_pos hl]; rfl
      have : l = r := by omega
      subst this
      rw [e]
      exact ⟨hrk, h1, h2⟩
    · by_cases c : lt (g p k) (g p ((l + r) / 2)) = true
      · have e : x = ev lt (kas_place p k f l ((l + r) / 2)) := by
          show ev lt (if l ≥ r then KasT.ret l else KasT.ask _ _ fun c => if c = true then _ else _) = _
          rw [if_neg hl]
          show ev lt (if lt (g p k) (g p ((l + r) / 2)) = true then _ else _) = _
          rw [if_pos c]
        rw [e]
        refine ev_place f l ((l + r) / 2) (by omega) (by omega) (by omega) h1 (fun i i1 i2 => ?_) hs
        cases z : lt (g p k) (g p i) with
        | true => rfl
        | false =>
          have := O.ntr _ _ _ z (hs ((l + r) / 2) i i1 i2)
          rw [c] at this; cases this
      · have c' : lt (g p k) (g p ((l + r) / 2)) = false := by simpa using c
        have e : x = ev lt (kas_place p k f ((l + r) / 2 + 1) r) := by
          show ev lt (if l ≥ r then KasT.ret l else KasT.ask _ _ fun c => if c = true then _ else _) = _
          rw [if_neg hl]
          show ev lt (if lt (g p k) (g p ((l + r) / 2)) = true then _ else _) = _
          rw [if_neg c]
        rw [e]
        refine ev_place f ((l + r) / 2 + 1) r (by omega) (by omega) hrk (fun i i1 => O.ntr _ _ _ c' (hs i ((l + r) / 2) (by omega) (by omega))) h2 hs
theorem ev_bin : ∀ f {p : Array Nat} (k : Nat), k + f = p.size → Sto lt p k → Sto lt (ev lt (kas_bin f p k)) p.size
  | 0, p, k, hz, hs => by
    have : k = p.size := by assumption
    subst this; exact hs
  | f + 1, p, k, hz, hs => by
    have e : ev lt (kas_bin (f + 1) p k) = ev lt (kas_bin f (bubble p k (k - ev lt (kas_place p k k 0 k))) (k + 1)) := ev_bind lt _ _
    obtain ⟨x1, x2, x3⟩ := ev_place O (p := p) (k := k) k 0 k (by exact Nat.le_refl _) (by exact Nat.zero_le _) (Nat.le_refl _) (fun i hi => by omega) (fun i i1 i2 => by omega) hs
    rw [e]
    generalize ev lt (kas_place p k k 0 k) = x at x1 x2 x3
    have hs' : Sto lt (bubble p k (k - x)) (k + 1) := fun i j hij hj => by
      rw [g_bub (by omega) (by exact Nat.sub_le _ _), g_bub (by omega) (by exact Nat.sub_le _ _), show k - (k - x) = x by omega]
      by_cases j1 : j = x
      · rw [if_pos j1]
        by_cases i1 : i = x
        · rw [if_pos i1]; exact irr O _
        · rw [if_neg i1, if_neg (by omega)]
          exact x2 i (by omega)
      · rw [if_neg j1]
        by_cases j2 : x < j ∧ j ≤ k
        · rw [if_pos j2]
          by_cases i1 : i = x
          · rw [if_pos i1]; exact O.asym _ _ (x3 (j - 1) (by omega) (by omega))
          · rw [if_neg i1]
            by_cases i2 : x < i ∧ i ≤ k
            · rw [if_pos i2]; exact hs (i - 1) (j - 1) (by omega) (by omega)
            · rw [if_neg i2]; exact hs i (j - 1) (by omega) (by omega)
        · rw [if_neg j2, if_neg (by omega), if_neg (by omega)]
          exact hs i j hij (by omega)
    have := ev_bin f (p := bubble p k (k - x)) (k + 1) (by rw [bubble_size]; omega) hs'
    rw [bubble_size] at this
    exact this
theorem ev_sort {n : Nat} (h1 : 1 ≤ n) : Sto lt (ev lt (kas_sort n)) n := by
  have hz : (List.range n).toArray.size = n := by simp
  have e : ev lt (kas_sort n) = ev lt ((fun r : Nat × Array Nat => if r.1 < n then kas_bin (n - max r.1 1) r.2 (max r.1 1) else .ret r.2) (ev lt (kas_count n (List.range n).toArray))) := ev_bind lt _ _
  obtain ⟨a, b, c⟩ := ev_count O (p := (List.range n).toArray) h1 (by omega)
  have pm : Pm n (ev lt (kas_count n (List.range n).toArray)).2 := (asks_count (by assumption) n (Array.Perm.refl _)).ev lt
  rw [e]
  generalize ev lt (kas_count n (List.range n).toArray) = r at a b c pm
  dsimp only
  have sz := pm.size
  by_cases h : r.1 < n
  · rw [if_pos h, show max r.1 1 = r.1 by omega]
    have := ev_bin O (n - r.1) (p := r.2) r.1 (by omega) c
    rw [sz] at this
    exact this
  · rw [if_neg h]
    have : r.1 = n := by omega
    rw [this] at c
    exact c
end
end Srt
set_option maxHeartbeats 1000000
namespace Srt
open PySem PySem.W PyProof.Rows
section
variable {prog : Program} {w : World} {A : Around} {E : Value → Shared → Prop} {s : Shared}
theorem list_sort_raw {κ : SortKind} {lt : Nat → Nat → Bool} (O : Ord lt) {a : Addr} {vs : List Value} {n : Nat} {P : PySem.Fin → Shared → Prop} (ho : s.heap.get? a = some (seqObj "list" vs.toArray n)) (h64 : vs.length < 64)
    (hk : ∀ h', (∀ b o, b ≠ a → s.heap.get? b = some o → h'.get? b = some o) → 2 ≤ vs.length → ∀ Q : SortKind → Shared → Prop, Q κ { s with heap := h' } → wpAny (model prog w) A (keyKind' vs.toArray) Q E { s with heap := h' })
    (hc : ∀ h', (∀ b o, b ≠ a → s.heap.get? b = some o → h'.get? b = some o) → ∀ i j (C : Bool → Shared → Prop), i < vs.length → j < vs.length → C (lt i j) { s with heap := h' } → kas_ask prog w A κ vs i j C { s with heap := h' })
    (h : ∀ p : Array Nat, Pm vs.length p → Sto lt p vs.length → P (.done (.ret .none)) { s with heap := sortedHeap s.heap a vs (p.toList.map fun i => vs.getD i Value.none).toArray }) :
    wpAny (model prog w) A (Builtin.«list.sort» ⟨[.ref a], []⟩) P E s := by
  rw [list_sort_plain]
  have ha : a < s.heap.objs.size := Heap.lt_size ho
  refine wpAny_bind (listItems_at ho rfl ?_)
  refine wpAny_bind (listUpdate_at ho rfl ?_ (by rw [List.size_toArray, sizeLine_eq]; omega) (Nat.zero_le _))
  obtain ⟨e1, ho1⟩ : ∃ e1, (s.heap.update a (Obj.mapSeq fun _ => #[])).get? a = some (seqObj "list" #[] e1) := ⟨_, get?_update_seq ho (fun _ => #[])⟩
  refine wpAny_bind (seqEpoch_at ho1 rfl ?_)
  refine wpAny_bind (wpAny_newTuple ?_ (by show vs.length ≤ _; rw [sizeLine_eq]; omega))
  refine wpAny_bind (wpAny_newList ?_ (Nat.zero_le _))
  refine wpAny_holding ?_
  have keep : ∀ b o, b ≠ a → s.heap.get? b = some o → (((s.heap.update a (Obj.mapSeq fun _ => #[])).push (seqObj "tuple" vs.toArray 0)).push (seqObj "list" #[] 0)).get? b = some o := fun b o ne q => by
    have hlt : b < s.heap.objs.size := Heap.lt_size q
    rw [Heap.get?_push_ne _ _ _ (by rw [size_push', Heap.size_update]; exact Nat.ne_of_lt (Nat.lt_succ_of_lt hlt)), Heap.get?_push_ne _ _ _ (by rw [Heap.size_update]; exact Nat.ne_of_lt hlt), Heap.get?_update_ne _ _ _ _ ne]
    exact q
  have ho6 : (((s.heap.update a (Obj.mapSeq fun _ => #[])).push (seqObj "tuple" vs.toArray 0)).push (seqObj "list" #[] 0)).get? a = some (seqObj "list" #[] e1) := by
    rw [Heap.get?_push_ne _ _ _ (by rw [size_push', Heap.size_update]; exact Nat.ne_of_lt (Nat.lt_succ_of_lt ha)), Heap.get?_push_ne _ _ _ (by rw [Heap.size_update]; exact Nat.ne_of_lt ha)]
    exact ho1
  show wpAny (model prog w) A _ P E { s with heap := ((s.heap.update a (Obj.mapSeq fun _ => #[])).push (seqObj "tuple" vs.toArray 0)).push (seqObj "list" #[] 0) }
  dsimp only
  have hsz : vs.toArray.size = vs.length := by simp
  by_cases h2 : vs.toArray.size < 2
  · rw [if_pos h2, if_pos h2]
    refine wpAny_bind (wpAny_pure ?_)
    rw [StateT.run_pure]
    refine wpAny_bind (wpAny_pure ?_)
    dsimp only
    refine wpAny_bind (seqEpoch_at ho6 rfl ?_)
    refine wpAny_bind (listUpdate_at ho6 rfl ?_ (hsz2 := by rw [Array.size_map]; show (pairsOf vs).size ≤ _; rw [pairsOf_size, sizeLine_eq]; omega))
    simp only [bne_self_eq_false, Bool.false_eq_true, if_false]
    have fin := h (List.range vs.length).toArray (Array.Perm.refl _) (fun i j hij hj => by
      have : i = j := by omega
      subst this; exact irr O _)
    have e : (List.range vs.length).toArray.toList.map (fun i => vs.getD i Value.none) = vs := by
      refine List.ext_getElem? fun i => ?_
      simp only [List.getElem?_map]
      by_cases hi : i < vs.length
      · simp [hi]
      · simp [Nat.le_of_not_lt hi]
    rw [e] at fin
    have e2 : (Array.map (fun x => x.snd) (vs.toArray.zip vs.toArray)) = vs.toArray := by
      apply Array.toList_inj.mp
      simp [List.map_snd_zip]
    rw [show Array.map (fun x : Keyed => x.snd) (arrOf (SortSt.mk' general' (vs.toArray.zip vs.toArray) #[] 7 none)) = vs.toArray from e2]
    exact wpAny_pure fin
  · rw [if_neg h2, if_neg h2]
    have h2' : 2 ≤ vs.length := by rw [hsz] at h2; exact Nat.not_lt.mp (by assumption)
    refine wpAny_bind (hk _ keep h2' _ ?_)
    refine wpAny_bind (wpAny_mono (kat_run (ks := vs) (vs := vs) (κ := κ) (Q := fun st' s' => ∃ p : Array Nat, s' = { s with heap := ((s.heap.update a (Obj.mapSeq fun _ => #[])).push (seqObj "tuple" vs.toArray 0)).push (seqObj "list" #[] 0) } ∧ Pm vs.length p ∧ Sto lt p vs.length ∧ arrOf st' = p.map (kas_item (vs.toArray.zip vs.toArray)) ∧ failedOf st' = none)
      rfl h2' h64 (G := fun p s' => s' = { s with heap := ((s.heap.update a (Obj.mapSeq fun _ => #[])).push (seqObj "tuple" vs.toArray 0)).push (seqObj "list" #[] 0) } ∧ Pm vs.length p ∧ Sto lt p vs.length) (fun p st' s' a1 a2 a3 a4 => ⟨p, a4.1, a4.2.1, a4.2.2, a2, a3⟩) ?_) ?_ fun _ _ e => e)
    · exact AsksP.wp (lt := lt) (hc _ keep) (asks_sort (by exact Nat.le_of_lt (by assumption))) ⟨rfl, (asks_sort (by exact Nat.le_of_lt (by assumption))).ev lt, ev_sort O (by exact Nat.le_of_lt (by assumption))⟩
    · rintro ⟨⟨⟩, st'⟩ s' ⟨p, rfl, hp, hs, har, hf⟩
      dsimp only
      rw [kat_snds rfl har]
      refine wpAny_bind (seqEpoch_at ho6 rfl ?_)
      refine wpAny_bind (listUpdate_at ho6 rfl ?_ (Nat.zero_le _) (by rw [List.size_toArray, List.length_map, Array.length_toList, hp.size, sizeLine_eq]; omega))
      rw [hf]
      simp only [bne_self_eq_false, Bool.false_eq_true, if_false]
      exact wpAny_pure (h p hp hs)
theorem sorted_raw {κ : SortKind} {lt : Nat → Nat → Bool} (O : Ord lt) {v : Value} (I : List Value → Prop) {Q : Value → Shared → Prop} (h64 : ∀ vs, I vs → vs.length < 64)
    (hcol : ∀ (Q : List Value → Shared → Prop), (∀ vs h1 t1, I vs → (∀ b o, s.heap.get? b = some o → h1.get? b = some o) → Q vs { s with heap := h1, toks := t1 }) → wpAny (model prog w) A.in1 (collect v) Q E s)
    (hk : ∀ vs h' t', I vs → (∀ b o, s.heap.get? b = some o → h'.get? b = some o) → 2 ≤ vs.length → ∀ Q : SortKind → Shared → Prop, Q κ { s with heap := h', toks := t' } → wpAny (model prog w) A.in1.in1 (keyKind' vs.toArray) Q E { s with heap := h', toks := t' })
    (hc : ∀ vs h' t', I vs → (∀ b o, s.heap.get? b = some o → h'.get? b = some o) → ∀ i j (C : Bool → Shared → Prop), i < vs.length → j < vs.length → C (lt i j) { s with heap := h', toks := t' } → kas_ask prog w A.in1.in1 κ vs i j C { s with heap := h', toks := t' })
    (h : ∀ vs (p : Array Nat) (h1 h' : Heap) t' l e, I vs → Pm vs.length p → Sto lt p vs.length → (∀ b o, s.heap.get? b = some o → h1.get? b = some o) → (∀ b o, h1.get? b = some o → h'.get? b = some o) → h1.objs.size ≤ l → h'.get? l = some (seqObj "list" (p.toList.map fun i => vs.getD i Value.none).toArray e) → Q (.ref l) { s with heap := h', toks := t' }) :
    wpAny (model prog w) A (call (.builtin "sorted") [v]) Q E s := by
  refine Calls.call_function_entry kind_sorted plain_sorted entry_sorted (args_sorted1 _) ?_
  unfold Builtin.«sorted»
  refine wpAny_bind (m := checkCount "sorted" 1 1 _) (wpAny_pure ?_)
  refine wpAny_bind (hcol _ fun vs h1 t1 hI k1 => ?_)
  have h64 := h64 vs hI
  refine wpAny_bind (wpAny_newList ?_ (by rw [sizeLine_eq]; omega))
  have hoL : (h1.push (seqObj "list" vs.toArray 0)).get? h1.objs.size = some (seqObj "list" vs.toArray 0) := Heap.get?_push_size _ rfl
  show wpAny _ _ _ _ _ { s with heap := h1.push (seqObj "list" vs.toArray 0), toks := t1 }
  have k3 : ∀ b o, h1.get? b = some o → b ≠ h1.objs.size ∧ (h1.push (seqObj "list" vs.toArray 0)).get? b = some o := fun b o q =>
    ⟨Nat.ne_of_lt (Heap.lt_size q), Heap.get?_push_of_some _ q⟩
  have k2 : ∀ b o, s.heap.get? b = some o → b ≠ h1.objs.size ∧ (h1.push (seqObj "list" vs.toArray 0)).get? b = some o := fun b o q => k3 b o (k1 b o q)
  refine wpAny_bind (wpAny_holding (wpAny_call_entry slot_list_sort ⟨_, hoL, rfl⟩ entry_list_sort (list_sort_raw (s := { s with heap := h1.push (seqObj "list" vs.toArray 0), toks := t1 }) (κ := κ) O hoL h64 (fun h' k l2 Q q => ?_) (fun h' k i j C hi hj q => ?_) fun p hp hs => ⟨_, rfl, ?_⟩) (args_list_sort _)))
  · exact hk vs h' t1 hI (fun b o q => k b o (k2 b o q).1 (k2 b o q).2) l2 Q q
  · exact hc vs h' t1 hI (fun b o q => k b o (k2 b o q).1 (k2 b o q).2) i j C hi hj q
  · refine wpAny_pure ⟨_, rfl, ?_⟩
    have hz : h1.objs.size < (h1.push (seqObj "list" vs.toArray 0)).objs.size := by rw [size_push']; exact Nat.lt_succ_self _
    obtain ⟨e, he⟩ : ∃ e, (sortedHeap (h1.push (seqObj "list" vs.toArray 0)) h1.objs.size vs (p.toList.map fun i => vs.getD i Value.none).toArray).get? h1.objs.size = some (seqObj "list" (p.toList.map fun i => vs.getD i Value.none).toArray e) := by
      unfold sortedHeap
      obtain ⟨e1, ho1⟩ : ∃ e1, ((h1.push (seqObj "list" vs.toArray 0)).update h1.objs.size (Obj.mapSeq fun _ => #[])).get? h1.objs.size = some (seqObj "list" #[] e1) := ⟨_, get?_update_seq hoL (fun _ => #[])⟩
      have ho6 : ((((h1.push (seqObj "list" vs.toArray 0)).update h1.objs.size (Obj.mapSeq fun _ => #[])).push (seqObj "tuple" vs.toArray 0)).push (seqObj "list" #[] 0)).get? h1.objs.size = some (seqObj "list" #[] e1) := by
        exact Heap.get?_push_of_some _ (Heap.get?_push_of_some _ ho1)
      exact ⟨_, get?_update_seq ho6 fun _ => _⟩
    refine h vs p h1 _ t1 h1.objs.size e hI hp hs k1 (fun b o q => ?_) (Nat.le_refl _) he
    have q2 := k3 b o q
    unfold sortedHeap
    rw [Heap.get?_update_ne _ _ _ _ q2.1]
    refine Heap.get?_push_of_some _ (Heap.get?_push_of_some _ ?_)
    rw [Heap.get?_update_ne _ _ _ _ q2.1]
    exact q2.2
end
end Srt
set_option maxHeartbeats 1000000
namespace Srt
open PySem PySem.W PyProof.Rows L2
def ltK : Key → Key → Bool
  | .inl a, .inl b => decide (a < b)
  | .inr a, .inr b => decide (a.cps.toList < b.cps.toList)
  | .inl _, .inr _ => true
  | .inr _, .inl _ => false
def ltR : List Key → List Key → Bool
  | x :: xs, y :: ys => if x = y then ltR xs ys else ltK x y
  | [], _ :: _ => true
  | _, [] => false
theorem str_ext {a b : Str} (h : a.cps.toList = b.cps.toList) : a = b := by
  cases a; cases b; simp at h; rw [h]
theorem ltK_irr : ∀ a, ltK a a = false
  | .inl a => by simp [ltK]
  | .inr a => by simp [ltK, List.lt_irrefl]
theorem ltK_tr : ∀ {a b c}, ltK a b = true → ltK b c = true → ltK a c = true
  | .inl a, .inl b, .inl c, h1, h2 => by simp only [ltK, decide_eq_true_eq] at *; omega
  | .inr a, .inr b, .inr c, h1, h2 => by simp only [ltK, decide_eq_true_eq] at *; exact List.lt_trans h1 h2
  | .inl _, .inl _, .inr _, _, _ => rfl
  | .inl _, .inr _, .inr _, _, _ => rfl
  | .inl _, .inr _, .inl _, _, h2 => by simp [ltK] at h2
  | .inr _, .inl _, _, h1, _ => by simp [ltK] at h1
  | .inr _, .inr _, .inl _, _, h2 => by simp [ltK] at h2
theorem ltK_tri : ∀ a b, ltK a b = false → a = b ∨ ltK b a = true
  | .inl a, .inl b, h => by
    simp only [ltK, decide_eq_true_eq, decide_eq_false_iff_not] at *
    rcases Int.lt_trichotomy a b with x | x | x
    · exact absurd x h
    · exact .inl (by rw [x])
    · exact .inr x
  | .inr a, .inr b, h => by
    simp only [ltK, decide_eq_true_eq, decide_eq_false_iff_not] at *
    by_cases e : b.cps.toList < a.cps.toList
    · exact .inr e
    · exact .inl (congrArg Sum.inr (str_ext (List.le_antisymm (List.not_lt.mp e) (List.not_lt.mp h))))
  | .inl _, .inr _, h => by simp [ltK] at h
  | .inr _, .inl _, _ => .inr rfl
theorem ltR_irr : ∀ a, ltR a a = false
  | [] => rfl
  | x :: xs => by simp [ltR, ltR_irr xs]
theorem ltR_tr : ∀ {a b c}, ltR a b = true → ltR b c = true → ltR a c = true
  | _, [], _, h, _ => by simp [ltR] at h
  | _, _ :: _, [], _, h => by simp [ltR] at h
  | [], _ :: _, _ :: _, _, _ => rfl
  | x :: xs, y :: ys, z :: zs, h1, h2 => by
    unfold ltR at h1 h2 ⊢
    by_cases e1 : x = y
    · subst e1
      rw [if_pos rfl] at h1
      by_cases e2 : x = z
      · rw [if_pos e2] at h2 ⊢; exact ltR_tr h1 h2
      · rw [if_neg e2] at h2 ⊢; exact h2
    · rw [if_neg e1] at h1
      by_cases e2 : y = z
      · subst e2
        rw [if_neg e1]; exact h1
      · rw [if_neg e2] at h2
        have := ltK_tr h1 h2
        rw [if_neg (fun e => by rw [e, ltK_irr] at this; cases this)]
        exact this
theorem ltR_tri : ∀ a b, ltR a b = false → a = b ∨ ltR b a = true
  | [], [], _ => .inl rfl
  | [], _ :: _, h => by simp [ltR] at h
  | _ :: _, [], _ => .inr rfl
  | x :: xs, y :: ys, h => by
    unfold ltR at h ⊢
    by_cases e : x = y
    · subst e
      rw [if_pos rfl] at h ⊢
      rcases ltR_tri xs ys h with r | r
      · exact .inl (by rw [r])
      · exact .inr r
    · rw [if_neg e] at h
      rw [if_neg (fun z => e z.symm)]
      exact .inr ((ltK_tri _ _ h).resolve_left e)
theorem ord_rows (f : Nat → List Key) : Ord fun i j => ltR (f i) (f j) where
  asym := fun a b h => by
    cases e : ltR (f b) (f a) with
    | false => rfl
    | true => have := ltR_tr h e; rw [ltR_irr] at this; cases this
  ntr := fun a b c h1 h2 => by
    cases e : ltR (f a) (f c) with
    | false => rfl
    | true =>
      rcases ltR_tri _ _ h1 with r | r
      · rw [r, h2] at e; cases e
      · have := ltR_tr r e; rw [h2] at this; cases this
def isL : Key → Bool
  | .inl _ => true
  | .inr _ => false
section
variable {prog : Program} {w : World} {A : Around} {E : Value → Shared → Prop} {s : Shared}
theorem key_eq : ∀ {x y : Key} {u v : Value} {C : Bool → Shared → Prop}, isL x = isL y → RelV (kV x) u → RelV (kV y) v → C (decide (x = y)) s → wpAny (model prog w) A (eqBool u v) C E s
  | .inl a, .inl b, _, _, C, _, ⟨t, rfl⟩, ⟨t', rfl⟩, h => wpAny_eqBool_int (by
      have : (a == b) = decide ((Sum.inl a : Key) = Sum.inl b) := by simp only [Sum.inl.injEq]; rfl
      rw [this]; exact h)
  | .inr a, .inr b, _, _, C, _, ⟨t, rfl⟩, ⟨t', rfl⟩, h => wpAny_eqBool_str (by
      have : decide (a = b) = decide ((Sum.inr a : Key) = Sum.inr b) := by simp
      rw [this]; exact h)
  | .inl _, .inr _, _, _, _, h, _, _, _ => by cases h
  | .inr _, .inl _, _, _, _, h, _, _, _ => by cases h
theorem key_lt : ∀ {x y : Key} {u v : Value} {b : Bool} {C : Bool → Shared → Prop}, isL x = isL y → RelV (kV x) u → RelV (kV y) v → C (ltK x y) s → wpAny (model prog w) A (oneLt' b u v) C E s
  | .inl a, .inl c, _, _, true, C, _, ⟨t, rfl⟩, ⟨t', rfl⟩, h => oneLt_int h
  | .inl a, .inl c, _, _, false, C, _, ⟨t, rfl⟩, ⟨t', rfl⟩, h => kat_one _ _ (PyProof.Rows.lt_int (show PySem.W.BoolBack C _ s from h))
  | .inr a, .inr c, _, _, true, C, _, ⟨t, rfl⟩, ⟨t', rfl⟩, h => oneLt_str h
  | .inr a, .inr c, _, _, false, C, _, ⟨t, rfl⟩, ⟨t', rfl⟩, h => kat_one _ _ (PySem.P.lt_str (show PySem.W.BoolBack C _ s from h))
  | .inl _, .inr _, _, _, _, _, h, _, _, _ => by cases h
  | .inr _, .inl _, _, _, _, _, h, _, _, _ => by cases h
theorem lex_go {b fin : Bool} {C : Bool → Shared → Prop} (hf : fin = false) : ∀ {x y : List Key} {us vs : List Value} (i : Nat), x.map isL = y.map isL → Vals (x.map kV) us → Vals (y.map kV) vs → C (ltR x y) s → KatLex prog w A b fin C (us.zip vs) i s
  | [], [], _, _, i, _, .nil, .nil, h => by subst hf; exact h
  | [], _ :: _, _, _, _, e, _, _, _ => by cases e
  | _ :: _, [], _, _, _, e, _, _, _ => by cases e
  | x :: xs, y :: ys, _, _, i, e, .cons r1 r2, .cons q1 q2, h => by
    simp only [List.map_cons, List.cons.injEq] at e
    refine kat_cons (key_eq e.1 r1 q1 ?_)
    unfold ltR at h
    by_cases z : x = y
    · rw [decide_eq_true z]
      rw [if_pos z] at h
      exact kat_yes (lex_go hf (i + 1) e.2 r2 q2 h)
    · rw [decide_eq_false z]
      rw [if_neg z] at h
      exact kat_no (key_lt e.1 r1 q1 h)
end
abbrev Row := Addr × List Key
def rRef (q : Row) : V := .ref q.1
theorem tups_of {X : Cx} {pins : List (Addr × Obj)} {σ : L2.St} {H : Hp} {s : Shared} (I : Inv X pins σ H s) : ∀ (ps : List Row), (∀ q ∈ ps, SqT X.K H q.1 (q.2.map kV)) → (∀ q ∈ ps, q.2 ≠ []) →
    ∃ fs, KatTups s.heap (ps.map fun q => Value.ref q.1) fs ∧ fs.length = ps.length ∧ ∀ v ∈ fs, ∃ q ∈ ps, ∃ k r, q.2 = k :: r ∧ RelV (kV k) v
  | [], _, _ => ⟨[], trivial, rfl, fun v h => nomatch h⟩
  | q :: ps, h, h0 => by
    obtain ⟨fs, t, l, f⟩ := tups_of I ps (fun q hq => h q (.tail _ hq)) fun q hq => h0 q (.tail _ hq)
    obtain ⟨its, rv, ⟨o, ho, hc, n, hd⟩, hz⟩ := I.tuple (h q (.head _))
    cases e : q.2 with
    | nil => exact absurd e (h0 q (.head _))
    | cons k r =>
      rw [e, List.map_cons] at rv
      cases rv with
      | @cons _ u _ us ru rr =>
        refine ⟨u :: fs, .cons ho hc hd (by simp) t, by simp [l], fun v hv => ?_⟩
        rcases List.mem_cons.mp hv with rfl | hv
        · exact ⟨q, .head _, k, r, e, ru⟩
        · obtain ⟨q', h1, k', r', h2, h3⟩ := f v hv
          exact ⟨q', .tail _ h1, k', r', h2, h3⟩
theorem looks_key {M : Model} {h : Heap} : ∀ {k : Key} {v : Value}, RelV (kV k) v → Looks M h (typeOf v) (if isL k = true then Value.type "int" else Value.type "str")
  | .inl i, v, ⟨t, e⟩ => by subst e; exact Looks.of_pure rfl
  | .inr x, v, ⟨t, e⟩ => by subst e; exact Looks.of_pure rfl
theorem Pm.toList {n : Nat} {p : Array Nat} (h : Pm n p) : p.toList.Perm (List.range n) := by
  have := (Array.perm_iff_toList_perm).mp h
  simpa using this
theorem map_range_getD {α : Type} (l : List α) (d : α) : (List.range l.length).map (fun i => l.getD i d) = l := by
  refine List.ext_getElem? fun i => ?_
  simp only [List.getElem?_map]
  by_cases hi : i < l.length
  · simp [hi]
  · simp [Nat.le_of_not_lt hi]
theorem Sto.pairwise {lt : Nat → Nat → Bool} {p : Array Nat} {n : Nat} (hz : p.size = n) (h : Sto lt p n) : p.toList.Pairwise fun i j => lt j i = false := by
  rw [List.pairwise_iff_getElem]
  intro i j hi hj hij
  have := h i j (Nat.le_of_lt hij) (by simpa [← hz] using hj)
  simp only [Array.length_toList] at hi hj
  have e1 : g p i = p.toList[i] := by simp [g, Array.getD, hi]
  have e2 : g p j = p.toList[j] := by simp [g, Array.getD, hj]
  rw [e1, e2] at this
  exact this
theorem vals_map {α : Type} (f : α → V) (f' : α → Value) (hf : ∀ a, RelV (f a) (f' a)) : ∀ l : List α, Vals (l.map f) (l.map f')
  | [] => .nil
  | a :: l => .cons (hf a) (vals_map f f' hf l)
theorem sortT_core {X : Cx} {pins : List (Addr × Obj)} {σ : L2.St} {H : Hp} {s : Shared} (I : Inv X pins σ H s) {v : Value} {ps : List Row} {Q : VK} (hT : ∀ q ∈ ps, SqT X.K H q.1 (q.2.map kV)) (hS : ∀ q ∈ ps, ∀ q' ∈ ps, q.2.map isL = q'.2.map isL) (h0 : ∀ q ∈ ps, q.2 ≠ []) (h64 : ps.length < 64)
    (hcol : ∀ (Q : List Value → Shared → Prop), (∀ h1 t1, (∀ b o, s.heap.get? b = some o → h1.get? b = some o) → Q (ps.map fun q => Value.ref q.1) { s with heap := h1, toks := t1 }) → wpAny (model X.prog X.w) X.A.in1 (collect v) Q X.xe s)
    (h : ∀ (l : Addr) (ps' : List Row), H l = none → ps'.Perm ps → ps'.Pairwise (fun a b => ltR b.2 a.2 = false) → Q (.ref l) (upd H l (.lst (ps'.map rRef)))) :
    wpAny (model X.prog X.w) X.A (call (.builtin "sorted") [v]) (EP X pins σ Q) X.xe s := by
  have lz : (ps.map fun q => Value.ref q.1).length = ps.length := List.length_map ..
  refine sorted_raw (κ := tuples' true) (ord_rows fun i => (ps.getD i (0, [])).2) (fun vs => vs = ps.map fun q => Value.ref q.1) (fun vs e => by rw [e, lz]; exact h64) (fun Q hq => hcol Q fun h1 t1 k => hq _ h1 t1 rfl k) ?_ ?_ ?_
  · rintro vs h' t' rfl k l2 Q hq
    rw [lz] at l2
    have I' : Inv X pins σ H { s with heap := h', toks := t' } := I.kept k
    obtain ⟨fs, t, l, f⟩ := tups_of I' ps hT h0
    obtain ⟨q0, r0, e0⟩ : ∃ q0 r0, ps = q0 :: r0 := by
      match ps, l2 with
      | q0 :: r0, _ => exact ⟨q0, r0, rfl⟩
    have m0 : q0 ∈ ps := by rw [e0]; exact .head _
    obtain ⟨k0, r1, e1⟩ : ∃ k0 r1, q0.2 = k0 :: r1 := by
      cases e : q0.2 with
      | nil => exact absurd e (h0 q0 m0)
      | cons k r => exact ⟨k, r, rfl⟩
    refine kat_kind (s := { s with heap := h', toks := t' }) (T := if isL k0 = true then Value.type "int" else Value.type "str") t (by omega) (fun v hv => ?_) (by split <;> rfl) ?_
    · obtain ⟨q, hq, k', r', e', rk⟩ := f v hv
      have := hS q hq q0 m0
      rw [e', e1] at this
      simp only [List.map_cons, List.cons.injEq] at this
      rw [← this.1]
      exact looks_key rk
    · have : ((if isL k0 = true then Value.type "int" else Value.type "str") != Value.type "tuple") = true := by split <;> rfl
      rw [this]; exact hq
  · rintro vs h' t' rfl k i j C hi hj hC
    rw [lz] at hi hj
    have I' : Inv X pins σ H { s with heap := h', toks := t' } := I.kept k
    show wpAny _ _ (keyLt' _ ((ps.map fun q => Value.ref q.1).getD i Value.none) ((ps.map fun q => Value.ref q.1).getD j Value.none)) C _ _
    have ei : (ps.map fun q => Value.ref q.1).getD i Value.none = Value.ref ps[i].1 := by simp [hi]
    have ej : (ps.map fun q => Value.ref q.1).getD j Value.none = Value.ref ps[j].1 := by simp [hj]
    have fi : ps.getD i (0, []) = ps[i] := by simp [hi]
    have fj : ps.getD j (0, []) = ps[j] := by simp [hj]
    rw [ei, ej]
    rw [fi, fj] at hC
    obtain ⟨ui, ri, ⟨oi, hoi, hci, ni, hdi⟩, zi⟩ := I'.tuple (hT ps[i] (List.getElem_mem hi))
    obtain ⟨uj, rj, ⟨oj, hoj, hcj, nj, hdj⟩, zj⟩ := I'.tuple (hT ps[j] (List.getElem_mem hj))
    have sh := hS _ (List.getElem_mem hi) _ (List.getElem_mem hj)
    have el : ui.length = uj.length := by
      rw [← ri.length, ← rj.length, List.length_map, List.length_map]
      simpa using congrArg List.length sh
    refine kat_lt hoi hdi hoj hdj (lex_go (by simp [el]) 0 sh ri rj hC)
  · rintro vs p h1 h' t' l e rfl pm st k1 k zl hl
    have I : Inv X pins σ H { s with heap := h1, toks := t' } := I.kept k1
    have pl := pm.toList
    rw [lz] at pl pm st
    have hz := pm.size
    have mem : ∀ i ∈ p.toList, i < ps.length := fun i hi => by simpa using pl.mem_iff.mp hi
    have e1 : (p.toList.map fun i => (ps.map fun q => Value.ref q.1).getD i Value.none) = (p.toList.map fun i => ps.getD i (0, [])).map fun q => Value.ref q.1 := by
      rw [List.map_map]
      refine List.map_congr_left fun i hi => ?_
      have := mem i hi
      simp [this]
    rw [e1] at hl
    have pp : (p.toList.map fun i => ps.getD i (0, [])).Perm ps := by
      have := pl.map (fun i => ps.getD i ((0, []) : Row))
      rwa [map_range_getD] at this
    have pw : (p.toList.map fun i => ps.getD i ((0, []) : Row)).Pairwise (fun a b => ltR b.2 a.2 = false) := by
      rw [List.pairwise_map]
      exact st.pairwise hz
    refine ⟨.ref l, _, I.laid (t' := t') (o := .lst ((p.toList.map fun i => ps.getD i (0, [])).map rRef)) k zl ⟨?_, _, e, vals_map rRef (fun q => Value.ref q.1) (fun _ => rfl) _, hl⟩, rfl, h l _ (I.hok.fresh zl) pp pw⟩
    rw [List.length_map, pp.length_eq, sizeLine_eq]
    omega
end Srt
set_option maxHeartbeats 1000000
namespace Srt
open PySem PySem.W PyProof.Rows L2
structure RowsOk (K : PySem.W.Frag) (H : Hp) (ps : List Row) : Prop where
  at' : ∀ q ∈ ps, SqT K H q.1 (q.2.map kV)
  sh : ∀ q ∈ ps, ∀ q' ∈ ps, q.2.map isL = q'.2.map isL
  ne : ∀ q ∈ ps, q.2 ≠ []
  few : ps.length < 64
section
variable {X : Cx}
def viewO (d : Addr) : Obj := { cls := .type "dict_values", data := .fields #[.ref d] }
theorem vals_acc {kvs : List (Key × V)} {vs : List (Key × Value)} {ps : List Row} (rel : KV kvs vs) (e : kvs.map (·.2) = ps.map rRef) : vs.map (·.2) = ps.map fun q => Value.ref q.1 := by
  induction rel generalizing ps with
  | nil =>
    cases ps with
    | nil => rfl
    | cons _ _ => cases e
  | @cons a b l1 l2 r t ih =>
    cases ps with
    | nil => cases e
    | cons q ps =>
      simp only [List.map_cons, List.cons.injEq] at e ⊢
      refine ⟨?_, ih e.2⟩
      have := r.2
      rw [e.1] at this
      exact this
theorem call_sortedV (hc : X.calm = true) : CallR X (.builtin "sorted") (fun xs H Q => ∃ (v d : Addr) (kvs : List (Key × V)) (ps : List Row), xs = [.ref v] ∧ H v = some (.frz (viewO d) (.own 0)) ∧ H d = some (.dK kvs) ∧ kvs.map (·.2) = ps.map rRef ∧ RowsOk X.K H ps ∧ ∀ (l : Addr) (ps' : List Row), H l = none → ps'.Perm ps → ps'.Pairwise (fun a b => ltR b.2 a.2 = false) → Q (.ref l) (upd H l (.lst (ps'.map rRef)))) := by
  intro pins s σ H xs us Q I r h
  obtain ⟨v, d, kvs, ps, rfl, hv, hd, e, ok, q⟩ := h
  obtain ⟨u, rfl, rx⟩ := vals1 r
  cases rx
  obtain ⟨z, lo, vs, rel, dd⟩ := dk_of I.hok hd
  obtain ⟨ep, hat⟩ := dd.dictAt
  obtain ⟨ho, _⟩ := (show ObjOk X.prog X.w H s.heap v (.frz (viewO d) (.own 0)) from I.hok v _ hv)
  refine sortT_core I ok.at' ok.sh ok.ne ok.few (fun Q hq => ?_) q
  refine kdu_collect (A := X.A.in1) (kdl_values (knd := mixKind X.prog X.w) (r := v) (kvs := vs) (ep := ep)) (I.ok.hd hc) ⟨⟨_, ho, rfl, rfl⟩, hat⟩ (by rw [← rel.length]; exact z) fun h' tk acc hk hacc => ?_
  have ea : acc.toList = ps.map fun q => Value.ref q.1 := by
    rw [← vals_acc rel e]
    refine List.ext_getElem? fun i => ?_
    rw [List.getElem?_map]
    by_cases hi : i < vs.length
    · have hi' : i < acc.size := by rw [hacc.1]; exact hi
      obtain ⟨k, hx⟩ := hacc.2 i acc[i] (by simp [hi'])
      rw [hx]
      simp [hi']
    · rw [List.getElem?_eq_none (by rw [Array.length_toList, hacc.1]; exact Nat.not_lt.mp (by assumption)), List.getElem?_eq_none (by exact Nat.not_lt.mp (by assumption))]
      rfl
  rw [ea]
  exact hq h' tk hk
def tDVals (td : TE) : TE := fun σ H Q => td σ H fun x H1 => ∃ a kvs, x = .ref a ∧ H1 a = some (.dK kvs) ∧ ∀ v, H1 v = none → Q (.ref v) (upd H1 v (.frz (viewO a) (.own 0)))
theorem pe_dvals {o : Expr} {td : TE} {apos cpos : Pos} (ho : PE X o td) (hbase : attributeBase o "values" X.env (eval o X.env) = eval o X.env) (hline : (apos.endLine == cpos.line) = true) : PE X (.Call (.Attribute o "values" apos) [] [] cpos) (tDVals td) := by
  intro pins s σ H Q I h
  refine wpAny_Call_method hbase rfl hline PySem.F.plainAttrs_dict PySem.F.slot_dict_values PySem.F.type_dict_values (thn (ho pins s σ H _ I h) fun u s1 ⟨x, H1, I1, rx, a, kvs, ex, d, q1⟩ => ?_)
  subst ex
  obtain rfl : u = Value.ref a := rx
  obtain ⟨t1, t2, _⟩ := isD_at I1 (.inl ⟨kvs, .inl d⟩)
  refine ⟨t1, t2, ?_⟩
  obtain ⟨z, lo, vs, rel, dd⟩ := dk_of I1.hok d
  refine Calls.callWith_builtin rfl (PySem.evalArgs_none ?_)
  exact call_meetsIn PySem.F.slot_dict_values dd.typeIs PySem.F.entry_dict_values (PySem.F.args_dict_values_1 _) (meets_dict_values (mixKind X.prog X.w) a lo) ⟨⟨vs, dd⟩, .ref s1.heap.objs.size, _, I1.laid (t' := s1.toks) (o := .frz (viewO a) (.own 0)) (fun _ _ q => Heap.get?_push_of_some _ q) (Nat.le_refl _) ⟨Heap.get?_push_size _ rfl, _, Heap.get?_push_size _ rfl⟩, rfl, q1 _ I1.fresh⟩
end
end Srt
set_option maxHeartbeats 1000000
namespace L2
open PySem PySem.Spec PyProof.Rows
end L2
set_option maxHeartbeats 400000
namespace L2
open PySem PySem.Spec PyProof.Rows
end L2
set_option maxHeartbeats 1000000
namespace PySem
end PySem
namespace PySem
end PySem
set_option maxHeartbeats 1000000
namespace L2
open PySem PySem.Spec PyProof.Rows
end L2
set_option maxHeartbeats 1000000
namespace HT
open PySem PyProof.Rows
end HT
namespace L2
open PySem PySem.Spec PyProof.Rows
end L2
set_option maxHeartbeats 4000000
namespace HT
open PySem PyProof.Rows L2
section
open PySem.SeqAt
open PySem.AutoSeq1 (wpAny_loadPart')
open PySem.MeetsSeq PySem.MeetsSeq2 PySem.MeetsSeq3
end
end HT
namespace L2
open PySem PySem.Spec PyProof.Rows
section
variable {X : Cx}
inductive RIndexSP (x : V) (vs : List V) (H : Hp) (Q : VK) : Prop
  | mk (z y : Str) (i : Nat) (rest : List Nat) : (x = .str z) → (vs = [.str y]) → (Builtin.Str.occurrences z y 0 z.length 1 = i :: rest) → (Q (.int i) H) → RIndexSP x vs H Q
def rIndexS : V → List V → Hp → VK → Prop := fun x vs H Q => RIndexSP x vs H Q
theorem mt_indexS : MtM X "str.index" rIndexS := by
  intro pins s σ H x xs v us Q I rx r h
  obtain ⟨z, y, i, rest, rfl, rfl, ho, q⟩ := h
  obtain ⟨t, rfl⟩ := rx
  obtain ⟨u, rfl, ⟨t2, rfl⟩⟩ := vals1 r
  refine call_gives PySem.F.slot_str_index (typeIs_str _ _ _) PySem.F.entry_str_index (PySem.F.args_str_index_2 _ _) (gives_str_index z y t t2 i rest ho) ?_
  exact ⟨.int i, H, I.tok _, ⟨_, rfl⟩, q⟩
inductive RInsert0P (x : V) (vs : List V) (H : Hp) (Q : VK) : Prop
  | mk (l xs y : _) : (x = .ref l) → (vs = [.int 0, y]) → (H l = some (.lst xs)) → (xs.length < sizeLine) → (Q .non (upd H l (.lst (y :: xs)))) → RInsert0P x vs H Q
def rInsert0 : V → List V → Hp → VK → Prop := fun x vs H Q => RInsert0P x vs H Q
theorem mt_insert0 : MtM X "list.insert" rInsert0 := by
  intro pins s σ H x vs v us Q I rx rv h
  obtain ⟨l, xs, y, rfl, rfl, hH, hz, q⟩ := h
  cases rx
  cases rv with
  | cons r1 rv =>
    cases rv with
    | cons r2 rv =>
      cases rv
      obtain ⟨t, rfl⟩ := r1
      rename_i u2
      obtain ⟨z, its, n, r, hl, e⟩ := I.lstM hH
      refine call_meets PySem.F.slot_list_insert ⟨_, e, rfl⟩ PySem.F.entry_list_insert (PySem.F.args_list_insert_3 _ _ _) (AutoSeq1.list_insert_list_int_val_1 l its.toArray n 0 t u2 (by decide) (by rw [List.size_toArray]; omega)) ⟨e, ?_⟩
      refine ⟨.non, _, I.lset (its' := u2 :: its) hH e ?_ (.cons r2 r) ?_, rfl, q⟩
      · simp
      · rw [List.length_cons]; omega
end
end L2
set_option maxHeartbeats 1000000
namespace L2
open PySem PySem.Spec PyProof.Rows
theorem op_neNil {X : Cx} (hu : X.A.units + 64 < cLine) : OpR X (compareOp .NotEq) (fun x y H Q => ∃ (a b : Addr) (xs : List V), x = .ref a ∧ y = .ref b ∧ SqL X.K H a xs ∧ SqL X.K H b [] ∧ Q (.bl (!xs.isEmpty)) H) := by
  intro pins s σ H x y u v Q I rx ry h
  obtain ⟨a, b, xs, rfl, rfl, ha, hb, q⟩ := h
  cases rx
  cases ry
  cases xs with
  | nil => exact op_neD hu pins s σ H (.ref a) (.ref b) _ _ Q I rfl rfl ⟨.list [], .list [], .lst ha .nil, .lst hb .nil, rfl, rfl, by decide, q⟩
  | cons x xs =>
    obtain ⟨its, r1, h1, _⟩ := I.list ha
    obtain ⟨its2, r2, h2, _⟩ := I.list hb
    have l1 := r1.length
    have l2 := r2.length
    refine SeqAt.RcNeAt.lists_lengths h1.isList h2.isList (by simp at l1 l2 ⊢; omega) (by omega) X.prog X.w _ _ ⟨.bl _, H, I, rfl, q⟩
end L2
set_option maxHeartbeats 1000000
namespace L2
open PySem PySem.Spec PyProof.Rows
end L2
set_option maxHeartbeats 1000000
namespace L2
open PySem PySem.Spec PyProof.Rows
end L2
set_option maxHeartbeats 1000000
namespace PySem
open PyProof.Rows
end PySem
namespace L2
open PySem PySem.Spec PyProof.Rows
end L2
set_option maxHeartbeats 1000000
namespace PySem
open PyProof.Rows
namespace F
end F
end PySem
namespace L2
open PySem PySem.Spec PyProof.Rows
end L2
set_option maxHeartbeats 1000000
namespace Wk
open PySem
abbrev T4 := Str × Nat × Nat × Int
def nbT (v : Nat) (t : T4) : List (Str × Nat) := (if t.2.1 = v then [(t.1, t.2.2.1)] else []) ++ (if t.2.2.1 = v then [(t.1, t.2.1)] else [])
def nbrs (S : List T4) (v : Nat) : List (Str × Nat) := S.flatMap (nbT v)
abbrev Ws := List (Option (List Str))
def visit (w : List Str) : List (Str × Nat) → Ws × List Nat → Ws × List Nat
  | [], st => st
  | (n, u) :: r, st => if st.1[u]? = some none then visit w r (st.1.set u (some (w ++ [n])), st.2 ++ [u]) else visit w r st
def bstep (S : List T4) (st : Ws × List Nat) : Ws × List Nat :=
  match st.2 with
  | [] => st
  | h :: rest => visit ((st.1[h]?.join).getD []) (nbrs S h) (st.1, rest)
def binit (N p : Nat) : Ws × List Nat := ((List.replicate N none).set p (some []), [p])
def iter (S : List T4) : Nat → Ws × List Nat → Ws × List Nat
  | 0, st => st
  | n + 1, st => iter S n (bstep S st)
def waysF (N : Nat) (S : List T4) (p : Nat) : Ws := (iter S 64 (binit N p)).1
theorem iter_nil {S : List T4} : ∀ (n : Nat) {ws : Ws}, iter S n (ws, []) = (ws, [])
  | 0, _ => rfl
  | n + 1, ws => iter_nil n (ws := ws)
theorem iter_snoc {S : List T4} : ∀ (n : Nat) (st : Ws × List Nat), iter S (n + 1) st = bstep S (iter S n st)
  | 0, st => rfl
  | n + 1, st => iter_snoc n (bstep S st)
theorem iter_add {S : List T4} (m : Nat) : ∀ (n : Nat) (st : Ws × List Nat), iter S (n + m) st = iter S m (iter S n st)
  | 0, st => by rw [Nat.zero_add]; rfl
  | n + 1, st => by rw [show n + 1 + m = (n + m) + 1 by omega]; exact iter_add m n (bstep S st)
theorem ways_of {N p i : Nat} {S : List T4} {ws : Ws} (h : iter S i (binit N p) = (ws, [])) (hi : i ≤ 64) : waysF N S p = ws := by
  unfold waysF
  rw [show 64 = i + (64 - i) by omega, iter_add, h, iter_nil]
inductive Lead (S : List T4) (a : Nat) : List Str → Nat → Prop
  | nil : Lead S a [] a
  | snoc {ws : List Str} {b c : Nat} {n : Str} : Lead S a ws b → (n, c) ∈ nbrs S b → Lead S a (ws ++ [n]) c
def nones (ws : Ws) : Nat := ws.countP (· == none)
def Vis (ws : Ws) (v : Nat) (w : List Str) : Prop := ws[v]? = some (some w)
structure PInv (S : List T4) (N p h : Nat) (w : List Str) (st : Ws × List Nat) : Prop where
  len : st.1.length = N
  lead : ∀ v x, Vis st.1 v x → Lead S p x v
  vis : ∀ v ∈ st.2, ∃ x, Vis st.1 v x
  done : ∀ v x, Vis st.1 v x → v ∈ st.2 ∨ v = h ∨ ∀ nb ∈ nbrs S v, ∃ y, Vis st.1 nb.2 y ∧ y.length ≤ x.length + 1
  sorted : st.2.Pairwise fun a b => ∀ x y, Vis st.1 a x → Vis st.1 b y → x.length ≤ y.length
  top : ∀ v x b y, Vis st.1 v x → b ∈ st.2 → Vis st.1 b y → x.length ≤ y.length + 1
  hv : Vis st.1 h w
  ht : ∀ v x, Vis st.1 v x → x.length ≤ w.length + 1
  hb : ∀ b y, b ∈ st.2 → Vis st.1 b y → w.length ≤ y.length
theorem vis_set {ws : Ws} {u : Nat} {z : List Str} (hu : ws[u]? = some none) {v : Nat} {x : List Str} : Vis (ws.set u (some z)) v x ↔ (v = u ∧ x = z) ∨ Vis ws v x := by
  unfold Vis
  have hl : u < ws.length := (List.getElem?_eq_some_iff.mp hu).1
  rw [List.getElem?_set]
  by_cases e : u = v
  · subst e
    rw [if_pos rfl, if_pos hl, hu]
    constructor
    · intro q; left; exact ⟨rfl, by simpa using q.symm⟩
    · rintro (⟨_, rfl⟩ | q)
      · rfl
      · simp at q
  · rw [if_neg e]
    constructor
    · exact .inr
    · rintro (⟨rfl, _⟩ | q)
      · exact absurd rfl e
      · exact q
theorem vis_inj {ws : Ws} {v : Nat} {x y : List Str} (a : Vis ws v x) (b : Vis ws v y) : x = y := by
  unfold Vis at a b; rw [a] at b; simpa using b
theorem visit_ok {S : List T4} {N p h : Nat} {w : List Str} : ∀ (L : List (Str × Nat)) (st : Ws × List Nat), PInv S N p h w st → (∀ nb ∈ L, nb ∈ nbrs S h ∧ nb.2 < N) →
    PInv S N p h w (visit w L st) ∧ (∀ v x, Vis st.1 v x → Vis (visit w L st).1 v x) ∧ (∀ nb ∈ L, ∃ y, Vis (visit w L st).1 nb.2 y ∧ y.length ≤ w.length + 1) ∧ nones (visit w L st).1 + (visit w L st).2.length = nones st.1 + st.2.length
  | [], st, I, _ => ⟨I, fun _ _ e => e, fun nb h => (by cases h), rfl⟩
  | (n, u) :: r, st, I, hL => by
    have hr : ∀ nb ∈ r, nb ∈ nbrs S h ∧ nb.2 < N := fun nb q => hL nb (List.mem_cons_of_mem _ q)
    have hn := hL (n, u) (List.mem_cons_self ..)
    have hu : u < st.1.length := by rw [I.len]; exact hn.2
    unfold visit
    by_cases e : st.1[u]? = some none
    · rw [if_pos e]
      have I' : PInv S N p h w (st.1.set u (some (w ++ [n])), st.2 ++ [u]) := by
        have nu : ∀ x, ¬ Vis st.1 u x := fun x q => by unfold Vis at q; rw [e] at q; simp at q
        refine ⟨by simp [I.len], ?_, ?_, ?_, ?_, ?_, ?_, ?_, ?_⟩
        · intro v x q
          rcases (vis_set e).mp q with ⟨rfl, rfl⟩ | q
          · exact .snoc (I.lead h w I.hv) hn.1
          · exact I.lead v x q
        · intro v q
          rcases List.mem_append.mp q with q | q
          · obtain ⟨x, hx⟩ := I.vis v q; exact ⟨x, (vis_set e).mpr (.inr hx)⟩
          · rw [List.mem_singleton.mp q]; exact ⟨_, (vis_set e).mpr (.inl ⟨rfl, rfl⟩)⟩
        · intro v x q
          rcases (vis_set e).mp q with ⟨rfl, rfl⟩ | q
          · exact .inl (List.mem_append_right _ (List.mem_singleton.mpr rfl))
          · rcases I.done v x q with a | a | a
            · exact .inl (List.mem_append_left _ a)
            · exact .inr (.inl a)
            · exact .inr (.inr fun nb hb => let ⟨y, hy, hl⟩ := a nb hb; ⟨y, (vis_set e).mpr (.inr hy), hl⟩)
        · refine List.pairwise_append.mpr ⟨?_, List.pairwise_singleton .., ?_⟩
          · refine (List.Pairwise.imp_of_mem ?_ I.sorted)
            intro a b ha hb k x y hx hy
            have hx' : Vis st.1 a x := by
              rcases (vis_set e).mp hx with ⟨rfl, _⟩ | q
              · obtain ⟨z, hz⟩ := I.vis _ ha; exact absurd hz (nu z)
              · exact q
            have hy' : Vis st.1 b y := by
              rcases (vis_set e).mp hy with ⟨rfl, _⟩ | q
              · obtain ⟨z, hz⟩ := I.vis _ hb; exact absurd hz (nu z)
              · exact q
            exact k x y hx' hy'
          · intro a ha b hb x y hx hy
            rw [List.mem_singleton.mp hb] at hy
            rcases (vis_set e).mp hy with ⟨_, rfl⟩ | q
            · rcases (vis_set e).mp hx with ⟨_, rfl⟩ | q
              · exact Nat.le_refl _
              · have := I.ht a x q; simp only [List.length_append, List.length_cons, List.length_nil]; assumption
            · exact absurd q (nu y)
        · intro v x b y hx hb hy
          have hx1 : x.length ≤ w.length + 1 := by
            rcases (vis_set e).mp hx with ⟨_, rfl⟩ | q
            · simp
            · exact I.ht v x q
          have hy1 : w.length ≤ y.length := by
            rcases (vis_set e).mp hy with ⟨_, rfl⟩ | q
            · simp
            · rcases List.mem_append.mp hb with hb | hb
              · exact I.hb b y hb q
              · rw [List.mem_singleton.mp hb] at q; exact absurd q (nu y)
          omega
        · exact (vis_set e).mpr (.inr I.hv)
        · intro v x hx
          rcases (vis_set e).mp hx with ⟨_, rfl⟩ | q
          · simp
          · exact I.ht v x q
        · intro b y hb hy
          rcases (vis_set e).mp hy with ⟨_, rfl⟩ | q
          · simp
          · rcases List.mem_append.mp hb with hb | hb
            · exact I.hb b y hb q
            · rw [List.mem_singleton.mp hb] at q; exact absurd q (nu y)
      obtain ⟨a, b, c, d⟩ := visit_ok r _ I' hr
      refine ⟨a, fun v x q => b v x ((vis_set e).mpr (.inr q)), fun nb q => ?_, ?_⟩
      · rcases List.mem_cons.mp q with rfl | q
        · exact ⟨_, b _ _ ((vis_set e).mpr (.inl ⟨rfl, rfl⟩)), by simp⟩
        · exact c nb q
      · rw [d]
        have : nones (st.1.set u (some (w ++ [n]))) + 1 = nones st.1 := by
          unfold nones
          have hg : st.1[u] = none := by have := List.getElem?_eq_some_iff.mp e; exact this.2
          rw [List.countP_set (h := hu), hg]
          have : 0 < st.1.countP (· == none) := List.countP_pos_iff.mpr ⟨none, by rw [← hg]; exact List.getElem_mem hu, rfl⟩
          simp only [beq_self_eq_true, if_true]
          show st.1.countP (· == none) - 1 + 0 + 1 = _
          omega
        simp only [List.length_append, List.length_cons, List.length_nil]
        omega
    · rw [if_neg e]
      obtain ⟨a, b, c, d⟩ := visit_ok r st I hr
      refine ⟨a, b, fun nb q => ?_, d⟩
      rcases List.mem_cons.mp q with rfl | q
      · have : ∃ y, Vis st.1 u y := by
          cases hh : st.1[u]? with
          | none => rw [List.getElem?_eq_getElem hu] at hh; cases hh
          | some z => cases z with
            | none => exact absurd hh e
            | some y => exact ⟨y, hh⟩
        obtain ⟨y, hy⟩ := this
        exact ⟨y, b _ _ hy, I.ht _ _ hy⟩
      · exact c nb q
structure BInv (S : List T4) (N p : Nat) (st : Ws × List Nat) : Prop where
  len : st.1.length = N
  p0 : Vis st.1 p []
  lead : ∀ v x, Vis st.1 v x → Lead S p x v
  vis : ∀ v ∈ st.2, ∃ x, Vis st.1 v x
  done : ∀ v x, Vis st.1 v x → v ∈ st.2 ∨ ∀ nb ∈ nbrs S v, ∃ y, Vis st.1 nb.2 y ∧ y.length ≤ x.length + 1
  sorted : st.2.Pairwise fun a b => ∀ x y, Vis st.1 a x → Vis st.1 b y → x.length ≤ y.length
  top : ∀ v x b y, Vis st.1 v x → b ∈ st.2 → Vis st.1 b y → x.length ≤ y.length + 1
def InN (N : Nat) (S : List T4) : Prop := ∀ t ∈ S, t.2.1 < N ∧ t.2.2.1 < N
theorem nb_lt {N : Nat} {S : List T4} (h : InN N S) {v : Nat} {nb : Str × Nat} (q : nb ∈ nbrs S v) : nb.2 < N := by
  obtain ⟨t, ht, q⟩ := List.mem_flatMap.mp q
  have := h t ht
  unfold nbT at q
  rcases List.mem_append.mp q with q | q
  · split at q
    · rw [List.mem_singleton.mp q]; exact this.2
    · cases q
  · split at q
    · rw [List.mem_singleton.mp q]; exact this.1
    · cases q
theorem binv0 {S : List T4} {N p : Nat} (hp : p < N) : BInv S N p (binit N p) := by
  have hu : (List.replicate N (none : Option (List Str)))[p]? = some none := by rw [List.getElem?_replicate]; rw [if_pos hp]
  have nv : ∀ v x, ¬ Vis (List.replicate N (none : Option (List Str))) v x := fun v x q => by
    unfold Vis at q; rw [List.getElem?_replicate] at q; split at q <;> simp at q
  have key : ∀ v x, Vis (binit N p).1 v x → v = p ∧ x = [] := fun v x q => by
    rcases (vis_set hu).mp q with q | q
    · exact q
    · exact absurd q (nv v x)
  refine ⟨by simp [binit], (vis_set hu).mpr (.inl ⟨rfl, rfl⟩), ?_, ?_, ?_, ?_, ?_⟩
  · intro v x q; obtain ⟨rfl, rfl⟩ := key v x q; exact .nil
  · intro v q; rw [List.mem_singleton.mp q]; exact ⟨_, (vis_set hu).mpr (.inl ⟨rfl, rfl⟩)⟩
  · intro v x q; obtain ⟨rfl, rfl⟩ := key v x q; exact .inl (List.mem_singleton.mpr rfl)
  · exact List.pairwise_singleton ..
  · intro v x b y q _ q2; obtain ⟨rfl, rfl⟩ := key v x q; simp
theorem binit_vis {N p : Nat} (hp : p < N) {v : Nat} {x : List Str} (q : Vis (binit N p).1 v x) : x = [] := by
  have hu : (List.replicate N (none : Option (List Str)))[p]? = some none := by rw [List.getElem?_replicate]; rw [if_pos hp]
  rcases (vis_set hu).mp q with q | q
  · exact q.2
  · unfold Vis at q; rw [List.getElem?_replicate] at q; split at q <;> simp at q
theorem pinv_of {S : List T4} {N p h : Nat} {ws : Ws} {rest : List Nat} (I : BInv S N p (ws, h :: rest)) : ∃ w, Vis ws h w ∧ PInv S N p h w (ws, rest) := by
  obtain ⟨w, hw⟩ := I.vis h (List.mem_cons_self ..)
  refine ⟨w, hw, I.len, I.lead, fun v q => I.vis v (List.mem_cons_of_mem _ q), ?_, (List.pairwise_cons.mp I.sorted).2, fun v x b y a q => I.top v x b y a (List.mem_cons_of_mem _ q), hw, fun v x q => I.top v x h w q (List.mem_cons_self ..) hw, fun b y q hb => (List.pairwise_cons.mp I.sorted).1 b q w y hw hb⟩
  intro v x q
  rcases I.done v x q with a | a
  · rcases List.mem_cons.mp a with rfl | a
    · exact .inr (.inl rfl)
    · exact .inl a
  · exact .inr (.inr a)
theorem bstep_ok {S : List T4} {N p h : Nat} {ws : Ws} {rest : List Nat} (hS : InN N S) (I : BInv S N p (ws, h :: rest)) :
    BInv S N p (bstep S (ws, h :: rest)) ∧ nones (bstep S (ws, h :: rest)).1 + (bstep S (ws, h :: rest)).2.length + 1 = nones ws + (h :: rest).length := by
  obtain ⟨w, hw, J⟩ := pinv_of I
  have e : bstep S (ws, h :: rest) = visit w (nbrs S h) (ws, rest) := by
    show visit ((ws[h]?.join).getD []) (nbrs S h) (ws, rest) = _
    unfold Vis at hw
    rw [hw]; rfl
  rw [e]
  obtain ⟨a, b, c, d⟩ := visit_ok (nbrs S h) (ws, rest) J fun nb q => ⟨q, nb_lt hS q⟩
  refine ⟨⟨a.len, b _ _ I.p0, a.lead, a.vis, ?_, a.sorted, a.top⟩, by rw [d]; rfl⟩
  intro v x q
  rcases a.done v x q with r | rfl | r
  · exact .inl r
  · refine .inr fun nb hb => ?_
    have := vis_inj q a.hv
    subst this
    exact c nb hb
  · exact .inr r
theorem iter_ok {S : List T4} {N p : Nat} (hS : InN N S) : ∀ (n : Nat) (st : Ws × List Nat), BInv S N p st → BInv S N p (iter S n st) ∧ ((iter S n st).2 = [] ∨ nones (iter S n st).1 + (iter S n st).2.length + n = nones st.1 + st.2.length)
  | 0, st, I => ⟨I, .inr rfl⟩
  | n + 1, (ws, []), I => by
    have e : iter S (n + 1) (ws, []) = (ws, []) := iter_nil (n + 1)
    rw [e]; exact ⟨I, .inl rfl⟩
  | n + 1, (ws, h :: rest), I => by
    obtain ⟨a, b⟩ := bstep_ok hS I
    obtain ⟨c, d⟩ := iter_ok hS n _ a
    refine ⟨c, ?_⟩
    rcases d with d | d
    · exact .inl d
    · refine .inr ?_
      show nones (iter S n (bstep S (ws, h :: rest))).1 + (iter S n (bstep S (ws, h :: rest))).2.length + (n + 1) = nones ws + (h :: rest).length
      omega
theorem ways_end {S : List T4} {N p : Nat} (hS : InN N S) (hp : p < N) (hN : N ≤ 60) : ∃ ws, iter S 64 (binit N p) = (ws, []) ∧ BInv S N p (ws, []) := by
  obtain ⟨a, b⟩ := iter_ok hS 64 (binit N p) (binv0 hp)
  have : nones (binit N p).1 + (binit N p).2.length ≤ N + 1 := by
    have : nones (binit N p).1 ≤ (binit N p).1.length := List.countP_le_length
    simp only [binit, List.length_set, List.length_replicate, List.length_singleton] at this ⊢
    exact Nat.succ_le_succ (by assumption)
  have e : (iter S 64 (binit N p)).2 = [] := by
    rcases b with b | b
    · exact b
    · omega
  refine ⟨(iter S 64 (binit N p)).1, Prod.ext rfl e, ?_⟩
  have : iter S 64 (binit N p) = ((iter S 64 (binit N p)).1, []) := Prod.ext rfl e
  rw [this] at a
  exact a
theorem ways_len {S : List T4} {N p : Nat} (hS : InN N S) (hp : p < N) (hN : N ≤ 60) : (waysF N S p).length = N := by
  obtain ⟨ws, e, I⟩ := ways_end hS hp hN
  rw [ways_of e (Nat.le_refl _)]; exact I.len
theorem ways_lead {S : List T4} {N p : Nat} (hS : InN N S) (hp : p < N) (hN : N ≤ 60) {v : Nat} {x : List Str} (h : Vis (waysF N S p) v x) : Lead S p x v := by
  obtain ⟨ws, e, I⟩ := ways_end hS hp hN
  rw [ways_of e (Nat.le_refl _)] at h; exact I.lead v x h
theorem ways_least {S : List T4} {N p : Nat} (hS : InN N S) (hp : p < N) (hN : N ≤ 60) {v : Nat} {x : List Str} (h : Lead S p x v) : ∃ y, Vis (waysF N S p) v y ∧ y.length ≤ x.length := by
  obtain ⟨ws, e, I⟩ := ways_end hS hp hN
  rw [ways_of e (Nat.le_refl _)]
  induction h with
  | nil => exact ⟨[], I.p0, Nat.le_refl _⟩
  | snoc a b ih =>
    obtain ⟨y, hy, hl⟩ := ih
    rcases I.done _ _ hy with q | q
    · cases q
    · obtain ⟨z, hz, hl2⟩ := q _ b
      exact ⟨z, hz, by simp only [List.length_append, List.length_cons, List.length_nil] at hl2 ⊢; omega⟩
def partF (N : Nat) (S : List T4) (p : Nat) : List Nat := (List.range N).filter fun v => ((waysF N S p)[v]?.join).isSome
def Reach (S : List T4) (a b : Nat) : Prop := ∃ ws, Lead S a ws b
theorem vis_iff {ws : Ws} {v : Nat} : (ws[v]?.join).isSome = true ↔ ∃ x, Vis ws v x := by
  unfold Vis
  cases ws[v]? with
  | none => simp
  | some z => cases z <;> simp
theorem mem_part {S : List T4} {N p v : Nat} (hS : InN N S) (hp : p < N) (hN : N ≤ 60) : v ∈ partF N S p ↔ v < N ∧ Reach S p v := by
  unfold partF
  rw [List.mem_filter, List.mem_range, vis_iff]
  constructor
  · rintro ⟨a, x, hx⟩; exact ⟨a, x, ways_lead hS hp hN hx⟩
  · rintro ⟨a, x, hx⟩; obtain ⟨y, hy, _⟩ := ways_least hS hp hN hx; exact ⟨a, y, hy⟩
theorem Reach.refl {S : List T4} {a : Nat} : Reach S a a := ⟨[], .nil⟩
theorem nb_symm {S : List T4} {a b : Nat} {n : Str} (h : (n, b) ∈ nbrs S a) : (n, a) ∈ nbrs S b := by
  obtain ⟨t, ht, q⟩ := List.mem_flatMap.mp h
  refine List.mem_flatMap.mpr ⟨t, ht, ?_⟩
  unfold nbT at q ⊢
  rcases List.mem_append.mp q with q | q
  · split at q
    · rename_i e
      have := List.mem_singleton.mp q
      cases this
      refine List.mem_append_right _ ?_
      rw [if_pos rfl, e]; exact List.mem_singleton.mpr rfl
    · cases q
  · split at q
    · rename_i e
      have := List.mem_singleton.mp q
      cases this
      refine List.mem_append_left _ ?_
      rw [if_pos rfl, e]; exact List.mem_singleton.mpr rfl
    · cases q
theorem Reach.trans {S : List T4} {a b c : Nat} (h : Reach S a b) (g : Reach S b c) : Reach S a c := by
  obtain ⟨x, hx⟩ := h
  obtain ⟨y, hy⟩ := g
  induction hy with
  | nil => exact ⟨x, hx⟩
  | snoc _ q ih => obtain ⟨z, hz⟩ := ih; exact ⟨_, .snoc hz q⟩
theorem Reach.step {S : List T4} {a b : Nat} {n : Str} (h : (n, b) ∈ nbrs S a) : Reach S a b := ⟨[] ++ [n], .snoc .nil h⟩
theorem Reach.symm {S : List T4} {a b : Nat} (h : Reach S a b) : Reach S b a := by
  obtain ⟨x, hx⟩ := h
  induction hx with
  | nil => exact .refl
  | snoc _ q ih => exact (Reach.step (nb_symm q)).trans ih
theorem nb_elim {S : List T4} {a b : Nat} {n : Str} (h : (n, b) ∈ nbrs S a) : ∃ t ∈ S, t.1 = n ∧ ((t.2.1 = a ∧ t.2.2.1 = b) ∨ (t.2.2.1 = a ∧ t.2.1 = b)) := by
  obtain ⟨t, ht, q⟩ := List.mem_flatMap.mp h
  refine ⟨t, ht, ?_⟩
  unfold nbT at q
  rcases List.mem_append.mp q with q | q
  · split at q
    · rename_i e
      have := List.mem_singleton.mp q
      cases this
      exact ⟨rfl, .inl ⟨e, rfl⟩⟩
    · cases q
  · split at q
    · rename_i e
      have := List.mem_singleton.mp q
      cases this
      exact ⟨rfl, .inr ⟨e, rfl⟩⟩
    · cases q
theorem nbrs_mono {S S' : List T4} (h : ∀ t ∈ S, t ∈ S') {v : Nat} {nb : Str × Nat} (q : nb ∈ nbrs S v) : nb ∈ nbrs S' v := by
  obtain ⟨t, ht, q⟩ := List.mem_flatMap.mp q
  exact List.mem_flatMap.mpr ⟨t, h t ht, q⟩
theorem Reach.mono {S S' : List T4} (h : ∀ t ∈ S, t ∈ S') {a b : Nat} (q : Reach S a b) : Reach S' a b := by
  obtain ⟨x, hx⟩ := q
  induction hx with
  | nil => exact .refl
  | snoc _ q ih => exact ih.trans (.step (nbrs_mono h q))
end Wk
set_option maxHeartbeats 1000000
namespace L2
open PySem
theorem while_gh {c : TT} {tb : TS} {D : Ends} {σ : St} {H : Hp} (Pv : Nat → St → Hp → Prop) {m0 : Nat} (h0 : Pv m0 σ H)
    (hs : ∀ m σ H, Pv m σ H → c σ H fun b H1 => if b = true then tb { D with nx := fun σ' H' => ∃ m', m' < m ∧ Pv m' σ' H', ct := fun σ' H' => ∃ m', m' < m ∧ Pv m' σ' H', bk := D.nx } σ H1 else D.nx σ H1)
    (mono : ∀ σ H Q Q', (∀ b H1, Q b H1 → Q' b H1) → c σ H Q → c σ H Q') : tWhile c tb D σ H := by
  refine ⟨Pv, ⟨m0, h0⟩, fun m σ H p => ?_⟩
  refine mono σ H _ _ (fun b H1 q => ?_) (hs m σ H p)
  cases b with
  | true => exact ⟨_, fun _ _ h => h, q⟩
  | false => exact q
theorem same_set {H0 H : Hp} {a : Addr} {o : HO} (s : Same H0 H) (n : H0 a = none) : Same H0 (upd H a o) := fun b u e => by
  rw [upd_ne (ne_of_none e n)]; exact s b u e
theorem inV_ints (x : Int) (zs : List Int) : inV (.int x) (zs.map V.int) = decide (x ∈ zs) := by
  unfold inV
  induction zs with
  | nil => simp
  | cons z zs ih =>
    rw [List.map_cons, List.any_cons, ih]
    have : eqV (.int z) (.int x) = decide (x = z) := by
      show (z == x) = _
      rw [Bool.eq_iff_iff, beq_iff_eq, decide_eq_true_eq]; exact eq_comm
    rw [this, Bool.eq_iff_iff]; simp
theorem flat_ints (ns : List Int) : (ns.map V.int).all flatV = true := by
  induction ns with
  | nil => rfl
  | cons n ns ih => rw [List.map_cons, List.all_cons, ih]; rfl
theorem map_some {α β : Type} {f : α → β} {l : List α} {i : Nat} {x : β} (h : (l.map f)[i]? = some x) : ∃ z, l[i]? = some z ∧ x = f z := by
  rw [List.getElem?_map] at h
  cases q : l[i]? with
  | none => rw [q] at h; cases h
  | some z => rw [q] at h; exact ⟨z, rfl, (Option.some.inj h).symm⟩
theorem ixN_nat {n j : Nat} (h : j < n) : ixN n (j : Int) = some j := by
  unfold ixN
  rw [if_pos (by exact Int.natCast_nonneg _), if_pos (by omega)]; simp
theorem getq {α : Type} {l : List α} {i : Nat} (h : i < l.length) : l[i]? = some l[i] := List.getElem?_eq_getElem h
end L2
namespace Wk
open PySem L2
def tieV (t : T4) : List V := [.str t.1, .int (t.2.1 : Int), .int (t.2.2.1 : Int), .int t.2.2.2]
def TiesAt (H : Hp) (rs : List Addr) (S : List T4) : Prop := rs.length = S.length ∧ ∀ (i : Nat) r t, rs[i]? = some r → S[i]? = some t → H r = some (.tup (tieV t))
theorem TiesAt.same {H H' : Hp} {rs : List Addr} {S : List T4} (h : TiesAt H rs S) (s : Same H H') : TiesAt H' rs S := ⟨h.1, fun i r t a b => s _ _ (h.2 i r t a b)⟩
theorem TiesAt.get {H : Hp} {rs : List Addr} {S : List T4} (h : TiesAt H rs S) {i : Nat} {r : Addr} (hr : rs[i]? = some r) : ∃ t, S[i]? = some t ∧ H r = some (.tup (tieV t)) := by
  have hi : i < S.length := by rw [← h.1]; exact (List.getElem?_eq_some_iff.mp hr).1
  exact ⟨S[i], getq hi, h.2 i r _ hr (getq hi)⟩
def PrsAt (H : Hp) (l : Addr) (ps : List (Str × Nat)) : Prop := ∃ rs : List Addr, H l = some (.lst (rs.map V.ref)) ∧ rs.length = ps.length ∧ ∀ (i : Nat) r q, rs[i]? = some r → ps[i]? = some q → H r = some (.tup [.str q.1, .int (q.2 : Int)])
theorem PrsAt.same {H H' : Hp} {l : Addr} {ps : List (Str × Nat)} (h : PrsAt H l ps) (s : Same H H') : PrsAt H' l ps := let ⟨rs, a, b, c⟩ := h; ⟨rs, s _ _ a, b, fun i r q e f => s _ _ (c i r q e f)⟩
def BesAt (H : Hp) (b : Addr) (N : Nat) (f : Nat → List (Str × Nat)) : Prop := ∃ ls : List Addr, H b = some (.lst (ls.map V.ref)) ∧ ls.length = N ∧ ∀ (v : Nat) l, ls[v]? = some l → PrsAt H l (f v)
theorem BesAt.same {H H' : Hp} {b : Addr} {N : Nat} {f : Nat → List (Str × Nat)} (h : BesAt H b N f) (s : Same H H') : BesAt H' b N f := let ⟨ls, x, y, z⟩ := h; ⟨ls, s _ _ x, y, fun v l e => (z v l e).same s⟩
structure Bes (H0 H : Hp) (b : Addr) (ls : List Addr) (N : Nat) (f : Nat → List (Str × Nat)) : Prop where
  same : Same H0 H
  hb : H b = some (.lst (ls.map V.ref))
  len : ls.length = N
  nd : ls.Nodup
  new : ∀ l ∈ ls, H0 l = none ∧ l ≠ b
  prs : ∀ (v : Nat) l, ls[v]? = some l → PrsAt H l (f v)
theorem nd_ix {ls : List Addr} (h : ls.Nodup) {i j : Nat} {l : Addr} (a : ls[i]? = some l) (b : ls[j]? = some l) : i = j := by
  have hi := (List.getElem?_eq_some_iff.mp a).1
  exact (List.getElem?_inj hi h).mp (by rw [a, b])
theorem Bes.app {H0 H : Hp} {b : Addr} {ls : List Addr} {N v : Nat} {f : Nat → List (Str × Nat)} {l p : Addr} {xs : List V} {n : Str} {u : Nat} (B : Bes H0 H b ls N f) (hv : ls[v]? = some l) (hp : H p = none) (hl : H l = some (.lst xs)) :
    Bes H0 (upd (upd H p (.tup [.str n, .int (u : Int)])) l (.lst (xs ++ [.ref p]))) b ls N (fun x => if x = v then f v ++ [(n, u)] else f x) := by
  have lm : l ∈ ls := List.mem_of_getElem? hv
  have s1 := same_new (o := .tup [.str n, .int (u : Int)]) hp
  have lp : l ≠ p := ne_of_none hl hp
  refine ⟨same_set (B.same.trans s1) (B.new l lm).1, by rw [upd_ne (B.new l lm).2.symm]; exact s1 _ _ B.hb, B.len, B.nd, B.new, fun x k hx => ?_⟩
  obtain ⟨rs, h1, h2, h3⟩ := B.prs x k hx
  have tl : ∀ (r : Addr) ys, H r = some (.tup ys) → upd (upd H p (.tup [.str n, .int (u : Int)])) l (.lst (xs ++ [.ref p])) r = some (.tup ys) := fun r ys e => by
    rw [upd_ne (ne_of e hl (by intro z; cases z))]; exact s1 _ _ e
  by_cases e : x = v
  · subst e
    rw [hv] at hx
    cases hx
    rw [hl] at h1
    injection h1 with h1
    injection h1 with h1
    simp only [if_true]
    refine ⟨rs ++ [p], by rw [upd_same, h1, List.map_append]; rfl, by simp [h2], fun i r q hr hq => ?_⟩
    rw [List.getElem?_append] at hr hq
    by_cases hi : i < rs.length
    · rw [if_pos hi] at hr
      rw [if_pos (by omega)] at hq
      exact tl _ _ (h3 i r q hr hq)
    · rw [if_neg hi] at hr
      rw [if_neg (by omega), ← h2] at hq
      have : i - rs.length = 0 := by
        have := (List.getElem?_eq_some_iff.mp hr).1
        simp at this; assumption
      rw [this] at hr hq
      cases hr
      cases hq
      rw [upd_ne lp.symm]; exact upd_same
  · simp only [if_neg e]
    have kl : k ≠ l := fun q => by subst q; exact e (nd_ix B.nd hx hv)
    exact ⟨rs, by rw [upd_ne kl]; exact s1 _ _ h1, h2, fun i r q hr hq => tl _ _ (h3 i r q hr hq)⟩
theorem nbrs_snoc (S : List T4) (t : T4) (v : Nat) : nbrs (S ++ [t]) v = nbrs S v ++ nbT v t := by unfold nbrs; rw [List.flatMap_append]; simp
theorem nb_two (S : List T4) (t : T4) : (fun x => if x = t.2.2.1 then (fun x => if x = t.2.1 then nbrs S t.2.1 ++ [(t.1, t.2.2.1)] else nbrs S x) t.2.2.1 ++ [(t.1, t.2.1)] else (fun x => if x = t.2.1 then nbrs S t.2.1 ++ [(t.1, t.2.2.1)] else nbrs S x) x) = nbrs (S ++ [t]) := by
  funext x
  rw [nbrs_snoc]
  unfold nbT
  by_cases a : t.2.1 = x
  · subst a
    rw [if_pos rfl]
    by_cases b : t.2.2.1 = t.2.1
    · rw [if_pos b, if_pos b.symm]; dsimp only; rw [if_pos b]; simp
    · rw [if_neg b, if_neg (Ne.symm b)]; dsimp only; rw [if_pos rfl]; simp
  · rw [if_neg a]
    by_cases b : t.2.2.1 = x
    · subst b
      rw [if_pos rfl, if_pos rfl]; dsimp only; rw [if_neg (Ne.symm a)]; simp
    · rw [if_neg b, if_neg (Ne.symm b)]; dsimp only; rw [if_neg (Ne.symm a)]; simp
theorem nbrs_len (S : List T4) (v : Nat) : (nbrs S v).length ≤ 2 * S.length := by
  unfold nbrs
  induction S with
  | nil => simp
  | cons t S ih =>
    rw [List.flatMap_cons, List.length_append, List.length_cons]
    have : (nbT v t).length ≤ 2 := by unfold nbT; rw [List.length_append]; split <;> split <;> simp
    omega
def WayV (H : Hp) (x : V) : Option (List Str) → Prop
  | none => x = .non
  | some w => ∃ r, x = .ref r ∧ H r = some (.tup (w.map V.str))
def WaysAt (H : Hp) (a : Addr) (ws : Ws) : Prop := ∃ xs, H a = some (.lst xs) ∧ xs.length = ws.length ∧ ∀ (i : Nat) x o, xs[i]? = some x → ws[i]? = some o → WayV H x o
theorem WayV.mono {H H' : Hp} {x : V} {o : Option (List Str)} (f : ∀ r ys, H r = some (.tup ys) → H' r = some (.tup ys)) (h : WayV H x o) : WayV H' x o := by
  cases o with
  | none => exact h
  | some w => obtain ⟨r, a, b⟩ := h; exact ⟨r, a, f _ _ b⟩
theorem WaysAt.same {H H' : Hp} {a : Addr} {ws : Ws} (h : WaysAt H a ws) (s : Same H H') : WaysAt H' a ws := let ⟨xs, x, y, z⟩ := h; ⟨xs, s _ _ x, y, fun i u o e f => (z i u o e f).mono fun r ys => s r (.tup ys)⟩
theorem WaysAt.keep {H : Hp} {a l : Addr} {ws : Ws} {ys zs : List V} (h : WaysAt H a ws) (hl : H l = some (.lst ys)) (n : a ≠ l) : WaysAt (upd H l (.lst zs)) a ws := by
  obtain ⟨xs, x, y, z⟩ := h
  exact ⟨xs, by rw [upd_ne n]; exact x, y, fun i u o e f => (z i u o e f).mono fun r ys e => by rw [upd_ne (ne_of e hl (by intro z; cases z))]; exact e⟩
theorem WaysAt.get {H : Hp} {a : Addr} {ws : Ws} (h : WaysAt H a ws) {v : Nat} {o : Option (List Str)} (hv : ws[v]? = some o) : ∃ xs x, H a = some (.lst xs) ∧ xs[v]? = some x ∧ xs.length = ws.length ∧ WayV H x o := by
  obtain ⟨xs, x, y, z⟩ := h
  have hl : v < xs.length := by rw [y]; exact (List.getElem?_eq_some_iff.mp hv).1
  exact ⟨xs, xs[v], x, getq hl, y, z v _ o (getq hl) hv⟩
theorem WaysAt.set {H : Hp} {a r : Addr} {ws : Ws} {xs : List V} {u : Nat} {w : List Str} (h : WaysAt H a ws) (ha : H a = some (.lst xs)) (hr : H r = some (.tup (w.map V.str))) : WaysAt (upd H a (.lst (xs.set u (.ref r)))) a (ws.set u (some w)) := by
  obtain ⟨xs', x, y, z⟩ := h
  rw [ha] at x
  injection x with x
  injection x with x
  subst x
  have tl : ∀ (q : Addr) ys, H q = some (.tup ys) → upd H a (.lst (xs.set u (.ref r))) q = some (.tup ys) := fun q ys e => by
    rw [upd_ne (ne_of e ha (by intro z; cases z))]; exact e
  refine ⟨_, upd_same, by simp [y], fun i x o hx ho => ?_⟩
  rw [List.getElem?_set] at hx ho
  by_cases e : u = i
  · rw [if_pos e] at hx ho
    split at hx
    · rw [if_pos (by omega)] at ho
      cases hx
      cases ho
      exact ⟨r, rfl, tl _ _ hr⟩
    · cases hx
  · rw [if_neg e] at hx ho
    exact (z i x o hx ho).mono tl
def vis1 (w : List Str) (q : Str × Nat) (st : Ws × List Nat) : Ws × List Nat := if st.1[q.2]? = some none then (st.1.set q.2 (some (w ++ [q.1])), st.2 ++ [q.2]) else st
theorem vis1_no {w : List Str} {q : Str × Nat} {st : Ws × List Nat} (h : ¬ st.1[q.2]? = some none) : vis1 w q st = st := if_neg h
theorem vis1_yes {w : List Str} {q : Str × Nat} {st : Ws × List Nat} (h : st.1[q.2]? = some none) : vis1 w q st = (st.1.set q.2 (some (w ++ [q.1])), st.2 ++ [q.2]) := if_pos h
theorem visit_snoc (w : List Str) (q : Str × Nat) : ∀ (L : List (Str × Nat)) (st : Ws × List Nat), visit w (L ++ [q]) st = vis1 w q (visit w L st)
  | [], st => by unfold vis1; show visit w (q :: []) st = _; unfold visit; rfl
  | (n, u) :: r, st => by
    show visit w ((n, u) :: (r ++ [q])) st = _
    unfold visit
    split
    · exact visit_snoc w q r _
    · exact visit_snoc w q r _
theorem visit_vis (w : List Str) : ∀ (L : List (Str × Nat)) (st : Ws × List Nat) {v : Nat} {x : List Str}, Vis st.1 v x → Vis (visit w L st).1 v x
  | [], _, _, _, h => h
  | (n, u) :: r, st, v, x, h => by
    unfold visit
    split
    · rename_i e; exact visit_vis w r _ ((vis_set e).mpr (.inr h))
    · exact visit_vis w r _ h
theorem visit_len (w : List Str) : ∀ (L : List (Str × Nat)) (st : Ws × List Nat), (visit w L st).1.length = st.1.length ∧ (visit w L st).2.length ≤ st.2.length + L.length
  | [], st => ⟨rfl, Nat.le_refl _⟩
  | (n, u) :: r, st => by
    unfold visit
    split
    · obtain ⟨a, b⟩ := visit_len w r (st.1.set u (some (w ++ [n])), st.2 ++ [u])
      refine ⟨by rw [a]; simp, ?_⟩
      simp only [List.length_append, List.length_cons, List.length_nil] at b ⊢
      omega
    · obtain ⟨a, b⟩ := visit_len w r st
      exact ⟨a, by rw [List.length_cons]; exact Nat.le_succ_of_le (by assumption)⟩
theorem bstep_short {S : List T4} {N p h i : Nat} {ws : Ws} {rest : List Nat} (hS : InN N S) (I : BInv S N p (ws, h :: rest)) (hl : ∀ v x, Wk.Vis ws v x → x.length ≤ i) : ∀ v x, Wk.Vis (bstep S (ws, h :: rest)).1 v x → x.length ≤ i + 1 := by
  obtain ⟨w, hw, J⟩ := pinv_of I
  have e : bstep S (ws, h :: rest) = visit w (nbrs S h) (ws, rest) := by
    show visit ((ws[h]?.join).getD []) (nbrs S h) (ws, rest) = _
    unfold Wk.Vis at hw
    rw [hw]; rfl
  rw [e]
  obtain ⟨a, _⟩ := visit_ok (nbrs S h) (ws, rest) J fun nb q => ⟨q, nb_lt hS q⟩
  intro v x q
  have := a.ht v x q
  have := hl h w hw
  omega
theorem refs_inj {xs ys : List Addr} (h : xs.map V.ref = ys.map V.ref) : xs = ys := (List.map_inj_right (fun _ _ h => by injection h)).mp h
end Wk
namespace L2
open PySem
section
variable {g : TG} {tb : TS} {D : Ends} {σ : St} {H : Hp}
theorem for_tupL {K : PySem.W.Frag} {a : Addr} {xs : List V} (Pv : Nat → St → Hp → Prop) (h0 : Pv 0 σ H) (hl : ∀ i σ H, i ≤ xs.length → Pv i σ H → SqT K H a xs)
    (hs : ∀ i x σ H, xs[i]? = some x → Pv i σ H → let E : Ends := { D with nx := Pv (i + 1), ct := Pv (i + 1), bk := D.nx }; g x σ H fun σ2 H2 => tb E σ2 H2) (hd : ∀ σ H, Pv xs.length σ H → D.nx σ H) :
    ∃ W : Nat → Nat → St → Hp → Prop, (∃ m, W 0 m σ H) ∧ ∀ i m σ H, W i m σ H →
      ((Itt K a).stop i H ∧ D.nx σ H) ∨ ((Itt K a).go i H ∧ ∃ N : St → Hp → Prop, (∀ σ' H', N σ' H' → ∃ m', m' < m ∧ W (i + 1) m' σ' H') ∧ ∀ x H', (Itt K a).yld i H x H' → g x σ H' fun σ2 H2 => tb { D with nx := N, ct := N, bk := D.nx } σ2 H2) :=
  for_tup Pv h0 hl hs hd
theorem for_listL {K : PySem.W.Frag} {a : Addr} {xs : List V} (Pv : Nat → St → Hp → Prop) (h0 : Pv 0 σ H) (hl : ∀ i σ H, i ≤ xs.length → Pv i σ H → SqL K H a xs)
    (hs : ∀ i x σ H, xs[i]? = some x → Pv i σ H → let E : Ends := { D with nx := Pv (i + 1), ct := Pv (i + 1), bk := D.nx }; g x σ H fun σ2 H2 => tb E σ2 H2) (hd : ∀ σ H, Pv xs.length σ H → D.nx σ H) :
    ∃ W : Nat → Nat → St → Hp → Prop, (∃ m, W 0 m σ H) ∧ ∀ i m σ H, W i m σ H →
      ((Itl K a).stop i H ∧ D.nx σ H) ∨ ((Itl K a).go i H ∧ ∃ N : St → Hp → Prop, (∀ σ' H', N σ' H' → ∃ m', m' < m ∧ W (i + 1) m' σ' H') ∧ ∀ x H', (Itl K a).yld i H x H' → g x σ H' fun σ2 H2 => tb { D with nx := N, ct := N, bk := D.nx } σ2 H2) :=
  for_list Pv h0 hl hs hd
theorem for_rangeL {lo : Int} {n : Nat} (Pv : Nat → St → Hp → Prop) (h0 : Pv 0 σ H)
    (hs : ∀ i σ H, i < n → Pv i σ H → let E : Ends := { D with nx := Pv (i + 1), ct := Pv (i + 1), bk := D.nx }; g (.int (lo + i)) σ H fun σ2 H2 => tb E σ2 H2) (hd : ∀ σ H, Pv n σ H → D.nx σ H) :
    ∃ W : Nat → Nat → St → Hp → Prop, (∃ m, W 0 m σ H) ∧ ∀ i m σ H, W i m σ H →
      ((Itr lo n).stop i H ∧ D.nx σ H) ∨ ((Itr lo n).go i H ∧ ∃ N : St → Hp → Prop, (∀ σ' H', N σ' H' → ∃ m', m' < m ∧ W (i + 1) m' σ' H') ∧ ∀ x H', (Itr lo n).yld i H x H' → g x σ H' fun σ2 H2 => tb { D with nx := N, ct := N, bk := D.nx } σ2 H2) :=
  for_range Pv h0 hs hd
theorem while_ghL {c : TT} (Pv : Nat → St → Hp → Prop) {m0 : Nat} (h0 : Pv m0 σ H)
    (hs : ∀ m σ H, Pv m σ H → let E : Ends := { D with nx := fun σ' H' => ∃ m', m' < m ∧ Pv m' σ' H', ct := fun σ' H' => ∃ m', m' < m ∧ Pv m' σ' H', bk := D.nx }; c σ H fun b H1 => if b = true then tb E σ H1 else D.nx σ H1)
    (mono : ∀ σ H Q Q', (∀ b H1, Q b H1 → Q' b H1) → c σ H Q → c σ H Q') : tWhile c tb D σ H :=
  while_gh Pv h0 hs mono
end
end L2
namespace L2
open PySem
section
variable {g : TG} {ti : TT} {te : TE} {D : Addr} {σ : St} {H : Hp} {Q : VK}
theorem comp_listL {K : PySem.W.Frag} {a : Addr} {xs : List V} (Pv : Nat → St → List V → Hp → Prop) (h0 : Pv 0 σ [] (upd H D (.lst []))) (hl : ∀ i σ ys H, i ≤ xs.length → Pv i σ ys H → SqL K H a xs ∧ H D = some (.lst ys))
    (hs : ∀ i x σ ys H, xs[i]? = some x → Pv i σ ys H → let N := Pv (i + 1); cturn g ti te D x σ ys H N) (hd : ∀ σ ys H, Pv xs.length σ ys H → Q (.ref D) H) :
    cgo (Itl K a) g ti te D σ H Q := comp_list Pv h0 hl hs hd
theorem comp_tupL {K : PySem.W.Frag} {a : Addr} {xs : List V} (Pv : Nat → St → List V → Hp → Prop) (h0 : Pv 0 σ [] (upd H D (.lst []))) (hl : ∀ i σ ys H, i ≤ xs.length → Pv i σ ys H → SqT K H a xs ∧ H D = some (.lst ys))
    (hs : ∀ i x σ ys H, xs[i]? = some x → Pv i σ ys H → let N := Pv (i + 1); cturn g ti te D x σ ys H N) (hd : ∀ σ ys H, Pv xs.length σ ys H → Q (.ref D) H) :
    cgo (Itt K a) g ti te D σ H Q := comp_tup Pv h0 hl hs hd
theorem comp_rangeL {lo : Int} {n : Nat} (Pv : Nat → St → List V → Hp → Prop) (h0 : Pv 0 σ [] (upd H D (.lst []))) (hl : ∀ i σ ys H, i ≤ n → Pv i σ ys H → H D = some (.lst ys))
    (hs : ∀ i σ ys H, i < n → Pv i σ ys H → let N := Pv (i + 1); cturn g ti te D (.int (lo + i)) σ ys H N) (hd : ∀ σ ys H, Pv n σ ys H → Q (.ref D) H) :
    cgo (Itr lo n) g ti te D σ H Q := comp_range Pv h0 hl hs hd
end
end L2
namespace L2
open PySem
theorem seqL1 {t1 u : TS} {D : Ends} {σ : St} {H : Hp} (h : let R1 : TS := u; tSeq t1 R1 D σ H) : (tSeq t1 u) D σ H := h
theorem seqL2 {t1 t2 u : TS} {D : Ends} {σ : St} {H : Hp} (h : let R2 : TS := u; let R1 : TS := tSeq t2 R2; tSeq t1 R1 D σ H) : (tSeq t1 (tSeq t2 u)) D σ H := h
theorem seqL3 {t1 t2 t3 u : TS} {D : Ends} {σ : St} {H : Hp} (h : let R3 : TS := u; let R2 : TS := tSeq t3 R3; let R1 : TS := tSeq t2 R2; tSeq t1 R1 D σ H) : (tSeq t1 (tSeq t2 (tSeq t3 u))) D σ H := h
theorem seqL4 {t1 t2 t3 t4 u : TS} {D : Ends} {σ : St} {H : Hp} (h : let R4 : TS := u; let R3 : TS := tSeq t4 R4; let R2 : TS := tSeq t3 R3; let R1 : TS := tSeq t2 R2; tSeq t1 R1 D σ H) : (tSeq t1 (tSeq t2 (tSeq t3 (tSeq t4 u)))) D σ H := h
theorem seqL5 {t1 t2 t3 t4 t5 u : TS} {D : Ends} {σ : St} {H : Hp} (h : let R5 : TS := u; let R4 : TS := tSeq t5 R5; let R3 : TS := tSeq t4 R4; let R2 : TS := tSeq t3 R3; let R1 : TS := tSeq t2 R2; tSeq t1 R1 D σ H) : (tSeq t1 (tSeq t2 (tSeq t3 (tSeq t4 (tSeq t5 u))))) D σ H := h
end L2
namespace L2
open PySem
theorem seqG1 {t1 u : TS} {D : Ends} {σ : St} {H : Hp} {i : Nat} {v : V} (h : let R1 : TS := u; tSeq t1 R1 D (σ.set i (some v)) H) : gName i v σ H (fun σ2 H2 => (tSeq t1 u) D σ2 H2) := h
theorem seqG2 {t1 t2 u : TS} {D : Ends} {σ : St} {H : Hp} {i : Nat} {v : V} (h : let R2 : TS := u; let R1 : TS := tSeq t2 R2; tSeq t1 R1 D (σ.set i (some v)) H) : gName i v σ H (fun σ2 H2 => (tSeq t1 (tSeq t2 u)) D σ2 H2) := h
end L2
namespace L2
open PySem
end L2
set_option maxHeartbeats 1000000
namespace Wk
open PySem L2
theorem cutV_take {xs : List V} {n : Nat} (h : n ≤ xs.length) : cutV xs none (some (n : Int)) = xs.take n := by
  unfold cutV
  rw [HT.sIx_none, HT.sIx_nat, List.drop_zero, Nat.min_eq_left h, Nat.sub_zero]
theorem cutV_drop {xs : List V} {n : Nat} : cutV xs (some (n : Int)) none = xs.drop n := by
  unfold cutV
  rw [HT.sIx_none, HT.sIx_nat]
  by_cases h : n ≤ xs.length
  · rw [Nat.min_eq_left h, List.take_of_length_le (by rw [List.length_drop]; exact Nat.le_refl _)]
  · rw [Nat.min_eq_right (by omega), List.drop_of_length_le (by exact Nat.le_refl _), List.drop_of_length_le (by omega)]; simp
end Wk
set_option maxHeartbeats 1000000
namespace Wk
open PySem L2
abbrev Ps := List (T4 × Addr)
def psK (ps : Ps) : List (Key × V) := ps.map fun p => (Sum.inr p.1.1, V.ref p.2)
def TieOk (N : Nat) (t : T4) : Prop := t.2.1 < N ∧ t.2.2.1 < N ∧ t.2.1 ≠ t.2.2.1
theorem val_none {ps : Ps} {n : Str} (h : n ∉ ps.map (·.1.1)) : valV (psK ps) (Sum.inr n) = none := by
  unfold psK
  induction ps with
  | nil => rfl
  | cons p ps ih =>
    rw [List.map_cons, List.mem_cons, not_or] at h
    rw [List.map_cons, valV_neg (by intro e; exact h.1 (by injection e with e; exact e.symm))]
    exact ih h.2
theorem val_has {ps : Ps} {n : Str} : (valV (psK ps) (Sum.inr n)).isSome = decide (n ∈ ps.map (·.1.1)) := by
  unfold psK
  induction ps with
  | nil => rfl
  | cons q ps ih =>
    rw [List.map_cons, List.map_cons]
    by_cases e : q.1.1 = n
    · rw [valV_pos (by rw [e])]; simp [e]
    · rw [valV_neg (by intro h; injection h with h; exact e h), ih]
      rw [Bool.eq_iff_iff]; simp [Ne.symm e]
theorem psK_put {ps : Ps} {t : T4} {r : Addr} (h : t.1 ∉ ps.map (·.1.1)) : putK (psK ps) (Sum.inr t.1) (.ref r) = psK (ps ++ [(t, r)]) := by
  rw [putK_new _ (val_none h)]
  unfold psK
  rw [List.map_append]; rfl
theorem nodup_le {α : Type} [DecidableEq α] : ∀ (xs ys : List α), xs.Nodup → (∀ x ∈ xs, x ∈ ys) → xs.length ≤ ys.length
  | [], _, _, _ => Nat.zero_le _
  | x :: xs, ys, nd, h => by
    have nd := List.nodup_cons.mp nd
    have hx := h x (List.mem_cons_self ..)
    have := nodup_le xs (ys.erase x) nd.2 fun y hy => (List.mem_erase_of_ne (fun e => nd.1 (by rw [← e]; exact hy))).mpr (h y (List.mem_cons_of_mem _ hy))
    rw [List.length_erase_of_mem hx] at this
    have := List.length_pos_of_mem hx
    rw [List.length_cons]; omega
end Wk
namespace L2
open PySem
section
variable {X : Cx} {pos : Pos} {e a b : Expr} {te ta tb : TE} {es : List Expr} {t u : TS} {st : Stmt} {rest : List Stmt}
theorem PE.imp' {t t' : TE} (h : PE X e t) (f : ∀ σ H Q, t' σ H Q → t σ H Q) : PE X e t' := fun pins s σ H Q I h' => h pins s σ H Q I (f σ H Q h')
end
end L2
set_option maxHeartbeats 1000000
namespace Wk
open PySem L2
def keysOf (t : T4) : List Key := [.inr t.1, .inl (t.2.1 : Int), .inl (t.2.2.1 : Int), .inl t.2.2.2]
def tieOf : List Key → T4
  | [.inr n, .inl a, .inl b, .inl w] => (n, a.toNat, b.toNat, w)
  | _ => (Str.ofString "", 0, 0, 0)
theorem tieOf_keys (t : T4) : tieOf (keysOf t) = t := by
  obtain ⟨n, a, b, w⟩ := t
  show (n, (a : Int).toNat, (b : Int).toNat, w) = _
  simp
theorem keys_tieV (t : T4) : (keysOf t).map kV = tieV t := rfl
def IsTie (ks : List Key) : Prop := ∃ t, ks = keysOf t
end Wk
set_option maxHeartbeats 1000000
namespace L2
open PySem PySem.Spec PyProof.Rows
end L2
namespace Wk
open PySem L2
inductive Dd where
  | come (m : Int) (t : T4)
  | go (m : Int) (n : Str)
def Dd.vs : Dd → List V
  | .come m t => .str (Str.ofString "come") :: .int m :: tieV t
  | .go m n => [.str (Str.ofString "go"), .int m, .str n]
def Dd.mo : Dd → Int
  | .come m _ => m
  | .go m _ => m
def stepD (S : List T4) : Dd → List T4
  | .come _ t => S ++ [t]
  | .go _ n => S.filter fun t => decide (t.1 ≠ n)
def thr (ds : List Dd) : List T4 := ds.foldl stepD []
theorem thr_snoc (ds : List Dd) (d : Dd) : thr (ds ++ [d]) = stepD (thr ds) d := by unfold thr; rw [List.foldl_append]; rfl
def DdOk (N : Nat) (S : List T4) : Dd → Prop
  | .come _ t => t.1 ∉ S.map (·.1) ∧ TieOk N t
  | .go _ n => n ∈ S.map (·.1)
structure Right (N : Nat) (ds : List Dd) : Prop where
  ok : ∀ (i : Nat) d, ds[i]? = some d → DdOk N (thr (ds.take i)) d
  len : ds.length ≤ 60
  mo : ∀ d ∈ ds, 0 ≤ d.mo ∧ d.mo ≤ 1000000000
  up : ds.Pairwise fun a b => a.mo ≤ b.mo
  wt : ∀ (m : Int) t, Dd.come m t ∈ ds → 0 ≤ t.2.2.2 ∧ t.2.2.2 ≤ 1000000000
theorem take_snoc {α : Type} {l : List α} {i : Nat} {d : α} (h : l[i]? = some d) : l.take (i + 1) = l.take i ++ [d] := by rw [List.take_add_one, h]; rfl
structure ThrOk (N : Nat) (S : List T4) : Prop where
  nd : (S.map (·.1)).Nodup
  ok : ∀ t ∈ S, TieOk N t
theorem filt_names (n : Str) (S : List T4) : (S.filter fun t => decide (t.1 ≠ n)).map (·.1) = (S.map (·.1)).filter fun m => decide (m ≠ n) := by rw [List.filter_map]; rfl
theorem step_ok {N : Nat} {S : List T4} {d : Dd} (h : ThrOk N S) (g : DdOk N S d) : ThrOk N (stepD S d) := by
  cases d with
  | come m t =>
    refine ⟨?_, fun u hu => ?_⟩
    · show ((S ++ [t]).map (·.1)).Nodup
      rw [List.map_append]
      refine List.nodup_append.mpr ⟨h.nd, List.nodup_cons.mpr ⟨by simp, List.nodup_nil⟩, fun x hx y hy => ?_⟩
      have e := List.mem_singleton.mp hy
      intro q
      exact g.1 (by have e : y = t.1 := e; rw [← e, ← q]; exact hx)
    · rcases List.mem_append.mp hu with q | q
      · exact h.ok u q
      · rw [List.mem_singleton.mp q]; exact g.2
  | go m n =>
    refine ⟨?_, fun u hu => h.ok u (List.mem_filter.mp hu).1⟩
    show ((S.filter fun t => decide (t.1 ≠ n)).map (·.1)).Nodup
    rw [filt_names]
    exact h.nd.sublist List.filter_sublist
theorem thr_ok {N : Nat} {ds : List Dd} (h : Right N ds) : ∀ i, i ≤ ds.length → ThrOk N (thr (ds.take i))
  | 0, _ => ⟨List.nodup_nil, by simp [thr]⟩
  | i + 1, hi => by
    have e := getq (l := ds) (i := i) (by assumption)
    rw [take_snoc e, thr_snoc]
    exact step_ok (thr_ok h i (by exact Nat.le_of_lt (by assumption))) (h.ok i _ e)
theorem thr_len (ds : List Dd) : ∀ i, (thr (ds.take i)).length ≤ i
  | 0 => by simp [thr]
  | i + 1 => by
    cases e : ds[i]? with
    | none =>
      have : ds.length ≤ i := by
        rcases Nat.lt_or_ge i ds.length with h | h
        · rw [getq h] at e; cases e
        · exact h
      have := thr_len ds i
      rw [List.take_of_length_le (by omega)] at this ⊢
      exact Nat.le_succ_of_le (by assumption)
    | some d =>
      rw [take_snoc e, thr_snoc]
      have := thr_len ds i
      cases d with
      | come m t => show (_ ++ [t]).length ≤ _; simp; assumption
      | go m n => exact Nat.le_trans (List.length_filter_le _ _) (by exact Nat.le_succ_of_le (by assumption))
def Srtd (S T : List T4) : Prop := S.Perm T ∧ S.Pairwise fun a b => Srt.ltR (keysOf b) (keysOf a) = false
def DdsAt (H : Hp) (rs : List Addr) (ds : List Dd) : Prop := rs.length = ds.length ∧ ∀ (i : Nat) r d, rs[i]? = some r → ds[i]? = some d → H r = some (.tup d.vs)
theorem DdsAt.mono {H H' : Hp} {rs : List Addr} {ds : List Dd} (h : DdsAt H rs ds) (f : ∀ r xs, H r = some (.tup xs) → H' r = some (.tup xs)) : DdsAt H' rs ds := ⟨h.1, fun i r d a b => f _ _ (h.2 i r d a b)⟩
theorem DdsAt.get {H : Hp} {rs : List Addr} {ds : List Dd} (h : DdsAt H rs ds) {i : Nat} {r : Addr} (hr : rs[i]? = some r) : ∃ d, ds[i]? = some d ∧ H r = some (.tup d.vs) := by
  have hi : i < ds.length := by rw [← h.1]; exact (List.getElem?_eq_some_iff.mp hr).1
  exact ⟨ds[i], getq hi, h.2 i r _ hr (getq hi)⟩
def HistAt (H : Hp) (h : Addr) (N : Nat) (ds : List Dd) : Prop := ∃ (tp : Addr) (rs : List Addr), H h = some (.tup [.int (N : Int), .ref tp]) ∧ H tp = some (.tup (rs.map V.ref)) ∧ DdsAt H rs ds
theorem HistAt.mono {H H' : Hp} {h : Addr} {N : Nat} {ds : List Dd} (x : HistAt H h N ds) (f : ∀ r xs, H r = some (.tup xs) → H' r = some (.tup xs)) : HistAt H' h N ds := let ⟨tp, rs, a, b, c⟩ := x; ⟨tp, rs, f _ _ a, f _ _ b, c.mono f⟩
theorem HistAt.same {H H' : Hp} {h : Addr} {N : Nat} {ds : List Dd} (x : HistAt H h N ds) (s : Same H H') : HistAt H' h N ds := x.mono fun r xs => s r (.tup xs)
end Wk
set_option maxHeartbeats 1000000
namespace Wk
open PySem L2
inductive TTakeHP (K : PySem.W.Frag) (i j : Nat) (σ : St) (H : Hp) (Q : VK) : Prop
  | mk (h tp : Addr) (x : V) (n : Nat) (xs : List V) : (σ[i]? = some (some (.ref h))) → (σ[j]? = some (some (.int (n : Int)))) → (H h = some (.tup [x, .ref tp])) → (H tp = some (.tup xs)) → (n ≤ xs.length) → (∀ c H', Same H H' → H' c = some (.tup (xs.take n)) → Q (.ref c) H') → TTakeHP K i j σ H Q
def tTakeH (K : PySem.W.Frag) (i j : Nat) : TE := fun σ H Q => TTakeHP K i j σ H Q
theorem takeH_ok {K : PySem.W.Frag} {i j : Nat} : ∀ σ H Q, tTakeH K i j σ H Q → tSl (rSlTA K) (tOp (rIxT K) (tVar i) (tC (.int 1))) tNoPart (tPart (tVar j)) σ H Q := by
  rintro σ H Q ⟨h, tp, x, n, xs, ei, ej, hh, ht, hn, k⟩
  refine ⟨_, ei, h, _, 1, _, rfl, rfl, SqT.of hh, atI_nat (j := 1) rfl, _, ej, _, rfl, tp, xs, rfl, SqT.of ht, fun w => ?_, fun _ p hp => ?_⟩
  · have := w.2
    rw [HT.sIx_nat, Nat.min_eq_left hn] at this
    exact k tp H (same_refl _) (by rw [this, List.take_length]; exact ht)
  · rw [cutV_take hn]
    exact k p _ (same_new hp) upd_same
def ThF (H : Hp) (th : Addr) (ps : Ps) : Prop := H th = some (.dK (psK ps)) ∧ ∀ p ∈ ps, H p.2 = some (.tup (tieV p.1))
theorem psK_drop (n : Str) : ∀ ps : Ps, dropK (psK ps) (.inr n : Key) = psK (ps.filter fun p => decide (p.1.1 ≠ n))
  | [] => rfl
  | p :: ps => by
    have ih := psK_drop n ps
    unfold dropK psK at ih ⊢
    rw [List.map_cons, List.filter_cons, List.filter_cons]
    by_cases z : p.1.1 = n
    · rw [if_neg (by simp [z]), if_neg (by simp [z])]; exact ih
    · rw [if_pos (by simp [z]), if_pos (by simp [z]), List.map_cons, ih]
theorem ps_names (ps : Ps) : (ps.map (·.1)).map (·.1) = ps.map (·.1.1) := by rw [List.map_map]; rfl
theorem ps_filt (n : Str) (ps : Ps) : (ps.filter fun p => decide (p.1.1 ≠ n)).map (·.1) = (ps.map (·.1)).filter fun t => decide (t.1 ≠ n) := by rw [List.filter_map]; rfl
end Wk
set_option maxHeartbeats 1000000
namespace Wk
open PySem L2
def cntF (ds : List Dd) (m : Int) : Nat := (ds.filter fun d => decide (d.mo ≤ m)).length
theorem cnt_le (ds : List Dd) (m : Int) : cntF ds m ≤ ds.length := List.length_filter_le _ _
def lowS (ls : List Int) (d : Dd) : List Int := if ls.getLastD 0 < d.mo then ls ++ [d.mo] else ls
def lowsF (ds : List Dd) : List Int := ds.foldl lowS [0]
theorem lows_snoc (ds : List Dd) (d : Dd) : lowsF (ds ++ [d]) = lowS (lowsF ds) d := by unfold lowsF; rw [List.foldl_append]; rfl
theorem lastD_snoc (ls : List Int) (x : Int) : (ls ++ [x]).getLastD 0 = x := by simp
structure LowsOk (ds : List Dd) (ls : List Int) : Prop where
  ne : ls ≠ []
  up : ls.Pairwise (· < ·)
  hd : ls.head? = some 0
  all : ∀ d ∈ ds, d.mo ∈ ls
  top : ∀ d ∈ ds, d.mo ≤ ls.getLastD 0
  last : ∀ x ∈ ls, x ≤ ls.getLastD 0
  len : ls.length ≤ ds.length + 1
  src : ∀ x ∈ ls, x = 0 ∨ ∃ d ∈ ds, d.mo = x
  end' : ls.getLastD 0 = 0 ∨ ∃ d ∈ ds, d.mo = ls.getLastD 0
theorem lows_ok : ∀ (ds : List Dd), (∀ d ∈ ds, 0 ≤ d.mo) → ds.Pairwise (fun a b => a.mo ≤ b.mo) → ∀ n, n ≤ ds.length → LowsOk (ds.take n) (lowsF (ds.take n)) := by
  intro ds h0 up n
  induction n with
  | zero => intro _; exact ⟨by simp [lowsF], by simp [lowsF], rfl, by simp, by simp, by simp [lowsF], by simp [lowsF], by simp [lowsF], .inl rfl⟩
  | succ n ih =>
    intro hn
    have I := ih (by exact Nat.le_of_lt (by assumption))
    have hx : ds[n]? = some ds[n] := List.getElem?_eq_getElem (by assumption)
    have tk := take_snoc hx
    have dm : ds[n] ∈ ds := List.getElem_mem _
    have below : ∀ d ∈ ds.take n, d.mo ≤ (ds[n]).mo := fun d hd => by
      obtain ⟨i, hi, e⟩ := List.mem_iff_getElem.mp hd
      rw [List.length_take] at hi
      rw [List.getElem_take] at e
      rw [← e]
      exact List.pairwise_iff_getElem.mp up i n (by omega) (by assumption) (by omega)
    have d0 := h0 _ dm
    generalize ds[n] = d at tk dm below d0
    rw [tk, lows_snoc]
    unfold lowS
    have lst : ∀ x ∈ lowsF (ds.take n), x ≤ d.mo := fun x hx => by
      rcases I.src x hx with e | ⟨d', hd', e⟩
      · omega
      · rw [← e]; exact below d' hd'
    by_cases g : (lowsF (ds.take n)).getLastD 0 < d.mo
    · rw [if_pos g]
      refine ⟨by simp, ?_, ?_, ?_, ?_, ?_, ?_, ?_, ?_⟩
      · refine List.pairwise_append.mpr ⟨I.up, List.pairwise_singleton _ _, fun x hx y hy => ?_⟩
        rw [List.mem_singleton.mp hy]
        have := I.last x hx
        omega
      · rw [List.head?_append, I.hd]; rfl
      · intro d' hd'
        rcases List.mem_append.mp hd' with h | h
        · exact List.mem_append_left _ (I.all d' h)
        · rw [List.mem_singleton.mp h]; exact List.mem_append_right _ (List.mem_singleton.mpr rfl)
      · intro d' hd'
        rw [lastD_snoc]
        rcases List.mem_append.mp hd' with h | h
        · exact below d' h
        · rw [List.mem_singleton.mp h]; exact Int.le_refl _
      · intro x hx
        rw [lastD_snoc]
        rcases List.mem_append.mp hx with h | h
        · exact lst x h
        · rw [List.mem_singleton.mp h]; exact Int.le_refl _
      · rw [List.length_append, List.length_append]
        have := I.len
        show _ + 1 ≤ _ + 1 + 1
        exact Nat.succ_le_succ (by assumption)
      · intro x hx
        rcases List.mem_append.mp hx with h | h
        · exact (I.src x h).imp id fun ⟨d', h1, h2⟩ => ⟨d', List.mem_append_left _ h1, h2⟩
        · exact .inr ⟨d, List.mem_append_right _ (List.mem_singleton.mpr rfl), (List.mem_singleton.mp h).symm⟩
      · rw [lastD_snoc]
        exact .inr ⟨d, List.mem_append_right _ (List.mem_singleton.mpr rfl), rfl⟩
    · rw [if_neg g]
      have el : (lowsF (ds.take n)).getLastD 0 = d.mo := by
        rcases I.end' with e | ⟨d', hd', e⟩
        · omega
        · have := below d' hd'
          omega
      refine ⟨I.ne, I.up, I.hd, ?_, ?_, I.last, ?_, ?_, ?_⟩
      · intro d' hd'
        rcases List.mem_append.mp hd' with h | h
        · exact I.all d' h
        · rw [List.mem_singleton.mp h, ← el]
          have ne := I.ne
          rw [List.getLastD_eq_getLast?, List.getLast?_eq_some_getLast ne]
          exact List.getLast_mem ne
      · intro d' hd'
        rcases List.mem_append.mp hd' with h | h
        · exact I.top d' h
        · rw [List.mem_singleton.mp h, el]; exact Int.le_refl _
      · rw [List.length_append]
        have := I.len
        exact Nat.le_succ_of_le (by assumption)
      · intro x hx
        exact (I.src x hx).imp id fun ⟨d', h1, h2⟩ => ⟨d', List.mem_append_left _ h1, h2⟩
      · exact .inr ⟨d, List.mem_append_right _ (List.mem_singleton.mpr rfl), el.symm⟩
abbrev Sr := Int × Option Int × Nat
def strG (cnt : Int → Nat) : List Int → List Sr
  | [] => []
  | a :: l => (a, l.head?, cnt a) :: strG cnt l
theorem strG_len (cnt : Int → Nat) : ∀ L, (strG cnt L).length = L.length
  | [] => rfl
  | a :: l => by show _ + 1 = _ + 1; rw [strG_len cnt l]
theorem strG_get (cnt : Int → Nat) : ∀ (L : List Int) (i : Nat) (x : Int), L[i]? = some x → (strG cnt L)[i]? = some (x, L[i + 1]?, cnt x)
  | [], i, x, h => by simp at h
  | a :: l, 0, x, h => by
    cases h
    show some (a, l.head?, cnt a) = some (a, l[0]?, cnt a)
    rw [List.head?_eq_getElem?]
  | a :: l, i + 1, x, h => by
    have h : l[i]? = some x := h
    show (strG cnt l)[i]? = _
    rw [strG_get cnt l i x h]; rfl
def strF (ds : List Dd) : List Sr := strG (cntF ds) (lowsF ds)
theorem str_gap {cnt : Int → Nat} : ∀ {L : List Int}, L.Pairwise (· < ·) → ∀ r ∈ strG cnt L, r.2.2 = cnt r.1 ∧ r.1 ∈ L ∧ ∀ x ∈ L, x ≤ r.1 ∨ ∃ b, r.2.1 = some b ∧ b ≤ x
  | [], _, r, hr => by cases hr
  | a :: l, up, r, hr => by
    obtain ⟨u1, u2⟩ := List.pairwise_cons.mp up
    rcases List.mem_cons.mp hr with rfl | h
    · refine ⟨rfl, List.mem_cons_self .., fun x hx => ?_⟩
      rcases List.mem_cons.mp hx with rfl | hx
      · exact .inl (Int.le_refl _)
      · cases l with
        | nil => cases hx
        | cons b l =>
          refine .inr ⟨b, rfl, ?_⟩
          rcases List.mem_cons.mp hx with rfl | h
          · exact Int.le_refl _
          · exact Int.le_of_lt ((List.pairwise_cons.mp u2).1 x h)
    · obtain ⟨g1, g2, g3⟩ := str_gap u2 r h
      refine ⟨g1, List.mem_cons_of_mem _ g2, fun x hx => ?_⟩
      rcases List.mem_cons.mp hx with rfl | hx
      · exact .inl (Int.le_of_lt (u1 _ g2))
      · exact g3 x hx
theorem strF_len {N : Nat} {ds : List Dd} (hR : Right N ds) : (strF ds).length ≤ ds.length + 1 := by
  have LO := lows_ok ds (fun d hd => (hR.mo d hd).1) hR.up ds.length (Nat.le_refl _)
  rw [List.take_length] at LO
  unfold strF
  rw [strG_len]; exact LO.len
end Wk
set_option maxHeartbeats 1000000
namespace Wk
open PySem L2
abbrev Sn := Int × Option Int
def Norm : Int → List Sn → Prop
  | _, [] => True
  | lb, (a, none) :: L => lb ≤ a ∧ L = []
  | lb, (a, some e) :: L => lb ≤ a ∧ a < e ∧ Norm (e + 1) L
def inS (m : Int) (s : Sn) : Bool := decide (s.1 ≤ m) && (match s.2 with | none => true | some e => decide (m < e))
def inB (m : Int) (L : List Sn) : Bool := L.any (inS m)
theorem inS_none {m a : Int} : inS m (a, none) = decide (a ≤ m) := by unfold inS; simp
theorem inS_some {m a e : Int} : inS m (a, some e) = (decide (a ≤ m) && decide (m < e)) := rfl
theorem inB_cons {m : Int} {s : Sn} {L : List Sn} : inB m (s :: L) = (inS m s || inB m L) := rfl
theorem inB_app {m : Int} {L M : List Sn} : inB m (L ++ M) = (inB m L || inB m M) := by unfold inB; rw [List.any_append]
theorem Norm.mono {lb lb' : Int} {L : List Sn} (h : Norm lb L) (g : lb' ≤ lb) : Norm lb' L := by
  match L, h with
  | [], _ => trivial
  | (a, none) :: L, h => exact ⟨by have := h.1; omega, h.2⟩
  | (a, some e) :: L, h => exact ⟨by have := h.1; omega, h.2⟩
theorem norm_low : ∀ {L : List Sn} {lb m : Int}, Norm lb L → m < lb → inB m L = false
  | [], _, _, _, _ => rfl
  | (a, none) :: L, lb, m, h, g => by
    rw [inB_cons, inS_none, h.2, decide_eq_false (by have := h.1; omega)]; rfl
  | (a, some e) :: L, lb, m, h, g => by
    rw [inB_cons, inS_some, norm_low h.2.2 (by have := h.1; have := h.2.1; omega), decide_eq_false (by have := h.1; omega)]; rfl
theorem norm_uniq : ∀ {L L' : List Sn} {lb : Int}, Norm lb L → Norm lb L' → (∀ m, lb ≤ m → inB m L = inB m L') → L = L'
  | [], [], _, _, _, _ => rfl
  | [], (a, none) :: L', lb, _, h', g => by
    have := g a h'.1
    rw [inB_cons, inS_none] at this
    simp [inB] at this
  | [], (a, some e) :: L', lb, _, h', g => by
    have := g a h'.1
    rw [inB_cons, inS_some, decide_eq_true (Int.le_refl a), decide_eq_true h'.2.1] at this
    simp [inB] at this
  | (a, none) :: L, [], lb, h, _, g => by
    have := g a h.1
    rw [inB_cons, inS_none] at this
    simp [inB] at this
  | (a, some e) :: L, [], lb, h, _, g => by
    have := g a h.1
    rw [inB_cons, inS_some, decide_eq_true (Int.le_refl a), decide_eq_true h.2.1] at this
    simp [inB] at this
  | (a, b) :: L, (a', b') :: L', lb, h, h', g => by
    have la : lb ≤ a := by cases b <;> exact h.1
    have la' : lb ≤ a' := by cases b' <;> exact h'.1
    have ina : inS a (a, b) = true := by
      cases b with
      | none => rw [inS_none]; simp
      | some e => rw [inS_some, decide_eq_true (Int.le_refl a), decide_eq_true h.2.1]; rfl
    have ina' : inS a' (a', b') = true := by
      cases b' with
      | none => rw [inS_none]; simp
      | some e => rw [inS_some, decide_eq_true (Int.le_refl a'), decide_eq_true h'.2.1]; rfl
    have low : ∀ {x : Int} {c : Option Int} {M : List Sn} {m : Int}, Norm lb ((x, c) :: M) → m < x → inB m ((x, c) :: M) = false := fun {x c M m} hn hm => by
      have : Norm x ((x, c) :: M) := by
        cases c with
        | none => exact ⟨Int.le_refl _, hn.2⟩
        | some e => exact ⟨Int.le_refl _, hn.2⟩
      exact norm_low this hm
    have ea : a = a' := by
      rcases Int.lt_trichotomy a a' with z | z | z
      · have := g a la
        rw [low h' z, inB_cons, ina] at this
        cases this
      · exact z
      · have := g a' la'
        rw [low h z, inB_cons, ina'] at this
        cases this
    subst ea
    have tl : ∀ {c : Option Int} {M : List Sn} {e : Int}, Norm lb ((a, c) :: M) → c = some e → inB e ((a, c) :: M) = false := fun {c M e} hn hc => by
      subst hc
      rw [inB_cons, inS_some, norm_low hn.2.2 (by omega)]
      simp
    have eb : b = b' := by
      cases b with
      | none =>
        cases b' with
        | none => rfl
        | some e' =>
          have hae := h'.2.1
          have := g e' (by omega)
          rw [tl h' rfl, inB_cons, inS_none, decide_eq_true (by omega)] at this
          cases this
      | some e =>
        have hae := h.2.1
        cases b' with
        | none =>
          have := g e (by omega)
          rw [tl h rfl, inB_cons, inS_none, decide_eq_true (by omega)] at this
          cases this
        | some e' =>
          have hae' := h'.2.1
          rcases Int.lt_trichotomy e e' with z | z | z
          · have := g e (by omega)
            rw [tl h rfl, inB_cons, inS_some, decide_eq_true (by omega), decide_eq_true z] at this
            cases this
          · rw [z]
          · have := g e' (by omega)
            rw [tl h' rfl, inB_cons, inS_some, decide_eq_true (by omega), decide_eq_true z] at this
            cases this
    subst eb
    cases b with
    | none => rw [h.2, h'.2]
    | some e =>
      have : L = L' := norm_uniq h.2.2 h'.2.2 fun m hm => by
        have hae := h.2.1
        have := g m (by omega)
        rw [inB_cons, inB_cons, inS_some, decide_eq_false (show ¬ m < e by omega), Bool.and_false, Bool.false_or, Bool.false_or] at this
        exact this
      rw [this]
def oth : Int → List Sn → List Sn
  | b, [] => [(b, none)]
  | b, (lo, none) :: _ => if b < lo then [(b, some lo)] else []
  | b, (lo, some e) :: L => if b < lo then (b, some lo) :: oth e L else oth e L
theorem oth_norm : ∀ {L : List Sn} {b lb : Int}, Norm b L → lb ≤ b → Norm lb (oth b L)
  | [], b, lb, _, g => ⟨g, rfl⟩
  | (lo, none) :: L, b, lb, h, g => by
    unfold oth
    by_cases z : b < lo
    · rw [if_pos z]; exact ⟨g, z, trivial⟩
    · rw [if_neg z]; trivial
  | (lo, some e) :: L, b, lb, h, g => by
    unfold oth
    have he := h.2.1
    have hb := h.1
    have hn : Norm e L := h.2.2.mono (by omega)
    by_cases z : b < lo
    · rw [if_pos z]
      exact ⟨g, z, oth_norm hn (by assumption)⟩
    · rw [if_neg z]
      exact oth_norm hn (by omega)
theorem oth_in : ∀ {L : List Sn} {b m : Int}, Norm b L → b ≤ m → inB m (oth b L) = !inB m L
  | [], b, m, _, g => by unfold oth; rw [inB_cons, inS_none, decide_eq_true g]; rfl
  | (lo, none) :: L, b, m, h, g => by
    unfold oth
    rw [h.2, inB_cons, inS_none]
    by_cases z : b < lo
    · rw [if_pos z, inB_cons, inS_some, decide_eq_true g]
      by_cases y : lo ≤ m
      · rw [decide_eq_true y, decide_eq_false (show ¬ m < lo by omega)]; rfl
      · rw [decide_eq_false y, decide_eq_true (show m < lo by omega)]; rfl
    · rw [if_neg z, decide_eq_true (show lo ≤ m by omega)]; rfl
  | (lo, some e) :: L, b, m, h, g => by
    unfold oth
    have he := h.2.1
    have hb := h.1
    have hn : Norm e L := h.2.2.mono (by omega)
    have rest : e ≤ m → inB m (oth e L) = !inB m L := fun y => oth_in hn y
    have low : m < e → inB m (oth e L) = false ∧ inB m L = false := fun y => ⟨norm_low (oth_norm hn (Int.le_refl _)) y, norm_low hn y⟩
    rw [inB_cons, inS_some]
    by_cases z : b < lo
    · rw [if_pos z, inB_cons, inS_some, decide_eq_true g]
      by_cases y : m < e
      · rw [(low y).1, (low y).2, decide_eq_true y]
        by_cases x : lo ≤ m
        · rw [decide_eq_true x, decide_eq_false (show ¬ m < lo by omega)]; rfl
        · rw [decide_eq_false x, decide_eq_true (show m < lo by omega)]; rfl
      · rw [rest (by exact Int.not_lt.mp (by assumption)), decide_eq_false y, decide_eq_false (show ¬ m < lo by omega)]; simp
    · rw [if_neg z]
      by_cases y : m < e
      · rw [(low y).1, (low y).2, decide_eq_true y, decide_eq_true (show lo ≤ m by omega)]; rfl
      · rw [rest (by exact Int.not_lt.mp (by assumption)), decide_eq_false y]; simp
def lesO : Option Int → Option Int → Option Int
  | none, p => p
  | some a, none => some a
  | some a, some b => some (if b < a then b else a)
def cutF (x y : Sn) : Option Sn := match lesO x.2 y.2 with
  | none => some (if y.1 > x.1 then y.1 else x.1, none)
  | some e => if (if y.1 > x.1 then y.1 else x.1) < e then some (if y.1 > x.1 then y.1 else x.1, some e) else none
def comF (A B : List Sn) : List Sn := A.flatMap fun x => B.filterMap (cutF x)
theorem cut_in {x y : Sn} {m : Int} : (match cutF x y with | none => false | some s => inS m s) = (inS m x && inS m y) := by
  obtain ⟨a, b⟩ := x
  obtain ⟨c, d⟩ := y
  have mx : ∀ z : Int, decide ((if c > a then c else a) ≤ z) = (decide (a ≤ z) && decide (c ≤ z)) := fun z => by
    by_cases g : c > a
    · rw [if_pos g]
      by_cases h : c ≤ z
      · rw [decide_eq_true h, decide_eq_true (show a ≤ z by omega)]; rfl
      · rw [decide_eq_false h, Bool.and_false]
    · rw [if_neg g]
      by_cases h : a ≤ z
      · rw [decide_eq_true h, decide_eq_true (show c ≤ z by omega)]; rfl
      · rw [decide_eq_false h, Bool.false_and]
  have fin : ∀ e : Int, (match (if (if c > a then c else a) < e then some ((if c > a then c else a, some e) : Sn) else none) with | none => false | some s => inS m s) = (decide ((if c > a then c else a) ≤ m) && decide (m < e)) := fun e => by
    by_cases g : (if c > a then c else a) < e
    · rw [if_pos g]; rfl
    · rw [if_neg g]
      by_cases h : (if c > a then c else a) ≤ m
      · rw [decide_eq_false (show ¬ m < e by omega), Bool.and_false]
      · rw [decide_eq_false h, Bool.false_and]
  unfold cutF
  cases b with
  | none =>
    cases d with
    | none =>
      show inS m (if c > a then c else a, none) = _
      rw [inS_none, inS_none, inS_none, mx]
    | some e =>
      show (match (if (if c > a then c else a) < e then some ((if c > a then c else a, some e) : Sn) else none) with | none => false | some s => inS m s) = _
      rw [fin, inS_none, inS_some, mx, Bool.and_assoc]
  | some f =>
    cases d with
    | none =>
      show (match (if (if c > a then c else a) < f then some ((if c > a then c else a, some f) : Sn) else none) with | none => false | some s => inS m s) = _
      rw [fin, inS_none, inS_some, mx]
      cases decide (a ≤ m) <;> cases decide (c ≤ m) <;> cases decide (m < f) <;> rfl
    | some e =>
      show (match (if (if c > a then c else a) < (if e < f then e else f) then some ((if c > a then c else a, some (if e < f then e else f)) : Sn) else none) with | none => false | some s => inS m s) = _
      rw [fin, inS_some, inS_some, mx]
      have mn : decide (m < (if e < f then e else f)) = (decide (m < f) && decide (m < e)) := by
        by_cases g : e < f
        · rw [if_pos g]
          by_cases h : m < e
          · rw [decide_eq_true h, decide_eq_true (show m < f by omega)]; rfl
          · rw [decide_eq_false h, Bool.and_false]
        · rw [if_neg g]
          by_cases h : m < f
          · rw [decide_eq_true h, decide_eq_true (show m < e by omega)]; rfl
          · rw [decide_eq_false h, Bool.false_and]
      rw [mn]
      cases decide (a ≤ m) <;> cases decide (c ≤ m) <;> cases decide (m < f) <;> cases decide (m < e) <;> rfl
theorem fm_in {x : Sn} {m : Int} : ∀ {B : List Sn}, inB m (B.filterMap (cutF x)) = (inS m x && inB m B)
  | [] => by simp [inB]
  | y :: B => by
    have t := cut_in (x := x) (y := y) (m := m)
    have r := fm_in (x := x) (m := m) (B := B)
    rw [List.filterMap_cons, inB_cons]
    cases h : cutF x y with
    | none =>
      rw [h] at t
      have t : false = (inS m x && inS m y) := t
      show inB m (List.filterMap (cutF x) B) = _
      rw [r, Bool.and_or_distrib_left, ← t, Bool.false_or]
    | some s =>
      rw [h] at t
      have t : inS m s = (inS m x && inS m y) := t
      show inB m (s :: List.filterMap (cutF x) B) = _
      rw [inB_cons, r, t, Bool.and_or_distrib_left]
theorem com_in {m : Int} : ∀ {A B : List Sn}, inB m (comF A B) = (inB m A && inB m B)
  | [], B => by simp [comF, inB]
  | x :: A, B => by
    have r := com_in (m := m) (A := A) (B := B)
    unfold comF at r ⊢
    rw [List.flatMap_cons, inB_app, r, fm_in, inB_cons, Bool.and_or_distrib_right]
def EndBy (h : Option Int) (L : List Sn) : Prop := ∀ s ∈ L, ∀ k, h = some k → ∃ e, s.2 = some e ∧ e ≤ k
theorem norm_app : ∀ {P R : List Sn} {lb k : Int}, Norm lb P → EndBy (some k) P → Norm (k + 1) R → lb ≤ k + 1 → Norm lb (P ++ R)
  | [], R, lb, k, _, _, hr, g => hr.mono g
  | (a, none) :: P, R, lb, k, _, e, _, _ => by
    obtain ⟨z, hz, _⟩ := e (a, none) (List.mem_cons_self ..) k rfl
    cases hz
  | (a, some b) :: P, R, lb, k, h, e, hr, g => by
    obtain ⟨z, hz, hk⟩ := e (a, some b) (List.mem_cons_self ..) k rfl
    cases hz
    exact ⟨h.1, h.2.1, norm_app h.2.2 (fun s hs => e s (List.mem_cons_of_mem _ hs)) hr (by omega)⟩
theorem cut_shape {x y s : Sn} (h : cutF x y = some s) : x.1 ≤ s.1 ∧ y.1 ≤ s.1 ∧ (∀ k, x.2 = some k → ∃ e, s.2 = some e ∧ e ≤ k) ∧ (∀ k, y.2 = some k → ∃ e, s.2 = some e ∧ e ≤ k) ∧ (∀ e, s.2 = some e → s.1 < e) ∧ (s.2 = none → x.2 = none ∧ y.2 = none) := by
  obtain ⟨a, b⟩ := x
  obtain ⟨c, d⟩ := y
  unfold cutF at h
  have m1 : a ≤ (if c > a then c else a) := by split <;> omega
  have m2 : c ≤ (if c > a then c else a) := by split <;> omega
  cases b with
  | none =>
    cases d with
    | none =>
      cases h
      exact ⟨m1, m2, by simp, by simp, by simp, by simp⟩
    | some e =>
      have h : (if (if c > a then c else a) < e then some ((if c > a then c else a, some e) : Sn) else none) = some s := h
      by_cases g : (if c > a then c else a) < e
      · rw [if_pos g] at h
        cases h
        exact ⟨m1, m2, by simp, fun k hk => ⟨e, rfl, by cases hk; exact Int.le_refl _⟩, fun e' he => by cases he; exact g, by simp⟩
      · rw [if_neg g] at h; cases h
  | some f =>
    cases d with
    | none =>
      have h : (if (if c > a then c else a) < f then some ((if c > a then c else a, some f) : Sn) else none) = some s := h
      by_cases g : (if c > a then c else a) < f
      · rw [if_pos g] at h
        cases h
        exact ⟨m1, m2, fun k hk => ⟨f, rfl, by cases hk; exact Int.le_refl _⟩, by simp, fun e' he => by cases he; exact g, by simp⟩
      · rw [if_neg g] at h; cases h
    | some e =>
      have h : (if (if c > a then c else a) < (if e < f then e else f) then some ((if c > a then c else a, some (if e < f then e else f)) : Sn) else none) = some s := h
      by_cases g : (if c > a then c else a) < (if e < f then e else f)
      · rw [if_pos g] at h
        cases h
        refine ⟨m1, m2, fun k hk => ⟨_, rfl, ?_⟩, fun k hk => ⟨_, rfl, ?_⟩, fun e' he => by cases he; exact g, by simp⟩
        · cases hk; split <;> omega
        · cases hk; split <;> omega
      · rw [if_neg g] at h; cases h
theorem fm_norm {x : Sn} : ∀ {B : List Sn} {lb lc : Int}, Norm lc B → (lb ≤ x.1 ∨ lb ≤ lc) → Norm lb (B.filterMap (cutF x)) ∧ EndBy x.2 (B.filterMap (cutF x))
  | [], _, _, _, _ => ⟨trivial, fun s hs => by cases hs⟩
  | y :: B, lb, lc, hb, g => by
    rw [List.filterMap_cons]
    have hy : lc ≤ y.1 := by
      obtain ⟨c, d⟩ := y
      cases d <;> exact hb.1
    have rest : ∀ k, y.2 = some k → Norm (k + 1) B := fun k hk => by
      obtain ⟨c, d⟩ := y
      cases hk
      exact hb.2.2
    have last : y.2 = none → B = [] := fun hk => by
      obtain ⟨c, d⟩ := y
      cases hk
      exact hb.2
    have yl : ∀ k, y.2 = some k → y.1 < k := fun k hk => by
      obtain ⟨c, d⟩ := y
      cases hk
      exact hb.2.1
    cases h : cutF x y with
    | none =>
      cases hd : y.2 with
      | none => rw [last hd]; exact ⟨trivial, fun s hs => by cases hs⟩
      | some k =>
        have := yl k hd
        exact fm_norm (rest k hd) (g.imp id fun z => by omega)
    | some s =>
      obtain ⟨s1, s2, s3, s4, s5, s6⟩ := cut_shape h
      have low : lb ≤ s.1 := by rcases g with z | z <;> omega
      show Norm lb (s :: List.filterMap (cutF x) B) ∧ EndBy x.2 (s :: List.filterMap (cutF x) B)
      obtain ⟨sa, sb⟩ := s
      cases sb with
      | none =>
        obtain ⟨e1, e2⟩ := s6 rfl
        rw [last e2]
        refine ⟨⟨low, rfl⟩, fun s hs k hk => ?_⟩
        rw [e1] at hk; cases hk
      | some e =>
        have lt := s5 e rfl
        have tail : Norm (e + 1) (List.filterMap (cutF x) B) ∧ EndBy x.2 (List.filterMap (cutF x) B) := by
          cases hd : y.2 with
          | none => rw [last hd]; exact ⟨trivial, fun s hs => by cases hs⟩
          | some k =>
            obtain ⟨e', he', le⟩ := s4 k hd
            cases he'
            exact fm_norm (rest k hd) (.inr (by omega))
        refine ⟨⟨low, lt, tail.1⟩, fun s hs k hk => ?_⟩
        rcases List.mem_cons.mp hs with rfl | hs
        · exact s3 k hk
        · exact tail.2 s hs k hk
theorem com_norm : ∀ {A B : List Sn} {lb lc : Int}, Norm lb A → Norm lc B → Norm lb (comF A B)
  | [], B, _, _, _, _ => trivial
  | (a, none) :: A, B, lb, lc, ha, hb => by
    unfold comF
    rw [ha.2, List.flatMap_cons, List.flatMap_nil, List.append_nil]
    exact (fm_norm hb (.inl ha.1)).1
  | (a, some e) :: A, B, lb, lc, ha, hb => by
    have r := com_norm (A := A) (B := B) ha.2.2 hb
    unfold comF at r ⊢
    rw [List.flatMap_cons]
    obtain ⟨n1, n2⟩ := fm_norm (x := (a, some e)) (lb := lb) hb (.inl ha.1)
    exact norm_app n1 n2 r (by have := ha.1; have := ha.2.1; omega)
def joiF (A B : List Sn) : List Sn := oth 0 (comF (oth 0 A) (oth 0 B))
theorem joi_ok {A B : List Sn} (ha : Norm 0 A) (hb : Norm 0 B) : Norm 0 (joiF A B) ∧ ∀ m, 0 ≤ m → inB m (joiF A B) = (inB m A || inB m B) := by
  have n := com_norm (oth_norm ha (Int.le_refl 0)) (oth_norm hb (Int.le_refl 0))
  refine ⟨oth_norm n (Int.le_refl _), fun m hm => ?_⟩
  unfold joiF
  rw [oth_in n hm, com_in, oth_in ha hm, oth_in hb hm]
  cases inB m A <;> cases inB m B <;> rfl
def whF (tr : Nat → Bool) : List Sr → List Sn → List Sn
  | [], A => A
  | r :: L, A => whF tr L (if tr r.2.2 = true then joiF A [(r.1, r.2.1)] else A)
def spW (tr : Nat → Bool) (L : List Sr) : List Sn := (L.filter fun r => tr r.2.2).map fun r => (r.1, r.2.1)
theorem wh_ok (tr : Nat → Bool) : ∀ (L : List Sr) (A : List Sn), Norm 0 A → (∀ r ∈ L, 0 ≤ r.1 ∧ ∀ e, r.2.1 = some e → r.1 < e) → Norm 0 (whF tr L A) ∧ ∀ m, 0 ≤ m → inB m (whF tr L A) = (inB m A || inB m (spW tr L))
  | [], A, ha, _ => ⟨ha, fun m _ => by show _ = (inB m A || false); rw [Bool.or_false]; rfl⟩
  | r :: L, A, ha, h => by
    have h1 := h r (List.mem_cons_self ..)
    have hn : Norm 0 [(r.1, r.2.1)] := by
      obtain ⟨a, b, n⟩ := r
      cases b with
      | none => exact ⟨h1.1, rfl⟩
      | some e => exact ⟨h1.1, h1.2 e rfl, trivial⟩
    show Norm 0 (whF tr L (if tr r.2.2 = true then joiF A [(r.1, r.2.1)] else A)) ∧ _
    by_cases g : tr r.2.2 = true
    · rw [if_pos g]
      obtain ⟨j1, j2⟩ := joi_ok ha hn
      obtain ⟨k1, k2⟩ := wh_ok tr L _ j1 fun r hr => h r (List.mem_cons_of_mem _ hr)
      refine ⟨k1, fun m hm => ?_⟩
      show inB m (whF tr L (if tr r.2.2 = true then joiF A [(r.1, r.2.1)] else A)) = _
      rw [if_pos g, k2 m hm, j2 m hm]
      have : spW tr (r :: L) = (r.1, r.2.1) :: spW tr L := by unfold spW; rw [List.filter_cons_of_pos (p := fun r : Sr => tr r.2.2) g]; rfl
      rw [this, inB_cons, inB_cons]
      cases inB m A <;> cases inS m (r.1, r.2.1) <;> rfl
    · obtain ⟨k1, k2⟩ := wh_ok tr L A ha fun r hr => h r (List.mem_cons_of_mem _ hr)
      rw [if_neg g]
      refine ⟨k1, fun m hm => ?_⟩
      show inB m (whF tr L (if tr r.2.2 = true then joiF A [(r.1, r.2.1)] else A)) = _
      rw [if_neg g, k2 m hm]
      have : spW tr (r :: L) = spW tr L := by unfold spW; rw [List.filter_cons_of_neg (p := fun r : Sr => tr r.2.2) g]
      rw [this]
theorem str_rows {N : Nat} {ds : List Dd} (hR : Right N ds) : ∀ r ∈ strF ds, 0 ≤ r.1 ∧ ∀ e, r.2.1 = some e → r.1 < e := by
  have LO := lows_ok ds (fun d hd => (hR.mo d hd).1) hR.up ds.length (Nat.le_refl _)
  rw [List.take_length] at LO
  have : ∀ {cnt : Int → Nat} {L : List Int}, L.Pairwise (· < ·) → ∀ r ∈ strG cnt L, ∀ e, r.2.1 = some e → r.1 < e := by
    intro cnt L
    induction L with
    | nil => intro _ r hr; cases hr
    | cons a l ih =>
      intro up r hr e he
      obtain ⟨u1, u2⟩ := List.pairwise_cons.mp up
      rcases List.mem_cons.mp hr with rfl | h
      · have he : l.head? = some e := he
        exact u1 e (List.mem_of_mem_head? he)
      · exact ih u2 r h e he
  intro r hr
  refine ⟨?_, this LO.up r hr⟩
  obtain ⟨_, g2, _⟩ := str_gap LO.up r hr
  rcases LO.src _ g2 with e | ⟨d, hd, e⟩
  · omega
  · have := (hR.mo d hd).1; omega
end Wk
set_option maxHeartbeats 1000000
namespace Wk
open PySem L2
theorem norm_start : ∀ {L : List Sn} {lb : Int}, Norm lb L → ∀ s ∈ L, inB s.1 L = true ∧ inB (s.1 - 1) L = false ∧ lb ≤ s.1
  | [], _, _, s, hs => by cases hs
  | (a, none) :: L, lb, h, s, hs => by
    rw [h.2] at hs ⊢
    rw [List.mem_singleton.mp hs, inB_cons, inS_none, inB_cons, inS_none, decide_eq_true (Int.le_refl a), decide_eq_false (show ¬ a ≤ a - 1 by omega)]
    exact ⟨rfl, rfl, h.1⟩
  | (a, some e) :: L, lb, h, s, hs => by
    have ha := h.1
    have he := h.2.1
    rcases List.mem_cons.mp hs with rfl | hs
    · rw [inB_cons, inS_some, inB_cons, inS_some, decide_eq_true (Int.le_refl a), decide_eq_true he, decide_eq_false (show ¬ a ≤ a - 1 by omega), norm_low h.2.2 (show a - 1 < e + 1 by omega)]
      exact ⟨rfl, rfl, ha⟩
    · obtain ⟨x, y, z⟩ := norm_start h.2.2 s hs
      rw [inB_cons, inS_some, x, Bool.or_true, inB_cons, inS_some, y, decide_eq_false (show ¬ s.1 - 1 < e by omega), Bool.and_false]
      exact ⟨rfl, rfl, by omega⟩
theorem norm_up : ∀ {L : List Sn} {lb : Int}, Norm lb L → (L.map (·.1)).Pairwise (· < ·)
  | [], _, _ => List.Pairwise.nil
  | (a, none) :: L, lb, h => by rw [h.2]; exact List.pairwise_singleton _ _
  | (a, some e) :: L, lb, h => by
    rw [List.map_cons]
    refine List.pairwise_cons.mpr ⟨fun x hx => ?_, norm_up h.2.2⟩
    obtain ⟨s, hs, rfl⟩ := List.mem_map.mp hx
    have := (norm_start h.2.2 s hs).2.2
    have := h.2.1
    show a < s.1
    omega
theorem inB_mem {m : Int} {L : List Sn} (h : inB m L = true) : ∃ s ∈ L, inS m s = true := by
  unfold inB at h
  exact List.any_eq_true.mp h
theorem inB_of {m : Int} {L : List Sn} {s : Sn} (hs : s ∈ L) (h : inS m s = true) : inB m L = true := List.any_eq_true.mpr ⟨s, hs, h⟩
theorem nodup_len {α : Type} [DecidableEq α] : ∀ (xs ys : List α), xs.Nodup → (∀ x ∈ xs, x ∈ ys) → xs.length ≤ ys.length
  | [], _, _, _ => Nat.zero_le _
  | x :: xs, ys, nd, h => by
    have hx := h x (List.mem_cons_self ..)
    obtain ⟨nx, nd'⟩ := List.nodup_cons.mp nd
    have := nodup_len xs (ys.erase x) nd' fun y hy => (List.mem_erase_of_ne (show y ≠ x from fun e => nx (by rw [← e]; exact hy))).mpr (h y (List.mem_cons_of_mem _ hy))
    rw [List.length_erase_of_mem hx] at this
    have : 0 < ys.length := List.length_pos_of_mem hx
    show xs.length + 1 ≤ _
    omega
theorem wh_len {tr : Nat → Bool} {L : List Sr} (h : ∀ r ∈ L, 0 ≤ r.1 ∧ ∀ e, r.2.1 = some e → r.1 < e) : (whF tr L []).length ≤ L.length := by
  obtain ⟨n, i⟩ := wh_ok tr L [] trivial h
  have sub : ∀ x ∈ (whF tr L []).map (·.1), x ∈ L.map (·.1) := fun x hx => by
    obtain ⟨s, hs, rfl⟩ := List.mem_map.mp hx
    obtain ⟨a, b, c⟩ := norm_start n s hs
    rw [i _ c] at a
    have a : inB s.1 (spW tr L) = true := a
    obtain ⟨q, hq, hin⟩ := inB_mem a
    obtain ⟨r, hr, rfl⟩ := List.mem_map.mp hq
    have hr' := (List.mem_filter.mp hr).1
    have r0 := (h r hr').1
    have lo : r.1 ≤ s.1 := by
      unfold inS at hin
      rw [Bool.and_eq_true] at hin
      exact of_decide_eq_true hin.1
    refine List.mem_map.mpr ⟨r, hr', ?_⟩
    show r.1 = s.1
    rcases Int.lt_or_eq_of_le lo with z | z
    · have e : inB (s.1 - 1) (whF tr L []) = true := by
        rw [i _ (by omega)]
        have : inB (s.1 - 1) (spW tr L) = true := by
          refine inB_of hq ?_
          unfold inS at hin ⊢
          rw [Bool.and_eq_true] at hin ⊢
          refine ⟨decide_eq_true (by show r.1 ≤ s.1 - 1; omega), ?_⟩
          have h2 := hin.2
          cases he : r.2.1 with
          | none => rw [he] at *
          | some e =>
            simp only [he] at h2 ⊢
            have := of_decide_eq_true h2
            exact decide_eq_true (by omega)
        rw [this, Bool.or_true]
      rw [b] at e; cases e
    · exact z
  have := nodup_len _ _ ((norm_up n).imp fun h => Int.ne_of_lt h) sub
  rwa [List.length_map, List.length_map] at this
theorem wh_snoc (tr : Nat → Bool) (r : Sr) : ∀ (L : List Sr) (A : List Sn), whF tr (L ++ [r]) A = if tr r.2.2 = true then joiF (whF tr L A) [(r.1, r.2.1)] else whF tr L A
  | [], A => rfl
  | q :: L, A => wh_snoc tr r L _
theorem oth_len : ∀ (L : List Sn) (b : Int), (oth b L).length ≤ L.length + 1
  | [], b => Nat.le_refl _
  | (lo, none) :: L, b => by unfold oth; split <;> simp
  | (lo, some e) :: L, b => by
    unfold oth
    have := oth_len L e
    split
    · show _ + 1 ≤ _ + 1 + 1; exact Nat.succ_le_succ (by assumption)
    · show _ ≤ _ + 1 + 1; exact Nat.le_succ_of_le (by assumption)
theorem com_len : ∀ (A B : List Sn), (comF A B).length ≤ A.length * B.length
  | [], B => by simp [comF]
  | x :: A, B => by
    have := com_len A B
    unfold comF at this ⊢
    rw [List.flatMap_cons, List.length_append, List.length_cons, Nat.succ_mul]
    have := List.length_filterMap_le (cutF x) B
    omega
end Wk
set_option maxHeartbeats 1000000
namespace Wk
open PySem L2
def ext (b : Int) (h : Option Int) : List Sn → List Sn
  | [] => [(b, h)]
  | [(a, some e)] => if e = b then [(a, h)] else [(a, some e), (b, h)]
  | x :: L => x :: ext b h L
theorem ext_cons {b : Int} {h : Option Int} {x y : Sn} {L : List Sn} : ext b h (x :: y :: L) = x :: ext b h (y :: L) := by
  obtain ⟨a, e⟩ := x
  cases e <;> rfl
theorem inS_both {m a b : Int} {h : Option Int} (hab : a < b) (hh : ∀ e, h = some e → b < e) : inS m (a, h) = (inS m (a, some b) || inS m (b, h)) := by
  cases h with
  | none =>
    rw [inS_none, inS_some, inS_none]
    by_cases x : a ≤ m
    · by_cases y : m < b
      · simp [x, y]
      · simp [x, y]; omega
    · simp [x]; omega
  | some e =>
    have := hh e rfl
    rw [inS_some, inS_some, inS_some]
    by_cases x : a ≤ m
    · by_cases y : m < b
      · simp [x, y]; omega
      · simp [x, y]; omega
    · simp [x]; omega
theorem ext_ok {b : Int} {h : Option Int} (hh : ∀ e, h = some e → b < e) : ∀ {F : List Sn} {lb : Int}, Norm lb F → EndBy (some b) F → lb ≤ b → Norm lb (ext b h F) ∧ ∀ m, inB m (ext b h F) = (inB m F || inS m (b, h))
  | [], lb, _, _, hl => by
    refine ⟨?_, fun m => by show (inS m (b, h) || false) = (false || inS m (b, h)); cases inS m (b, h) <;> rfl⟩
    cases h with
    | none => exact ⟨hl, rfl⟩
    | some e => exact ⟨hl, hh e rfl, trivial⟩
  | [(a, none)], lb, hn, he, hl => by
    obtain ⟨e, z, _⟩ := he (a, none) (List.mem_cons_self ..) b rfl
    cases z
  | [(a, some e)], lb, hn, he, hl => by
    obtain ⟨e', z, le⟩ := he (a, some e) (List.mem_cons_self ..) b rfl
    cases z
    unfold ext
    by_cases g : e = b
    · subst g
      rw [if_pos rfl]
      have ab : a < e := hn.2.1
      refine ⟨?_, fun m => ?_⟩
      · cases h with
        | none => exact ⟨hn.1, rfl⟩
        | some k => exact ⟨hn.1, by have := hh k rfl; omega, trivial⟩
      · rw [inB_cons, inB_cons, inS_both ab hh]
        show (_ || false) = ((_ || false) || _)
        cases inS m (a, some e) <;> cases inS m (e, h) <;> rfl
    · rw [if_neg g]
      refine ⟨⟨hn.1, hn.2.1, ?_⟩, fun m => ?_⟩
      · cases h with
        | none => exact ⟨by omega, rfl⟩
        | some k => exact ⟨by omega, hh k rfl, trivial⟩
      · rw [inB_cons, inB_cons, inB_cons]
        show (_ || (_ || false)) = ((_ || false) || _)
        cases inS m (a, some e) <;> cases inS m (b, h) <;> rfl
  | (a, none) :: y :: L, lb, hn, he, hl => by have := hn.2; cases this
  | (a, some e) :: y :: L, lb, hn, he, hl => by
    have hy : e + 1 ≤ b := by
      obtain ⟨f, z, le⟩ := he y (by simp) b rfl
      obtain ⟨c, d⟩ := y
      cases z
      have h1 := hn.2.2.1
      have h2 := hn.2.2.2.1
      omega
    obtain ⟨i1, i2⟩ := ext_ok hh (F := y :: L) (lb := e + 1) hn.2.2 (fun s hs => he s (List.mem_cons_of_mem _ hs)) hy
    rw [ext_cons]
    refine ⟨⟨hn.1, hn.2.1, i1⟩, fun m => ?_⟩
    show (inS m (a, some e) || inB m (ext b h (y :: L))) = ((inS m (a, some e) || inB m (y :: L)) || inS m (b, h))
    rw [i2, Bool.or_assoc]
theorem ext_snoc {b : Int} {h : Option Int} {a e : Int} : ∀ {F : List Sn}, ext b h (F ++ [(a, some e)]) = if e = b then F ++ [(a, h)] else F ++ [(a, some e), (b, h)]
  | [] => rfl
  | [x] => by
    show ext b h (x :: (a, some e) :: []) = _
    rw [ext_cons]
    show x :: (if e = b then [(a, h)] else [(a, some e), (b, h)]) = _
    split <;> rfl
  | x :: y :: F => by
    show ext b h (x :: y :: (F ++ [(a, some e)])) = _
    rw [ext_cons]
    have := ext_snoc (b := b) (h := h) (a := a) (e := e) (F := y :: F)
    show x :: ext b h ((y :: F) ++ [(a, some e)]) = _
    rw [this]
    split <;> rfl
theorem ext_end {b k : Int} (hk : b < k) : ∀ {F : List Sn}, EndBy (some b) F → EndBy (some k) (ext b (some k) F)
  | [], _ => fun s hs k' hk' => by
    cases hk'
    rw [List.mem_singleton.mp hs]; exact ⟨k, rfl, Int.le_refl _⟩
  | [(a, none)], he => by
    obtain ⟨e, z, _⟩ := he (a, none) (List.mem_cons_self ..) b rfl
    cases z
  | [(a, some e)], he => fun s hs k' hk' => by
    cases hk'
    obtain ⟨e', z, le⟩ := he (a, some e) (List.mem_cons_self ..) b rfl
    cases z
    unfold ext at hs
    split at hs
    · rw [List.mem_singleton.mp hs]; exact ⟨k, rfl, Int.le_refl _⟩
    · rcases List.mem_cons.mp hs with rfl | hs
      · exact ⟨e, rfl, by omega⟩
      · rw [List.mem_singleton.mp hs]; exact ⟨k, rfl, Int.le_refl _⟩
  | x :: y :: F, he => fun s hs k' hk' => by
    rw [ext_cons] at hs
    cases hk'
    rcases List.mem_cons.mp hs with rfl | hs
    · obtain ⟨e, z, le⟩ := he s (List.mem_cons_self ..) b rfl
      exact ⟨e, z, by omega⟩
    · exact ext_end hk (F := y :: F) (fun s hs => he s (List.mem_cons_of_mem _ hs)) s hs k rfl
theorem ext_len {b : Int} {h : Option Int} : ∀ {F : List Sn}, (ext b h F).length ≤ F.length + 1
  | [] => Nat.le_refl _
  | [(a, none)] => Nat.le_refl _
  | [(a, some e)] => by unfold ext; split <;> simp
  | x :: y :: F => by
    rw [ext_cons]
    have := ext_len (b := b) (h := h) (F := y :: F)
    simp only [List.length_cons] at this ⊢
    omega
def pc (bs : List Int) (i : Nat) : Sn := (bs.getD i 0, bs[i + 1]?)
def trB (bs : List Int) (f : Nat → Bool) (n : Nat) (m : Int) : Bool := (List.range n).any fun i => f i && inS m (pc bs i)
theorem trB_succ {bs : List Int} {f : Nat → Bool} {n : Nat} {m : Int} : trB bs f (n + 1) m = (trB bs f n m || (f n && inS m (pc bs n))) := by
  unfold trB
  rw [List.range_succ, List.any_append]
  simp
structure LaidTo (bs : List Int) (f : Nat → Bool) (i : Nat) (F : List Sn) : Prop where
  norm : Norm 0 F
  here : ∀ m, inB m F = trB bs f i m
  ends : ∀ b, bs[i]? = some b → EndBy (some b) F
  len : F.length ≤ i
theorem bs_lt {bs : List Int} (up : bs.Pairwise (· < ·)) {i j : Nat} {x y : Int} (hij : i < j) (hx : bs[i]? = some x) (hy : bs[j]? = some y) : x < y := by
  obtain ⟨h1, rfl⟩ := List.getElem?_eq_some_iff.mp hx
  obtain ⟨h2, rfl⟩ := List.getElem?_eq_some_iff.mp hy
  exact List.pairwise_iff_getElem.mp up i j h1 h2 hij
theorem getD_of {bs : List Int} {i : Nat} {x : Int} (hx : bs[i]? = some x) : bs.getD i 0 = x := by simp [List.getD, hx]
theorem LaidTo.zero {bs : List Int} {f : Nat → Bool} : LaidTo bs f 0 [] := ⟨trivial, fun m => rfl, fun b _ s hs => absurd hs List.not_mem_nil, Nat.le_refl _⟩
theorem LaidTo.skip {bs : List Int} (up : bs.Pairwise (· < ·)) {f : Nat → Bool} {i : Nat} {F : List Sn} (h : LaidTo bs f i F) {b : Int} (hb : bs[i]? = some b) (hf : f i = false) : LaidTo bs f (i + 1) F := by
  refine ⟨h.norm, fun m => by rw [trB_succ, hf, h.here]; simp, fun c hc s hs k hk => ?_, by have := h.len; omega⟩
  cases hk
  obtain ⟨e, z, le⟩ := h.ends b hb s hs b rfl
  have := bs_lt up (Nat.lt_succ_self i) hb hc
  exact ⟨e, z, by omega⟩
theorem LaidTo.put {bs : List Int} (up : bs.Pairwise (· < ·)) (pos : ∀ b ∈ bs, 0 ≤ b) {f : Nat → Bool} {i : Nat} {F : List Sn} (h : LaidTo bs f i F) {b : Int} (hb : bs[i]? = some b) (hf : f i = true) : LaidTo bs f (i + 1) (ext b bs[i + 1]? F) := by
  have hh : ∀ e, bs[i + 1]? = some e → b < e := fun e he => bs_lt up (Nat.lt_succ_self i) hb he
  obtain ⟨n1, n2⟩ := ext_ok hh h.norm (h.ends b hb) (pos b (List.mem_of_getElem? hb))
  refine ⟨n1, fun m => ?_, fun c hc => ?_, by have := h.len; have := ext_len (b := b) (h := bs[i + 1]?) (F := F); omega⟩
  · rw [n2, trB_succ, hf, h.here]
    show (_ || inS m (b, bs[i + 1]?)) = (_ || (true && inS m (bs.getD i 0, bs[i + 1]?)))
    rw [getD_of hb, Bool.true_and]
  · rw [hc]; exact ext_end (hh c hc) (h.ends b hb)
theorem trB_true {bs : List Int} {f : Nat → Bool} {n : Nat} {m : Int} : trB bs f n m = true ↔ ∃ i, i < n ∧ f i = true ∧ inS m (pc bs i) = true := by
  unfold trB
  rw [List.any_eq_true]
  constructor
  · rintro ⟨i, hi, h⟩
    rw [Bool.and_eq_true] at h
    exact ⟨i, List.mem_range.mp hi, h.1, h.2⟩
  · rintro ⟨i, hi, h1, h2⟩
    exact ⟨i, List.mem_range.mpr hi, by rw [h1, h2]; rfl⟩
end Wk
set_option maxHeartbeats 1000000
namespace K68
open PySem L2 Wk
def top (i : Nat) : Stmt := PySem.Challenge.pw_joinedever_k68_first_and_last.main.body.getD i (.Pass ⟨0, 0, 0, 0⟩)
abbrev sLesser : Stmt := top 1
abbrev sCommon : Stmt := top 2
abbrev sOther : Stmt := top 3
abbrev sJoint : Stmt := top 4
abbrev sDeedsBy : Stmt := top 6
abbrev sStandB : Stmt := top 7
abbrev sStretches : Stmt := top 8
abbrev sWhere : Stmt := top 9
abbrev sBeside : Stmt := top 11
abbrev sWays : Stmt := top 12
abbrev sPart : Stmt := top 13
abbrev sJoined : Stmt := top 14
abbrev sJoinedS : Stmt := top 16
abbrev sFirst : Stmt := top 17
abbrev sLastJ : Stmt := top 18
abbrev sDeck : Stmt := top 20
abbrev sMixed : Stmt := top 21
abbrev sDraw : Stmt := top 22
abbrev sWord : Stmt := top 23
abbrev sNames : Stmt := top 24
abbrev sMoment : Stmt := top 25
abbrev sEnds : Stmt := top 26
abbrev sWeight : Stmt := top 27
abbrev sHistory : Stmt := top 28
abbrev sSame : Stmt := top 29
abbrev sLPart : Stmt := top 30
abbrev sLStandAt : Stmt := top 31
abbrev sLStr : Stmt := top 32
abbrev sLaid : Stmt := top 33
abbrev sLSpans : Stmt := top 34
abbrev sLPairs : Stmt := top 35
abbrev sEndsOf : Stmt := top 36
abbrev sLLast : Stmt := top 37
abbrev sLaw : Stmt := top 38
structure Txt (mg : Str → Option Value) : Prop where
  isinstance : mg "isinstance" = none
  int : mg "int" = none
  bool : mg "bool" = none
  tuple : mg "tuple" = none
  len : mg "len" = none
  range : mg "range" = none
  sum : mg "sum" = none
  str : mg "str" = none
  max : mg "max" = none
  min : mg "min" = none
  all : mg "all" = none
  zip : mg "zip" = none
  sorted : mg "sorted" = none
  list : mg "list" = none
  set : mg "set" = none
theorem cut_ints {ns : List Int} {lo hi : Option Int} : ∃ ms : List Int, cutV (ns.map V.int) lo hi = ms.map V.int ∧ ms.length ≤ ns.length := by
  unfold cutV
  rw [List.length_map]
  exact ⟨_, by rw [← List.map_drop, ← List.map_take], by simp; omega⟩
def kd (c : Addr) (S k : Int) : List (Key × V) := [(.inr "cells", .ref c), (.inr "sum", .int S), (.inr "count", .int k)]
theorem kd_c (c : Addr) (S k : Int) : valV (kd c S k) (.inr "cells") = some (.ref c) := by
  unfold kd
  rfl
theorem kd_s (c : Addr) (S k : Int) : valV (kd c S k) (.inr "sum") = some (.int S) := by
  unfold kd
  rfl
theorem kd_k (c : Addr) (S k : Int) : valV (kd c S k) (.inr "count") = some (.int k) := by
  unfold kd
  rfl
theorem kd_put (c : Addr) (S k z : Int) : putK (kd c S k) (.inr "count") (.int z) = kd c S z := by
  unfold kd
  rfl
theorem kd_new (c : Addr) (S k : Int) : mergeK [] [(.inr "cells", .ref c), (.inr "sum", .int S), (.inr "count", .int k)] = kd c S k := by
  unfold kd
  rfl
def DeckAt (H : Hp) (d c : Addr) : Prop := ∃ (cs : List Int) (S k : Int), H d = some (.dK (kd c S k)) ∧ H c = some (.lst (cs.map V.int)) ∧ cs.length ≤ 63 ∧ d ≠ c
def But (d c : Addr) (H H' : Hp) : Prop := ∀ b o, H b = some o → b ≠ d → b ≠ c → H' b = some o
theorem But.trans {d c : Addr} {H H1 H2 : Hp} (h : But d c H H1) (h' : But d c H1 H2) : But d c H H2 := fun b o e n1 n2 => h' b o (h b o e n1 n2) n1 n2
theorem But.tup {d c : Addr} {H H' : Hp} (h : But d c H H') (D : DeckAt H d c) {b : Addr} {xs : List V} (e : H b = some (.tup xs)) : H' b = some (.tup xs) := by
  obtain ⟨_, _, _, h1, h2, _⟩ := D
  exact h b _ e (fun z => by rw [z, h1] at e; cases e) fun z => by rw [z, h2] at e; cases e
theorem DeckAt.same {H H' : Hp} {d c : Addr} (h : DeckAt H d c) (s : Same H H') : DeckAt H' d c := by
  obtain ⟨cs, S, k, h1, h2, r⟩ := h
  exact ⟨cs, S, k, s _ _ h1, s _ _ h2, r⟩
theorem DeckAt.nd {H : Hp} {d c b : Addr} (h : DeckAt H d c) (e : H b = none) : b ≠ d := by
  obtain ⟨_, _, _, h1, _⟩ := h
  exact (ne_of_none h1 e).symm
theorem DeckAt.nc {H : Hp} {d c b : Addr} (h : DeckAt H d c) (e : H b = none) : b ≠ c := by
  obtain ⟨_, _, _, _, h2, _⟩ := h
  exact (ne_of_none h2 e).symm
inductive SpDeckP (K : PySem.W.Frag) (vs : List V) (H : Hp) (Q : VK) (u_3 : XK) : Prop
  | mk (s : Addr) (ns : List Int) : (vs = [.ref s]) → (SqL K H s (ns.map V.int)) → (ns.length ≤ 63) → (∀ (d c : Addr) (H' : Hp), Same H H' → DeckAt H' d c → Q (.ref d) H') → SpDeckP K vs H Q u_3
def spDeck (K : PySem.W.Frag) : Sp := fun vs H Q u_3 => SpDeckP K vs H Q u_3
inductive SpMixedP (vs : List V) (H : Hp) (Q : VK) (u_3 : XK) : Prop
  | mk (c k : Int) : (vs = [.int c, .int k]) → (∀ v, Q (.int v) H) → SpMixedP vs H Q u_3
def spMixed : Sp := fun vs H Q u_3 => SpMixedP vs H Q u_3
inductive SpDrawP (vs : List V) (H : Hp) (Q : VK) (u_3 : XK) : Prop
  | mk (d c : Addr) (m : Int) : (vs = [.ref d, .int m]) → (DeckAt H d c) → (0 < m) → (m < 1073741824) → (∀ (v : Int) (H' : Hp), 0 ≤ v → v < m → But d c H H' → DeckAt H' d c → Q (.int v) H') → SpDrawP vs H Q u_3
def spDraw : Sp := fun vs H Q u_3 => SpDrawP vs H Q u_3
section
variable {P : Program} {w : World} {K : PySem.W.Frag} {mg : Str → Option Value} {base : Heap}
theorem scDeck : FnScope ["_law_script", "_law_cells"] ["_law_script"] (defScope sDeck) := ⟨rfl, rfl, rfl, by decide +kernel, rfl, by decide +kernel, by decide +kernel⟩
theorem ok_Deck {f : Addr} {fd : FuncData} (F : Fun K "_law_deck" "_law_deck" sDeck f fd) (T : Txt mg) :
    FnOk P w K mg base CX0 1 f fd ["_law_script"] (spDeck K) := by
  refine F.ok scDeck (fun vs H Q E h => ?_) (fun cdv A outer s H vs Q E hr h => ?_)
  · obtain ⟨_, _, rfl, _⟩ := h; rfl
  · obtain ⟨s, ns, rfl, hS, hl, k⟩ := h
    refine ⟨_, pss_cons (ps_set (i := 1) scDeck.nd rfl (Or.inl rfl) (pe_callTy call_list_of (by rfl) T.list (by decide +kernel) (pa_cons (pe_slice sl_list (pv 0) po_none (po_some pe_int)) pa_nil)))
      (pss_one (ps_ret (pe_disp (pps_cons pe_str (pv 1) (pps_cons pe_str (pe_op op_add (pe_op op_mod (pe_callB (call_sum rfl) (by rfl) T.sum PyProof.Rows.boot_sum (pa_cons (pv 1) pa_nil)) pe_int) (pe_callB call_len_seq (by rfl) T.len PySem.boot_len (pa_cons (pv 1) pa_nil))) (pps_cons pe_str pe_int pps_nil))) rfl rfl (by simp) (by simp)))), ?_⟩
    dsimp only [cxOf, Cx.nox]
    refine seqL1 ?_
    intro R1_
    obtain ⟨ms, em, lm⟩ := cut_ints (ns := ns) (lo := none) (hi := some 63)
    refine ⟨_, rfl, _, rfl, s, _, rfl, hS, fun q hq => ?_⟩
    rw [em]
    have s1 := same_new (o := .lst (ms.map V.int)) hq
    have q1 := upd_same (H := H) (a := q) (o := .lst (ms.map V.int))
    generalize upd H q (.lst (ms.map V.int)) = H1 at s1 q1
    refine ⟨q, _, rfl, .inl (SqL.of q1), fun c hc => ?_⟩
    have s2 := same_new (o := .lst (ms.map V.int)) hc
    have c2 := upd_same (H := H1) (a := c) (o := .lst (ms.map V.int))
    generalize upd H1 c (.lst (ms.map V.int)) = H2 at s2 c2
    refine fun d hd => ?_
    have s3 := same_new (o := .dK []) hd
    have d3 := upd_same (H := H2) (a := d) (o := .dK [])
    have dc : d ≠ c := (ne_of_none c2 hd).symm
    generalize upd H2 d (.dK []) = H3 at s3 d3
    have c3 := s3 _ _ c2
    refine ⟨_, rfl, _, rfl, c, ms, rfl, SqL.of c3, _, _, rfl, rfl, (show (0 : Int) < 2147483629 by decide), _, rfl, c, _, rfl, .inl (SqL.of c3), _, _, rfl, rfl, d3, [(.inr "cells", .ref c), (.inr "sum", _), (.inr "count", .int 0)], rfl, by simp, ?_⟩
    rw [kd_new]
    refine k d c _ (fun b o e => ?_) ⟨ms, _, 0, upd_same, by rw [upd_ne dc.symm]; exact c3, by omega, dc⟩
    rw [upd_ne (ne_of_none (s2 _ _ (s1 _ _ e)) hd)]
    exact s3 _ _ (s2 _ _ (s1 _ _ e))
theorem scMixed : FnScope ["_law_cell", "_law_k", "_law_number", "_law_other"] ["_law_cell", "_law_k"] (defScope sMixed) := ⟨rfl, rfl, rfl, by decide +kernel, rfl, by decide +kernel, by decide +kernel⟩
theorem ok_Mixed {f : Addr} {fd : FuncData} (F : Fun K "_law_mixed" "_law_mixed" sMixed f fd) (T : Txt mg) :
    FnOk P w K mg base CX0 1 f fd ["_law_cell", "_law_k"] spMixed := by
  refine F.ok scMixed (fun vs H Q E h => ?_) (fun cdv A outer s H vs Q E hr h => ?_)
  · obtain ⟨_, _, rfl, _⟩ := h; rfl
  · obtain ⟨c, k0, rfl, k⟩ := h
    refine ⟨_, pss_cons (ps_set (i := 2) scMixed.nd rfl (Or.inl rfl) (pe_op op_mod (pe_op op_add (pe_op op_add (pe_op op_mul (pe_op op_mod (pv 0) pe_int) pe_int) (pe_op op_mul pe_int (pv 1))) pe_int) pe_int))
      (pss_cons (ps_set (i := 2) scMixed.nd rfl (Or.inl rfl) (pe_op op_mod (pe_op op_mul (pv 2) (pv 2)) pe_int))
      (pss_cons (ps_set (i := 3) scMixed.nd rfl (Or.inl rfl) (pe_op op_mod (pe_op op_add (pe_op op_add (pe_op op_mul (pv 2) pe_int) (pe_op op_mul pe_int (pv 1))) pe_int) pe_int))
      (pss_one (ps_ret (pe_op op_add (pe_op op_fdiv (pv 2) pe_int) (pe_op op_mul pe_int (pe_op op_fdiv (pv 3) pe_int))))))), ?_⟩
    try dsimp only [cxOf, Cx.nox]
    refine seqL3 ?_
    intro R3_ R2_ R1_
    refine ⟨_, rfl, _, _, rfl, rfl, (show (0 : Int) < 2147483647 by decide), _, _, rfl, rfl, .inr ⟨by decide, by decide⟩, _, rfl, _, _, rfl, rfl, .inl ⟨by decide, by decide⟩, _, _, rfl, rfl, _, _, rfl, rfl, _, _, rfl, rfl, (show (0 : Int) < 2147483629 by decide), ?_⟩
    dsimp only
    generalize c % 2147483647 * 48271 + 69621 * k0 + 7919 = z1
    have y0 := Int.emod_nonneg z1 (show (2147483629 : Int) ≠ 0 by decide)
    have y1 := Int.emod_lt_of_pos z1 (show (0 : Int) < 2147483629 by decide)
    generalize z1 % 2147483629 = z2 at y0 y1
    refine ⟨_, rfl, _, rfl, _, _, rfl, rfl, .inl ⟨by omega, by omega⟩, _, _, rfl, rfl, (show (0 : Int) < 2147483587 by decide), ?_⟩
    dsimp only
    generalize z2 * z2 % 2147483587 = z3
    refine ⟨_, rfl, _, _, rfl, rfl, .inr ⟨by decide, by decide⟩, _, rfl, _, _, rfl, rfl, .inl ⟨by decide, by decide⟩, _, _, rfl, rfl, _, _, rfl, rfl, _, _, rfl, rfl, (show (0 : Int) < 2147483579 by decide), ?_⟩
    refine ⟨_, rfl, _, _, rfl, rfl, ⟨by decide, by decide⟩, _, rfl, _, _, rfl, rfl, ⟨by decide, by decide⟩, _, _, rfl, rfl, .inl ⟨by decide, by decide⟩, _, _, rfl, rfl, k _⟩
theorem scDraw : FnScope ["_law_deck_here", "_law_most", "_law_cells", "_law_cell"] ["_law_deck_here", "_law_most"] (defScope sDraw) := ⟨rfl, rfl, rfl, by decide +kernel, rfl, by decide +kernel, by decide +kernel⟩
theorem ok_Draw {f : Addr} {fd : FuncData} (F : Fun K "_law_draw" "_law_draw" sDraw f fd) (T : Txt mg)
    {gMixed : Addr} {fMixed : FuncData} (kMixed : PySem.W.keepIn K (.ref gMixed) = true) (bMixed : Binds K fMixed ["_law_cell", "_law_k"] []) (hMixed : mg "_law_mixed" = some (.ref gMixed)) (GMixed : FnOk P w K mg base CX0 1 gMixed fMixed ["_law_cell", "_law_k"] spMixed) :
    FnOk P w K mg base CX0 2 f fd ["_law_deck_here", "_law_most"] spDraw := by
  refine F.ok scDraw (fun vs H Q E h => ?_) (fun cdv A outer s H vs Q E hr h => ?_)
  · obtain ⟨_, _, _, rfl, _⟩ := h; rfl
  · obtain ⟨d, c, m, rfl, ⟨cs, S, k0, hd, hc, cl, ndc⟩, m0, m1, k⟩ := h
    refine ⟨_, pss_cons (ps_dput (hu_of hr) (pv 0) pe_str (pe_op op_add (pe_dget (hu_of hr) (pv 0) pe_str (fun _ _ => rfl)) pe_int) rfl)
      (pss_cons (ps_set (i := 2) scDraw.nd rfl (Or.inl rfl) (pe_dget (hu_of hr) (pv 0) pe_str (fun _ _ => rfl)))
      (pss_cons (ps_set (i := 3) scDraw.nd rfl (Or.inl rfl) (pe_dget (hu_of hr) (pv 0) pe_str (fun _ _ => rfl)))
      (pss_cons (ps_if (pt_cmpR (op_neNil hr.units) (pv 2) (pe_lst pa_nil) (nomark _)) (pss_cons (ps_set (i := 3) scDraw.nd rfl (Or.inl rfl) (pe_bm PySem.F.plainAttrs_list PySem.F.slot_list_pop PySem.F.type_list_pop mt_popAt (pv 2) (pa_cons pe_int pa_nil)))
      (pss_one (ps_if (pt_cmpR op_ge (pv 3) (pe_op op_pow pe_int pe_int) (nomark _)) (pss_cons (ps_expr (pe_bm PySem.F.plainAttrs_list PySem.F.slot_list_insert PySem.F.type_list_insert mt_insert0 (pv 2) (pa_cons pe_int (pa_cons (pe_op op_fdiv (pv 3) (pv 1)) pa_nil))))
      (pss_one (ps_ret (pe_op op_mod (pv 3) (pv 1))))) pss_nil))) pss_nil)
      (pss_one (ps_ret (pe_op op_mod (pe_call GMixed hr rfl hMixed kMixed bMixed .nil pass0 (pa_cons (pv 3) (pa_cons (pe_dget (hu_of hr) (pv 0) pe_str (fun _ _ => rfl)) pa_nil))) (pv 1))))))), ?_⟩
    dsimp only [cxOf, Cx.nox]
    refine seqL4 ?_
    intro R4_ R3_ R2_ R1_
    refine ⟨_, rfl, d, _, rfl, kd_k c S k0 ▸ DGet.k (k := .inr "count") hd, _, _, rfl, rfl, _, rfl, d, _, rfl, .inl ⟨_, .inr "count", hd, rfl, small1000 (by simp [kd]), rfl⟩, ?_⟩
    rw [kd_put]
    have d1 := upd_same (H := H) (a := d) (o := .dK (kd c S (k0 + 1)))
    have c1 : upd H d (.dK (kd c S (k0 + 1))) c = some (.lst (cs.map V.int)) := by rw [upd_ne ndc.symm]; exact hc
    have b1 : But d c H (upd H d (.dK (kd c S (k0 + 1)))) := fun b o e n1 n2 => by rw [upd_ne n1]; exact e
    generalize upd H d (.dK (kd c S (k0 + 1))) = H1 at d1 c1 b1
    refine ⟨_, rfl, d, _, rfl, kd_c c S (k0 + 1) ▸ DGet.k (k := .inr "cells") d1, ?_⟩
    refine ⟨_, rfl, d, _, rfl, kd_s c S (k0 + 1) ▸ DGet.k (k := .inr "sum") d1, ?_⟩
    refine ⟨_, rfl, small (by simp), fun q hq => ?_⟩
    have s2 := same_new (o := .lst []) hq
    have q2 := upd_same (H := H1) (a := q) (o := .lst [])
    generalize upd H1 q (.lst []) = H2 at s2 q2
    have d2 := s2 _ _ d1
    have c2 := s2 _ _ c1
    have b2 : But d c H H2 := fun b o e n1 n2 => s2 _ _ (b1 b o e n1 n2)
    refine ⟨c, q, cs.map V.int, rfl, rfl, SqL.of c2, SqL.of q2, _, rfl, ?_⟩
    have last : ∀ (v : Int) (H' : Hp), But d c H H' → (∃ (cs : List Int) (S k : Int), H' d = some (.dK (kd c S k)) ∧ H' c = some (.lst (cs.map V.int)) ∧ cs.length ≤ 63 ∧ d ≠ c) → Q (.int (v % m)) H' := fun v H' b e => k _ _ (Int.emod_nonneg _ (by omega)) (Int.emod_lt_of_pos _ m0) b e
    cases cs with
    | nil =>
      refine iteF ?_
      exact ⟨_, rfl, _, rfl, d, _, rfl, kd_k c S (k0 + 1) ▸ DGet.k (k := .inr "count") d2, _, _, rfl, fun v => ⟨_, rfl, _, _, rfl, rfl, m0, last v _ b2 ⟨[], _, _, d2, c2, by simp, ndc⟩⟩⟩
    | cons x cs =>
      refine iteT ?_
      have lc : cs.length ≤ 62 := by simp only [List.length_cons] at cl; omega
      refine ⟨_, rfl, .inl ⟨rfl, _, SqL.of c2⟩, c, _, 0, 0, .int x, rfl, rfl, c2, by decide, by decide, by simp [seqIndex?], rfl, ?_⟩
      generalize hH3 : upd H2 c _ = H3
      have c3 : H3 c = some (.lst (cs.map V.int)) := by rw [← hH3]; exact upd_same
      have d3 : H3 d = some (.dK (kd c S (k0 + 1))) := by rw [← hH3, upd_ne ndc]; exact d2
      have b3 : But d c H H3 := fun b o e n1 n2 => by rw [← hH3, upd_ne n2]; exact b2 b o e n1 n2
      clear hH3
      refine ⟨_, rfl, _, _, rfl, rfl, ⟨by decide, by decide, by decide⟩, _, _, rfl, rfl, _, rfl, ite2 (fun g => ?_) fun g => ?_⟩
      · refine ⟨_, rfl, .inl ⟨rfl, _, SqL.of c3⟩, _, rfl, _, rfl, _, _, rfl, rfl, ⟨m0, by omega⟩, c, _, _, rfl, rfl, c3, small1000 (by simp; omega), ?_⟩
        exact ⟨_, rfl, _, rfl, _, _, rfl, rfl, m0, last x _ (fun b o e n1 n2 => by rw [upd_ne n2]; exact b3 b o e n1 n2) ⟨(x / m) :: cs, _, _, by rw [upd_ne ndc]; exact d3, upd_same, by simp; omega, ndc⟩⟩
      · dsimp only [tNext]
        exact ⟨_, rfl, _, rfl, d, _, rfl, kd_k c S (k0 + 1) ▸ DGet.k (k := .inr "count") d3, _, _, rfl, fun v => ⟨_, rfl, _, _, rfl, rfl, m0, last v _ b3 ⟨cs, _, _, d3, c3, by omega, ndc⟩⟩⟩
end
end K68
set_option maxHeartbeats 1000000
namespace K68
open PySem L2 Wk
abbrev LS : Str := Str.ofString "abcdefghijklmnopqrstuvwxyz"
theorem LS_eq : LS.cps.toList = (List.range 26).map (97 + ·) := by decide +kernel
theorem LS_at {v : Int} (h0 : 0 ≤ v) (h1 : v < 26) : atI LS.cps.toList v = some (97 + v.toNat) := by
  obtain ⟨j, rfl⟩ : ∃ j : Nat, v = (j : Int) := ⟨v.toNat, by omega⟩
  have hj : j < 26 := by omega
  refine atI_nat ?_
  rw [LS_eq, List.getElem?_map, List.getElem?_range hj]
  rfl
theorem occ_all : ∀ j, j < 26 → ∃ rest, Builtin.Str.occurrences LS ⟨#[97 + j]⟩ 0 LS.length 1 = j :: rest := by
  intro j hj
  have : ∀ j : Fin 26, (Builtin.Str.occurrences LS ⟨#[97 + j.1]⟩ 0 LS.length 1).head? = some j.1 := by decide +kernel
  have h := this ⟨j, hj⟩
  cases e : Builtin.Str.occurrences LS ⟨#[97 + j]⟩ 0 LS.length 1 with
  | nil => rw [e] at h; cases h
  | cons x r =>
    rw [e] at h
    have : x = j := by simpa using h
    subst this
    exact ⟨r, rfl⟩
theorem ext_cps {x y : Str} (h : x.cps.toList = y.cps.toList) : x = y := by
  obtain ⟨a⟩ := x
  obtain ⟨b⟩ := y
  have : a = b := by simpa using h
  rw [this]
theorem cat_cps (x y : Str) : (x ++ y).cps.toList = x.cps.toList ++ y.cps.toList := by
  show (x.cps ++ y.cps).toList = _
  rw [Array.toList_append]
theorem cat_len (x y : Str) : (x ++ y).length = x.length + y.length := by
  show (x.cps ++ y.cps).size = _
  rw [Array.size_append]; rfl
theorem join_cps : ∀ ws : List Nat, (Txt.join (Str.ofString "") (ws.map fun c => (⟨#[c]⟩ : Str))).cps.toList = ws := by
  have key : ∀ ws : List Nat, (Str.join (Str.ofString "") (ws.map fun c => (⟨#[c]⟩ : Str))).cps.toList = ws := by
    intro ws
    induction ws with
    | nil => rfl
    | cons c ws ih =>
      cases ws with
      | nil => rfl
      | cons d ws =>
        simp only [List.map_cons] at ih ⊢
        rw [Str.join, cat_cps, cat_cps, ih]
        · rfl
        · intro q; cases q
  intro ws
  show (Builtin.Str.glued _ _).cps.toList = _
  rw [StrLaws.glued_eq_join]
  exact key ws
theorem len_toList (z : Str) : z.length = z.cps.toList.length := by simp [Str.length]
theorem DeckAt.ne {H : Hp} {a c b : Addr} (h : DeckAt H a c) (hb : H b = none) : b ≠ a ∧ b ≠ c := ⟨h.nd hb, h.nc hb⟩
theorem DeckAt.upd {H : Hp} {a c b : Addr} {o : HO} (h : DeckAt H a c) (n : b ≠ a ∧ b ≠ c) : DeckAt (upd H b o) a c := by
  obtain ⟨cs, S, k, h1, h2, r⟩ := h
  exact ⟨cs, S, k, by rw [upd_ne n.1.symm]; exact h1, by rw [upd_ne n.2.symm]; exact h2, r⟩
theorem But.of {a c : Addr} {H H' : Hp} (s : Same H H') : But a c H H' := fun b o e _ _ => s b o e
theorem But.set {a c : Addr} {H H1 : Hp} {b : Addr} {o : HO} (h : But a c H H1) (hb : H b = none) : But a c H (upd H1 b o) := fun x u e n m => by
  rw [upd_ne (ne_of_none e hb)]; exact h x u e n m
theorem But.none {a c : Addr} {H H' : Hp} {b : Addr} (h : But a c H H') (w : DeckAt H' a c) (hb : H' b = none) : H b = none := by
  cases e : H b with
  | none => rfl
  | some o =>
    have n := w.ne hb
    rw [h b o e n.1 n.2] at hb
    cases hb
def LW (z : Str) : Prop := ∀ x ∈ z.cps.toList, 97 ≤ x ∧ x < 123
inductive SpWordP (vs : List V) (H : Hp) (Q : VK) (u_3 : XK) : Prop
  | mk (a c : Addr) (n : Nat) : (vs = [.ref a, .int (n : Int)]) → (DeckAt H a c) → (n ≤ 8) → (∀ (z : Str) (H' : Hp), z.length = n → LW z → But a c H H' → DeckAt H' a c → Q (.str z) H') → SpWordP vs H Q u_3
def spWord : Sp := fun vs H Q u_3 => SpWordP vs H Q u_3
inductive SpNamesP (vs : List V) (H : Hp) (Q : VK) (u_3 : XK) : Prop
  | mk (a c : Addr) (N : Nat) : (vs = [.ref a, .int (N : Int)]) → (DeckAt H a c) → (N ≤ 60) → (∀ (l : Addr) (zs : List Str) (H' : Hp), But a c H H' → DeckAt H' a c → H' l = some (.lst (zs.map V.str)) → l ≠ a → l ≠ c → zs.length = N → Q (.ref l) H') → SpNamesP vs H Q u_3
def spNames : Sp := fun vs H Q u_3 => SpNamesP vs H Q u_3
theorem pigeon : ∀ (l m : List Str), l.Nodup → (∀ x ∈ l, x ∈ m) → l.length ≤ m.length
  | [], _, _, _ => Nat.zero_le _
  | x :: l, m, h, hs => by
    have hx : x ∈ m := hs x (.head _)
    have h' := List.nodup_cons.mp h
    have := pigeon l (m.erase x) h'.2 fun y hy => (List.mem_erase_of_ne (show y ≠ x from fun e => h'.1 (e ▸ hy))).mpr (hs y (.tail _ hy))
    rw [List.length_erase_of_mem hx] at this
    have : 0 < m.length := List.length_pos_of_mem hx
    simp only [List.length_cons]
    omega
def turnd (i0 j : Nat) (tl : List Nat) : Str := ⟨((97 + (i0 + j) % 26) :: tl).toArray⟩
theorem turnd_ne {i0 j k : Nat} {tl : List Nat} (h : j < k) (h2 : k - j < 26) : turnd i0 j tl ≠ turnd i0 k tl := by
  intro e
  have : ((97 + (i0 + j) % 26) :: tl) = ((97 + (i0 + k) % 26) :: tl) := by
    have := congrArg (fun z : Str => z.cps.toList) e
    simpa [turnd] using this
  have := (List.cons.inj this).1
  omega
theorem turnd_few {i0 j : Nat} {tl : List Nat} {zs : List Str} (hz : zs.length < 21) (h : ∀ k, k < j → turnd i0 k tl ∈ zs) : j < 26 := by
  rcases Nat.lt_or_ge j 26 with q | q
  · exact q
  · have := pigeon ((List.range 26).map fun k => turnd i0 k tl) zs (by
      rw [List.nodup_iff_pairwise_ne, List.pairwise_map]
      refine (List.pairwise_lt_range (n := 26)).imp_of_mem fun {a b} ha hb hab => turnd_ne hab ?_
      have := List.mem_range.mp hb
      clear hz q; omega) fun x hx => by
        obtain ⟨k, hk, rfl⟩ := List.mem_map.mp hx
        have := List.mem_range.mp hk
        exact h k (by exact Nat.le_trans (by assumption) (by assumption))
    simp at this
    omega
theorem word_head {z : Str} (h : LW z) (hl : 0 < z.length) : ∃ (i0 : Nat) (tl : List Nat), i0 < 26 ∧ z = turnd i0 0 tl ∧ tl.length + 1 = z.length := by
  rw [len_toList] at hl ⊢
  cases e : z.cps.toList with
  | nil => rw [e] at hl; cases hl
  | cons x tl =>
    have := h x (by rw [e]; exact .head _)
    refine ⟨x - 97, tl, by omega, ext_cps ?_, rfl⟩
    rw [e]
    simp only [turnd, List.toList_toArray]
    congr 1
    clear hl; omega
theorem turnd_sl {i0 j : Nat} {tl : List Nat} : Txt.slice (turnd i0 j tl) (some 1) none = ⟨tl.toArray⟩ := by
  have := StrLaws.sliceText_from (x := turnd i0 j tl) (i := 1) ⟨by decide, by simp [turnd]; omega⟩
  refine Eq.trans (show Txt.slice (turnd i0 j tl) (some 1) none = StrLaws.sliceText (turnd i0 j tl) (some 1) none from rfl) (this.trans ?_)
  simp [turnd]
theorem inV_strs (x : Str) (zs : List Str) : inV (.str x) (zs.map V.str) = decide (x ∈ zs) := by
  unfold inV
  rw [List.any_map]
  by_cases h : x ∈ zs
  · rw [decide_eq_true h, List.any_eq_true]
    exact ⟨x, h, by simp [eqV]⟩
  · rw [decide_eq_false h, List.any_eq_false]
    intro y hy e
    have : y = x := by simpa [eqV] using e
    exact h (this ▸ hy)
theorem flat_strs (zs : List Str) : (zs.map V.str).all flatV = true := by simp [flatV]
def tTailN : TS := fun D σ H => ∃ (a c : Addr) (N : Nat) (way : Int), σ = [some (.ref a), some (.int (N : Int)), some (.str LS), some (.int way), none, none, none, none, none, none, none, none] ∧ DeckAt H a c ∧ N ≤ 60 ∧
  ∀ (l : Addr) (zs : List Str) (H' : Hp), But a c H H' → DeckAt H' a c → H' l = some (.lst (zs.map V.str)) → l ≠ a → l ≠ c → zs.length = N → D.rt (.ref l) H'
section
variable {P : Program} {w : World} {K : PySem.W.Frag} {mg : Str → Option Value} {base : Heap}
theorem scWord : FnScope ["_law_deck_here", "_law_size", "_law_letters"] ["_law_deck_here", "_law_size"] (defScope sWord) := ⟨rfl, rfl, rfl, by decide +kernel, rfl, by decide +kernel, by decide +kernel⟩
theorem ok_Word {f : Addr} {fd : FuncData} (F : Fun K "_law_word" "_law_word" sWord f fd) (T : Txt mg)
    {gDraw : Addr} {fDraw : FuncData} (kDraw : PySem.W.keepIn K (.ref gDraw) = true) (bDraw : Binds K fDraw ["_law_deck_here", "_law_most"] []) (hDraw : mg "_law_draw" = some (.ref gDraw)) (GDraw : FnOk P w K mg base CX0 2 gDraw fDraw ["_law_deck_here", "_law_most"] spDraw) :
    FnOk P w K mg base CX0 3 f fd ["_law_deck_here", "_law_size"] spWord := by
  refine F.ok scWord (fun vs H Q E h => ?_) (fun cdv A outer s H vs Q E hr h => ?_)
  · obtain ⟨_, _, _, rfl, _⟩ := h; rfl
  · obtain ⟨a, c, n, rfl, hw, hn, k⟩ := h
    refine ⟨_, pss_cons (ps_set (i := 2) scWord.nd rfl (Or.inr rfl) pe_str)
      (pss_one (ps_ret (pe_bm PySem.F.plainAttrs_str PySem.F.slot_str_join PySem.F.type_str_join mt_join pe_str (pa_cons (pe_comp (T := ["_law_k"]) (F := ["_law_letters", "_law_deck_here"]) (js := [2, 0]) (CS.to (osc := defScope sWord) ⟨by rfl, by decide +kernel, by decide +kernel, by decide +kernel, by decide +kernel, by decide +kernel, by decide +kernel⟩ rfl rfl) rfl (pi_range1 rfl T.range (pa_cons (pv 1) pa_nil)) (fun _ _ _ _ _ => pg_name (i := 0) (show (["_law_k", "_law_letters", "_law_deck_here"] : List Str).Nodup by decide +kernel) rfl (Or.inl rfl)) (fun _ _ _ _ _ => pif_nil) (fun _ _ _ _ _ => pe_ix ix_str (pv 1) (pe_call GDraw hr rfl hDraw kDraw bDraw .nil pass0 (pa_cons (pv 2) (pa_cons pe_int pa_nil))) (fun _ _ => rfl))) pa_nil)))), ?_⟩
    dsimp only [cxOf, Cx.nox]
    refine seqL1 ?_
    intro R1_
    refine ⟨rfl, _, rfl, (n : Int), rfl, by omega, by omega, fun D hD => comp_rangeL (lo := 0) (n := (n : Int).toNat) (fun j σ ys H2 => ∃ (u : Option V) (ws : List Nat), σ = [u, some (.str LS), some (.ref a)] ∧ But a c H H2 ∧ DeckAt H2 a c ∧ H2 D = some (.lst ys) ∧ ys = ws.map (fun c => V.str ⟨#[c]⟩) ∧ ws.length = j ∧ ∀ x ∈ ws, 97 ≤ x ∧ x < 123) ?_ (fun j σ ys H2 _ ⟨_, _, _, _, _, e, _⟩ => e) ?_ ?_⟩
    · exact ⟨none, [], rfl, But.of (same_new hD), hw.upd (hw.ne hD), upd_same, rfl, rfl, by simp⟩
    · intro j σ ys H2 hj hI5_ E_
      refine hideG fun G_ hG_ => ?_
      obtain ⟨u, ws, rfl, b2, w2, e2, rfl, wl, wb⟩ := hI5_
      refine hG_ ?_
      refine ⟨_, rfl, _, rfl, a, c, 26, rfl, w2, by decide, by decide, fun x H3 x0 x1 b3 w3 => ?_⟩
      have e3 := b3 _ _ e2 (hw.ne hD).1 (hw.ne hD).2
      refine ⟨_, x, _, rfl, rfl, small (by decide +kernel), LS_at x0 x1, e3, small1000 (by simp; omega), _, ws ++ [97 + x.toNat], rfl, (b2.trans b3).set hD, w3.upd (hw.ne hD), upd_same, by simp, by simp [wl], fun y hy => ?_⟩
      rcases List.mem_append.mp hy with q | q
      · exact wb y q
      · have := List.mem_singleton.mp q
        clear hn hj wl; omega
    intro σ ys H2 hI3_
    refine hideG fun G_ hG_ => ?_
    obtain ⟨u, ws, rfl, b2, w2, e2, rfl, wl, wb⟩ := hI3_
    have hz := join_cps ws
    have ez : (ws.map fun c => V.str ⟨#[c]⟩) = ((ws.map fun c => (⟨#[c]⟩ : Str)).map V.str) := by rw [List.map_map]; rfl
    refine hG_ ?_
    refine ⟨_, D, _, rfl, rfl, SqL.of (by rw [← ez]; exact e2), ?_, ?_⟩
    · have : ∀ ws : List Nat, ((ws.map fun c => (⟨#[c]⟩ : Str)).map (·.length)).sum = ws.length := by
        intro ws
        induction ws with
        | nil => rfl
        | cons c ws ih => simp only [List.map_cons, List.sum_cons, List.length_cons, ih]; show 1 + ws.length = _; clear wl; omega
      rw [this, List.length_map]; show _ + _ * 0 ≤ _; omega
    generalize Txt.join (Str.ofString "") (ws.map fun c => (⟨#[c]⟩ : Str)) = z at hz
    exact k z H2 (by rw [len_toList, hz, wl]; omega) (by unfold LW; rw [hz]; exact wb) b2 w2
theorem scNames : FnScope ["_law_deck_here", "_law_many", "_law_letters", "_law_way", "_law_word_here", "_law_names_here", "_law_k", "_law_name", "_law_first", "_law_other", "_law_found", "_law_sign"] ["_law_deck_here", "_law_many"] (defScope sNames) := ⟨rfl, rfl, rfl, by decide +kernel, rfl, by decide +kernel, by decide +kernel⟩
theorem ok_Names {f : Addr} {fd : FuncData} (F : Fun K "_law_names" "_law_names" sNames f fd) (T : Txt mg)
    {gDraw : Addr} {fDraw : FuncData} (kDraw : PySem.W.keepIn K (.ref gDraw) = true) (bDraw : Binds K fDraw ["_law_deck_here", "_law_most"] []) (hDraw : mg "_law_draw" = some (.ref gDraw)) (GDraw : FnOk P w K mg base CX0 3 gDraw fDraw ["_law_deck_here", "_law_most"] spDraw)
    {gWord : Addr} {fWord : FuncData} (kWord : PySem.W.keepIn K (.ref gWord) = true) (bWord : Binds K fWord ["_law_deck_here", "_law_size"] []) (hWord : mg "_law_word" = some (.ref gWord)) (GWord : FnOk P w K mg base CX0 3 gWord fWord ["_law_deck_here", "_law_size"] spWord) :
    FnOk P w K mg base CX0 4 f fd ["_law_deck_here", "_law_many"] spNames := by
  refine F.ok scNames (fun vs H Q E h => ?_) (fun cdv A outer s H vs Q E hr h => ?_)
  · obtain ⟨_, _, _, rfl, _⟩ := h; rfl
  · obtain ⟨a, c, N, rfl, hw, hN, k⟩ := h
    refine ⟨_, pss_cons (ps_set (i := 2) scNames.nd rfl (Or.inl rfl) pe_str)
      (pss_cons (ps_set (i := 3) scNames.nd rfl (Or.inl rfl) (pe_call GDraw hr rfl hDraw kDraw bDraw .nil pass0 (pa_cons (pv 0) (pa_cons pe_int pa_nil))))
      (pss_cons (ps_if (PW.pt (pw_and (pt_cmpR op_eq (pv 3) pe_int (nomark _)) (pw_and1 (pt_cmpR op_lt (pv 1) pe_int (nomark _))))) (pss_cons (ps_set (i := 4) scNames.nd rfl (Or.inr rfl) (pe_call GWord hr rfl hWord kWord bWord .nil pass0 (pa_cons (pv 0) (pa_cons pe_int pa_nil))))
      (pss_one (ps_ret (pe_comp (T := ["_law_k"]) (F := ["_law_word_here"]) (js := [4]) (CS.to (osc := defScope sNames) ⟨by rfl, by decide +kernel, by decide +kernel, by decide +kernel, by decide +kernel, by decide +kernel, by decide +kernel⟩ rfl rfl) rfl (pi_range1 rfl T.range (pa_cons (pv 1) pa_nil)) (fun _ _ _ _ _ => pg_name (i := 0) (show (["_law_k", "_law_word_here"] : List Str).Nodup by decide +kernel) rfl (Or.inl rfl)) (fun _ _ _ _ _ => pif_nil) (fun _ _ _ _ _ => pe_slice sl_str (pv 1) po_none (po_some (pe_op op_add (pv 0) pe_int))))))) pss_nil)
      (PSs.imp' (t' := tTailN) (pss_cons (ps_if (PW.pt (pw_and (pt_cmpR op_eq (pv 3) pe_int (nomark _)) (pw_and1 (pt_cmpR op_lt (pv 1) pe_int (nomark _))))) (pss_cons (ps_set (i := 5) scNames.nd rfl (Or.inl rfl) (pe_lst pa_nil))
      (pss_cons (ps_for PassesOwn.never rfl (pi_range1 rfl T.range (pa_cons (pv 1) pa_nil)) (pg_name (i := 6) scNames.nd rfl (Or.inl rfl)) (pss_cons (ps_set (i := 7) scNames.nd rfl (Or.inl rfl) (pe_call GWord hr rfl hWord kWord bWord .nil pass0 (pa_cons (pv 0) (pa_cons (pe_op op_add pe_int (pe_call GDraw hr rfl hDraw kDraw bDraw .nil pass0 (pa_cons (pv 0) (pa_cons pe_int pa_nil)))) pa_nil))))
      (pss_cons (ps_while PassesOwn.never (pt_cmpR op_in_seq (pv 7) (pv 5) (by rfl)) (pss_one (ps_set (i := 7) scNames.nd rfl (Or.inl rfl) (pe_op op_add_str (pe_ix ix_str (pv 2) (pe_op op_mod (pe_op op_add (pe_bm PySem.F.plainAttrs_str PySem.F.slot_str_index PySem.F.type_str_index mt_indexS (pv 2) (pa_cons (pe_ix ix_str (pv 7) pe_int (fun _ _ => rfl)) pa_nil)) pe_int) pe_int) (fun _ _ => rfl)) (pe_slice sl_str (pv 7) (po_some pe_int) po_none)))))
      (pss_one (ps_expr (pe_bm PySem.F.plainAttrs_list PySem.F.slot_list_append PySem.F.type_list_append mt_append (pv 5) (pa_cons (pv 7) pa_nil)))))))
      (pss_one (ps_ret (pv 5))))) pss_nil)
      (PSs.imp' (t' := tTailN) (pss_cons (ps_set (i := 4) scNames.nd rfl (Or.inr rfl) (pe_call GWord hr rfl hWord kWord bWord .nil pass0 (pa_cons (pv 0) (pa_cons (pe_call GDraw hr rfl hDraw kDraw bDraw .nil pass0 (pa_cons (pv 0) (pa_cons pe_int pa_nil))) pa_nil))))
      (pss_cons (ps_set (i := 8) scNames.nd rfl (Or.inl rfl) (pe_call GDraw hr rfl hDraw kDraw bDraw .nil pass0 (pa_cons (pv 0) (pa_cons pe_int pa_nil))))
      (pss_cons (ps_set (i := 9) scNames.nd rfl (Or.inl rfl) (pe_call GDraw hr rfl hDraw kDraw bDraw .nil pass0 (pa_cons (pv 0) (pa_cons pe_int pa_nil))))
      (pss_cons (ps_set (i := 10) scNames.nd rfl (Or.inl rfl) (pe_lst pa_nil))
      (pss_cons (ps_for PassesOwn.never rfl (pi_range1 rfl T.range (pa_cons (pv 1) pa_nil)) (pg_name (i := 6) scNames.nd rfl (Or.inl rfl)) (pss_cons (ps_set (i := 11) scNames.nd rfl (Or.inl rfl) (pe_ix ix_str (pv 2) (pe_op op_mod (pe_op op_add (pv 8) (pv 6)) pe_int) (fun _ _ => rfl)))
      (pss_one (ps_expr (pe_bm PySem.F.plainAttrs_list PySem.F.slot_list_append PySem.F.type_list_append mt_append (pv 10) (pa_cons (pe_op op_add_str (pe_op op_add_str (pv 4) (pv 11)) (pe_ix ix_str (pv 2) (pe_op op_mod (pe_op op_add (pv 9) (pe_op op_fdiv (pv 6) pe_int)) pe_int) (fun _ _ => rfl))) pa_nil))))))
      (pss_one (ps_ret (pv 10)))))))) ?tB)) ?tA))), ?_⟩
    case tB =>
      try dsimp only [cxOf, Cx.nox]
      clear k hw hN
      intro D σ H hI3_
      refine hideG fun G_ hG_ => ?_
      obtain ⟨a, c, N, way, rfl, hw, hN, k⟩ := hI3_
      refine hG_ ?_
      refine ⟨_, rfl, _, rfl, a, c, 7, rfl, hw, by decide, by decide, fun v H1 v0 v1 b1 w1 => ⟨a, c, v.toNat, by rw [Int.toNat_of_nonneg v0]; rfl, w1, by omega, fun z H2 zl zw b2 w2 => ?_⟩⟩
      refine ⟨_, rfl, a, c, 26, rfl, w2, by decide, by decide, fun fi H3 f0 f1 b3 w3 => ?_⟩
      refine ⟨_, rfl, a, c, 26, rfl, w3, by decide, by decide, fun ot H4 o0 o1 b4 w4 => ?_⟩
      refine ⟨small (by simp), fun l hl => ?_⟩
      have ln := w4.ne hl
      have B4 := ((b1.trans b2).trans b3).trans b4
      have lH := B4.none w4 hl
      refine ⟨_, rfl, (N : Int), rfl, by omega, by omega, for_rangeL (lo := 0) (n := (N : Int).toNat) (fun i σ H5 => ∃ (u7 u8 : Option V) (zs : List Str), σ = [some (.ref a), some (.int (N : Int)), some (.str LS), some (.int way), some (.str z), none, u7, none, some (.int fi), some (.int ot), some (.ref l), u8] ∧ But a c H H5 ∧ DeckAt H5 a c ∧ H5 l = some (.lst (zs.map V.str)) ∧ zs.length = i) ⟨none, none, [], rfl, B4.set lH, w4.upd ln, upd_same, rfl⟩ ?_ ?_⟩
      · intro i σ H5 hi hI4_ E_
        refine hideG fun G_ hG_ => ?_
        obtain ⟨u7, u8, zs, rfl, b5, w5, l5, zsl⟩ := hI4_
        have m0 := Int.emod_nonneg (fi + (0 + (i : Int))) (show (26 : Int) ≠ 0 by decide)
        have m1 := Int.emod_lt_of_pos (fi + (0 + (i : Int))) (show (0 : Int) < 26 by decide)
        have s0 := Int.emod_nonneg (ot + (0 + (i : Int)) / 26) (show (26 : Int) ≠ 0 by decide)
        have s1 := Int.emod_lt_of_pos (ot + (0 + (i : Int)) / 26) (show (0 : Int) < 26 by decide)
        refine hG_ ?_
        refine ⟨_, rfl, _, rfl, _, rfl, _, _, rfl, rfl, _, _, rfl, rfl, (by show (0 : Int) < 26; decide), LS, _, _, rfl, rfl, small (by decide +kernel), LS_at m0 m1, ?_⟩
        refine ⟨_, rfl, .inl ⟨rfl, _, SqL.of l5⟩, _, rfl, _, rfl, _, _, rfl, rfl, small (by rw [zl]; show _ + 1 ≤ _; clear hN zl; omega), _, rfl, _, rfl, _, rfl, _, _, rfl, rfl, ⟨by decide, by decide⟩, _, _, rfl, rfl, _, _, rfl, rfl, (by show (0 : Int) < 26; decide), LS, _, _, rfl, rfl, small (by decide +kernel), LS_at s0 s1, _, _, rfl, rfl, small (by rw [cat_len, zl]; show _ + 1 + 1 ≤ _; clear hN zl; omega), l, _, _, rfl, rfl, l5, small1000 (by simp; clear zl; omega), _, _, zs ++ [_], rfl, b5.set lH, w5.upd ln, by rw [upd_same, List.map_append]; rfl, by simp [zsl]⟩
      · intro σ H5 hI2_
        refine hideG fun G_ hG_ => ?_
        obtain ⟨u7, u8, zs, rfl, b5, w5, l5, zsl⟩ := hI2_
        refine hG_ ?_
        exact ⟨_, rfl, k l zs H5 b5 w5 l5 ln.1 ln.2 (by simpa using zsl)⟩
    case tA =>
      try dsimp only [cxOf, Cx.nox]
      clear k hw hN
      intro D σ H hI3_
      refine hideG fun G_ hG_ => ?_
      obtain ⟨a, c, N, way, rfl, hw, hN, k⟩ := hI3_
      refine hG_ ?_
      refine ⟨_, rfl, rfl, _, rfl, ite2 (fun g => ⟨_, rfl, _, _, rfl, rfl, _, rfl, ite2 (fun g2 => ?_) fun g2 => ?_⟩) fun g => iteF ?_⟩
      rotate_left
      · exact ⟨a, c, N, way, rfl, hw, hN, k⟩
      · exact ⟨a, c, N, way, rfl, hw, hN, k⟩
      have N21 : N < 21 := by have := of_decide_eq_true g2; omega
      refine ⟨small (by simp), fun l hl => ?_⟩
      have ln := hw.ne hl
      refine ⟨_, rfl, (N : Int), rfl, by omega, by omega, for_rangeL (lo := 0) (n := (N : Int).toNat) (fun i σ H5 => ∃ (u7 u8 : Option V) (zs : List Str), σ = [some (.ref a), some (.int (N : Int)), some (.str LS), some (.int way), none, some (.ref l), u7, u8, none, none, none, none] ∧ But a c H H5 ∧ DeckAt H5 a c ∧ H5 l = some (.lst (zs.map V.str)) ∧ zs.length = i) ⟨none, none, [], rfl, But.of (same_new hl), hw.upd ln, upd_same, rfl⟩ ?_ ?_⟩
      rotate_left
      · intro σ H5 hI2_
        refine hideG fun G_ hG_ => ?_
        obtain ⟨u7, u8, zs, rfl, b5, w5, l5, zsl⟩ := hI2_
        refine hG_ ?_
        exact ⟨_, rfl, k l zs H5 b5 w5 l5 ln.1 ln.2 (by simpa using zsl)⟩
      intro i σ H5 hi hI4_ E_
      refine hideG fun G_ hG_ => ?_
      obtain ⟨u7, u8, zs, rfl, b5, w5, l5, zsl⟩ := hI4_
      have i21 : i < 20 := by omega
      refine hG_ ?_
      refine ⟨_, rfl, _, rfl, a, c, 8, rfl, w5, by decide, by decide, fun v H6 v0 v1 b6 w6 => ⟨_, _, rfl, rfl, a, c, (1 + v).toNat, by rw [Int.toNat_of_nonneg (by clear hi zsl; omega)]; rfl, w6, by clear hi zsl; omega, fun z H7 zl zw b7 w7 => ?_⟩⟩
      obtain ⟨i0, tl, i26, rfl, tll⟩ := word_head zw (by clear hi zsl; omega)
      have l7 := b7 _ _ (b6 _ _ l5 ln.1 ln.2) ln.1 ln.2
      have B7 := (b5.trans b6).trans b7
      have tl8 : tl.length ≤ 8 := by clear hi zsl i26; omega
      clear zw zl tll b7 b6 w6 w5 l5 b5
      refine ⟨fun m σ H8 => ∃ j : Nat, m = 26 - j ∧ j < 26 ∧ σ = [some (.ref a), some (.int (N : Int)), some (.str LS), some (.int way), none, some (.ref l), some (.int (0 + (i : Int))), some (.str (turnd i0 j tl)), none, none, none, none] ∧ H8 = H7 ∧ ∀ k, k < j → turnd i0 k tl ∈ zs, ⟨26, 0, rfl, by decide, rfl, rfl, fun k h => absurd h (Nat.not_lt_zero _)⟩, ?_⟩
      intro m σ H8 hI3_
      refine hideG fun G_ hG_ => ?_
      obtain ⟨j, rfl, j26, rfl, rfl, hk⟩ := hI3_
      refine hG_ ?_
      refine ⟨_, rfl, _, rfl, l, _, rfl, .inl (SqL.of l7), rfl, flat_strs zs, _, rfl, ?_⟩
      rw [inV_strs]
      dsimp only
      refine ite2 (fun g => ?_) fun g => ?_
      · have g := of_decide_eq_true (by simpa using g)
        have hk' : ∀ k, k < j + 1 → turnd i0 k tl ∈ zs := fun k h => by
          rcases Nat.lt_or_ge k j with q | q
          · exact hk k q
          · rw [show k = j by clear hi zsl i26 tl8; omega]; exact g
        have j26' := turnd_few (by clear hi; omega) hk'
        refine ⟨fun σ H9 => σ = [some (.ref a), some (.int (N : Int)), some (.str LS), some (.int way), none, some (.ref l), some (.int (0 + (i : Int))), some (.str (turnd i0 (j + 1) tl)), none, none, none, none] ∧ H9 = H8, fun σ H9 ⟨e1, e2⟩ => ⟨26 - (j + 1), by clear hi zsl i26 tl8; omega, j + 1, rfl, j26', e1, e2, hk'⟩, ?_⟩
        have x26 : (i0 + j) % 26 < 26 := Nat.mod_lt _ (by decide)
        obtain ⟨rest, occ⟩ := occ_all ((i0 + j) % 26) x26
        have n0 := Int.emod_nonneg ((((i0 + j) % 26 : Nat) : Int) + 1) (show (26 : Int) ≠ 0 by decide)
        have n1 := Int.emod_lt_of_pos ((((i0 + j) % 26 : Nat) : Int) + 1) (show (0 : Int) < 26 by decide)
        refine ⟨_, rfl, _, rfl, rfl, _, rfl, turnd i0 j tl, 0, 97 + (i0 + j) % 26, rfl, rfl, small (by show ((97 + (i0 + j) % 26) :: tl).toArray.size ≤ _; simp; exact Nat.le_trans (by assumption) (by decide)), atI_nat (j := 0) (by simp [turnd]), LS, _, _, rest, rfl, rfl, occ, _, _, rfl, rfl, _, _, rfl, rfl, (by show (0 : Int) < 26; decide), LS, _, _, rfl, rfl, small (by decide +kernel), LS_at n0 n1, ?_⟩
        refine ⟨_, rfl, _, rfl, turnd i0 j tl, rfl, small (by show ((97 + (i0 + j) % 26) :: tl).toArray.size ≤ _; simp; exact Nat.le_trans (by assumption) (by decide)), _, _, rfl, rfl, ?_, ?_⟩
        · rw [turnd_sl]
          show 1 + tl.toArray.size ≤ _
          exact small (by simp; omega)
        · rw [turnd_sl]
          refine ⟨?_, rfl⟩
          have : (⟨#[97 + (((((i0 + j) % 26 : Nat) : Int) + 1) % 26).toNat]⟩ : Str) ++ ⟨tl.toArray⟩ = turnd i0 (j + 1) tl := by
            refine ext_cps ?_
            rw [cat_cps]
            simp only [turnd, List.toList_toArray, List.singleton_append]
            show [_] ++ tl = _
            rw [List.singleton_append]
            congr 1
            clear hi zsl tl8; omega
          show [_, _, _, _, _, _, _, some (V.str (_ ++ _)), _, _, _, _] = _
          rw [this]
      · exact ⟨_, rfl, .inl ⟨rfl, _, SqL.of l7⟩, _, rfl, l, _, _, rfl, rfl, l7, small1000 (by simp; clear hi; omega), _, _, zs ++ [turnd i0 j tl], rfl, fun b o e n1 n2 => by rw [upd_ne (ne_of_none e hl)]; exact B7 b o e n1 n2, w7.upd ln, by rw [upd_same, List.map_append]; rfl, by simp [zsl]⟩
    refine ⟨_, rfl, a, c, 4, rfl, hw, by decide, by decide, fun way H1 y0 y1 b1 w1 => ?_⟩
    have tail : ∀ (l : Addr) (zs : List Str) (H' : Hp), But a c H1 H' → DeckAt H' a c → H' l = some (.lst (zs.map V.str)) → l ≠ a → l ≠ c → zs.length = N → Q (.ref l) H' := fun l zs H' b' => k l zs H' (b1.trans b')
    refine ⟨_, rfl, rfl, _, rfl, ite2 (fun g => ⟨_, rfl, _, _, rfl, rfl, _, rfl, ite2 (fun g2 => ?_) fun g2 => ?_⟩) fun g => iteF ?_⟩
    rotate_left
    · exact ⟨a, c, N, way, rfl, w1, hN, tail⟩
    · exact ⟨a, c, N, way, rfl, w1, hN, tail⟩
    refine ⟨_, rfl, a, c, 8, rfl, w1, by decide, fun z H2 zl zw b2 w2 => ?_⟩
    refine ⟨_, rfl, (N : Int), rfl, by omega, by omega, fun D hD => comp_rangeL (lo := 0) (n := (N : Int).toNat) (fun j σ ys H3 => ∃ (u : Option V) (zs : List Str), σ = [u, some (.str z)] ∧ H3 = upd H2 D (.lst ys) ∧ ys = zs.map V.str ∧ zs.length = j) ⟨none, [], rfl, rfl, rfl, rfl⟩ (fun j σ ys H3 _ ⟨_, _, _, e, _⟩ => by rw [e]; exact upd_same) ?_ ?_⟩
    · intro j σ ys H3 hj hI5_ E_
      refine hideG fun G_ hG_ => ?_
      obtain ⟨u, zs, rfl, rfl, rfl, zsl⟩ := hI5_
      refine hG_ ?_
      refine ⟨_, rfl, _, rfl, _, _, rfl, rfl, _, rfl, z, rfl, small (by omega), upd_same, small1000 (by simp; clear zl; omega), _, zs ++ [_], rfl, by rw [upd_upd], by rw [List.map_append]; rfl, by simp [zsl]⟩
    · intro σ ys H3 hI3_
      refine hideG fun G_ hG_ => ?_
      obtain ⟨u, zs, rfl, rfl, rfl, zsl⟩ := hI3_
      have Dn := w2.ne hD
      refine hG_ ?_
      exact tail D zs _ (fun b o e n1 n2 => by rw [upd_ne (ne_of_none (b2 b o e n1 n2) hD)]; exact b2 b o e n1 n2) (w2.upd Dn) upd_same Dn.1 Dn.2 (by simpa using zsl)
end
end K68
set_option maxHeartbeats 1000000
namespace K68
open PySem L2 Wk
structure En (N o q : Int) : Prop where
  o0 : 0 ≤ o
  o1 : o < N
  q0 : 0 ≤ q
  q1 : q < N
  ne : o ≠ q
theorem En.sym {N o q : Int} (h : En N o q) : En N q o := ⟨h.q0, h.q1, h.o0, h.o1, fun e => h.ne e.symm⟩
structure Bd (N o p w : Int) : Prop where
  en : En N o p
  w0 : 0 ≤ w
  w9 : w ≤ 1000000000
theorem en_mod {N o v : Int} (o0 : 0 ≤ o) (o1 : o < N) (v0 : 0 ≤ v) (v1 : v < N - 1) : En N o ((o + 1 + v) % N) := by
  have n0 : 0 < N := by omega
  rcases Int.lt_or_le (o + 1 + v) N with z | z
  · rw [Int.emod_eq_of_lt (by omega) z]; exact ⟨o0, o1, by omega, z, by omega⟩
  · have e : (o + 1 + v) % N = o + 1 + v - N := by
      rw [← Int.sub_emod_right, Int.emod_eq_of_lt (by omega) (by omega)]
    rw [e]; exact ⟨o0, o1, by omega, by omega, by omega⟩
def TiD (N : Int) (H : Hp) (r : Addr) : Prop := ∃ (n : Str) (o p w : Int), H r = some (.tup [.str n, .int o, .int p, .int w]) ∧ Bd N o p w
def TisD (N : Int) (H : Hp) (T : Addr) (rs : List Addr) : Prop := H T = some (.lst (rs.map V.ref)) ∧ (∀ r ∈ rs, TiD N H r) ∧ rs.length ≤ 60
theorem TisD.but {N : Int} {H H' : Hp} {a c T : Addr} {rs : List Addr} (h : TisD N H T rs) (b : But a c H H') (D : DeckAt H a c) (n1 : T ≠ a) (n2 : T ≠ c) : TisD N H' T rs :=
  ⟨b _ _ h.1 n1 n2, fun r hr => let ⟨n, o, p, w, e⟩ := h.2.1 r hr; ⟨n, o, p, w, b.tup D e.1, e.2⟩, h.2.2⟩
theorem TisD.same {N : Int} {H H' : Hp} {T : Addr} {rs : List Addr} (h : TisD N H T rs) (b : Same H H') : TisD N H' T rs :=
  ⟨b _ _ h.1, fun r hr => let ⟨n, o, p, w, e⟩ := h.2.1 r hr; ⟨n, o, p, w, b _ _ e.1, e.2⟩, h.2.2⟩
theorem int_item (ns : List Int) {v : Int} (h0 : 0 ≤ v) (h1 : v < (ns.length : Int)) : ∃ y, y ∈ ns ∧ atI (ns.map V.int) v = some (.int y) := by
  obtain ⟨j, rfl⟩ : ∃ j : Nat, v = (j : Int) := ⟨v.toNat, by omega⟩
  have hj : j < ns.length := by omega
  exact ⟨ns[j], List.getElem_mem hj, atI_nat (by simp [hj])⟩
theorem ref_item (ns : List Addr) {v : Int} (h0 : 0 ≤ v) (h1 : v < (ns.length : Int)) : ∃ y, y ∈ ns ∧ atI (ns.map V.ref) v = some (.ref y) := by
  obtain ⟨j, rfl⟩ : ∃ j : Nat, v = (j : Int) := ⟨v.toNat, by omega⟩
  have hj : j < ns.length := by omega
  exact ⟨ns[j], List.getElem_mem hj, atI_nat (by simp [hj])⟩
inductive SpMomentP (vs : List V) (H : Hp) (Q : VK) (u_3 : XK) : Prop
  | mk (a c : Addr) (m : Int) : (vs = [.ref a, .int m]) → (DeckAt H a c) → (0 ≤ m) → (m ≤ 1000000000) → (∀ (v : Int) (H' : Hp), m ≤ v → v ≤ 1000000000 → But a c H H' → DeckAt H' a c → Q (.int v) H') → SpMomentP vs H Q u_3
def spMoment : Sp := fun vs H Q u_3 => SpMomentP vs H Q u_3
inductive SpEndsP (vs : List V) (H : Hp) (Q : VK) (u_3 : XK) : Prop
  | mk (a c T : Addr) (N : Int) (rs : List Addr) : (vs = [.ref a, .int N, .ref T]) → (DeckAt H a c) → (2 ≤ N) → (N ≤ 100) → (TisD N H T rs) → (T ≠ a) → (T ≠ c) → (∀ (p : Addr) (o q : Int) (H' : Hp), En N o q → But a c H H' → DeckAt H' a c → H' p = some (.tup [.int o, .int q]) → Q (.ref p) H') → SpEndsP vs H Q u_3
def spEnds : Sp := fun vs H Q u_3 => SpEndsP vs H Q u_3
inductive SpWeightP (vs : List V) (H : Hp) (Q : VK) (u_3 : XK) : Prop
  | mk (a c T : Addr) (N : Int) (rs : List Addr) : (vs = [.ref a, .ref T]) → (DeckAt H a c) → (TisD N H T rs) → (T ≠ a) → (T ≠ c) → (∀ (v : Int) (H' : Hp), 0 ≤ v → v ≤ 1000000000 → But a c H H' → DeckAt H' a c → Q (.int v) H') → SpWeightP vs H Q u_3
def spWeight : Sp := fun vs H Q u_3 => SpWeightP vs H Q u_3
def tTailE : TS := fun D σ H => ∃ (x0 x1 x2 : Option V) (o q : Int) (u : Option V), σ = [x0, x1, x2, some (.int o), some (.int q), u] ∧ ∀ (p : Addr) (H' : Hp), Same H H' → H' p = some (.tup [.int o, .int q]) → D.rt (.ref p) H'
def tTailW : TS := fun D σ H => ∃ (a c : Addr) (x1 : Option V) (last : Int), σ = [some (.ref a), x1, some (.int last)] ∧ DeckAt H a c ∧ 0 ≤ last ∧ last ≤ 1000000000 ∧ ∀ (v : Int) (H' : Hp), 0 ≤ v → v ≤ 1000000000 → But a c H H' → DeckAt H' a c → D.rt (.int v) H'
section
variable {P : Program} {w : World} {K : PySem.W.Frag} {mg : Str → Option Value} {base : Heap}
theorem scMoment : FnScope ["_law_deck_here", "_law_moment_here", "_law_gap"] ["_law_deck_here", "_law_moment_here"] (defScope sMoment) := ⟨rfl, rfl, rfl, by decide +kernel, rfl, by decide +kernel, by decide +kernel⟩
theorem ok_Moment {f : Addr} {fd : FuncData} (F : Fun K "_law_moment" "_law_moment" sMoment f fd) (T : Txt mg)
    {gDraw : Addr} {fDraw : FuncData} (kDraw : PySem.W.keepIn K (.ref gDraw) = true) (bDraw : Binds K fDraw ["_law_deck_here", "_law_most"] []) (hDraw : mg "_law_draw" = some (.ref gDraw)) (GDraw : FnOk P w K mg base CX0 2 gDraw fDraw ["_law_deck_here", "_law_most"] spDraw) :
    FnOk P w K mg base CX0 3 f fd ["_law_deck_here", "_law_moment_here"] spMoment := by
  refine F.ok scMoment (fun vs H Q E h => ?_) (fun cdv A outer s H vs Q E hr h => ?_)
  · obtain ⟨_, _, _, rfl, _⟩ := h; rfl
  · obtain ⟨a, c, m, rfl, hw, m0, m9, k⟩ := h
    refine ⟨_, pss_cons (ps_set (i := 2) scMoment.nd rfl (Or.inl rfl) (pe_ix ix_list (pe_lst (pa_cons pe_int (pa_cons pe_int (pa_cons pe_int (pa_cons (pe_call GDraw hr rfl hDraw kDraw bDraw .nil pass0 (pa_cons (pv 0) (pa_cons pe_int pa_nil))) (pa_cons (pe_call GDraw hr rfl hDraw kDraw bDraw .nil pass0 (pa_cons (pv 0) (pa_cons (pe_op op_pow pe_int pe_int) pa_nil))) (pa_cons (pe_call GDraw hr rfl hDraw kDraw bDraw .nil pass0 (pa_cons (pv 0) (pa_cons (pe_op op_pow pe_int pe_int) pa_nil))) pa_nil))))))) (pe_call GDraw hr rfl hDraw kDraw bDraw .nil pass0 (pa_cons (pv 0) (pa_cons pe_int pa_nil))) (fun _ _ => rfl)))
      (pss_one (ps_ret (pe_callB (call_min2 rfl) (by rfl) T.min (by decide +kernel) (pa_cons (pe_op op_pow pe_int pe_int) (pa_cons (pe_op op_add (pv 1) (pv 2)) pa_nil))))), ?_⟩
    dsimp only [cxOf, Cx.nox]
    refine seqL1 ?_
    intro R1_
    refine ⟨_, rfl, a, c, 6, rfl, hw, by decide, by decide, fun v1 H1 g1 _ b1 w1 => ⟨_, rfl, _, _, rfl, rfl, ⟨by decide, by decide, by decide⟩, a, c, _, rfl, w1, by decide, by decide, fun v2 H2 g2 _ b2 w2 => ⟨_, rfl, _, _, rfl, rfl, ⟨by decide, by decide, by decide⟩, a, c, _, rfl, w2, by decide, by decide, fun v3 H3 g3 _ b3 w3 => ⟨small (by simp), fun q hq => ?_⟩⟩⟩⟩
    refine ⟨_, rfl, a, c, 6, rfl, w3.upd (w3.ne hq), by decide, by decide, fun x H4 x0 x1 b4 w4 => ?_⟩
    have q4 := b4 _ _ upd_same (w3.ne hq).1 (w3.ne hq).2
    obtain ⟨y, my, hy⟩ := int_item [0, 0, 1, v1, v2, v3] x0 x1
    have y0 : 0 ≤ y := by
      simp only [List.mem_cons, List.not_mem_nil, or_false] at my
      rcases my with rfl | rfl | rfl | rfl | rfl | rfl <;> omega
    have t9 : (10 : Int) ^ (9 : Int).toNat = 1000000000 := by decide
    refine ⟨q, _, x, _, rfl, rfl, SqL.of q4, hy, ?_⟩
    refine ⟨_, _, rfl, rfl, ⟨by decide, by decide, by decide⟩, _, rfl, _, rfl, _, _, rfl, rfl, _, _, rfl, k _ _ (by rw [t9]; split <;> omega) (by rw [t9]; split <;> omega) ((((b1.trans b2).trans b3).trans (But.of (same_new hq))).trans b4) w4⟩
theorem scEnds : FnScope ["_law_deck_here", "_law_many", "_law_ties", "_law_one", "_law_other", "_law_tie"] ["_law_deck_here", "_law_many", "_law_ties"] (defScope sEnds) := ⟨rfl, rfl, rfl, by decide +kernel, rfl, by decide +kernel, by decide +kernel⟩
theorem ok_Ends {f : Addr} {fd : FuncData} (F : Fun K "_law_ends" "_law_ends" sEnds f fd) (T : Txt mg)
    {gDraw : Addr} {fDraw : FuncData} (kDraw : PySem.W.keepIn K (.ref gDraw) = true) (bDraw : Binds K fDraw ["_law_deck_here", "_law_most"] []) (hDraw : mg "_law_draw" = some (.ref gDraw)) (GDraw : FnOk P w K mg base CX0 2 gDraw fDraw ["_law_deck_here", "_law_most"] spDraw) :
    FnOk P w K mg base CX0 3 f fd ["_law_deck_here", "_law_many", "_law_ties"] spEnds := by
  refine F.ok scEnds (fun vs H Q E h => ?_) (fun cdv A outer s H vs Q E hr h => ?_)
  · obtain ⟨_, _, _, _, _, rfl, _⟩ := h; rfl
  · obtain ⟨a, c, T', N, rs, rfl, hw, N2, N1, hT, na, nc, k⟩ := h
    refine ⟨_, pss_cons (ps_set (i := 3) scEnds.nd rfl (Or.inl rfl) (pe_call GDraw hr rfl hDraw kDraw bDraw .nil pass0 (pa_cons (pv 0) (pa_cons (pv 1) pa_nil))))
      (pss_cons (ps_set (i := 4) scEnds.nd rfl (Or.inl rfl) (pe_op op_mod (pe_op op_add (pe_op op_add (pv 3) pe_int) (pe_call GDraw hr rfl hDraw kDraw bDraw .nil pass0 (pa_cons (pv 0) (pa_cons (pe_op op_sub (pv 1) pe_int) pa_nil)))) (pv 1)))
      (pss_cons (ps_if (PW.pt (pw_and (pt_cmpR (op_neNil hr.units) (pv 2) (pe_lst pa_nil) (nomark _)) (pw_and1 (pt_cmpR op_eq (pe_call GDraw hr rfl hDraw kDraw bDraw .nil pass0 (pa_cons (pv 0) (pa_cons pe_int pa_nil))) pe_int (nomark _))))) (pss_cons (ps_set (i := 5) scEnds.nd rfl (Or.inl rfl) (pe_ix ix_list (pv 2) (pe_call GDraw hr rfl hDraw kDraw bDraw .nil pass0 (pa_cons (pv 0) (pa_cons (pe_callB call_len_seq (by rfl) T.len PySem.boot_len (pa_cons (pv 2) pa_nil)) pa_nil))) (fun _ _ => rfl)))
      (pss_one (ps_asg (pe_ix ix_list (pe_lst (pa_cons (pe_tup (pa_cons (pe_ix ix_tup (pv 5) pe_int (fun _ _ => rfl)) (pa_cons (pe_ix ix_tup (pv 5) pe_int (fun _ _ => rfl)) pa_nil))) (pa_cons (pe_tup (pa_cons (pe_ix ix_tup (pv 5) pe_int (fun _ _ => rfl)) (pa_cons (pe_ix ix_tup (pv 5) pe_int (fun _ _ => rfl)) pa_nil))) pa_nil))) (pe_call GDraw hr rfl hDraw kDraw bDraw .nil pass0 (pa_cons (pv 0) (pa_cons pe_int pa_nil))) (fun _ _ => rfl)) (pg_tup rfl (pgs_cons (pg_name (i := 3) scEnds.nd rfl (Or.inl rfl)) (pgs_cons (pg_name (i := 4) scEnds.nd rfl (Or.inl rfl)) pgs_nil)))))) pss_nil)
      (PSs.imp' (t' := tTailE) (pss_one (ps_ret (pe_tup (pa_cons (pv 3) (pa_cons (pv 4) pa_nil))))) ?tail))), ?_⟩
    case tail =>
      try dsimp only [cxOf, Cx.nox]
      clear k hT hw N1 N2
      intro D σ H hI3_
      refine hideG fun G_ hG_ => ?_
      obtain ⟨x0, x1, x2, o, q, u, rfl, k⟩ := hI3_
      refine hG_ ?_
      exact ⟨_, rfl, _, rfl, small (by simp), fun p hp => k p _ (same_new hp) upd_same⟩
    refine ⟨_, rfl, _, rfl, a, c, N, rfl, hw, by omega, by omega, fun one H1 o0 o1 b1 w1 => ?_⟩
    refine ⟨_, rfl, _, _, rfl, rfl, _, rfl, _, rfl, _, _, rfl, rfl, a, c, _, rfl, w1, by show (0 : Int) < N - 1; omega, by show N - 1 < _; omega, fun v H2 v0 v1 b2 w2 => ⟨_, _, rfl, rfl, _, rfl, _, _, rfl, rfl, (by show (0 : Int) < N; omega), ?_⟩⟩
    refine ⟨_, rfl, small (by simp), fun q hq => ?_⟩
    have en := en_mod o0 o1 v0 v1
    have B2 := b1.trans b2
    have T2 := hT.but B2 hw na nc
    have s3 := same_new (o := .lst []) hq
    have T3 := T2.same s3
    have w3 := w2.upd (o := .lst []) (w2.ne hq)
    have q3 := upd_same (H := H2) (a := q) (o := .lst [])
    generalize upd H2 q (.lst []) = H3 at s3 T3 w3 q3
    have B3 : But a c H H3 := B2.trans (But.of s3)
    refine ⟨T', q, _, rfl, rfl, SqL.of T3.1, SqL.of q3, _, rfl, ite2 (fun g => ⟨_, rfl, a, c, 3, rfl, w3, by decide, by decide, fun x H4 _ _ b4 w4 => ⟨rfl, _, rfl, ite2 (fun g2 => ?_) fun g2 => ?_⟩⟩) fun g => iteF ?_⟩
    rotate_left
    · exact ⟨_, _, _, _, _, _, rfl, fun p H' s' hp => k p _ _ H' en ((B3.trans b4).trans (But.of s')) (w4.same s') hp⟩
    · exact ⟨_, _, _, _, _, _, rfl, fun p H' s' hp => k p _ _ H' en (B3.trans (But.of s')) (w3.same s') hp⟩
    have B4 := B3.trans b4
    have T4 := T3.but b4 w3 na nc
    have ne : rs ≠ [] := fun e => by subst e; simp at g
    have lp : 0 < rs.length := List.length_pos_iff.mpr ne
    have l60 := hT.2.2
    refine ⟨_, rfl, _, rfl, _, rfl, T', _, rfl, .inl (SqL.of T4.1), a, c, _, rfl, w4, by rw [List.length_map]; omega, by rw [List.length_map]; omega, fun y H5 y0 y1 b5 w5 => ?_⟩
    rw [List.length_map] at y1
    have T5 := T4.but b5 w4 na nc
    obtain ⟨r, hr', hy⟩ := ref_item rs y0 y1
    obtain ⟨n, o, p, w', er, bd⟩ := T5.2.1 r hr'
    refine ⟨T', _, y, _, rfl, rfl, SqL.of T5.1, hy, ?_⟩
    have B5 := B4.trans b5
    refine ⟨_, rfl, r, _, 1, _, rfl, rfl, SqT.of er, atI_nat (j := 1) rfl, _, rfl, r, _, 2, _, rfl, rfl, SqT.of er, atI_nat (j := 2) rfl, small (by simp), fun t1 h1 => ?_⟩
    have s6 := same_new (o := .tup [.int o, .int p]) h1
    have t6 := upd_same (H := H5) (a := t1) (o := .tup [.int o, .int p])
    have w6 := w5.upd (o := .tup [.int o, .int p]) (w5.ne h1)
    generalize upd H5 t1 (.tup [.int o, .int p]) = H6 at s6 t6 w6
    have er6 := s6 _ _ er
    refine ⟨_, rfl, r, _, 2, _, rfl, rfl, SqT.of er6, atI_nat (j := 2) rfl, _, rfl, r, _, 1, _, rfl, rfl, SqT.of er6, atI_nat (j := 1) rfl, small (by simp), fun t2 h2 => ?_⟩
    have s7 := same_new (o := .tup [.int p, .int o]) h2
    have t7 := upd_same (H := H6) (a := t2) (o := .tup [.int p, .int o])
    have w7 := w6.upd (o := .tup [.int p, .int o]) (w6.ne h2)
    generalize upd H6 t2 (.tup [.int p, .int o]) = H7 at s7 t7 w7
    refine ⟨small (by simp), fun l hl => ?_⟩
    have s8 := same_new (o := .lst [.ref t1, .ref t2]) hl
    have l8 := upd_same (H := H7) (a := l) (o := .lst [.ref t1, .ref t2])
    have ln := w7.ne hl
    have w8 := w7.upd (o := .lst [.ref t1, .ref t2]) ln
    generalize upd H7 l (.lst [.ref t1, .ref t2]) = H8 at s8 l8 w8
    have B8 : But a c H H8 := B5.trans (But.of ((s6.trans s7).trans s8))
    refine ⟨_, rfl, a, c, 2, rfl, w8, by decide, by decide, fun z H9 z0 z1 b9 w9 => ?_⟩
    have l9 := b9 _ _ l8 ln.1 ln.2
    have t9 := b9.tup w8 (s8 _ _ (s7 _ _ t6))
    have u9 := b9.tup w8 (s8 _ _ t7)
    have B9 := B8.trans b9
    obtain ⟨e, he, hz⟩ := ref_item [t1, t2] z0 z1
    obtain ⟨o', p', he', en'⟩ : ∃ o' p' : Int, H9 e = some (.tup [.int o', .int p']) ∧ En N o' p' := by
      rcases List.mem_cons.mp he with rfl | he
      · exact ⟨_, _, t9, bd.en⟩
      · rw [List.mem_singleton.mp he]; exact ⟨_, _, u9, bd.en.sym⟩
    exact ⟨l, _, z, _, rfl, rfl, SqL.of l9, hz, e, _, rfl, SqT.of he', rfl, _, _, rfl, _, _, rfl, rfl, _, _, _, _, _, _, rfl, fun p H' s' hp => k p _ _ H' en' (B9.trans (But.of s')) (w9.same s') hp⟩
theorem scWeight : FnScope ["_law_deck_here", "_law_ties", "_law_last_here"] ["_law_deck_here", "_law_ties"] (defScope sWeight) := ⟨rfl, rfl, rfl, by decide +kernel, rfl, by decide +kernel, by decide +kernel⟩
theorem ok_Weight {f : Addr} {fd : FuncData} (F : Fun K "_law_weight" "_law_weight" sWeight f fd) (T : Txt mg)
    {gDraw : Addr} {fDraw : FuncData} (kDraw : PySem.W.keepIn K (.ref gDraw) = true) (bDraw : Binds K fDraw ["_law_deck_here", "_law_most"] []) (hDraw : mg "_law_draw" = some (.ref gDraw)) (GDraw : FnOk P w K mg base CX0 2 gDraw fDraw ["_law_deck_here", "_law_most"] spDraw) :
    FnOk P w K mg base CX0 3 f fd ["_law_deck_here", "_law_ties"] spWeight := by
  refine F.ok scWeight (fun vs H Q E h => ?_) (fun cdv A outer s H vs Q E hr h => ?_)
  · obtain ⟨_, _, _, _, _, rfl, _⟩ := h; rfl
  · obtain ⟨a, c, T', N, rs, rfl, hw, hT, na, nc, k⟩ := h
    refine ⟨_, pss_cons (ps_set (i := 2) scWeight.nd rfl (Or.inl rfl) (pe_op op_pow pe_int pe_int))
      (pss_cons (ps_if (pt_cmpR (op_neNil hr.units) (pv 1) (pe_lst pa_nil) (nomark _)) (pss_one (ps_set (i := 2) scWeight.nd rfl (Or.inl rfl) (pe_ix ix_tup (pe_ix ix_list (pv 1) (pe_un un_neg pe_int) (fun _ _ => rfl)) pe_int (fun _ _ => rfl)))) pss_nil)
      (PSs.imp' (t' := tTailW) (pss_one (ps_ret (pe_ix ix_list (pe_lst (pa_cons pe_int (pa_cons pe_int (pa_cons (pe_call GDraw hr rfl hDraw kDraw bDraw .nil pass0 (pa_cons (pv 0) (pa_cons pe_int pa_nil))) (pa_cons (pe_call GDraw hr rfl hDraw kDraw bDraw .nil pass0 (pa_cons (pv 0) (pa_cons (pe_op op_add (pe_op op_pow pe_int pe_int) pe_int) pa_nil))) (pa_cons (pv 2) pa_nil)))))) (pe_call GDraw hr rfl hDraw kDraw bDraw .nil pass0 (pa_cons (pv 0) (pa_cons pe_int pa_nil))) (fun _ _ => rfl)))) ?tail)), ?_⟩
    case tail =>
      try dsimp only [cxOf, Cx.nox]
      clear k hT hw
      intro D σ H hI3_
      refine hideG fun G_ hG_ => ?_
      obtain ⟨a, c, x1, last, rfl, hw, la0, la9, k⟩ := hI3_
      refine hG_ ?_
      refine ⟨_, rfl, a, c, 6, rfl, hw, by decide, by decide, fun v1 H1 g1 g2 b1 w1 => ⟨_, rfl, _, _, rfl, rfl, ⟨by decide, by decide, by decide⟩, _, _, rfl, rfl, a, c, _, rfl, w1, by decide, by decide, fun v2 H2 g3 g4 b2 w2 => ⟨_, rfl, small (by simp), fun q hq => ?_⟩⟩⟩
      refine ⟨_, rfl, a, c, 5, rfl, w2.upd (w2.ne hq), by decide, by decide, fun x H4 x0 x1 b4 w4 => ?_⟩
      have q4 := b4 _ _ upd_same (w2.ne hq).1 (w2.ne hq).2
      obtain ⟨y, my, hy⟩ := int_item [0, 1, v1, v2, last] x0 x1
      have t9 : (10 : Int) ^ (9 : Int).toNat = 1000000000 := by decide
      rw [t9] at g4
      have yb : 0 ≤ y ∧ y ≤ 1000000000 := by
        simp only [List.mem_cons, List.not_mem_nil, or_false] at my
        rcases my with rfl | rfl | rfl | rfl | rfl <;> omega
      exact ⟨q, _, x, _, rfl, rfl, SqL.of q4, hy, k _ _ yb.1 yb.2 (((b1.trans b2).trans (But.of (same_new hq))).trans b4) w4⟩
    refine ⟨_, _, rfl, rfl, ⟨by decide, by decide, by decide⟩, ?_⟩
    refine ⟨_, rfl, small (by simp), fun q hq => ?_⟩
    have s3 := same_new (o := .lst []) hq
    have T3 := hT.same s3
    have w3 := hw.upd (o := .lst []) (hw.ne hq)
    have q3 := upd_same (H := H) (a := q) (o := .lst [])
    generalize upd H q (.lst []) = H3 at s3 T3 w3 q3
    refine ⟨T', q, _, rfl, rfl, SqL.of T3.1, SqL.of q3, _, rfl, ite2 (fun g => ?_) fun g => ?_⟩
    rotate_left
    · exact ⟨a, c, _, _, rfl, w3, by decide, by decide, fun v H' v0 v9 b' => k v H' v0 v9 ((But.of s3).trans b')⟩
    have ne : rs ≠ [] := fun e => by subst e; simp at g
    obtain ⟨r, hr', hy⟩ : ∃ r, r ∈ rs ∧ atI (rs.map V.ref) (-1) = some (.ref r) := by
      refine ⟨rs.getLast ne, List.getLast_mem ne, ?_⟩
      have e := List.dropLast_concat_getLast ne
      generalize rs.getLast ne = y at e
      rw [← e, List.map_append]
      exact atI_last _ _
    obtain ⟨n, o, p, w', er, bd⟩ := T3.2.1 r hr'
    exact ⟨_, rfl, _, rfl, T', _, -1, _, rfl, rfl, SqL.of T3.1, hy, r, _, 3, _, rfl, rfl, SqT.of er, atI_nat (j := 3) rfl, a, c, _, _, rfl, w3, bd.w0, bd.w9, fun v H' v0 v9 b' => k v H' v0 v9 ((But.of s3).trans b')⟩
end
end K68
namespace L2
open PySem
theorem hide {t u : TS} {D : Ends} {σ : St} {H : Hp} (h : ∀ R : TS, (∀ D σ H, u D σ H → R D σ H) → tSeq t R D σ H) : tSeq t u D σ H := h u fun _ _ _ h => h
end L2
set_option maxHeartbeats 1000000
namespace K68
open PySem L2 Wk
inductive Deed where
  | come (m : Int) (n : Str) (a b w : Int)
  | go (m : Int) (n : Str)
def Deed.vs : Deed → List V
  | .come m n a b w => [.str "come", .int m, .str n, .int a, .int b, .int w]
  | .go m n => [.str "go", .int m, .str n]
def Deed.mo : Deed → Int
  | .come m _ _ _ _ => m
  | .go m _ => m
structure Mo (ds : List Deed) (mo : Int) : Prop where
  lo : 0 ≤ mo
  hi : mo ≤ 1000000000
  all : ∀ d ∈ ds, 0 ≤ d.mo ∧ d.mo ≤ mo
  up : ds.Pairwise fun d e => d.mo ≤ e.mo
theorem Mo.snoc {ds : List Deed} {mo : Int} (h : Mo ds mo) {d : Deed} (e : d.mo = mo) : Mo (ds ++ [d]) mo :=
  ⟨h.lo, h.hi, fun x hx => by
    rcases List.mem_append.mp hx with hx | hx
    · exact h.all x hx
    · rw [List.mem_singleton.mp hx, e]; exact ⟨h.lo, Int.le_refl _⟩, List.pairwise_append.mpr ⟨h.up, List.pairwise_singleton _ _, fun x hx y hy => by rw [List.mem_singleton.mp hy, e]; exact (h.all x hx).2⟩⟩
theorem Mo.more {ds : List Deed} {mo mo' : Int} (h : Mo ds mo) (l : mo ≤ mo') (g : mo' ≤ 1000000000) : Mo ds mo' :=
  ⟨Int.le_trans h.lo l, g, fun d hd => ⟨(h.all d hd).1, Int.le_trans (h.all d hd).2 l⟩, h.up⟩
def DeedsAt (H : Hp) (rs : List Addr) (ds : List Deed) : Prop := rs.length = ds.length ∧ ∀ (i : Nat) r d, rs[i]? = some r → ds[i]? = some d → H r = some (.tup d.vs)
def hereR : List Deed → Str → Bool
  | [], _ => false
  | .come _ n' _ _ _ :: r, n => if n' = n then true else hereR r n
  | .go _ n' :: r, n => if n' = n then false else hereR r n
def RgtR : List Deed → Prop
  | [] => True
  | .come _ n _ _ _ :: r => hereR r n = false ∧ RgtR r
  | .go _ n :: r => hereR r n = true ∧ RgtR r
def Tup (H H' : Hp) : Prop := ∀ b xs, H b = some (.tup xs) → H' b = some (.tup xs)
theorem Tup.trans {H H1 H2 : Hp} (a : Tup H H1) (b : Tup H1 H2) : Tup H H2 := fun x xs e => b x xs (a x xs e)
theorem Tup.of {H H' : Hp} (s : Same H H') : Tup H H' := fun b xs e => s _ _ e
theorem Tup.but {H H' : Hp} {a c : Addr} (b : But a c H H') (D : DeckAt H a c) : Tup H H' := fun x xs e => b.tup D e
theorem Tup.lst {H : Hp} {l : Addr} {xs ys : List V} (h : H l = some (.lst xs)) : Tup H (upd H l (.lst ys)) := fun b zs e => by
  rw [upd_ne (ne_of e h (by intro z; cases z))]; exact e
theorem DeedsAt.tup {H H' : Hp} {rs : List Addr} {ds : List Deed} (h : DeedsAt H rs ds) (t : Tup H H') : DeedsAt H' rs ds := ⟨h.1, fun i r d e1 e2 => t _ _ (h.2 i r d e1 e2)⟩
theorem DeedsAt.snoc {H : Hp} {rs : List Addr} {ds : List Deed} {r : Addr} {d : Deed} (h : DeedsAt H rs ds) (e : H r = some (.tup d.vs)) : DeedsAt H (rs ++ [r]) (ds ++ [d]) := by
  refine ⟨by simp [h.1], fun i r' d' e1 e2 => ?_⟩
  rcases Nat.lt_or_ge i rs.length with q | q
  · rw [List.getElem?_append_left q] at e1
    rw [List.getElem?_append_left (by rw [← h.1]; exact q)] at e2
    exact h.2 i r' d' e1 e2
  · rw [List.getElem?_append_right q] at e1
    rw [List.getElem?_append_right (by rw [← h.1]; exact q), ← h.1] at e2
    cases z : i - rs.length with
    | zero =>
      rw [z] at e1 e2
      cases e1; cases e2
      exact e
    | succ n => rw [z] at e1; cases e1
structure Sep (H0 : Hp) (a c nl th ti de : Addr) : Prop where
  n1 : nl ≠ a
  n2 : nl ≠ c
  t1 : th ≠ a
  t2 : th ≠ c
  i1 : ti ≠ a
  i2 : ti ≠ c
  d1 : de ≠ a
  d2 : de ≠ c
  nt : nl ≠ th
  ni : nl ≠ ti
  nd : nl ≠ de
  hi : th ≠ ti
  hd : th ≠ de
  id : ti ≠ de
  ft : H0 th = none
  fi : H0 ti = none
  fd : H0 de = none
def DB (N : Int) : Deed → Prop
  | .come _ _ a b w => Bd N a b w
  | .go .. => True
structure HS (N : Int) (H0 : Hp) (a c nl th ti de : Addr) (zs ts : List Str) (qs rs : List Addr) (ds : List Deed) (i : Nat) (H : Hp) : Prop where
  bt : But a c H0 H
  dk : DeckAt H a c
  hn : H nl = some (.lst (zs.map V.str))
  ht : H th = some (.lst (ts.map V.str))
  hq : H ti = some (.lst (qs.map V.ref))
  qt : ∀ r ∈ qs, TiD N H r
  bd : ∀ d ∈ ds, DB N d
  hr : H de = some (.lst (rs.map V.ref))
  dd : DeedsAt H rs ds
  rt : RgtR ds.reverse
  me : ∀ n, n ∈ ts ↔ hereR ds.reverse n = true
  nu : ts.Nodup
  lt : ts.length ≤ i
  lq : qs.length ≤ i
  ld : ds.length = i
def LSt (a : Addr) (x1 x2 x3 : Option V) (nl : Addr) (mo rest : Int) (th ti de : Addr) (y : List (Option V)) : St := [some (.ref a), x1, x2, x3, some (.ref nl), some (.int mo), some (.int rest), some (.ref th), some (.ref ti), some (.ref de)] ++ y
def tGo : TS := fun D σ H => ∃ (H0 : Hp) (a c nl th ti de : Addr) (zs ts : List Str) (qs rs : List Addr) (ds : List Deed) (i : Nat) (x1 x2 x3 y0 y1 y2 y3 y4 y5 : Option V) (N mo rest : Int), σ = LSt a x1 x2 x3 nl mo rest th ti de [y0, y1, y2, y3, y4, y5] ∧ Sep H0 a c nl th ti de ∧ HS N H0 a c nl th ti de zs ts qs rs ds i H ∧ ts ≠ [] ∧ i < 60 ∧ Mo ds mo ∧
  ∀ σ' H' ts' qs' rs' ds', (∃ y0 y1 y2 y3 y4 y5, σ' = LSt a x1 x2 x3 nl mo rest th ti de [y0, y1, y2, y3, y4, y5]) → HS N H0 a c nl th ti de zs ts' qs' rs' ds' (i + 1) H' → Mo ds' mo → D.nx σ' H'
def tCome : TS := fun D σ H => ∃ (H0 : Hp) (a c nl th ti de fr : Addr) (zs ts fs : List Str) (qs rs : List Addr) (ds : List Deed) (i : Nat) (x1 x3 y0 y2 y3 y4 y5 : Option V) (N mo rest : Int), σ = LSt a x1 (some (.int N)) x3 nl mo rest th ti de [y0, some (.ref fr), y2, y3, y4, y5] ∧ Sep H0 a c nl th ti de ∧ HS N H0 a c nl th ti de zs ts qs rs ds i H ∧ 2 ≤ N ∧ N ≤ 100 ∧ H fr = some (.lst (fs.map V.str)) ∧ fr ≠ a ∧ fr ≠ c ∧ fs ≠ [] ∧ fs.length ≤ 60 ∧ (∀ n ∈ fs, n ∉ ts) ∧ i < 60 ∧ Mo ds mo ∧
  ∀ σ' H' ts' qs' rs' ds', (∃ y0 y1 y2 y3 y4 y5, σ' = LSt a x1 (some (.int N)) x3 nl mo rest th ti de [y0, y1, y2, y3, y4, y5]) → HS N H0 a c nl th ti de zs ts' qs' rs' ds' (i + 1) H' → Mo ds' mo → D.nx σ' H'
theorem str_item (ns : List Str) {v : Int} (h0 : 0 ≤ v) (h1 : v < (ns.length : Int)) : ∃ y, y ∈ ns ∧ atI (ns.map V.str) v = some (.str y) := by
  obtain ⟨j, rfl⟩ : ∃ j : Nat, v = (j : Int) := ⟨v.toNat, by omega⟩
  have hj : j < ns.length := by omega
  exact ⟨ns[j], List.getElem_mem hj, atI_nat (by simp [hj])⟩
theorem mem_eraseIdx : ∀ {ts : List Str} {k : Nat} {y n : Str}, ts.Nodup → ts[k]? = some y → (n ∈ ts.eraseIdx k ↔ n ∈ ts ∧ n ≠ y)
  | [], _, _, _, _, e => by simp at e
  | t :: ts, 0, y, n, h, e => by
    have e : t = y := by simpa using e
    subst e
    have h := List.nodup_cons.mp h
    show n ∈ ts ↔ _
    constructor
    · intro z; exact ⟨.tail _ z, fun q => h.1 (q ▸ z)⟩
    · rintro ⟨z, q⟩; exact (List.mem_cons.mp z).resolve_left q
  | t :: ts, k + 1, y, n, h, e => by
    have e : ts[k]? = some y := by simpa using e
    have h := List.nodup_cons.mp h
    have ih := mem_eraseIdx (n := n) h.2 e
    have hy : y ∈ ts := List.mem_of_getElem? e
    show n ∈ t :: ts.eraseIdx k ↔ _
    rw [List.mem_cons, ih, List.mem_cons]
    constructor
    · rintro (rfl | z)
      · exact ⟨.inl rfl, fun q => h.1 (q ▸ hy)⟩
      · exact ⟨.inr z.1, z.2⟩
    · rintro ⟨rfl | z, q⟩
      · exact .inl rfl
      · exact .inr ⟨z, q⟩
theorem erase_map : ∀ (l : List Str) (k : Nat), (l.map V.str).eraseIdx k = (l.eraseIdx k).map V.str
  | [], _ => rfl
  | _ :: _, 0 => rfl
  | x :: l, k + 1 => by
    show V.str x :: (l.map V.str).eraseIdx k = V.str x :: (l.eraseIdx k).map V.str
    rw [erase_map l k]
theorem HS.but {N : Int} {H0 : Hp} {a c nl th ti de : Addr} {zs ts : List Str} {qs rs : List Addr} {ds : List Deed} {i : Nat} {H H' : Hp} (I : HS N H0 a c nl th ti de zs ts qs rs ds i H) (S : Sep H0 a c nl th ti de) (b : But a c H H') (w : DeckAt H' a c) : HS N H0 a c nl th ti de zs ts qs rs ds i H' :=
  have t : Tup H H' := Tup.but b I.dk
  { bt := I.bt.trans b, dk := w, hn := b _ _ I.hn S.n1 S.n2, ht := b _ _ I.ht S.t1 S.t2, hq := b _ _ I.hq S.i1 S.i2
    qt := fun r h => let ⟨n, o, p, w', e⟩ := I.qt r h; ⟨n, o, p, w', t _ _ e.1, e.2⟩
    hr := b _ _ I.hr S.d1 S.d2, bd := I.bd, dd := I.dd.tup t, rt := I.rt, me := I.me, nu := I.nu, lt := I.lt, lq := I.lq, ld := I.ld }
def HisD (H : Hp) (h : Addr) (many : Int) (ds : List Deed) : Prop := ∃ (t : Addr) (rs : List Addr), H h = some (.tup [.int many, .ref t]) ∧ H t = some (.tup (rs.map V.ref)) ∧ DeedsAt H rs ds ∧ ds.length ≤ 60
inductive SpHistoryP (vs : List V) (H : Hp) (Q : VK) (u_3 : XK) : Prop
  | mk (a c : Addr) : (vs = [.ref a]) → (DeckAt H a c) → (∀ (h : Addr) (N : Int) (ds : List Deed) (H' : Hp), But a c H H' → DeckAt H' a c → 1 ≤ N → N ≤ 24 → (∀ d ∈ ds, DB N d) → HisD H' h N ds → RgtR ds.reverse → (∃ mo, Mo ds mo) → Q (.ref h) H') → SpHistoryP vs H Q u_3
def spHistory : Sp := fun vs H Q u_3 => SpHistoryP vs H Q u_3
section
variable {P : Program} {w : World} {K : PySem.W.Frag} {mg : Str → Option Value} {base : Heap}
theorem scHistory : FnScope ["_law_deck_here", "_law_great", "_law_many", "_law_count", "_law_names_here", "_law_moment_here", "_law_rest", "_law_there", "_law_ties", "_law_deeds", "_law_k", "_law_free", "_law_name", "_law_one", "_law_other", "_law_tie"] ["_law_deck_here"] (defScope sHistory) := ⟨rfl, rfl, rfl, by decide +kernel, rfl, by decide +kernel, by decide +kernel⟩
theorem ok_History {f : Addr} {fd : FuncData} (F : Fun K "_law_history" "_law_history" sHistory f fd) (T : Txt mg)
    {gDraw : Addr} {fDraw : FuncData} (kDraw : PySem.W.keepIn K (.ref gDraw) = true) (bDraw : Binds K fDraw ["_law_deck_here", "_law_most"] []) (hDraw : mg "_law_draw" = some (.ref gDraw)) (GDraw : FnOk P w K mg base CX0 4 gDraw fDraw ["_law_deck_here", "_law_most"] spDraw)
    {gNames : Addr} {fNames : FuncData} (kNames : PySem.W.keepIn K (.ref gNames) = true) (bNames : Binds K fNames ["_law_deck_here", "_law_many"] []) (hNames : mg "_law_names" = some (.ref gNames)) (GNames : FnOk P w K mg base CX0 4 gNames fNames ["_law_deck_here", "_law_many"] spNames)
    {gMoment : Addr} {fMoment : FuncData} (kMoment : PySem.W.keepIn K (.ref gMoment) = true) (bMoment : Binds K fMoment ["_law_deck_here", "_law_moment_here"] []) (hMoment : mg "_law_moment" = some (.ref gMoment)) (GMoment : FnOk P w K mg base CX0 4 gMoment fMoment ["_law_deck_here", "_law_moment_here"] spMoment)
    {gEnds : Addr} {fEnds : FuncData} (kEnds : PySem.W.keepIn K (.ref gEnds) = true) (bEnds : Binds K fEnds ["_law_deck_here", "_law_many", "_law_ties"] []) (hEnds : mg "_law_ends" = some (.ref gEnds)) (GEnds : FnOk P w K mg base CX0 4 gEnds fEnds ["_law_deck_here", "_law_many", "_law_ties"] spEnds)
    {gWeight : Addr} {fWeight : FuncData} (kWeight : PySem.W.keepIn K (.ref gWeight) = true) (bWeight : Binds K fWeight ["_law_deck_here", "_law_ties"] []) (hWeight : mg "_law_weight" = some (.ref gWeight)) (GWeight : FnOk P w K mg base CX0 4 gWeight fWeight ["_law_deck_here", "_law_ties"] spWeight) :
    FnOk P w K mg base CX0 5 f fd ["_law_deck_here"] spHistory := by
  refine F.ok scHistory (fun vs H Q E h => ?_) (fun cdv A outer s H vs Q E hr h => ?_)
  · obtain ⟨_, _, rfl, _⟩ := h; rfl
  · obtain ⟨a, c, rfl, hw, k⟩ := h
    refine ⟨_, pss_cons (ps_set (i := 1) scHistory.nd rfl (Or.inl rfl) (pe_callTy call_int1 (by rfl) T.int (by decide +kernel) (pa_cons (pe_cmpR op_eq (pe_call GDraw hr rfl hDraw kDraw bDraw .nil pass0 (pa_cons (pv 0) (pa_cons pe_int pa_nil))) pe_int (nomark _)) pa_nil)))
      (pss_cons (ps_set (i := 2) scHistory.nd rfl (Or.inl rfl) (pe_ix ix_list (pe_lst (pa_cons (pe_ix ix_list (pe_lst (pa_cons (pe_op op_add pe_int (pe_call GDraw hr rfl hDraw kDraw bDraw .nil pass0 (pa_cons (pv 0) (pa_cons pe_int pa_nil)))) (pa_cons (pe_op op_add pe_int (pe_call GDraw hr rfl hDraw kDraw bDraw .nil pass0 (pa_cons (pv 0) (pa_cons pe_int pa_nil)))) pa_nil))) (pe_call GDraw hr rfl hDraw kDraw bDraw .nil pass0 (pa_cons (pv 0) (pa_cons pe_int pa_nil))) (fun _ _ => rfl)) (pa_cons pe_int pa_nil))) (pv 1) (fun _ _ => rfl)))
      (pss_cons (ps_set (i := 3) scHistory.nd rfl (Or.inl rfl) (pe_ix ix_list (pe_lst (pa_cons (pe_ix ix_list (pe_lst (pa_cons (pe_call GDraw hr rfl hDraw kDraw bDraw .nil pass0 (pa_cons (pv 0) (pa_cons pe_int pa_nil))) (pa_cons (pe_call GDraw hr rfl hDraw kDraw bDraw .nil pass0 (pa_cons (pv 0) (pa_cons pe_int pa_nil))) pa_nil))) (pe_call GDraw hr rfl hDraw kDraw bDraw .nil pass0 (pa_cons (pv 0) (pa_cons pe_int pa_nil))) (fun _ _ => rfl)) (pa_cons (pe_op op_sub pe_int (pe_call GDraw hr rfl hDraw kDraw bDraw .nil pass0 (pa_cons (pv 0) (pa_cons pe_int pa_nil)))) pa_nil))) (pv 1) (fun _ _ => rfl)))
      (pss_cons (ps_set (i := 4) scHistory.nd rfl (Or.inl rfl) (pe_call GNames hr rfl hNames kNames bNames .nil pass0 (pa_cons (pv 0) (pa_cons (pe_ix ix_list (pe_lst (pa_cons (pe_ix ix_list (pe_lst (pa_cons (pe_op op_add pe_int (pe_call GDraw hr rfl hDraw kDraw bDraw .nil pass0 (pa_cons (pv 0) (pa_cons pe_int pa_nil)))) (pa_cons (pe_op op_add pe_int (pe_call GDraw hr rfl hDraw kDraw bDraw .nil pass0 (pa_cons (pv 0) (pa_cons pe_int pa_nil)))) pa_nil))) (pe_call GDraw hr rfl hDraw kDraw bDraw .nil pass0 (pa_cons (pv 0) (pa_cons pe_int pa_nil))) (fun _ _ => rfl)) (pa_cons (pe_op op_add pe_int (pe_call GDraw hr rfl hDraw kDraw bDraw .nil pass0 (pa_cons (pv 0) (pa_cons pe_int pa_nil)))) pa_nil))) (pv 1) (fun _ _ => rfl)) pa_nil))))
      (pss_cons (ps_set (i := 5) scHistory.nd rfl (Or.inl rfl) (pe_ix ix_list (pe_lst (pa_cons pe_int (pa_cons (pe_call GDraw hr rfl hDraw kDraw bDraw .nil pass0 (pa_cons (pv 0) (pa_cons pe_int pa_nil))) (pa_cons (pe_op op_sub (pe_op op_pow pe_int pe_int) (pe_call GDraw hr rfl hDraw kDraw bDraw .nil pass0 (pa_cons (pv 0) (pa_cons pe_int pa_nil)))) pa_nil)))) (pe_call GDraw hr rfl hDraw kDraw bDraw .nil pass0 (pa_cons (pv 0) (pa_cons pe_int pa_nil))) (fun _ _ => rfl)))
      (pss_cons (ps_set (i := 6) scHistory.nd rfl (Or.inl rfl) (pe_ix ix_list (pe_lst (pa_cons pe_int (pa_cons pe_int (pa_cons pe_int pa_nil)))) (pe_call GDraw hr rfl hDraw kDraw bDraw .nil pass0 (pa_cons (pv 0) (pa_cons pe_int pa_nil))) (fun _ _ => rfl)))
      (pss_cons (ps_set (i := 7) scHistory.nd rfl (Or.inr rfl) (pe_lst pa_nil))
      (pss_cons (ps_set (i := 8) scHistory.nd rfl (Or.inl rfl) (pe_lst pa_nil))
      (pss_cons (ps_set (i := 9) scHistory.nd rfl (Or.inl rfl) (pe_lst pa_nil))
      (pss_cons (ps_for PassesOwn.never rfl (pi_range1 rfl T.range (pa_cons (pe_op op_mul (pe_callB (call_min2 rfl) (by rfl) T.min (by decide +kernel) (pa_cons pe_int (pa_cons (pv 3) pa_nil))) (pe_callTy call_int1 (by rfl) T.int (by decide +kernel) (pa_cons (pe_cmpR op_gt (pv 2) pe_int (nomark _)) pa_nil))) pa_nil)) (pg_name (i := 10) scHistory.nd rfl (Or.inl rfl)) (pss_cons (ps_set (i := 5) scHistory.nd rfl (Or.inl rfl) (pe_call GMoment hr rfl hMoment kMoment bMoment .nil pass0 (pa_cons (pv 0) (pa_cons (pv 5) pa_nil))))
      (pss_cons (ps_comp (i := 11) (T := ["_law_name"]) (F := ["_law_there"]) (js := [7]) scHistory.nd rfl (Or.inl rfl) (CS.to (osc := defScope sHistory) ⟨by rfl, by decide +kernel, by decide +kernel, by decide +kernel, by decide +kernel, by decide +kernel, by decide +kernel⟩ rfl rfl) rfl (pi_list (pv 4)) (fun _ _ _ _ _ => pg_name (i := 0) (show (["_law_name", "_law_there"] : List Str).Nodup by decide +kernel) rfl (Or.inl rfl)) (fun _ _ _ _ _ => pif_one (pt_cmpR (r := rIn K true) op_notIn_seq (pv 0) (pv 1) (by rfl))) (fun _ _ _ _ _ => pv 0))
      (pss_one (ps_if (PW.pt (pw_or (pt_cmpR (op_eqNil hr.units) (pv 11) (pe_lst pa_nil) (nomark _)) (pw_or1 (PW.pt (pw_and (pt_cmpR (op_neNil hr.units) (pv 7) (pe_lst pa_nil) (nomark _)) (pw_and1 (pt_cmpR op_eq (pe_call GDraw hr rfl hDraw kDraw bDraw .nil pass0 (pa_cons (pv 0) (pa_cons (pv 6) pa_nil))) pe_int (nomark _)))))))) (PSs.imp' (t' := tGo) (pss_cons (ps_set (i := 12) scHistory.nd rfl (Or.inl rfl) (pe_bm PySem.F.plainAttrs_list PySem.F.slot_list_pop PySem.F.type_list_pop mt_popAt (pv 7) (pa_cons (pe_call GDraw hr rfl hDraw kDraw bDraw .nil pass0 (pa_cons (pv 0) (pa_cons (pe_callB call_len_seq (by rfl) T.len PySem.boot_len (pa_cons (pv 7) pa_nil)) pa_nil))) pa_nil)))
      (pss_one (ps_expr (pe_bm PySem.F.plainAttrs_list PySem.F.slot_list_append PySem.F.type_list_append mt_append (pv 9) (pa_cons (pe_tup (pa_cons pe_str (pa_cons (pv 5) (pa_cons (pv 12) pa_nil)))) pa_nil))))) ?go) (PSs.imp' (t' := tCome) (pss_cons (ps_set (i := 12) scHistory.nd rfl (Or.inl rfl) (pe_ix ix_list (pv 11) (pe_call GDraw hr rfl hDraw kDraw bDraw .nil pass0 (pa_cons (pv 0) (pa_cons (pe_callB call_len_seq (by rfl) T.len PySem.boot_len (pa_cons (pv 11) pa_nil)) pa_nil))) (fun _ _ => rfl)))
      (pss_cons (ps_asg (pe_call GEnds hr rfl hEnds kEnds bEnds .nil pass0 (pa_cons (pv 0) (pa_cons (pv 2) (pa_cons (pv 8) pa_nil)))) (pg_tup rfl (pgs_cons (pg_name (i := 13) scHistory.nd rfl (Or.inl rfl)) (pgs_cons (pg_name (i := 14) scHistory.nd rfl (Or.inl rfl)) pgs_nil))))
      (pss_cons (ps_set (i := 15) scHistory.nd rfl (Or.inl rfl) (pe_tup (pa_cons (pv 12) (pa_cons (pv 13) (pa_cons (pv 14) (pa_cons (pe_call GWeight hr rfl hWeight kWeight bWeight .nil pass0 (pa_cons (pv 0) (pa_cons (pv 8) pa_nil))) pa_nil))))))
      (pss_cons (ps_expr (pe_bm PySem.F.plainAttrs_list PySem.F.slot_list_append PySem.F.type_list_append mt_append (pv 7) (pa_cons (pv 12) pa_nil)))
      (pss_cons (ps_expr (pe_bm PySem.F.plainAttrs_list PySem.F.slot_list_append PySem.F.type_list_append mt_append (pv 8) (pa_cons (pv 15) pa_nil)))
      (pss_one (ps_expr (pe_bm PySem.F.plainAttrs_list PySem.F.slot_list_append PySem.F.type_list_append mt_append (pv 9) (pa_cons (pe_op op_catTT (pe_tup (pa_cons pe_str (pa_cons (pv 5) pa_nil))) (pv 15)) pa_nil))))))))) ?come))))))
      (pss_one (ps_ret (pe_tup (pa_cons (pv 2) (pa_cons (pe_callTy call_tuple_of (by rfl) T.tuple (by decide +kernel) (pa_cons (pv 9) pa_nil)) pa_nil)))))))))))))), ?_⟩
    case go =>
      dsimp only [cxOf, Cx.nox]
      clear k hw
      intro D σ H hI3_
      refine hideG fun G_ hG_ => ?_
      obtain ⟨H0, a, c, nl, th, ti, de, zs, ts, qs, rs, ds, i, x1, x2, x3, y0, y1, y2, y3, y4, y5, N, mo, rest, rfl, S, I, tn, i60, mO, k⟩ := hI3_
      have lp : 0 < ts.length := List.length_pos_iff.mpr tn
      have l60 := I.lt
      refine hG_ ?_
      refine ⟨_, rfl, .inl ⟨rfl, _, SqL.of I.ht⟩, _, rfl, _, rfl, th, _, rfl, .inl (SqL.of I.ht), a, c, _, rfl, I.dk, by rw [List.length_map]; omega, by rw [List.length_map]; omega, fun v H1 v0 v1 b1 w1 => ?_⟩
      rw [List.length_map] at v1
      have t1 := b1 _ _ I.ht S.t1 S.t2
      have hv : ts[v.toNat]? = some ts[v.toNat] := by simp [show v.toNat < ts.length by omega]
      generalize ts[v.toNat] = y at hv
      refine ⟨th, _, v, v.toNat, .str y, rfl, rfl, t1, by omega, by omega, ?_, by rw [List.getElem?_map, hv]; rfl, ?_⟩
      · rw [List.length_map]
        exact (ixN_seq (show ixN ts.length v = some v.toNat by unfold ixN; rw [if_pos v0, if_pos v1])).1
      have tup1 : Tup H H1 := Tup.but b1 I.dk
      have tup2 : Tup H1 (upd H1 th (.lst ((ts.map V.str).eraseIdx v.toNat))) := Tup.lst t1
      have h2 : upd H1 th (.lst ((ts.map V.str).eraseIdx v.toNat)) th = some (.lst ((ts.eraseIdx v.toNat).map V.str)) := by rw [upd_same, erase_map]
      have bt2 : But a c H0 (upd H1 th (.lst ((ts.map V.str).eraseIdx v.toNat))) := (I.bt.trans b1).set S.ft
      have w2 := w1.upd (o := .lst ((ts.map V.str).eraseIdx v.toNat)) ⟨S.t1, S.t2⟩
      have n2 : upd H1 th (.lst ((ts.map V.str).eraseIdx v.toNat)) nl = some (.lst (zs.map V.str)) := by rw [upd_ne S.nt]; exact b1 _ _ I.hn S.n1 S.n2
      have q2 : upd H1 th (.lst ((ts.map V.str).eraseIdx v.toNat)) ti = some (.lst (qs.map V.ref)) := by rw [upd_ne S.hi.symm]; exact b1 _ _ I.hq S.i1 S.i2
      have d2 : upd H1 th (.lst ((ts.map V.str).eraseIdx v.toNat)) de = some (.lst (rs.map V.ref)) := by rw [upd_ne S.hd.symm]; exact b1 _ _ I.hr S.d1 S.d2
      generalize upd H1 th (.lst ((ts.map V.str).eraseIdx v.toNat)) = H2 at tup2 h2 bt2 w2 n2 q2 d2
      refine ⟨_, rfl, .inl ⟨rfl, _, SqL.of d2⟩, _, rfl, _, rfl, small (by simp), fun r hr => ?_⟩
      have s3 := same_new (o := .tup [.str "go", .int mo, .str y]) hr
      have r3 := upd_same (H := H2) (a := r) (o := .tup [.str "go", .int mo, .str y])
      generalize upd H2 r (.tup [.str "go", .int mo, .str y]) = H3 at s3 r3
      have d3 := s3 _ _ d2
      have tup4 : Tup H3 (upd H3 de (.lst (rs.map V.ref ++ [.ref r]))) := Tup.lst d3
      have tt : Tup H (upd H3 de (.lst (rs.map V.ref ++ [.ref r]))) := ((tup1.trans tup2).trans (Tup.of s3)).trans tup4
      have ld := I.ld
      have lr := I.dd.1
      refine ⟨de, _, _, rfl, rfl, d3, small1000 (by simp; omega), k _ _ (ts.eraseIdx v.toNat) qs (rs ++ [r]) (ds ++ [.go mo y]) ⟨_, _, _, _, _, _, rfl⟩ ?_ (mO.snoc rfl)⟩
      have yin : y ∈ ts := List.mem_of_getElem? hv
      exact {
        bt := (bt2.trans (But.of s3)).set S.fd
        dk := (w2.same s3).upd ⟨S.d1, S.d2⟩
        hn := by rw [upd_ne S.nd]; exact s3 _ _ n2
        ht := by rw [upd_ne S.hd]; exact s3 _ _ h2
        hq := by rw [upd_ne S.id]; exact s3 _ _ q2
        qt := fun r' h' => let ⟨n, o, p, w', e⟩ := I.qt r' h'; ⟨n, o, p, w', tt _ _ e.1, e.2⟩
        hr := by rw [upd_same, List.map_append]; rfl
        dd := (I.dd.tup tt).snoc (tup4 _ _ r3)
        bd := fun d hd => by
          rcases List.mem_append.mp hd with z | z
          · exact I.bd d z
          · rw [List.mem_singleton.mp z]; trivial
        rt := by rw [List.reverse_append]; exact ⟨(I.me y).mp yin, I.rt⟩
        me := fun n => by
          rw [mem_eraseIdx I.nu hv, List.reverse_append]
          show _ ↔ (if y = n then false else hereR ds.reverse n) = true
          by_cases e : y = n
          · rw [if_pos e]; simp [e]
          · rw [if_neg e, I.me]; exact ⟨fun z => z.1, fun z => ⟨z, fun q => e q.symm⟩⟩
        nu := I.nu.sublist (List.eraseIdx_sublist _ _)
        lt := Nat.le_trans (List.eraseIdx_sublist _ _).length_le (by exact Nat.le_succ_of_le (by assumption))
        lq := by have := I.lq; exact Nat.le_succ_of_le (by assumption)
        ld := by simp [ld] }
    case come =>
      dsimp only [cxOf, Cx.nox]
      clear k hw
      intro D σ H hI3_
      refine hideG fun G_ hG_ => ?_
      obtain ⟨H0, a, c, nl, th, ti, de, fr, zs, ts, fs, qs, rs, ds, i, x1, x3, y0, y2, y3, y4, y5, N, mo, rest, rfl, S, I, N2, N1, hf, f1, f2, fn, f60, fo, i60, mO, k⟩ := hI3_
      have lp : 0 < fs.length := List.length_pos_iff.mpr fn
      refine hG_ ?_
      refine ⟨_, rfl, _, rfl, _, rfl, fr, _, rfl, .inl (SqL.of hf), a, c, _, rfl, I.dk, by rw [List.length_map]; omega, by rw [List.length_map]; omega, fun v H1 v0 v1 b1 w1 => ?_⟩
      rw [List.length_map] at v1
      obtain ⟨y, hy, ey⟩ := str_item fs v0 v1
      refine ⟨fr, _, v, _, rfl, rfl, SqL.of (b1 _ _ hf f1 f2), ey, ?_⟩
      have q60 := I.lq
      have ties : ∀ {H' : Hp}, But a c H H' → TisD N H' ti qs := fun {H'} b => TisD.but (H := H) ⟨I.hq, I.qt, by omega⟩ b I.dk S.i1 S.i2
      refine ⟨_, rfl, _, rfl, _, rfl, a, c, ti, N, qs, rfl, w1, N2, N1, ties b1, S.i1, S.i2, fun p o q H2 en b2 w2 hp => ⟨p, _, rfl, SqT.of hp, rfl, _, _, rfl, _, _, rfl, rfl, ?_⟩⟩
      refine ⟨_, rfl, _, rfl, _, rfl, _, rfl, _, rfl, a, c, ti, N, qs, rfl, w2, ties (b1.trans b2), S.i1, S.i2, fun wt H3 wt0 wt9 b3 w3 => ⟨small (by simp), fun t ht => ?_⟩⟩
      have B3 := (b1.trans b2).trans b3
      have s4 := same_new (o := .tup [.str y, .int o, .int q, .int wt]) ht
      have t4 := upd_same (H := H3) (a := t) (o := .tup [.str y, .int o, .int q, .int wt])
      generalize upd H3 t (.tup [.str y, .int o, .int q, .int wt]) = H4 at s4 t4
      have B4 : But a c H H4 := B3.trans (But.of s4)
      have w4 := w3.same s4
      have th4 := B4 _ _ I.ht S.t1 S.t2
      have lt := I.lt
      have ld := I.ld
      have lr := I.dd.1
      refine ⟨_, rfl, .inl ⟨rfl, _, SqL.of th4⟩, _, rfl, th, _, _, rfl, rfl, th4, small1000 (by simp; clear q60; omega), ?_⟩
      have tup1 : Tup H H4 := Tup.but B4 I.dk
      have tup5 : Tup H4 (upd H4 th (.lst (ts.map V.str ++ [.str y]))) := Tup.lst th4
      have h5 : upd H4 th (.lst (ts.map V.str ++ [.str y])) th = some (.lst ((ts ++ [y]).map V.str)) := by rw [upd_same, List.map_append]; rfl
      have bt5 : But a c H0 (upd H4 th (.lst (ts.map V.str ++ [.str y]))) := (I.bt.trans B4).set S.ft
      have w5 := w4.upd (o := .lst (ts.map V.str ++ [.str y])) ⟨S.t1, S.t2⟩
      have n5 : upd H4 th (.lst (ts.map V.str ++ [.str y])) nl = some (.lst (zs.map V.str)) := by rw [upd_ne S.nt]; exact B4 _ _ I.hn S.n1 S.n2
      have q5 : upd H4 th (.lst (ts.map V.str ++ [.str y])) ti = some (.lst (qs.map V.ref)) := by rw [upd_ne S.hi.symm]; exact B4 _ _ I.hq S.i1 S.i2
      have d5 : upd H4 th (.lst (ts.map V.str ++ [.str y])) de = some (.lst (rs.map V.ref)) := by rw [upd_ne S.hd.symm]; exact B4 _ _ I.hr S.d1 S.d2
      generalize upd H4 th (.lst (ts.map V.str ++ [.str y])) = H5 at tup5 h5 bt5 w5 n5 q5 d5
      refine ⟨_, rfl, .inl ⟨rfl, _, SqL.of q5⟩, _, rfl, ti, _, _, rfl, rfl, q5, small1000 (by simp; clear lt; omega), ?_⟩
      have tup6 : Tup H5 (upd H5 ti (.lst (qs.map V.ref ++ [.ref t]))) := Tup.lst q5
      have q6 : upd H5 ti (.lst (qs.map V.ref ++ [.ref t])) ti = some (.lst ((qs ++ [t]).map V.ref)) := by rw [upd_same, List.map_append]; rfl
      have bt6 : But a c H0 (upd H5 ti (.lst (qs.map V.ref ++ [.ref t]))) := bt5.set S.fi
      have w6 := w5.upd (o := .lst (qs.map V.ref ++ [.ref t])) ⟨S.i1, S.i2⟩
      have n6 : upd H5 ti (.lst (qs.map V.ref ++ [.ref t])) nl = some (.lst (zs.map V.str)) := by rw [upd_ne S.ni]; exact n5
      have h6 : upd H5 ti (.lst (qs.map V.ref ++ [.ref t])) th = some (.lst ((ts ++ [y]).map V.str)) := by rw [upd_ne S.hi]; exact h5
      have d6 : upd H5 ti (.lst (qs.map V.ref ++ [.ref t])) de = some (.lst (rs.map V.ref)) := by rw [upd_ne S.id.symm]; exact d5
      generalize upd H5 ti (.lst (qs.map V.ref ++ [.ref t])) = H6 at tup6 q6 bt6 w6 n6 h6 d6
      have t6 := tup6 _ _ (tup5 _ _ t4)
      refine ⟨_, rfl, .inl ⟨rfl, _, SqL.of d6⟩, _, rfl, small (by simp), fun u hu => ?_⟩
      have s7 := same_new (o := .tup [.str "come", .int mo]) hu
      have u7 := upd_same (H := H6) (a := u) (o := .tup [.str "come", .int mo])
      generalize upd H6 u (.tup [.str "come", .int mo]) = H7 at s7 u7
      refine ⟨_, rfl, u, t, _, _, rfl, rfl, SqT.of u7, SqT.of (s7 _ _ t6), small (by simp), (fun z => by cases z), (fun _ z => by cases z), fun _ _ r hr => ?_⟩
      have s8 := same_new (o := .tup [.str "come", .int mo, .str y, .int o, .int q, .int wt]) hr
      have r8 := upd_same (H := H7) (a := r) (o := .tup [.str "come", .int mo, .str y, .int o, .int q, .int wt])
      have S8 := s7.trans s8
      show RAppendP _ _ _ _
      generalize hH8 : upd H7 r (.tup ([.str "come", .int mo] ++ [.str y, .int o, .int q, .int wt])) = H8
      have hH8 : upd H7 r (.tup [.str "come", .int mo, .str y, .int o, .int q, .int wt]) = H8 := hH8
      rw [hH8] at s8 r8 S8
      have d8 := S8 _ _ d6
      have tup9 : Tup H8 (upd H8 de (.lst (rs.map V.ref ++ [.ref r]))) := Tup.lst d8
      have tt : Tup H4 (upd H8 de (.lst (rs.map V.ref ++ [.ref r]))) := ((tup5.trans tup6).trans (Tup.of S8)).trans tup9
      refine ⟨de, _, _, rfl, rfl, d8, small1000 (by simp; clear q60 lt; omega), k _ _ (ts ++ [y]) (qs ++ [t]) (rs ++ [r]) (ds ++ [.come mo y o q wt]) ⟨_, _, _, _, _, _, rfl⟩ ?_ (mO.snoc rfl)⟩
      have ynot : y ∉ ts := fo y hy
      exact {
        bt := (bt6.trans (But.of S8)).set S.fd
        dk := (w6.same S8).upd ⟨S.d1, S.d2⟩
        hn := by rw [upd_ne S.nd]; exact S8 _ _ n6
        ht := by rw [upd_ne S.hd]; exact S8 _ _ h6
        hq := by rw [upd_ne S.id]; exact S8 _ _ q6
        qt := fun r' h' => by
          rcases List.mem_append.mp h' with z | z
          · obtain ⟨n, o, p, w', e⟩ := I.qt r' z
            exact ⟨n, o, p, w', tt _ _ (tup1 _ _ e.1), e.2⟩
          · rw [List.mem_singleton.mp z]
            exact ⟨_, _, _, _, tt _ _ t4, en, wt0, wt9⟩
        bd := fun d hd => by
          rcases List.mem_append.mp hd with z | z
          · exact I.bd d z
          · rw [List.mem_singleton.mp z]; exact ⟨en, wt0, wt9⟩
        hr := by rw [upd_same, List.map_append]; rfl
        dd := (I.dd.tup (tup1.trans tt)).snoc (tup9 _ _ r8)
        rt := by
          rw [List.reverse_append]
          refine ⟨?_, I.rt⟩
          show hereR ds.reverse y = false
          cases z : hereR ds.reverse y with
          | false => rfl
          | true => exact absurd ((I.me y).mpr z) ynot
        me := fun n => by
          rw [List.reverse_append, List.mem_append, List.mem_singleton]
          show _ ↔ (if y = n then true else hereR ds.reverse n) = true
          by_cases e : y = n
          · rw [if_pos e]; simp [e]
          · rw [if_neg e, I.me]; exact ⟨fun z => z.resolve_right fun q => e q.symm, .inl⟩
        nu := by
          rw [List.nodup_append]
          exact ⟨I.nu, by simp, fun x hx z hz => by rw [List.mem_singleton.mp hz]; exact fun e => ynot (e ▸ hx)⟩
        lt := by simp; assumption
        lq := by simp; assumption
        ld := by simp [ld] }
    dsimp only [cxOf, Cx.nox]
    refine hide fun R1_ g1_ => ?_
    refine ⟨_, rfl, a, c, 8, rfl, hw, by decide, by decide, fun v0 H1 _ _ b1 w1 => ⟨rfl, .inr ⟨_, rfl, ?_⟩⟩⟩
    generalize hgr : (if decide (V.int v0 = V.int 5) = true then (1 : Int) else 0) = gr
    have g01 : 0 ≤ gr ∧ gr < 2 := by rw [← hgr]; split <;> decide
    clear hgr
    refine g1_ _ _ _ ?_
    refine hide fun R2_ g2_ => ?_
    refine ⟨_, rfl, a, c, 4, rfl, w1, by decide, by decide, fun v1 H2 p0 p1 b2 w2 => ⟨_, _, rfl, rfl, _, rfl, a, c, 6, rfl, w2, by decide, by decide, fun v2 H3 p2 p3 b3 w3 => ⟨_, _, rfl, rfl, small (by simp), fun q hq => ?_⟩⟩⟩
    refine ⟨_, rfl, a, c, 2, rfl, w3.upd (w3.ne hq), by decide, by decide, fun x H4 x0 x1 b4 w4 => ?_⟩
    have q4 := b4 _ _ upd_same (w3.ne hq).1 (w3.ne hq).2
    obtain ⟨y, my, ey⟩ := int_item [1 + v1, 2 + v2] x0 x1
    have yb : 1 ≤ y ∧ y ≤ 7 := by
      rcases List.mem_cons.mp my with rfl | my
      · clear g01; omega
      · rw [List.mem_singleton.mp my]; clear g01; omega
    refine ⟨q, _, x, _, rfl, rfl, SqL.of q4, ey, small (by simp), fun q2 hq2 => ?_⟩
    obtain ⟨N, mN, eN⟩ := int_item [y, 24] g01.1 g01.2
    have Nb : 1 ≤ N ∧ N ≤ 24 := by
      rcases List.mem_cons.mp mN with rfl | mN
      · clear g01; omega
      · rw [List.mem_singleton.mp mN]; decide
    refine ⟨_, rfl, q2, _, gr, _, rfl, rfl, SqL.of upd_same, eN, ?_⟩
    refine g2_ _ _ _ ?_
    refine hide fun R3_ g3_ => ?_
    have w5 := w4.upd (o := .lst [.int y, .int 24]) (w4.ne hq2)
    have B5 : But a c H (upd H4 q2 (.lst [.int y, .int 24])) := ((((b1.trans b2).trans b3).trans (But.of (same_new hq))).trans b4).trans (But.of (same_new hq2))
    show TVarP _ _ _ _
    generalize upd H4 q2 (.lst [.int y, .int 24]) = H5 at w5 B5
    clear ey my yb eN mN q4 b4 w4 b3 w3 b2 w2 b1 w1 x0 x1 p0 p1 p2 p3 hq hq2
    refine ⟨_, rfl, a, c, 7, rfl, w5, by decide, by decide, fun v1 H2 p0 p1 b2 w2 => ⟨_, rfl, a, c, 16, rfl, w2, by decide, by decide, fun v2 H3 p2 p3 b3 w3 => ⟨small (by simp), fun q hq => ?_⟩⟩⟩
    refine ⟨_, rfl, a, c, 2, rfl, w3.upd (w3.ne hq), by decide, by decide, fun x H4 x0 x1 b4 w4 => ?_⟩
    have q4 := b4 _ _ upd_same (w3.ne hq).1 (w3.ne hq).2
    obtain ⟨y, my, ey⟩ := int_item [v1, v2] x0 x1
    have yb : 0 ≤ y ∧ y ≤ 16 := by
      rcases List.mem_cons.mp my with rfl | my
      · clear g01 Nb; omega
      · rw [List.mem_singleton.mp my]; clear g01 Nb; omega
    refine ⟨q, _, x, _, rfl, rfl, SqL.of q4, ey, _, rfl, a, c, 3, rfl, w4, by decide, by decide, fun v3 H6 p4 p5 b6 w6 => ⟨_, _, rfl, rfl, small (by simp), fun q2 hq2 => ?_⟩⟩
    obtain ⟨C, mC, eC⟩ := int_item [y, 61 - v3] g01.1 g01.2
    have Cb : 0 ≤ C ∧ C ≤ 61 := by
      rcases List.mem_cons.mp mC with rfl | mC
      · clear g01 Nb; omega
      · rw [List.mem_singleton.mp mC]; clear g01 Nb yb; omega
    refine ⟨_, rfl, q2, _, gr, _, rfl, rfl, SqL.of upd_same, eC, ?_⟩
    refine g3_ _ _ _ ?_
    refine hide fun R4_ g4_ => ?_
    have w7 := w6.upd (o := .lst [.int y, .int (61 - v3)]) (w6.ne hq2)
    have B7 : But a c H (upd H6 q2 (.lst [.int y, .int (61 - v3)])) := ((((B5.trans b2).trans b3).trans (But.of (same_new hq))).trans b4).trans (b6.trans (But.of (same_new hq2)))
    show TVarP _ _ _ _
    generalize upd H6 q2 (.lst [.int y, .int (61 - v3)]) = H7 at w7 B7
    clear ey my yb eC mC q4 b4 w4 b3 w3 b2 w2 b6 w6 B5 w5 x0 x1 p0 p1 p2 p3 p4 p5 hq hq2
    refine ⟨_, rfl, _, rfl, a, c, 4, rfl, w7, by decide, by decide, fun v1 H2 p0 p1 b2 w2 => ⟨_, _, rfl, rfl, _, rfl, a, c, 12, rfl, w2, by decide, by decide, fun v2 H3 p2 p3 b3 w3 => ⟨_, _, rfl, rfl, small (by simp), fun q hq => ?_⟩⟩⟩
    refine ⟨_, rfl, a, c, 2, rfl, w3.upd (w3.ne hq), by decide, by decide, fun x H4 x0 x1 b4 w4 => ?_⟩
    have q4 := b4 _ _ upd_same (w3.ne hq).1 (w3.ne hq).2
    obtain ⟨y, my, ey⟩ := int_item [1 + v1, 1 + v2] x0 x1
    have yb : 1 ≤ y ∧ y ≤ 12 := by
      rcases List.mem_cons.mp my with rfl | my
      · clear g01 Nb Cb; omega
      · rw [List.mem_singleton.mp my]; clear g01 Nb Cb; omega
    refine ⟨q, _, x, _, rfl, rfl, SqL.of q4, ey, _, rfl, a, c, 60, rfl, w4, by decide, by decide, fun v3 H6 p4 p5 b6 w6 => ⟨_, _, rfl, rfl, small (by simp), fun q2 hq2 => ?_⟩⟩
    obtain ⟨M, mM, eM⟩ := int_item [y, 1 + v3] g01.1 g01.2
    have Mb : 1 ≤ M ∧ M ≤ 60 := by
      rcases List.mem_cons.mp mM with rfl | mM
      · clear g01 Nb Cb; omega
      · rw [List.mem_singleton.mp mM]; clear g01 Nb Cb yb; omega
    refine ⟨_, rfl, q2, _, gr, _, rfl, rfl, SqL.of upd_same, eM, ?_⟩
    have w8 := w6.upd (o := .lst [.int y, .int (1 + v3)]) (w6.ne hq2)
    have B8 : But a c H (upd H6 q2 (.lst [.int y, .int (1 + v3)])) := ((((B7.trans b2).trans b3).trans (But.of (same_new hq))).trans b4).trans (b6.trans (But.of (same_new hq2)))
    refine ⟨a, c, M.toNat, by rw [Int.toNat_of_nonneg (by omega)]; rfl, w8, by clear g01 Nb Cb yb; omega, fun nl zs H9 b9 w9 hn nn1 nn2 zl => ?_⟩
    refine g4_ _ _ _ ?_
    refine hide fun R5_ g5_ => ?_
    have B9 := B8.trans b9
    clear ey my yb eM mM q4 b4 w4 b3 w3 b2 w2 b6 w6 B7 w7 x0 x1 p0 p1 p2 p3 p4 p5 B8 b9 w8 hq hq2
    refine ⟨_, rfl, a, c, 9, rfl, w9, by decide, by decide, fun v1 H2 g1 g2 b2 w2 => ⟨_, _, rfl, rfl, ⟨by decide, by decide, by decide⟩, _, rfl, a, c, 9, rfl, w2, by decide, by decide, fun v2 H3 g3 g4 b3 w3 => ⟨_, _, rfl, rfl, small (by simp), fun q hq => ?_⟩⟩⟩
    refine ⟨_, rfl, a, c, 3, rfl, w3.upd (w3.ne hq), by decide, by decide, fun x H4 x0 x1 b4 w4 => ?_⟩
    have q4 := b4 _ _ upd_same (w3.ne hq).1 (w3.ne hq).2
    obtain ⟨mo, mmo, emo⟩ := int_item [0, v1, 10 ^ 9 - v2] x0 x1
    have mob : 0 ≤ mo ∧ mo ≤ 1000000000 := by
      simp only [List.mem_cons, List.not_mem_nil, or_false] at mmo
      have t9 : (10 : Int) ^ 9 = 1000000000 := by decide
      rw [t9] at mmo
      rcases mmo with rfl | rfl | rfl <;> omega
    refine ⟨q, _, x, _, rfl, rfl, SqL.of q4, emo, ?_⟩
    refine g5_ _ _ _ ?_
    refine hide fun R6_ g6_ => ?_
    have b5 : But a c H9 H4 := ((b2.trans b3).trans (But.of (same_new hq))).trans b4
    have n4 := b5 _ _ hn nn1 nn2
    have B4 := B9.trans b5
    clear emo q4 b4 b3 w3 b2 w2 x0 x1 b5 B9 hn hq w9
    refine ⟨small (by simp), fun q hq => ⟨_, rfl, a, c, 3, rfl, w4.upd (w4.ne hq), by decide, by decide, fun x H5 x0 x1 b5 w5 => ?_⟩⟩
    have q5 := b5 _ _ upd_same (w4.ne hq).1 (w4.ne hq).2
    obtain ⟨rest, mr, er⟩ := int_item [3, 3, 20] x0 x1
    have rb : 0 < rest ∧ rest ≤ 20 := by
      rcases List.mem_cons.mp mr with rfl | mr
      · decide
      · rcases List.mem_cons.mp mr with rfl | mr
        · decide
        · rw [List.mem_singleton.mp mr]; decide
    refine ⟨q, _, x, _, rfl, rfl, SqL.of q5, er, ?_⟩
    refine g6_ _ _ _ ?_
    refine hide fun R7_ g7_ => ?_
    have B5 : But a c H H5 := B4.trans ((But.of (same_new hq)).trans b5)
    have n5 := b5 _ _ (same_new (o := .lst [.int 3, .int 3, .int 20]) hq _ _ n4) nn1 nn2
    clear er q5 mr x0 x1 b5 B4 n4 hq w4
    refine ⟨small (by simp), fun th hth => ?_⟩
    refine g7_ _ _ _ ?_
    refine hide fun R8_ g8_ => ?_
    have th1 := w5.ne hth
    have fth := B5.none w5 hth
    have nth := ne_of_none n5 hth
    have w6 := w5.upd (o := .lst []) th1
    have B6 : But a c H (upd H5 th (.lst [])) := B5.set fth
    have n6 := same_new (o := .lst []) hth _ _ n5
    have t6 := upd_same (H := H5) (a := th) (o := .lst [])
    generalize upd H5 th (.lst []) = H6 at w6 B6 n6 t6
    refine ⟨small (by simp), fun ti hti => ?_⟩
    refine g8_ _ _ _ ?_
    refine hide fun R9_ g9_ => ?_
    have ti1 := w6.ne hti
    have fti := B6.none w6 hti
    have nti := ne_of_none n6 hti
    have tti := ne_of_none t6 hti
    have w7 := w6.upd (o := .lst []) ti1
    have B7 : But a c H (upd H6 ti (.lst [])) := B6.set fti
    have n7 := same_new (o := .lst []) hti _ _ n6
    have t7 := same_new (o := .lst []) hti _ _ t6
    have i7 := upd_same (H := H6) (a := ti) (o := .lst [])
    generalize upd H6 ti (.lst []) = H7 at w7 B7 n7 t7 i7
    refine ⟨small (by simp), fun de hde => ?_⟩
    refine g9_ _ _ _ ?_
    have de1 := w7.ne hde
    have fde := B7.none w7 hde
    have S : Sep H a c nl th ti de := ⟨nn1, nn2, th1.1, th1.2, ti1.1, ti1.2, de1.1, de1.2, nth, nti, ne_of_none n7 hde, tti, ne_of_none t7 hde, ne_of_none i7 hde, fth, fti, fde⟩
    have I0 : HS N H a c nl th ti de zs [] [] [] [] 0 (upd H7 de (.lst [])) := {
      bt := B7.set fde
      dk := w7.upd de1
      hn := same_new hde _ _ n7
      ht := same_new hde _ _ t7
      hq := same_new hde _ _ i7
      qt := fun r h => nomatch h
      bd := fun d h => nomatch h
      hr := upd_same
      dd := ⟨rfl, fun i r d e => by simp at e⟩
      rt := trivial
      me := fun n => by simp [hereR]
      nu := .nil
      lt := Nat.le_refl _
      lq := Nat.le_refl _
      ld := rfl }
    generalize upd H7 de (.lst []) = H8 at I0
    clear n7 t7 i7 w7 B7 n6 t6 w6 B6 n5 w5 B5 hde hti hth
    obtain ⟨tot, htot⟩ : ∃ tot : Int, tot = (if C < 60 then C else 60) * (if decide (N > 1) = true then 1 else 0) := ⟨_, rfl⟩
    have tb : tot ≤ 60 ∧ (0 < tot → 2 ≤ N) := by
      by_cases hN : N > 1
      · rw [decide_eq_true hN, if_pos rfl, Int.mul_one] at htot
        refine ⟨?_, fun _ => by assumption⟩
        rw [htot]; split <;> omega
      · have e0 : (if decide (N > 1) = true then (1 : Int) else 0) = 0 := by rw [decide_eq_false hN]; rfl
        rw [e0, Int.mul_zero] at htot
        clear zl; omega
    refine ⟨_, rfl, _, _, rfl, _, rfl, _, _, rfl, rfl, .inr ⟨_, rfl, _, _, rfl, rfl, .inl ⟨by split <;> omega, by split <;> omega⟩, ?_⟩⟩
    have t0 : 0 ≤ tot := by
      rw [htot]
      refine Int.mul_nonneg ?_ ?_
      · split <;> omega
      · split <;> decide
    refine ⟨tot, by rw [htot], by clear g01 Nb Cb Mb zl mob rb; omega, by clear g01 Nb Cb Mb zl mob rb; omega, for_rangeL (lo := 0) (n := tot.toNat) (fun i σ H9 => ∃ (y0 y1 y2 y3 y4 y5 : Option V) (mo : Int) (ts : List Str) (qs rs : List Addr) (ds : List Deed), σ = LSt a (some (.int gr)) (some (.int N)) (some (.int C)) nl mo rest th ti de [y0, y1, y2, y3, y4, y5] ∧ HS N H a c nl th ti de zs ts qs rs ds i H9 ∧ Mo ds mo) ⟨none, none, none, none, none, none, mo, [], [], [], [], rfl, I0, mob.1, mob.2, (fun d hd => nomatch hd), .nil⟩ ?_ ?_⟩
    rotate_left
    · intro σ H9 hI2_
      refine hideG fun G_ hG_ => ?_
      obtain ⟨y0, y1, y2, y3, y4, y5, mo, ts, qs, rs, ds, rfl, I, mO⟩ := hI2_
      refine hG_ ?_
      refine ⟨_, rfl, _, rfl, de, _, rfl, .inl ⟨SqL.of I.hr, fun t ht => ?_⟩⟩
      have s1 := same_new (o := .tup (rs.map V.ref)) ht
      have t1 := upd_same (H := H9) (a := t) (o := .tup (rs.map V.ref))
      generalize upd H9 t (.tup (rs.map V.ref)) = H10 at s1 t1
      refine ⟨small (by simp), fun h hh => ?_⟩
      have s2 := same_new (o := .tup [.int N, .ref t]) hh
      exact k h N ds _ (I.bt.trans (But.of (s1.trans s2))) (I.dk.same (s1.trans s2)) Nb.1 Nb.2 I.bd ⟨t, rs, upd_same, s2 _ _ t1, I.dd.tup (Tup.of (s1.trans s2)), by have := I.ld; clear g01 Nb Cb Mb zl mob rb; omega⟩ I.rt ⟨mo, mO⟩
    intro i σ H9 hi hI4_ E_
    refine hideG fun G_ hG_ => ?_
    obtain ⟨y0, y1, y2, y3, y4, y5, mo, ts, qs, rs, ds, rfl, I, mO⟩ := hI4_
    refine hG_ ?_
    refine seqG2 ?_
    intro R2_ R1_
    refine ⟨_, rfl, _, rfl, a, c, mo, rfl, I.dk, mO.lo, mO.hi, fun mo' H10 z1 z2 b10 w10 => ?_⟩
    replace mO := mO.more z1 z2
    have I10 := I.but S b10 w10
    clear I b10 w10 I0
    refine ⟨_, rfl, nl, rfl, ⟨_, SqL.of I10.hn⟩, fun D hD => comp_listL (K := K) (a := nl) (xs := zs.map V.str) (fun j σ ys H11 => ∃ (u : Option V) (fs : List Str), σ = [u, some (.ref th)] ∧ ys = fs.map V.str ∧ H11 = upd H10 D (.lst ys) ∧ fs = (zs.take j).filter (fun n => decide (n ∉ ts))) ⟨none, [], rfl, rfl, rfl, by simp⟩ (fun j σ ys H11 _ ⟨_, _, _, _, e, _⟩ => by rw [e]; exact ⟨SqL.of (by rw [upd_ne (ne_of_none I10.hn hD)]; exact I10.hn), upd_same⟩) ?_ ?_⟩
    · intro j x σ ys H11 hx hI6_ E_
      refine hideG fun G_ hG_ => ?_
      obtain ⟨u, fs, rfl, rfl, rfl, hfs⟩ := hI6_
      obtain ⟨z, ez, rfl⟩ : ∃ z, zs[j]? = some z ∧ x = .str z := by
        rw [List.getElem?_map] at hx
        cases q : zs[j]? with
        | none => rw [q] at hx; cases hx
        | some z => rw [q] at hx; exact ⟨z, rfl, (Option.some.inj hx).symm⟩
      have tk : zs.take (j + 1) = zs.take j ++ [z] := by rw [List.take_succ, ez]; rfl
      have th11 : upd H10 D (.lst (fs.map V.str)) th = some (.lst (ts.map V.str)) := by rw [upd_ne (ne_of_none I10.ht hD)]; exact I10.ht
      have lf : fs.length ≤ 60 := by
        rw [hfs]
        refine Nat.le_trans (List.length_filter_le _ _) ?_
        rw [List.length_take]
        clear g01 Nb Cb mob rb z1; omega
      refine hG_ ?_
      refine ⟨_, rfl, _, rfl, th, _, rfl, .inl (SqL.of th11), rfl, flat_strs ts, _, rfl, ?_⟩
      rw [inV_strs]
      refine ite2 (fun g => ?_) fun g => ?_
      · have g : z ∉ ts := by simpa using g
        exact ⟨_, rfl, upd_same, small1000 (by simp; exact Nat.le_trans (by assumption) (by decide)), _, fs ++ [z], rfl, by rw [List.map_append]; rfl, by rw [upd_upd], by rw [tk, List.filter_append, ← hfs]; simp [g]⟩
      · have g : z ∈ ts := by simpa using g
        exact ⟨_, fs, rfl, rfl, rfl, by rw [tk, List.filter_append, ← hfs]; simp [g]⟩
    intro σ ys H11 hI3_
    refine hideG fun G_ hG_ => ?_
    obtain ⟨u, fs, rfl, rfl, rfl, hfs⟩ := hI3_
    have hfs : fs = zs.filter (fun n => decide (n ∉ ts)) := by rw [hfs, List.take_of_length_le (by simp)]
    have Dn := I10.dk.ne hD
    have sD := same_new (o := .lst (fs.map V.str)) hD
    have I11 := I10.but S (But.of sD) (I10.dk.same sD)
    have D11 := upd_same (H := H10) (a := D) (o := .lst (fs.map V.str))
    refine hG_ ?_
    generalize upd H10 D (.lst (fs.map V.str)) = H11 at I11 D11
    clear sD I10 hD
    have zne : zs ≠ [] := fun e => by rw [e] at zl; simp at zl; clear g01 Nb Cb mob rb; omega
    have N2 : 2 ≤ N := tb.2 (by clear g01 Nb Cb Mb zl mob rb; omega)
    have i60 : i < 60 := by clear g01 Nb Cb Mb zl mob rb; omega
    have lf : fs.length ≤ 60 := by
      rw [hfs]
      exact Nat.le_trans (List.length_filter_le _ _) (by clear g01 Nb Cb mob rb; omega)
    have tne : fs = [] → ts ≠ [] := fun e e2 => by
      rw [e2, e] at hfs
      exact zne (List.eq_nil_iff_forall_not_mem.mpr (by simpa using hfs.symm))
    have post : ∀ σ' H' ts' qs' rs' ds', (∃ y0 y1 y2 y3 y4 y5, σ' = LSt a (some (.int gr)) (some (.int N)) (some (.int C)) nl mo' rest th ti de [y0, y1, y2, y3, y4, y5]) → HS N H a c nl th ti de zs ts' qs' rs' ds' (i + 1) H' → Mo ds' mo' → ∃ (y0 y1 y2 y3 y4 y5 : Option V) (mo : Int) (ts : List Str) (qs rs : List Addr) (ds : List Deed), σ' = LSt a (some (.int gr)) (some (.int N)) (some (.int C)) nl mo rest th ti de [y0, y1, y2, y3, y4, y5] ∧ HS N H a c nl th ti de zs ts qs rs ds (i + 1) H' ∧ Mo ds mo := fun σ' H' ts' qs' rs' ds' ⟨y0, y1, y2, y3, y4, y5, e⟩ h m => ⟨y0, y1, y2, y3, y4, y5, mo', ts', qs', rs', ds', e, h, m⟩
    refine ⟨_, rfl, small (by simp), fun q hq => ?_⟩
    have s12 := same_new (o := .lst []) hq
    have I12 := I11.but S (But.of s12) (I11.dk.same s12)
    have D12 := s12 _ _ D11
    have q12 := upd_same (H := H11) (a := q) (o := .lst [])
    generalize upd H11 q (.lst []) = H12 at I12 D12 q12
    refine ⟨D, q, _, rfl, rfl, SqL.of D12, SqL.of q12, _, rfl, ite2 (fun g => iteT ?_) fun g => ?_⟩
    · have fe : fs = [] := by simpa using g
      exact ⟨H, a, c, nl, th, ti, de, zs, ts, qs, rs, ds, i, _, _, _, _, _, _, _, _, _, N, mo', rest, rfl, S, I12, tne fe, i60, mO, post⟩
    have fne : fs ≠ [] := fun e => g (by rw [e]; rfl)
    have fo : ∀ n ∈ fs, n ∉ ts := fun n hn => by
      rw [hfs] at hn
      simpa using (List.mem_filter.mp hn).2
    refine ⟨_, rfl, small (by simp), fun q2 hq2 => ?_⟩
    have s13 := same_new (o := .lst []) hq2
    have I13 := I12.but S (But.of s13) (I12.dk.same s13)
    have D13 := s13 _ _ D12
    have q13 := upd_same (H := H12) (a := q2) (o := .lst [])
    generalize upd H12 q2 (.lst []) = H13 at I13 D13 q13
    refine ⟨th, q2, _, rfl, rfl, SqL.of I13.ht, SqL.of q13, _, rfl, ite2 (fun g2 => ?_) fun g2 => ?_⟩
    · refine ⟨_, rfl, _, rfl, a, c, rest, rfl, I13.dk, rb.1, by clear zl; omega, fun x H14 _ _ b14 w14 => ⟨rfl, _, rfl, ite2 (fun g3 => ?_) fun g3 => ?_⟩⟩
      · exact ⟨H, a, c, nl, th, ti, de, zs, ts, qs, rs, ds, i, _, _, _, _, _, _, _, _, _, N, mo', rest, rfl, S, I13.but S b14 w14, fun e => by rw [e] at g2; simp at g2, i60, mO, post⟩
      · exact ⟨H, a, c, nl, th, ti, de, D, zs, ts, fs, qs, rs, ds, i, _, _, _, _, _, _, _, N, mo', rest, rfl, S, I13.but S b14 w14, N2, by omega, b14 _ _ D13 Dn.1 Dn.2, Dn.1, Dn.2, fne, lf, fo, i60, mO, post⟩
    · exact ⟨H, a, c, nl, th, ti, de, D, zs, ts, fs, qs, rs, ds, i, _, _, _, _, _, _, _, N, mo', rest, rfl, S, I13, N2, by omega, D13, Dn.1, Dn.2, fne, lf, fo, i60, mO, post⟩
end
end K68
set_option maxHeartbeats 1000000
namespace K68
open PySem L2 Wk
def toD : Deed → Dd
  | .come m n a b w => .come m (n, a.toNat, b.toNat, w)
  | .go m n => .go m n
theorem toD_vs {N : Int} {d : Deed} (h : DB N d) : (toD d).vs = d.vs := by
  cases d with
  | come m n a b w =>
    have h1 := h.en.o0
    have h2 := h.en.q0
    show V.str (Str.ofString "come") :: .int m :: tieV (n, a.toNat, b.toNat, w) = _
    unfold tieV
    show _ = [V.str "come", .int m, .str n, .int a, .int b, .int w]
    rw [Int.toNat_of_nonneg h1, Int.toNat_of_nonneg h2]
  | go m n => rfl
theorem toD_mo (d : Deed) : (toD d).mo = d.mo := by cases d <;> rfl
theorem his_of {H : Hp} {h : Addr} {N : Int} {ds : List Deed} (x : HisD H h N ds) (n1 : 1 ≤ N) (b : ∀ d ∈ ds, DB N d) : HistAt H h N.toNat (ds.map toD) := by
  obtain ⟨t, rs, e1, e2, e3, _⟩ := x
  refine ⟨t, rs, by rw [Int.toNat_of_nonneg (by omega)]; exact e1, e2, ?_⟩
  refine ⟨by rw [List.length_map]; exact e3.1, fun i r d hr hd => ?_⟩
  obtain ⟨d0, hd0, rfl⟩ := map_some hd
  rw [toD_vs (b d0 (List.mem_of_getElem? hd0))]
  exact e3.2 i r d0 hr hd0
theorem here_thr : ∀ (k : Nat) (ds : List Deed), ds.length = k → ∀ n, hereR ds.reverse n = true ↔ n ∈ (thr (ds.map toD)).map (·.1) := by
  intro k
  induction k with
  | zero =>
    intro ds h n
    have : ds = [] := List.length_eq_zero_iff.mp h
    subst this
    simp [hereR, thr]
  | succ k ih =>
    intro ds h n
    have ne : ds ≠ [] := fun e => by rw [e] at h; cases h
    obtain ⟨ys, x, rfl⟩ : ∃ ys x, ds = ys ++ [x] := ⟨_, _, (List.dropLast_concat_getLast ne).symm⟩
    have ly : ys.length = k := by simpa using h
    have ih := ih ys ly n
    rw [List.reverse_append, List.map_append]
    show hereR (x :: ys.reverse) n = true ↔ n ∈ (thr (ys.map toD ++ [toD x])).map (·.1)
    rw [thr_snoc]
    cases x with
    | come m n' a b w =>
      show (if n' = n then true else hereR ys.reverse n) = true ↔ n ∈ (thr (ys.map toD) ++ [(n', a.toNat, b.toNat, w)]).map (·.1)
      rw [List.map_append, List.mem_append]
      by_cases e : n' = n
      · rw [if_pos e]; simp [e]
      · rw [if_neg e, ih]; simp; exact fun z => absurd z.symm e
    | go m n' =>
      show (if n' = n then false else hereR ys.reverse n) = true ↔ n ∈ ((thr (ys.map toD)).filter fun t => decide (t.1 ≠ n')).map (·.1)
      by_cases e : n' = n
      · rw [if_pos e]
        constructor
        · intro z; cases z
        · intro z
          obtain ⟨t, ht, q⟩ := List.mem_map.mp z
          have := (List.mem_filter.mp ht).2
          simp at this
          exact absurd (q.trans e.symm) this
      · rw [if_neg e, ih]
        constructor
        · intro z
          obtain ⟨t, ht, q⟩ := List.mem_map.mp z
          exact List.mem_map.mpr ⟨t, List.mem_filter.mpr ⟨ht, by simp; exact fun y => e (y.symm.trans q)⟩, q⟩
        · intro z
          obtain ⟨t, ht, q⟩ := List.mem_map.mp z
          exact List.mem_map.mpr ⟨t, (List.mem_filter.mp ht).1, q⟩
theorem rgt_ok : ∀ (k : Nat) (ds : List Deed), ds.length = k → RgtR ds.reverse → ∀ (i : Nat) d, ds[i]? = some d → (match d with | .come _ n _ _ _ => hereR (ds.take i).reverse n = false | .go _ n => hereR (ds.take i).reverse n = true) := by
  intro k
  induction k with
  | zero =>
    intro ds h _ i d e
    have : ds = [] := List.length_eq_zero_iff.mp h
    subst this
    simp at e
  | succ k ih =>
    intro ds h hr i d e
    have ne : ds ≠ [] := fun e => by rw [e] at h; cases h
    obtain ⟨ys, x, rfl⟩ : ∃ ys x, ds = ys ++ [x] := ⟨_, _, (List.dropLast_concat_getLast ne).symm⟩
    rw [List.reverse_append] at hr
    have hr' : RgtR ys.reverse := by cases x <;> exact hr.2
    have ly : ys.length = k := by simpa using h
    rcases Nat.lt_or_ge i ys.length with q | q
    · rw [List.getElem?_append_left q] at e
      rw [List.take_append_of_le_length (by omega)]
      exact ih ys ly hr' i d e
    · have : i = ys.length := by
        have := (List.getElem?_eq_some_iff.mp e).1
        simp at this
        omega
      subst this
      rw [List.getElem?_append_right (Nat.le_refl _), Nat.sub_self] at e
      have e : x = d := by simpa using e
      subst e
      rw [List.take_left' rfl]
      cases x with
      | come m n a b w => exact hr.1
      | go m n => exact hr.1
theorem right_D {N : Int} {ds : List Deed} {mo : Int} (n1 : 1 ≤ N) (b : ∀ d ∈ ds, DB N d) (hr : RgtR ds.reverse) (M : Mo ds mo) (l : ds.length ≤ 60) : Right N.toNat (ds.map toD) := {
  ok := fun i d hd => by
    obtain ⟨d0, hd0, rfl⟩ := map_some hd
    have h1 := rgt_ok _ ds rfl hr i d0 hd0
    have h2 := here_thr _ (ds.take i) rfl
    have bd := b d0 (List.mem_of_getElem? hd0)
    rw [← List.map_take]
    cases d0 with
    | come m n a b w =>
      have e := bd.en
      have h1 : hereR (ds.take i).reverse n = false := h1
      refine ⟨fun z => ?_, ?_⟩
      · rw [(h2 n).mpr z] at h1; cases h1
      · have a0 := e.o0; have a1 := e.o1; have b0 := e.q0; have b1 := e.q1; have ne := e.ne
        exact ⟨by show a.toNat < N.toNat; omega, by show b.toNat < N.toNat; omega, by show a.toNat ≠ b.toNat; omega⟩
    | go m n => exact (h2 n).mp h1
  len := by rw [List.length_map]; exact l
  mo := fun d hd => by
    obtain ⟨d0, h0, rfl⟩ := List.mem_map.mp hd
    rw [toD_mo]
    exact ⟨(M.all d0 h0).1, Int.le_trans (M.all d0 h0).2 M.hi⟩
  up := List.pairwise_map.mpr (M.up.imp fun {x y} h => by rw [toD_mo, toD_mo]; exact h)
  wt := fun m t ht => by
    obtain ⟨d0, h0, e⟩ := List.mem_map.mp ht
    cases d0 with
    | come m' n a b' w =>
      cases e
      exact ⟨(b _ h0).w0, (b _ h0).w9⟩
    | go m' n => cases e }
end K68
set_option maxHeartbeats 1000000
namespace K68
open PySem L2 Wk
def StandAt (H : Hp) (st : Addr) (S : List T4) : Prop := ∃ rs : List Addr, H st = some (.tup (rs.map V.ref)) ∧ TiesAt H rs S
inductive SpBesideP (vs : List V) (H : Hp) (Q : VK) (u_3 : XK) : Prop
  | mk (N : Nat) (st : Addr) (S : List T4) : (vs = [.int (N : Int), .ref st]) → (StandAt H st S) → (InN N S) → (N ≤ 60) → (S.length ≤ 100) → (∀ b H', Same H H' → BesAt H' b N (nbrs S) → Q (.ref b) H') → SpBesideP vs H Q u_3
def spBeside : Sp := fun vs H Q u_3 => SpBesideP vs H Q u_3
inductive SpWaysP (vs : List V) (H : Hp) (Q : VK) (u_3 : XK) : Prop
  | mk (N : Nat) (st : Addr) (S : List T4) (p : Nat) : (vs = [.int (N : Int), .ref st, .int (p : Int)]) → (StandAt H st S) → (InN N S) → (N ≤ 60) → (S.length ≤ 100) → (p < N) → (∀ a H', Same H H' → WaysAt H' a (waysF N S p) → Q (.ref a) H') → SpWaysP vs H Q u_3
def spWays : Sp := fun vs H Q u_3 => SpWaysP vs H Q u_3
inductive SpPartP (vs : List V) (H : Hp) (Q : VK) (u_3 : XK) : Prop
  | mk (N : Nat) (st : Addr) (S : List T4) (p : Nat) : (vs = [.int (N : Int), .ref st, .int (p : Int)]) → (StandAt H st S) → (InN N S) → (N ≤ 60) → (S.length ≤ 100) → (p < N) → (∀ a H', Same H H' → H' a = some (.tup (((partF N S p).map Int.ofNat).map V.int)) → Q (.ref a) H') → SpPartP vs H Q u_3
def spPart : Sp := fun vs H Q u_3 => SpPartP vs H Q u_3
inductive SpJoinedP (vs : List V) (H : Hp) (Q : VK) (u_3 : XK) : Prop
  | mk (N : Nat) (st : Addr) (S : List T4) (p q : Nat) : (vs = [.int (N : Int), .ref st, .int (p : Int), .int (q : Int)]) → (StandAt H st S) → (InN N S) → (N ≤ 60) → (S.length ≤ 100) → (p < N) → (∀ H', Same H H' → Q (.bl (decide (q ∈ partF N S p))) H') → SpJoinedP vs H Q u_3
def spJoined : Sp := fun vs H Q u_3 => SpJoinedP vs H Q u_3
section
variable {P : Program} {w : World} {K : PySem.W.Frag} {mg : Str → Option Value} {base : Heap}
theorem scBeside : FnScope ["many", "stand", "beside", "name", "one", "other", "weight"] ["many", "stand"] (defScope sBeside) := ⟨rfl, rfl, rfl, by decide +kernel, rfl, by decide +kernel, by decide +kernel⟩
theorem ok_Beside {f : Addr} {fd : FuncData} (F : Fun K "beside_of" "beside_of" sBeside f fd) (T : Txt mg) :
    FnOk P w K mg base CX0 1 f fd ["many", "stand"] spBeside := by
  refine F.ok scBeside (fun vs H Q E h => ?_) (fun cdv A outer s H vs Q E hr h => ?_)
  · obtain ⟨_, _, _, rfl, _⟩ := h; rfl
  · obtain ⟨N, st, S, rfl, ⟨rs, hst, hrs⟩, hN, N60, S100, k⟩ := h
    refine ⟨_, pss_cons (ps_comp (i := 2) (T := ["place"]) (F := []) (js := []) scBeside.nd rfl (Or.inl rfl) (CS.to (osc := defScope sBeside) ⟨by rfl, by decide +kernel, by decide +kernel, by decide +kernel, by decide +kernel, by decide +kernel, by decide +kernel⟩ rfl rfl) rfl (pi_range1 rfl T.range (pa_cons (pv 0) pa_nil)) (fun _ _ _ _ _ => pg_name (i := 0) (show (["place"] : List Str).Nodup by decide +kernel) rfl (Or.inl rfl)) (fun _ _ _ _ _ => pif_nil) (fun _ _ _ _ _ => pe_lst pa_nil))
      (pss_cons (ps_for PassesOwn.never rfl (pi_tup (pv 1)) (pg_tup rfl (pgs_cons (pg_name (i := 3) scBeside.nd rfl (Or.inl rfl)) (pgs_cons (pg_name (i := 4) scBeside.nd rfl (Or.inl rfl)) (pgs_cons (pg_name (i := 5) scBeside.nd rfl (Or.inl rfl)) (pgs_cons (pg_name (i := 6) scBeside.nd rfl (Or.inl rfl)) pgs_nil))))) (pss_cons (ps_expr (pe_bm PySem.F.plainAttrs_list PySem.F.slot_list_append PySem.F.type_list_append mt_append (pe_ix ix_list (pv 2) (pv 4) (fun _ _ => rfl)) (pa_cons (pe_tup (pa_cons (pv 3) (pa_cons (pv 5) pa_nil))) pa_nil)))
      (pss_one (ps_expr (pe_bm PySem.F.plainAttrs_list PySem.F.slot_list_append PySem.F.type_list_append mt_append (pe_ix ix_list (pv 2) (pv 5) (fun _ _ => rfl)) (pa_cons (pe_tup (pa_cons (pv 3) (pa_cons (pv 4) pa_nil))) pa_nil))))))
      (pss_one (ps_ret (pv 2)))), ?_⟩
    dsimp only [cxOf, Cx.nox]
    refine seqL2 ?_
    intro R2_ R1_
    refine ⟨_, rfl, (N : Int), rfl, by omega, by omega, fun D hD => comp_rangeL (lo := 0) (n := (N : Int).toNat) (fun j σ ys H2 => ∃ (u : Option V) (ls : List Addr), σ = [u] ∧ ys = ls.map V.ref ∧ Same H H2 ∧ H2 D = some (.lst ys) ∧ ls.length = j ∧ ls.Nodup ∧ ∀ l ∈ ls, H l = none ∧ l ≠ D ∧ H2 l = some (.lst [])) ⟨none, [], rfl, rfl, same_new hD, upd_same, rfl, List.nodup_nil, by simp⟩ (fun j σ ys H2 _ ⟨_, _, _, _, _, e, _⟩ => e) ?_ ?_⟩
    · intro j σ ys H2 hj hI5_ E_
      refine hideG fun G_ hG_ => ?_
      obtain ⟨u, ls, rfl, rfl, s2, d2, ll, nd, hl⟩ := hI5_
      have hj : j < N := by simpa using hj
      refine hG_ ?_
      refine ⟨small (by simp), fun p hp => ?_⟩
      have pD : p ≠ D := (ne_of_none d2 hp).symm
      refine ⟨by rw [upd_ne pD.symm]; exact d2, small1000 (by simp; clear S100 hj; omega), _, ls ++ [p], rfl, by rw [List.map_append]; rfl, same_set (s2.trans (same_new hp)) hD, upd_same, by simp [ll], ?_, fun l hl' => ?_⟩
      · refine List.nodup_append.mpr ⟨nd, List.nodup_cons.mpr ⟨by simp, List.nodup_nil⟩, fun x hx y hy => ?_⟩
        rw [List.mem_singleton.mp hy]
        exact ne_of_none (hl x hx).2.2 hp
      · rcases List.mem_append.mp hl' with q | q
        · obtain ⟨h1, h2, h3⟩ := hl l q
          exact ⟨h1, h2, by rw [upd_ne h2, upd_ne (ne_of_none h3 hp)]; exact h3⟩
        · rw [List.mem_singleton.mp q]
          exact ⟨none_of s2 hp, pD, by rw [upd_ne pD]; exact upd_same⟩
    intro σ ys H2 hI3_
    refine hideG fun G_ hG_ => ?_
    obtain ⟨u, ls, rfl, rfl, s2, d2, ll, nd, hl⟩ := hI3_
    have ll : ls.length = N := by simpa using ll
    have B0 : Bes H H2 D ls N (nbrs []) := ⟨s2, d2, ll, nd, fun l h => ⟨(hl l h).1, (hl l h).2.1⟩, fun v l h => ⟨[], (hl l (List.mem_of_getElem? h)).2.2, rfl, fun i r q e => (by simp at e)⟩⟩
    refine hG_ ?_
    refine ⟨_, rfl, st, rfl, ⟨_, SqT.of (s2 _ _ hst)⟩, for_tupL (K := K) (a := st) (xs := rs.map V.ref) (fun i σ H3 => ∃ (u3 u4 u5 u6 : Option V), σ = [some (.int (N : Int)), some (.ref st), some (.ref D), u3, u4, u5, u6] ∧ Bes H H3 D ls N (nbrs (S.take i))) ⟨_, _, _, _, rfl, B0⟩ (fun i σ H3 _ ⟨_, _, _, _, _, B⟩ => SqT.of (B.same _ _ hst)) ?_ ?_⟩
    · intro i x σ H3 hx hI5_ E_
      refine hideG fun G_ hG_ => ?_
      obtain ⟨u3, u4, u5, u6, rfl, B⟩ := hI5_
      obtain ⟨r, hr', rfl⟩ := map_some hx
      obtain ⟨t, ht, er⟩ := hrs.get hr'
      have er3 := B.same _ _ er
      have tN := hN t (List.mem_of_getElem? ht)
      have h1 : t.2.1 < ls.length := by omega
      have h2 : t.2.2.1 < ls.length := by omega
      have tk : S.take (i + 1) = S.take i ++ [t] := by rw [List.take_add_one, ht]; rfl
      have nl : ∀ v, (nbrs (S.take i) v).length ≤ 200 := fun v => Nat.le_trans (nbrs_len _ _) (by rw [List.length_take]; clear ll; omega)
      have l1 := getq h1
      have l2 := getq h2
      obtain ⟨rs1, e1, n1, _⟩ := B.prs _ _ l1
      refine hG_ ?_
      refine ⟨r, _, rfl, SqT.of er3, rfl, _, _, rfl, _, _, rfl, _, _, rfl, _, _, rfl, rfl, ?_⟩
      refine ⟨_, rfl, _, rfl, D, _, _, .ref ls[t.2.1], rfl, rfl, SqL.of B.hb, atI_nat (by rw [List.getElem?_map, l1]; rfl), .inl ⟨rfl, _, SqL.of e1⟩, _, rfl, _, rfl, small (by simp), fun p hp => ?_⟩
      refine ⟨_, _, _, rfl, rfl, same_new hp _ _ e1, small1000 (by rw [List.length_map]; have := nl t.2.1; clear S100 ll; omega), ?_⟩
      have B1 := B.app (n := t.1) (u := t.2.2.1) l1 hp e1
      generalize upd (upd H3 p _) _ _ = H4 at B1
      obtain ⟨rs2, e2, n2, _⟩ := B1.prs _ _ l2
      refine ⟨_, rfl, _, rfl, D, _, _, .ref ls[t.2.2.1], rfl, rfl, SqL.of B1.hb, atI_nat (by rw [List.getElem?_map, l2]; rfl), .inl ⟨rfl, _, SqL.of e2⟩, _, rfl, _, rfl, small (by simp), fun p' hp' => ?_⟩
      have n3 : rs2.length ≤ 201 := by
        rw [n2]
        split
        · rw [List.length_append]; have := nl t.2.1; simp only [List.length_cons, List.length_nil]; exact Nat.lt_of_le_of_lt (by assumption) (by decide)
        · have := nl t.2.2.1; exact Nat.le_trans (by assumption) (by decide)
      refine ⟨_, _, _, rfl, rfl, same_new hp' _ _ e2, small1000 (by rw [List.length_map]; exact Nat.le_trans (by assumption) (by decide)), _, _, _, _, rfl, ?_⟩
      have B2 := B1.app (n := t.1) (u := t.2.1) l2 hp' e2
      rw [nb_two, ← tk] at B2
      exact B2
    · intro σ H3 hI2_
      refine hideG fun G_ hG_ => ?_
      obtain ⟨u3, u4, u5, u6, rfl, B⟩ := hI2_
      refine hG_ ?_
      rw [List.length_map, hrs.1, List.take_length] at B
      exact ⟨_, rfl, k D H3 B.same ⟨ls, B.hb, B.len, B.prs⟩⟩
theorem scWays : FnScope ["many", "stand", "place", "beside", "ways", "waiting", "here", "name", "there"] ["many", "stand", "place"] (defScope sWays) := ⟨rfl, rfl, rfl, by decide +kernel, rfl, by decide +kernel, by decide +kernel⟩
theorem ok_Ways {f : Addr} {fd : FuncData} (F : Fun K "ways_from" "ways_from" sWays f fd) (T : Txt mg)
    {gBeside : Addr} {fBeside : FuncData} (kBeside : PySem.W.keepIn K (.ref gBeside) = true) (bBeside : Binds K fBeside ["many", "stand"] []) (hBeside : mg "beside_of" = some (.ref gBeside)) (GBeside : FnOk P w K mg base CX0 1 gBeside fBeside ["many", "stand"] spBeside) :
    FnOk P w K mg base CX0 2 f fd ["many", "stand", "place"] spWays := by
  refine F.ok scWays (fun vs H Q E h => ?_) (fun cdv A outer s H vs Q E hr h => ?_)
  · obtain ⟨_, _, _, _, rfl, _⟩ := h; rfl
  · obtain ⟨N, st, S, p, rfl, hst, hN, N60, S100, pN, k⟩ := h
    refine ⟨_, pss_cons (ps_set (i := 3) scWays.nd rfl (Or.inl rfl) (pe_call GBeside hr rfl hBeside kBeside bBeside .nil pass0 (pa_cons (pv 0) (pa_cons (pv 1) pa_nil))))
      (pss_cons (ps_set (i := 4) scWays.nd rfl (Or.inl rfl) (pe_op op_rep (pe_lst (pa_cons pe_non pa_nil)) (pv 0)))
      (pss_cons (ps_asg (pe_tup pa_nil) (pg_sub (pv 4) (pv 2) set_list))
      (pss_cons (ps_set (i := 5) scWays.nd rfl (Or.inl rfl) (pe_lst (pa_cons (pv 2) pa_nil)))
      (pss_cons (ps_while PassesOwn.never (pt_truth (pv 5) (fun _ => rfl)) (pss_cons (ps_set (i := 6) scWays.nd rfl (Or.inl rfl) (pe_bm PySem.F.plainAttrs_list PySem.F.slot_list_pop PySem.F.type_list_pop mt_popAt (pv 5) (pa_cons pe_int pa_nil)))
      (pss_one (ps_for PassesOwn.never rfl (pi_list (pe_ix ix_list (pv 3) (pv 6) (fun _ _ => rfl))) (pg_tup rfl (pgs_cons (pg_name (i := 7) scWays.nd rfl (Or.inl rfl)) (pgs_cons (pg_name (i := 8) scWays.nd rfl (Or.inl rfl)) pgs_nil))) (pss_one (ps_if (pt_cmpR op_isN (pe_ix ix_list (pv 4) (pv 8) (fun _ _ => rfl)) pe_non (nomark _)) (pss_cons (ps_asg (pe_op op_catTT (pe_ix ix_list (pv 4) (pv 6) (fun _ _ => rfl)) (pe_tup (pa_cons (pv 7) pa_nil))) (pg_sub (pv 4) (pv 8) set_list))
      (pss_one (ps_expr (pe_bm PySem.F.plainAttrs_list PySem.F.slot_list_append PySem.F.type_list_append mt_append (pv 5) (pa_cons (pv 8) pa_nil))))) pss_nil))))))
      (pss_one (ps_ret (pv 4))))))), ?_⟩
    dsimp only [cxOf, Cx.nox]
    refine seqL5 ?_
    intro R5_ R4_ R3_ R2_ R1_
    refine ⟨_, rfl, _, rfl, N, st, S, rfl, hst, hN, N60, S100, fun b H1 s1 hb => ?_⟩
    refine ⟨small (by simp), fun q hq => ⟨_, rfl, q, _, _, rfl, rfl, upd_same, by omega, by omega, small (by simp only [List.length_cons, List.length_nil]; omega), fun ws hws => ?_⟩⟩
    have fl : (List.replicate (N : Int).toNat [V.non]).flatten = List.replicate N V.non := by rw [List.flatten_replicate_singleton]; rfl
    rw [fl]
    have s2 := (same_new (H := H1) (o := .lst [.non]) hq).trans (same_new (o := .lst (List.replicate N V.non)) hws)
    have nw : H1 ws = none := none_of (same_new (H := H1) (o := .lst [.non]) hq) hws
    have e2 := upd_same (H := upd H1 q (.lst [.non])) (a := ws) (o := .lst (List.replicate N V.non))
    generalize upd (upd H1 q (.lst [.non])) ws (.lst (List.replicate N V.non)) = H2 at s2 e2
    have W2 : WaysAt H2 ws (List.replicate N none) := ⟨_, e2, by simp, fun i x o hx ho => by
      rw [List.getElem?_replicate] at hx ho
      split at hx
      · rename_i hi
        rw [if_pos hi] at ho
        cases hx
        cases ho
        rfl
      · cases hx⟩
    refine ⟨small (by simp), fun e he => ?_⟩
    have s3 := same_new (o := .tup []) he
    have W3 := W2.same s3
    have e3 := s3 _ _ e2
    have t3 := upd_same (H := H2) (a := e) (o := .tup [])
    generalize upd H2 e (.tup []) = H3 at s3 W3 e3 t3
    have W4 : WaysAt (upd H3 ws (.lst ((List.replicate N V.non).set p (.ref e)))) ws (binit N p).1 := WaysAt.set (w := []) W3 e3 t3
    have s4 : Same H1 (upd H3 ws (.lst ((List.replicate N V.non).set p (.ref e)))) := same_set (s2.trans s3) nw
    refine ⟨_, rfl, _, rfl, ws, _, _, p, rfl, rfl, e3, (by have h : ixN (List.replicate N V.non).length (p : Int) = some p := ixN_nat (by simpa using pN); exact h), ?_⟩
    generalize upd H3 ws _ = H4 at W4 s4
    refine ⟨_, rfl, small (by simp), fun wt hwt => ?_⟩
    have s5 := s4.trans (same_new (o := .lst [.int (p : Int)]) hwt)
    have nt : H1 wt = none := none_of s4 hwt
    have W5 := W4.same (same_new (o := .lst [.int (p : Int)]) hwt)
    have t5 := upd_same (H := H4) (a := wt) (o := .lst [.int (p : Int)])
    have wwt : ws ≠ wt := by obtain ⟨xs, hx, _⟩ := W4; exact ne_of_none hx hwt
    generalize upd H4 wt (.lst [.int (p : Int)]) = H5 at s5 W5 t5
    dsimp only [gName, tSeq]
    refine while_ghL (fun m σ H6 => ∃ (i : Nat) (u6 u7 u8 : Option V) (wl : Ws) (tl : List Nat), σ = [some (.int (N : Int)), some (.ref st), some (.int (p : Int)), some (.ref b), some (.ref ws), some (.ref wt), u6, u7, u8] ∧ Same H1 H6 ∧ H6 wt = some (.lst ((tl.map Int.ofNat).map V.int)) ∧ WaysAt H6 ws wl ∧ iter S i (binit N p) = (wl, tl) ∧ BInv S N p (wl, tl) ∧ m = nones wl + tl.length ∧ i + m ≤ 64 ∧ tl.length ≤ 64 ∧ ∀ v x, Wk.Vis wl v x → x.length ≤ i)
      (m0 := nones (binit N p).1 + 1) ⟨0, _, _, _, (binit N p).1, [p], rfl, s5, t5, W5, rfl, binv0 pN, rfl, ?_, by simp, fun v x q => by rw [binit_vis pN q]; simp⟩ ?_ ?_
    · have : nones (binit N p).1 ≤ (binit N p).1.length := List.countP_le_length
      simp only [binit, List.length_set, List.length_replicate] at this ⊢
      omega
    · intro m σ H6 hI3_ E_
      refine hideG fun G_ hG_ => ?_
      obtain ⟨i, u6, u7, u8, wl, tl, rfl, s6, t6, W6, it6, I6, hm, hi, tl6, sh6⟩ := hI3_
      refine hG_ ?_
      refine ⟨_, rfl, _, .inl ⟨_, SqL.of t6, rfl⟩, ?_⟩
      cases tl with
      | nil =>
        refine iteF ?_
        rw [← ways_of it6 (by clear S100 pN; omega)] at W6
        exact ⟨_, rfl, k ws H6 (s1.trans s6) W6⟩
      | cons h rest =>
        refine iteT ?_
        obtain ⟨w0, hv0, J⟩ := pinv_of I6
        have hh : h < N := by have := (List.getElem?_eq_some_iff.mp hv0).1; rw [← I6.len]; exact this
        refine ⟨_, rfl, .inl ⟨rfl, _, SqL.of t6⟩, wt, _, 0, 0, .int (h : Int), rfl, rfl, t6, by decide, by decide, by simp [seqIndex?], rfl, ?_⟩
        have W7 := W6.keep (zs := (rest.map Int.ofNat).map V.int) t6 wwt
        have s7 : Same H1 (upd H6 wt (.lst ((rest.map Int.ofNat).map V.int))) := same_set s6 nt
        have t7 := upd_same (H := H6) (a := wt) (o := .lst ((rest.map Int.ofNat).map V.int))
        have eH : upd H6 wt (.lst (List.eraseIdx (List.map V.int (List.map Int.ofNat (h :: rest))) 0)) = upd H6 wt (.lst ((rest.map Int.ofNat).map V.int)) := rfl
        rw [eH]
        generalize upd H6 wt (.lst ((rest.map Int.ofNat).map V.int)) = H7 at W7 s7 t7
        obtain ⟨ls, hls, lls, hpr⟩ := hb.same s7
        have hl := getq (l := ls) (i := h) (by clear S100 pN hi hm; omega)
        obtain ⟨rs, er, lr, hr3⟩ := hpr h _ hl
        have w0len : w0.length ≤ 64 := by have := sh6 h w0 hv0; clear S100 pN lr; omega
        refine ⟨_, rfl, _, rfl, b, _, _, .ref ls[h], rfl, rfl, SqL.of hls, atI_nat (by rw [List.getElem?_map, hl]; rfl), _, rfl, ⟨_, SqL.of er⟩, ?_⟩
        have key : ∀ H8, Same H1 H8 → H8 ls[h] = some (.lst (rs.map V.ref)) ∧ ∀ (i : Nat) r q, rs[i]? = some r → (nbrs S h)[i]? = some q → H8 r = some (.tup [.str q.1, .int (q.2 : Int)]) := by
          intro H8 s8
          obtain ⟨ls', hls', _, hpr'⟩ := hb
          have e1 : ls' = ls := by
            have := s7 _ _ hls'
            rw [hls] at this
            injection this with this
            injection this with this
            exact (refs_inj this).symm
          subst e1
          obtain ⟨rs', er', lr', hr'⟩ := hpr' h _ hl
          have e2 : rs' = rs := by
            have := s7 _ _ er'
            rw [er] at this
            injection this with this
            injection this with this
            exact (refs_inj this).symm
          subst e2
          exact ⟨s8 _ _ er', fun i r q e f => s8 _ _ (hr' i r q e f)⟩
        refine for_list (K := K) (a := ls[h]) (xs := rs.map V.ref) (fun j σ H8 => ∃ (u7 u8 : Option V), σ = [some (.int (N : Int)), some (.ref st), some (.int (p : Int)), some (.ref b), some (.ref ws), some (.ref wt), some (.int (h : Int)), u7, u8] ∧ Same H1 H8 ∧ H8 wt = some (.lst (((visit w0 ((nbrs S h).take j) (wl, rest)).2.map Int.ofNat).map V.int)) ∧ WaysAt H8 ws (visit w0 ((nbrs S h).take j) (wl, rest)).1)
          ⟨_, _, rfl, s7, t7, W7⟩ (fun j σ H8 _ ⟨_, _, _, s8, _⟩ => SqL.of (key H8 s8).1) ?_ ?_
        · intro j x σ H8 hx hI5_
          refine hideG fun G_ hG_ => ?_
          obtain ⟨u7', u8', rfl, s8, t8, W8⟩ := hI5_
          obtain ⟨r, hr', rfl⟩ := map_some hx
          have hj : j < (nbrs S h).length := by rw [← lr]; exact (List.getElem?_eq_some_iff.mp hr').1
          have hq := getq hj
          have er8 := (key H8 s8).2 j r _ hr' hq
          have tk : (nbrs S h).take (j + 1) = (nbrs S h).take j ++ [(nbrs S h)[j]] := by rw [List.take_add_one, hq]; rfl
          have qN : ((nbrs S h)[j]).2 < N := nb_lt hN (List.getElem_mem hj)
          have jl : j < 201 := by have := nbrs_len S h; clear pN hi hm; omega
          obtain ⟨vl1, vl2⟩ := visit_len w0 ((nbrs S h).take j) (wl, rest)
          have vh := visit_vis w0 ((nbrs S h).take j) (wl, rest) hv0
          refine hG_ ?_
          rw [tk, visit_snoc]
          generalize (nbrs S h)[j] = q at er8 qN
          generalize visit w0 ((nbrs S h).take j) (wl, rest) = st' at *
          obtain ⟨wl', tl'⟩ := st'
          dsimp only at *
          have qw : q.2 < wl'.length := by rw [vl1]; show _ < wl.length; rw [I6.len]; exact qN
          refine ⟨r, _, rfl, SqT.of er8, rfl, _, _, rfl, _, _, rfl, rfl, ?_⟩
          obtain ⟨xs, x, hxs, hx', lxs, hxo⟩ := W8.get (getq qw)
          refine ⟨_, rfl, _, rfl, ws, _, _, x, rfl, rfl, SqL.of hxs, atI_nat hx', rfl, _, rfl, ?_⟩
          cases ho : wl'[q.2] with
          | some z =>
            rw [ho] at hxo
            obtain ⟨rz, rfl, _⟩ := hxo
            rw [vis1_no (by dsimp only; rw [getq qw, ho]; simp)]
            refine ite2 (fun g => absurd g (by simp)) fun _ => ?_
            exact ⟨_, _, rfl, s8, t8, W8⟩
          | none =>
            rw [ho] at hxo
            have hxo : x = .non := hxo
            subst hxo
            rw [vis1_yes (by dsimp only; rw [getq qw, ho])]
            refine ite2 (fun _ => ?_) fun g => absurd (by simp) g
            obtain ⟨xs2, x2, hxs2, hx2, _, hxo2⟩ := W8.get vh
            obtain ⟨r0, rfl, er0⟩ := hxo2
            rw [hxs] at hxs2
            injection hxs2 with hxs2
            injection hxs2 with hxs2
            subst hxs2
            have tl9 : ((tl'.map Int.ofNat).map V.int).length ≤ 1000 := by
              simp only [List.length_map, List.length_take, List.length_cons] at vl2 tl6 ⊢
              clear S100 pN hi hm lr w0len vl1; omega
            refine ⟨_, rfl, _, rfl, ws, _, _, .ref r0, rfl, rfl, SqL.of hxs, atI_nat hx2, _, rfl, small (by simp), fun p1 hp1 => ?_⟩
            have s9 := same_new (o := .tup [.str q.1]) hp1
            have p9 := upd_same (H := H8) (a := p1) (o := .tup [.str q.1])
            have w9 : w0.length ≤ 100 := by
              have := (J.ht h w0 J.hv); have := w0len; exact Nat.le_trans (by assumption) (by decide)
            generalize upd H8 p1 (.tup [.str q.1]) = H9 at s9 p9
            refine ⟨r0, p1, _, _, rfl, rfl, SqT.of (s9 _ _ er0), SqT.of p9, small (by simp; exact Nat.le_trans (by assumption) (by decide)), fun e => ?_, fun _ e => absurd e (by simp), fun _ _ p2 hp2 => ?_⟩
            · have e0 : w0 = [] := by simpa using e
              have e9 : H9 p1 = some (.tup ((w0 ++ [q.1]).map V.str)) := by rw [e0]; exact p9
              have hxs9 := s9 _ _ hxs
              have W9 := (W8.same s9).set (u := q.2) hxs9 e9
              have t9 := s9 _ _ t8
              refine ⟨_, rfl, _, rfl, ws, _, _, q.2, rfl, rfl, hxs9, ixN_nat (by clear S100 pN hi hm lr w0len vl2; omega), ?_⟩
              have s10 : Same H1 (upd H9 ws (.lst (xs.set q.2 (.ref p1)))) := same_set (s8.trans s9) nw
              have t10 : upd H9 ws (.lst (xs.set q.2 (.ref p1))) wt = some (.lst ((tl'.map Int.ofNat).map V.int)) := by rw [upd_ne wwt.symm]; exact t9
              generalize upd H9 ws (.lst (xs.set q.2 (.ref p1))) = H10 at W9 s10 t10
              refine ⟨_, rfl, .inl ⟨rfl, _, SqL.of t10⟩, _, rfl, wt, _, _, rfl, rfl, t10, small1000 tl9, _, _, rfl, same_set s10 nt, ?_, W9.keep t10 wwt⟩
              rw [upd_same, List.map_append, List.map_append]; rfl
            · have e9 : upd H9 p2 (.tup (w0.map V.str ++ [.str q.1])) p2 = some (.tup ((w0 ++ [q.1]).map V.str)) := by rw [upd_same, List.map_append]; rfl
              have s9 := s9.trans (same_new (o := .tup (w0.map V.str ++ [.str q.1])) hp2)
              generalize upd H9 p2 (.tup (w0.map V.str ++ [.str q.1])) = H9 at s9 e9
              have hxs9 := s9 _ _ hxs
              have W9 := (W8.same s9).set (u := q.2) hxs9 e9
              have t9 := s9 _ _ t8
              refine ⟨_, rfl, _, rfl, ws, _, _, q.2, rfl, rfl, hxs9, ixN_nat (by clear pN hi lr; omega), ?_⟩
              have s10 : Same H1 (upd H9 ws (.lst (xs.set q.2 (.ref p2)))) := same_set (s8.trans s9) nw
              have t10 : upd H9 ws (.lst (xs.set q.2 (.ref p2))) wt = some (.lst ((tl'.map Int.ofNat).map V.int)) := by rw [upd_ne wwt.symm]; exact t9
              generalize upd H9 ws (.lst (xs.set q.2 (.ref p2))) = H10 at W9 s10 t10
              refine ⟨_, rfl, .inl ⟨rfl, _, SqL.of t10⟩, _, rfl, wt, _, _, rfl, rfl, t10, small1000 tl9, _, _, rfl, same_set s10 nt, ?_, W9.keep t10 wwt⟩
              rw [upd_same, List.map_append, List.map_append]; rfl
        · intro σ H8 hI2_
          refine hideG fun G_ hG_ => ?_
          obtain ⟨u7', u8', rfl, s8, t8, W8⟩ := hI2_
          refine hG_ ?_
          rw [List.length_map, lr, List.take_length] at t8 W8
          have eb : bstep S (wl, h :: rest) = visit w0 (nbrs S h) (wl, rest) := by
            show visit ((wl[h]?.join).getD []) (nbrs S h) (wl, rest) = _
            unfold Wk.Vis at hv0
            rw [hv0]; rfl
          obtain ⟨I8, m8⟩ := bstep_ok hN I6
          have sh8 := bstep_short hN I6 sh6
          have it8 : iter S (i + 1) (binit N p) = visit w0 (nbrs S h) (wl, rest) := by rw [iter_snoc, it6, eb]
          rw [eb] at I8 m8 sh8
          generalize visit w0 (nbrs S h) (wl, rest) = st' at *
          obtain ⟨wl', tl'⟩ := st'
          dsimp only at *
          refine ⟨nones wl' + tl'.length, by clear S100 pN hi lr w0len; omega, i + 1, _, _, _, wl', tl', rfl, s8, t8, W8, it8, I8, rfl, by clear S100 pN lr; omega, by clear S100 pN lr w0len; omega, sh8⟩
    · intro σ H6 Q Q' f hI5_
      refine hideG fun G_ hG_ => ?_
      obtain ⟨v, e, b', h', q⟩ := hI5_
      refine hG_ ?_
      exact ⟨v, e, b', h', f _ _ q⟩
theorem scPart : FnScope ["many", "stand", "place", "ways"] ["many", "stand", "place"] (defScope sPart) := ⟨rfl, rfl, rfl, by decide +kernel, rfl, by decide +kernel, by decide +kernel⟩
theorem ok_Part {f : Addr} {fd : FuncData} (F : Fun K "part_of" "part_of" sPart f fd) (T : Txt mg)
    {gWays : Addr} {fWays : FuncData} (kWays : PySem.W.keepIn K (.ref gWays) = true) (bWays : Binds K fWays ["many", "stand", "place"] []) (hWays : mg "ways_from" = some (.ref gWays)) (GWays : FnOk P w K mg base CX0 2 gWays fWays ["many", "stand", "place"] spWays) :
    FnOk P w K mg base CX0 3 f fd ["many", "stand", "place"] spPart := by
  refine F.ok scPart (fun vs H Q E h => ?_) (fun cdv A outer s H vs Q E hr h => ?_)
  · obtain ⟨_, _, _, _, rfl, _⟩ := h; rfl
  · obtain ⟨N, st, S, p, rfl, hst, hN, N60, S100, pN, k⟩ := h
    refine ⟨_, pss_cons (ps_set (i := 3) scPart.nd rfl (Or.inr rfl) (pe_call GWays hr rfl hWays kWays bWays .nil pass0 (pa_cons (pv 0) (pa_cons (pv 1) (pa_cons (pv 2) pa_nil)))))
      (pss_one (ps_ret (pe_callTy call_tuple_of (by rfl) T.tuple (by decide +kernel) (pa_cons (pe_comp (T := ["there"]) (F := ["ways"]) (js := [3]) (CS.to (osc := defScope sPart) ⟨by rfl, by decide +kernel, by decide +kernel, by decide +kernel, by decide +kernel, by decide +kernel, by decide +kernel⟩ rfl rfl) rfl (pi_range1 rfl T.range (pa_cons (pv 0) pa_nil)) (fun _ _ _ _ _ => pg_name (i := 0) (show (["there", "ways"] : List Str).Nodup by decide +kernel) rfl (Or.inl rfl)) (fun _ _ _ _ _ => pif_one (pt_cmpR op_notN (pe_ix (r := rIxL K) ix_list (pv 1) (pv 0) (fun _ _ => rfl)) pe_non (nomark _))) (fun _ _ _ _ _ => pv 0)) pa_nil)))), ?_⟩
    dsimp only [cxOf, Cx.nox]
    refine seqL1 ?_
    intro R1_
    refine ⟨_, rfl, _, rfl, _, rfl, N, st, S, p, rfl, hst, hN, N60, S100, pN, fun a H1 s1 W1 => ?_⟩
    have wl := ways_len hN pN N60
    refine ⟨_, rfl, (N : Int), rfl, by omega, by omega, fun D hD => comp_rangeL (lo := 0) (n := (N : Int).toNat) (fun j σ ys H2 => ∃ (u : Option V), σ = [u, some (.ref a)] ∧ ys = ((((List.range j).filter fun v => ((waysF N S p)[v]?.join).isSome).map Int.ofNat).map V.int) ∧ H2 = upd H1 D (.lst ys)) ⟨none, rfl, rfl, rfl⟩ (fun j σ ys H2 _ ⟨_, _, _, e⟩ => by rw [e]; exact upd_same) ?_ ?_⟩
    · intro j σ ys H2 hj hI5_ E_
      refine hideG fun G_ hG_ => ?_
      obtain ⟨u, rfl, rfl, rfl⟩ := hI5_
      have hj : j < N := by simpa using hj
      have hjw : j < (waysF N S p).length := by clear S100 pN; omega
      obtain ⟨xs, x, hxs, hx, lx, hxo⟩ := (W1.same (same_new (o := .lst ((((List.range j).filter fun v => ((waysF N S p)[v]?.join).isSome).map Int.ofNat).map V.int)) hD)).get (getq hjw)
      refine hG_ ?_
      refine ⟨_, rfl, _, rfl, a, _, _, x, rfl, rfl, SqL.of hxs, by rw [Int.zero_add]; exact atI_nat hx, rfl, _, rfl, ?_⟩
      have lf : ((List.range j).filter fun v => ((waysF N S p)[v]?.join).isSome).length ≤ 60 := Nat.le_trans (List.length_filter_le _ _) (by rw [List.length_range]; clear S100 hj; omega)
      cases ho : (waysF N S p)[j] with
      | none =>
        rw [ho] at hxo
        have hxo : x = .non := hxo
        subst hxo
        refine ite2 (fun g => absurd g (by simp)) fun _ => ⟨_, rfl, ?_, ?_⟩
        · rw [List.range_succ, List.filter_append]; simp [getq hjw, ho]
        · rfl
      | some z =>
        rw [ho] at hxo
        obtain ⟨r, rfl, _⟩ := hxo
        refine ite2 (fun _ => ⟨_, rfl, upd_same, small1000 (by simp only [List.length_map]; exact Nat.le_trans (by assumption) (by decide)), _, rfl, ?_, by rw [upd_upd]⟩) fun g => absurd (by simp) g
        rw [List.range_succ, List.filter_append, List.map_append, List.map_append]
        simp [getq hjw, ho]
    · intro σ ys H2 hI3_
      refine hideG fun G_ hG_ => ?_
      obtain ⟨u, rfl, rfl, rfl⟩ := hI3_
      refine hG_ ?_
      exact ⟨D, _, rfl, .inl ⟨SqL.of upd_same, fun l hl => k l _ (s1.trans ((same_new hD).trans (same_new hl))) upd_same⟩⟩
theorem scJoined : FnScope ["many", "stand", "one", "other"] ["many", "stand", "one", "other"] (defScope sJoined) := ⟨rfl, rfl, rfl, by decide +kernel, rfl, by decide +kernel, by decide +kernel⟩
theorem ok_Joined {f : Addr} {fd : FuncData} (F : Fun K "are_joined" "are_joined" sJoined f fd) (T : Txt mg)
    {gPart : Addr} {fPart : FuncData} (kPart : PySem.W.keepIn K (.ref gPart) = true) (bPart : Binds K fPart ["many", "stand", "place"] []) (hPart : mg "part_of" = some (.ref gPart)) (GPart : FnOk P w K mg base CX0 3 gPart fPart ["many", "stand", "place"] spPart) :
    FnOk P w K mg base CX0 4 f fd ["many", "stand", "one", "other"] spJoined := by
  refine F.ok scJoined (fun vs H Q E h => ?_) (fun cdv A outer s H vs Q E hr h => ?_)
  · obtain ⟨_, _, _, _, _, rfl, _⟩ := h; rfl
  · obtain ⟨N, st, S, p, q, rfl, hst, hN, N60, S100, pN, k⟩ := h
    refine ⟨_, pss_one (ps_ret (pe_cmpR op_in_seq (pv 3) (pe_call GPart hr rfl hPart kPart bPart .nil pass0 (pa_cons (pv 0) (pa_cons (pv 1) (pa_cons (pv 2) pa_nil)))) (by rfl))), ?_⟩
    try dsimp only [cxOf, Cx.nox]
    refine ⟨_, rfl, _, rfl, _, rfl, _, rfl, N, st, S, p, rfl, hst, hN, N60, S100, pN, fun a H1 s1 e1 => ⟨a, _, rfl, .inr (SqT.of e1), rfl, flat_ints _, ?_⟩⟩
    have e : inV (.int (q : Int)) (((partF N S p).map Int.ofNat).map V.int) = decide (q ∈ partF N S p) := by
      rw [inV_ints, Bool.eq_iff_iff, decide_eq_true_eq, decide_eq_true_eq, List.mem_map]
      constructor
      · rintro ⟨x, hx, e⟩
        have : x = q := by have : (x : Int) = q := e; clear S100 pN e; omega
        rw [← this]; exact hx
      · intro h; exact ⟨q, h, rfl⟩
    show Q (.bl (inV (.int (q : Int)) (((partF N S p).map Int.ofNat).map V.int))) H1
    rw [e]
    exact k _ s1
end
end K68
set_option maxHeartbeats 4000000
namespace PySem
open Builtin
abbrev zL1 (h : Heap) (a : Addr) : Heap := h.push { cls := .type "list_iterator", data := .fields #[.ref a, .int 0 0] }
abbrev zL2 (h : Heap) (a b : Addr) : Heap := (zL1 h a).push { cls := .type "list_iterator", data := .fields #[.ref b, .int 0 0] }
abbrev zL3 (h : Heap) (a b : Addr) : Heap := (zL2 h a b).push { cls := .type "tuple", data := .seq #[.ref h.objs.size, .ref (zL1 h a).objs.size] }
abbrev zL4 (h : Heap) (a b : Addr) : Heap := (zL3 h a b).push { cls := .type "tuple", data := .seq #[.none, .none] }
abbrev zL5 (h : Heap) (a b : Addr) : Heap := (zL4 h a b).push { cls := .type "zip", data := .fields #[.none, .bool false, .bool false, .ref (zL2 h a b).objs.size, .ref (zL3 h a b).objs.size] }
theorem meets_zip_ll (a b : Addr) (xs ys : Array Value) :
    Meets (Builtin.«zip.__new__» ⟨[.type "zip", .ref a, .ref b], []⟩) (fun _ R s => s.heap.IsList a xs ∧ s.heap.IsList b ys ∧ R (.ok (.ret (.ref (zL4 s.heap a b).objs.size))) { s with heap := zL5 s.heap a b }) :=
  .of_wp fun prog w A R s h => by
    obtain ⟨hp, g, d, tk, os⟩ := s
    obtain ⟨ta, tb, h⟩ := h
    have hsub := sub_zip
    have q1 : Heap.IsList (Shared.heap ⟨hp, g, d, tk, os⟩) a xs := ta
    have q2 : Heap.IsList (Shared.heap ⟨hp.push { cls := .type "list_iterator", data := .fields #[.ref a, .int 0 0] }, g, d, tk, os⟩) b ys := let ⟨o, ho, r⟩ := tb; ⟨o, Heap.get?_push_of_some _ ho, r⟩
    wp_walk using wpAny_pyIter_list q1, wpAny_pyIter_list q2
    exact ⟨_, rfl, h⟩
section
variable {prog : Program} {w : World} {A : Around} {E : Value → Shared → Prop} {s : Shared}
theorem call_zip_ll {a b : Addr} {xs ys : Array Value} {Q : Value → Shared → Prop} (ta : s.heap.IsList a xs) (tb : s.heap.IsList b ys)
    (h : ∀ h', IsZip h' (s.heap.objs.size + 4) (s.heap.objs.size + 2) (s.heap.objs.size + 3) .none → IsPair h' (s.heap.objs.size + 2) (.ref s.heap.objs.size) (.ref (s.heap.objs.size + 1)) → IsPair h' (s.heap.objs.size + 3) .none .none →
      h'.IsListIter s.heap.objs.size a 0 → h'.IsListIter (s.heap.objs.size + 1) b 0 → (∀ c o, s.heap.get? c = some o → h'.get? c = some o) → Q (.ref (s.heap.objs.size + 4)) { s with heap := h' }) :
    wpAny (model prog w) A (call (.type "zip") [.ref a, .ref b]) Q E s := by
  refine callType_new F.called_zip (by decide) (F.typeCall_zip_2 _ _) (F.newCall_zip_2 _ _) (fun obj => F.args_object_init_3 obj _ _) F.entry_zip_new (meets_zip_ll a b xs ys) ⟨ta, tb, ?_⟩
  have y1 : (zL1 s.heap a).objs.size = s.heap.objs.size + 1 := Heap.size_push ..
  have y2 : (zL2 s.heap a b).objs.size = s.heap.objs.size + 2 := by rw [Heap.size_push, y1]
  have y3 : (zL3 s.heap a b).objs.size = s.heap.objs.size + 3 := by rw [Heap.size_push, y2]
  have y4 : (zL4 s.heap a b).objs.size = s.heap.objs.size + 4 := by rw [Heap.size_push, y3]
  have e5 : (zL5 s.heap a b).get? (zL4 s.heap a b).objs.size = some _ := Heap.get?_push_size _ rfl
  have e4 : (zL5 s.heap a b).get? (zL3 s.heap a b).objs.size = some _ := Heap.get?_push_of_some _ (Heap.get?_push_size _ rfl)
  have e3 : (zL5 s.heap a b).get? (zL2 s.heap a b).objs.size = some _ := Heap.get?_push_of_some _ (Heap.get?_push_of_some _ (Heap.get?_push_size _ rfl))
  have e2 : (zL5 s.heap a b).get? (zL1 s.heap a).objs.size = some _ := Heap.get?_push_of_some _ (Heap.get?_push_of_some _ (Heap.get?_push_of_some _ (Heap.get?_push_size _ rfl)))
  have e1 : (zL5 s.heap a b).get? s.heap.objs.size = some _ := Heap.get?_push_of_some _ (Heap.get?_push_of_some _ (Heap.get?_push_of_some _ (Heap.get?_push_of_some _ (Heap.get?_push_size _ rfl))))
  show _ ∧ _
  rw [y2, y3, y4] at e5
  rw [y1, y2] at e3
  rw [y3] at e4
  rw [y1] at e2
  rw [y4]
  refine ⟨⟨_, e5, rfl⟩, h _ e5 e3 e4 ⟨_, e1, rfl, rfl⟩ ⟨_, e2, rfl, rfl⟩ fun c o e => ?_⟩
  exact Heap.get?_push_of_some _ (Heap.get?_push_of_some _ (Heap.get?_push_of_some _ (Heap.get?_push_of_some _ (Heap.get?_push_of_some _ e))))
end
end PySem
namespace L2
open PySem PySem.Spec PyProof.Rows
def ItzL (K : PySem.W.Frag) (a b : Addr) : It :=
  ⟨fun i H => ∃ xs ys x y, SqL K H a xs ∧ SqL K H b ys ∧ xs[i]? = some x ∧ ys[i]? = some y, fun i H v H' => ∃ T x y, H T = none ∧ v = .ref T ∧ H' = upd H T (.tup [x, y]) ∧ (∀ xs, SqL K H a xs → xs[i]? = some x) ∧ ∀ ys, SqL K H b ys → ys[i]? = some y,
   fun i H => ∃ xs ys, SqL K H a xs ∧ SqL K H b ys ∧ (i = xs.length ∨ (i < xs.length ∧ i = ys.length))⟩
theorem turn_zipL {P : Program} {w : World} {K : PySem.W.Frag} {elts : List Expr} {x1} {pos : Pos} (a b z TI TO i1 i2 : Addr) (nd : [z, TI, TO, i1, i2].Nodup) (na : a ∉ [z, TI, TO, i1, i2]) (nb : b ∉ [z, TI, TO, i1, i2]) : Turn P w K (.Tuple elts x1 pos) (ItzL K a b) [z, TI, TO, i1, i2] z
    (fun i h => IsZip h z TI TO .none ∧ IsPair h TI (.ref i1) (.ref i2) ∧ (∃ u v, IsPair h TO u v) ∧ h.IsListIter i1 a i ∧ h.IsListIter i2 b i) where
  mem := by simp
  obj := fun i h st c hc => by
    obtain ⟨h1, h2, ⟨u, v, h3⟩, ⟨o4, g4, _, d4⟩, ⟨o5, g5, _, d5⟩⟩ := st
    simp only [List.mem_cons, List.mem_nil_iff, or_false] at hc
    rcases hc with rfl | rfl | rfl | rfl | rfl
    · exact ⟨_, h1, fun v q => by cases q⟩
    · exact ⟨_, h2, fun v q => by cases q⟩
    · exact ⟨_, h3, fun v q => by cases q⟩
    · exact ⟨_, g4, fun v q => by rw [d4] at q; cases q⟩
    · exact ⟨_, g5, fun v q => by rw [d5] at q; cases q⟩
  keep := fun i h h' st k => by
    obtain ⟨h1, h2, ⟨u, v, h3⟩, h4, h5⟩ := st
    exact ⟨k z (by simp) _ h1, k TI (by simp) _ h2, ⟨u, v, k TO (by simp) _ h3⟩, h4.at fun o q => k i1 (by simp) o q, h5.at fun o q => k i2 (by simp) o q⟩
  item := by
    intro X hP hw hK hc i pins s σ H E I hf st hg
    subst hP hw hK
    obtain ⟨hZ, pI, ⟨u, v, pO⟩, t1, t2⟩ := st
    obtain ⟨xs, ys, x, y, ha, hb, hx, hy⟩ := hg
    obtain ⟨its, rv, p1, _⟩ := I.list ha
    obtain ⟨jts, rw', p2, _⟩ := I.list hb
    obtain ⟨ux, hux, rx⟩ := rv.get hx
    obtain ⟨uy, huy, ry⟩ := rw'.get hy
    have AP := zap_of nd na nb
    have fresh : H s.heap.objs.size = none := I.hok.fresh (Nat.le_refl _)
    have ltz : ∀ c ∈ [z, TI, TO, i1, i2], c ≠ s.heap.objs.size := by
      intro c hc
      obtain ⟨o4, g4, _⟩ := id t1
      obtain ⟨o5, g5, _⟩ := id t2
      simp only [List.mem_cons, List.mem_nil_iff, or_false] at hc
      rcases hc with rfl | rfl | rfl | rfl | rfl
      · exact Nat.ne_of_lt (Heap.lt_size hZ)
      · exact Nat.ne_of_lt (Heap.lt_size pI)
      · exact Nat.ne_of_lt (Heap.lt_size pO)
      · exact Nat.ne_of_lt (Heap.lt_size g4)
      · exact Nat.ne_of_lt (Heap.lt_size g5)
    refine pyNext_zip_itemD AP (Draws.list (A := X.A.in1) (I.ok.hd hc) i1 a (fun q => na (by simp [q])) its.toArray) (Draws.list (A := X.A.in1) (I.ok.hd hc) i2 b (fun q => nb (by simp [q])) jts.toArray) hZ pI pO ⟨t1, p1.isList⟩ ⟨t2, p2.isList⟩
      (by have := (List.getElem?_eq_some_iff.mp hux).1; simpa using this) (by have := (List.getElem?_eq_some_iff.mp huy).1; simpa using this) fun h' tk xv yv px py z' pO' s1' s2' pT kk => ⟨_, rfl, ?_⟩
    have ex : ux = xv := Option.some.inj (hux.symm.trans (by simpa using px))
    have ey : uy = yv := Option.some.inj (huy.symm.trans (by simpa using py))
    subst ex ey
    refine wpAny_letOwnedTupleGo_zip (s := { s with heap := h', toks := tk }) z' fun h2 z2 sb => ?_
    have I1 : Inv X pins σ (upd H s.heap.objs.size (.tup [x, y])) { s with heap := s.heap.push { cls := .type "tuple", data := .seq #[ux, uy] }, toks := s.toks } :=
      I.laid (o := .tup [x, y]) (fun b ob q => Heap.get?_push_of_some _ q) (Nat.le_refl _) ⟨by rw [sizeLine_eq]; simp, [ux, uy], .cons rx (.cons ry .nil), IsTupN.new _ _⟩
    have I2 := I1.turnedL (h' := h2) (t' := tk) [z, TI, TO, i1, i2] (fun c o hc' q => ?_) (fun c hc' => (hf c hc').up (ltz c hc'))
    · refine ⟨.ref s.heap.objs.size, _, I2, rfl, ⟨_, x, y, fresh, rfl, rfl, fun ys' hy' => by rw [I.list_inj hy' ha]; exact hx, fun ys' hy' => by rw [I.list_inj hy' hb]; exact hy⟩,
        ⟨z2, (sb.2 TI AP.a1).trans (kk _ _ AP.a1 AP.a5 AP.a6 AP.a7 pI), ⟨_, _, (sb.2 TO AP.a2).trans pO'⟩, s1'.1.at fun o q => (sb.2 i1 AP.a3).trans q, s2'.1.at fun o q => (sb.2 i2 AP.a4).trans q⟩, fun c hc' => ?_⟩
      rw [upd_ne (ltz c hc')]; exact (hf c hc').1
    · have c1 : c ≠ z := fun q => hc' (by simp [q])
      have c2 : c ≠ TO := fun q => hc' (by simp [q])
      have c3 : c ≠ i1 := fun q => hc' (by simp [q])
      have c4 : c ≠ i2 := fun q => hc' (by simp [q])
      refine (sb.2 c c1).trans ?_
      by_cases hcs : c = s.heap.objs.size
      · subst hcs
        rw [Heap.get?_push_size _ rfl] at q
        cases q
        exact pT
      · rw [Heap.get?_push_ne _ _ _ hcs] at q
        exact kk c o c1 c2 c3 c4 q
  done := by
    intro X hP hw hK hc i pins s σ H E I hf st hg
    subst hP hw hK
    obtain ⟨hZ, pI, ⟨u, v, pO⟩, t1, t2⟩ := st
    obtain ⟨xs, ys, ha, hb, hend⟩ := hg
    obtain ⟨its, rv, p1, _⟩ := I.list ha
    obtain ⟨jts, rw', p2, _⟩ := I.list hb
    have AP := zap_of nd na nb
    have l1 := rv.length
    have l2 := rw'.length
    refine pyNext_zip_endD AP (Draws.list (A := X.A.in1) (I.ok.hd hc) i1 a (fun q => na (by simp [q])) its.toArray) (Draws.list (A := X.A.in1) (I.ok.hd hc) i2 b (fun q => nb (by simp [q])) jts.toArray) hZ pI pO ⟨t1, p1.isList⟩ ⟨t2, p2.isList⟩
      (by simp only [List.size_toArray]; omega) fun h' tk kk => ⟨rfl, I.turnedL (t' := tk) [z, TI, TO, i1, i2] (fun c o hc' q => ?_) hf⟩
    exact kk c o (fun q => hc' (by simp [q])) (fun q => hc' (by simp [q])) (fun q => hc' (by simp [q])) (fun q => hc' (by simp [q])) q
  self := fun A i s Q E st h => wpAny_pyIter_zip st.1 h
def iZipL (K : PySem.W.Frag) (ta : TA) : TI := fun σ H R => ta σ H fun vs H1 => ∃ a b xs ys, vs = [.ref a, .ref b] ∧ SqL K H1 a xs ∧ SqL K H1 b ys ∧ R (ItzL K a b) H1
theorem pi_zipL {X : Cx} {elts : List Expr} {x1} {tpos : Pos} {e1 e2 : Expr} {ta : TA} {p pos : Pos} (hg : Gl X "zip") (hm : X.mg "zip" = none) (ha : PA X [e1, e2] ta) (hs : starEach [e1, e2] X.env = [(false, eval e1 X.env), (false, eval e2 X.env)] := by rfl) (hs2 : starEach [e2] X.env = [(false, eval e2 X.env)] := by rfl) :
    PI X (.Tuple elts x1 tpos) (.Call (.Name "zip" p) [e1, e2] [] pos) (iZipL X.K ta) := by
  intro pins s σ H R I h
  refine Call_ (ld_blt I hg hm (show bootBuiltins "zip" = some (.type "zip") by decide +kernel) (PyProof.Rows.callWith_type1 (thn (ha pos pins s σ H _ I h) fun us s1 ⟨vs, H1, I1, r1, q1⟩ => ?_) (by rw [hs, hs2]) (by rw [hs2]; rfl)))
  obtain ⟨a, b, xs, ys, e, hqa, hqb, q⟩ := q1
  subst e
  cases r1 with
  | cons r rr =>
    cases rr with
    | cons r' rr =>
      cases rr
      cases r
      cases r'
      obtain ⟨its, rv, p1, _⟩ := I1.list hqa
      obtain ⟨jts, rw', p2, _⟩ := I1.list hqb
      refine call_zip_ll p1.isList p2.isList fun h' hZ pI pO t1 t2 kk => wpAny_pyIter_zip hZ ?_
      obtain ⟨oa, ga, _⟩ := id p1.isList
      obtain ⟨ob, gb, _⟩ := id p2.isList
      have la := Heap.lt_size ga
      have lb := Heap.lt_size gb
      have big : ∀ c ∈ [s1.heap.objs.size + 4, s1.heap.objs.size + 2, s1.heap.objs.size + 3, s1.heap.objs.size, s1.heap.objs.size + 1], s1.heap.objs.size ≤ c := by
        intro c hc
        simp only [List.mem_cons, List.mem_nil_iff, or_false] at hc
        rcases hc with rfl | rfl | rfl | rfl | rfl <;> first | exact Nat.le_add_right _ _ | exact Nat.le_refl _
      refine ⟨s1.heap.objs.size + 4, [s1.heap.objs.size + 4, s1.heap.objs.size + 2, s1.heap.objs.size + 3, s1.heap.objs.size, s1.heap.objs.size + 1], _, _, H1, rfl, I1.kept (t' := s1.toks) kk,
        turn_zipL a b _ _ _ _ _ ?_ (fun q => Nat.lt_irrefl _ (Nat.lt_of_lt_of_le la (big _ q))) (fun q => Nat.lt_irrefl _ (Nat.lt_of_lt_of_le lb (big _ q))), ⟨hZ, pI, ⟨_, _, pO⟩, t1, t2⟩, fun c hc => I1.fpOk (big c hc) (I1.hok.fresh (big c hc)), q⟩
      generalize s1.heap.objs.size = n
      show List.Nodup ([n + 4, n + 2, n + 3, n, n + 1] : List Nat)
      simp
section
variable {g : TG} {ti : TT} {te : TE} {Q : VK} {D : Addr} {σ : St} {H : Hp}
theorem comp_zipL {K : PySem.W.Frag} {a b : Addr} {xs ys : List V} (Pv : Nat → St → List V → Hp → Prop) (h0 : Pv 0 σ [] (upd H D (.lst []))) (hl : ∀ i σ zs H, i ≤ xs.length → i ≤ ys.length → Pv i σ zs H → SqL K H a xs ∧ SqL K H b ys ∧ H D = some (.lst zs))
    (hs : ∀ i x y σ zs H T, xs[i]? = some x → ys[i]? = some y → Pv i σ zs H → H T = none → cturn g ti te D (.ref T) σ zs (upd H T (.tup [x, y])) (Pv (i + 1))) (hd : ∀ i σ zs H, i = min xs.length ys.length → Pv i σ zs H → Q (.ref D) H) :
    cgo (ItzL K a b) g ti te D σ H Q := by
  refine ⟨fun i m σ zs H => m = xs.length - i ∧ i ≤ xs.length ∧ i ≤ ys.length ∧ Pv i σ zs H, ⟨xs.length, by simp, Nat.zero_le _, Nat.zero_le _, h0⟩, ?_⟩
  rintro i m σ zs H ⟨rfl, hi, hj, p⟩
  obtain ⟨q1, q2, hD⟩ := hl i σ zs H hi hj p
  refine ⟨hD, ?_⟩
  by_cases hlt : i < xs.length ∧ i < ys.length
  · refine .inr ⟨⟨xs, ys, xs[i], ys[i], q1, q2, by simp [hlt.1], by simp [hlt.2]⟩, Pv (i + 1), fun σ' ys' H' p' => ⟨xs.length - (i + 1), by omega, rfl, hlt.1, hlt.2, p'⟩, fun x H' y => ?_⟩
    obtain ⟨T, x, y, hT, rfl, rfl, y1, y2⟩ := y
    exact hs i x y σ zs H T (y1 xs q1) (y2 ys q2) p hT
  · exact .inl ⟨⟨xs, ys, q1, q2, by omega⟩, hd i σ zs H (by omega) p⟩
end
end L2
set_option maxHeartbeats 4000000
namespace K68
open PySem L2 Wk
def oV : Option Int → V
  | none => .non
  | some i => .int i
def lesF : Option Int → Option Int → Option Int
  | none, p => p
  | some a, none => some a
  | some a, some b => some (if b < a then b else a)
theorem dvs1 (d : Dd) : d.vs[1]? = some (.int d.mo) := by cases d <;> rfl
theorem at_last1 {ls : List Int} (h : ls ≠ []) : atI (ls.map V.int) (-1) = some (.int (ls.getLastD 0)) := by
  obtain ⟨l, x, rfl⟩ : ∃ l x, ls = l ++ [x] := ⟨ls.dropLast, ls.getLast h, (List.dropLast_concat_getLast h).symm⟩
  rw [List.map_append, lastD_snoc]
  exact atI_last _ _
def srV (r : Sr) : List V := [.int r.1, oV r.2.1, .int (r.2.2 : Int)]
def SrsAt (H : Hp) (rs : List Addr) (L : List Sr) : Prop := rs.length = L.length ∧ ∀ (i : Nat) r x, rs[i]? = some r → L[i]? = some x → H r = some (.tup (srV x))
theorem SrsAt.get {H : Hp} {rs : List Addr} {L : List Sr} (h : SrsAt H rs L) {i : Nat} {r : Addr} (hr : rs[i]? = some r) : ∃ x, L[i]? = some x ∧ H r = some (.tup (srV x)) := by
  have hi : i < L.length := by rw [← h.1]; exact (List.getElem?_eq_some_iff.mp hr).1
  exact ⟨L[i], getq hi, h.2 i r _ hr (getq hi)⟩
theorem SrsAt.same {H H' : Hp} {rs : List Addr} {L : List Sr} (h : SrsAt H rs L) (s : Same H H') : SrsAt H' rs L := ⟨h.1, fun i r x a b => s _ _ (h.2 i r x a b)⟩
theorem srs_snoc {H : Hp} {rs : List Addr} {L : List Sr} {r : Addr} {x : Sr} (h : SrsAt H rs L) (hr : H r = some (.tup (srV x))) : SrsAt H (rs ++ [r]) (L ++ [x]) := by
  refine ⟨by rw [List.length_append, List.length_append, h.1]; rfl, fun i r0 x0 e1 e2 => ?_⟩
  rw [List.getElem?_append] at e1 e2
  rw [h.1] at e1
  split at e1
  · rename_i z
    rw [if_pos z] at e2
    exact h.2 i r0 x0 e1 e2
  · rename_i z
    rw [if_neg z] at e2
    have hz : i - L.length = 0 := by
      have := (List.getElem?_eq_some_iff.mp e1).1
      simp only [List.length_cons, List.length_nil] at this
      omega
    rw [hz] at e1 e2
    cases e1
    cases e2
    exact hr
inductive SpLesserP (vs : List V) (H : Hp) (Q : VK) (u_3 : XK) : Prop
  | mk (o p : Option Int) : (vs = [oV o, oV p]) → (Q (oV (lesF o p)) H) → SpLesserP vs H Q u_3
def spLesser : Sp := fun vs H Q u_3 => SpLesserP vs H Q u_3
inductive SpDeedsByP (vs : List V) (H : Hp) (Q : VK) (u_3 : XK) : Prop
  | mk (h : Addr) (N : Nat) (ds : List Dd) (m : Int) : (vs = [.ref h, .int m]) → (HistAt H h N ds) → (ds.length ≤ 60) → (∀ H', Same H H' → Q (.int (cntF ds m : Int)) H') → SpDeedsByP vs H Q u_3
def spDeedsBy : Sp := fun vs H Q u_3 => SpDeedsByP vs H Q u_3
inductive SpStretchesP (vs : List V) (H : Hp) (Q : VK) (u_3 : XK) : Prop
  | mk (h : Addr) (N : Nat) (ds : List Dd) : (vs = [.ref h]) → (HistAt H h N ds) → (Right N ds) → (∀ (l : Addr) (rs : List Addr) (H' : Hp), Same H H' → H' l = some (.lst (rs.map V.ref)) → SrsAt H' rs (strF ds) → Q (.ref l) H') → SpStretchesP vs H Q u_3
def spStretches : Sp := fun vs H Q u_3 => SpStretchesP vs H Q u_3
theorem les_eq (o p : Option Int) : lesF o p = lesO o p := by cases o <;> cases p <;> rfl
def snV (s : Sn) : List V := [.int s.1, oV s.2]
def SnsA (H : Hp) (rs : List Addr) (L : List Sn) : Prop := rs.length = L.length ∧ ∀ (i : Nat) r x, rs[i]? = some r → L[i]? = some x → H r = some (.tup (snV x))
def SpnAt (H : Hp) (t : Addr) (L : List Sn) : Prop := ∃ rs : List Addr, H t = some (.tup (rs.map V.ref)) ∧ SnsA H rs L
theorem SpnAt.mono {H H' : Hp} {t : Addr} {L : List Sn} (h : SpnAt H t L) (f : ∀ r xs, H r = some (.tup xs) → H' r = some (.tup xs)) : SpnAt H' t L := let ⟨rs, a, b⟩ := h; ⟨rs, f _ _ a, b.1, fun i r x e g => f _ _ (b.2 i r x e g)⟩
theorem SpnAt.same {H H' : Hp} {t : Addr} {L : List Sn} (h : SpnAt H t L) (s : Same H H') : SpnAt H' t L := h.mono fun r xs => s r (.tup xs)
theorem rws_snoc {α : Type} {Pp : Addr → α → Prop} {rs : List Addr} {L : List α} {r : Addr} {x : α} (h : rs.length = L.length ∧ ∀ (i : Nat) r x, rs[i]? = some r → L[i]? = some x → Pp r x) (hr : Pp r x) : (rs ++ [r]).length = (L ++ [x]).length ∧ ∀ (i : Nat) r' x', (rs ++ [r])[i]? = some r' → (L ++ [x])[i]? = some x' → Pp r' x' := by
  refine ⟨by rw [List.length_append, List.length_append, h.1]; rfl, fun i r0 x0 e1 e2 => ?_⟩
  rw [List.getElem?_append] at e1 e2
  rw [h.1] at e1
  split at e1
  · rename_i z
    rw [if_pos z] at e2
    exact h.2 i r0 x0 e1 e2
  · rename_i z
    rw [if_neg z] at e2
    have hz : i - L.length = 0 := by
      have := (List.getElem?_eq_some_iff.mp e1).1
      simp only [List.length_cons, List.length_nil] at this
      clear h z; omega
    rw [hz] at e1 e2
    cases e1
    cases e2
    exact hr
theorem rws_get {α : Type} {Pp : Addr → α → Prop} {rs : List Addr} {L : List α} (h : rs.length = L.length ∧ ∀ (i : Nat) r x, rs[i]? = some r → L[i]? = some x → Pp r x) {i : Nat} {r : Addr} (hr : rs[i]? = some r) : ∃ x, L[i]? = some x ∧ Pp r x := by
  have hi : i < L.length := by rw [← h.1]; exact (List.getElem?_eq_some_iff.mp hr).1
  exact ⟨L[i], getq hi, h.2 i r _ hr (getq hi)⟩
theorem rws_mono {α : Type} {Pp Pq : Addr → α → Prop} {rs : List Addr} {L : List α} (h : rs.length = L.length ∧ ∀ (i : Nat) r x, rs[i]? = some r → L[i]? = some x → Pp r x) (f : ∀ r x, Pp r x → Pq r x) : rs.length = L.length ∧ ∀ (i : Nat) r x, rs[i]? = some r → L[i]? = some x → Pq r x := ⟨h.1, fun i r x a b => f _ _ (h.2 i r x a b)⟩
theorem sm5 {n : Nat} (h : n ≤ 5000) : n < sizeLine := Nat.lt_of_le_of_lt h (by decide)
inductive SpCommonP (vs : List V) (H : Hp) (Q : VK) (u_3 : XK) : Prop
  | mk (t u : Addr) (A B : List Sn) : (vs = [.ref t, .ref u]) → (SpnAt H t A) → (SpnAt H u B) → (A.length * B.length ≤ 4000) → (∀ (r : Addr) (H' : Hp), Same H H' → SpnAt H' r (comF A B) → Q (.ref r) H') → SpCommonP vs H Q u_3
def spCommon : Sp := fun vs H Q u_3 => SpCommonP vs H Q u_3
inductive SpOtherP (vs : List V) (H : Hp) (Q : VK) (u_3 : XK) : Prop
  | mk (t : Addr) (L : List Sn) : (vs = [.ref t]) → (SpnAt H t L) → (Norm 0 L) → (L.length ≤ 4000) → (∀ (r : Addr) (H' : Hp), Same H H' → SpnAt H' r (oth 0 L) → Q (.ref r) H') → SpOtherP vs H Q u_3
def spOther : Sp := fun vs H Q u_3 => SpOtherP vs H Q u_3
inductive SpJointP (vs : List V) (H : Hp) (Q : VK) (u_3 : XK) : Prop
  | mk (t u : Addr) (A B : List Sn) : (vs = [.ref t, .ref u]) → (SpnAt H t A) → (SpnAt H u B) → (Norm 0 A) → (Norm 0 B) → (A.length ≤ 100) → (B.length ≤ 10) → (∀ (r : Addr) (H' : Hp), Same H H' → SpnAt H' r (joiF A B) → Q (.ref r) H') → SpJointP vs H Q u_3
def spJoint : Sp := fun vs H Q u_3 => SpJointP vs H Q u_3
inductive SpWhereP (vs : List V) (H : Hp) (Q : VK) (u_3 : XK) : Prop
  | mk (h tr : Addr) (N : Nat) (ds : List Dd) (f : Nat → Bool) : (vs = [.ref h, .ref tr]) → (HistAt H h N ds) → (Right N ds) → (H tr = some (.lst ((List.range (ds.length + 1)).map fun n => V.bl (f n)))) → (∀ (r : Addr) (H' : Hp), Same H H' → SpnAt H' r (whF f (strF ds) []) → Q (.ref r) H') → SpWhereP vs H Q u_3
def spWhere : Sp := fun vs H Q u_3 => SpWhereP vs H Q u_3
theorem bl_at {f : Nat → Bool} {M n : Nat} (h : n < M) : atI ((List.range M).map fun n => V.bl (f n)) (n : Int) = some (.bl (f n)) := atI_nat (by rw [List.getElem?_map, List.getElem?_range h]; rfl)
section
variable {P : Program} {w : World} {K : PySem.W.Frag} {mg : Str → Option Value} {base : Heap}
theorem scLesser : FnScope ["one", "other"] ["one", "other"] (defScope sLesser) := ⟨rfl, rfl, rfl, by decide +kernel, rfl, by decide +kernel, by decide +kernel⟩
theorem ok_Lesser {f : Addr} {fd : FuncData} (F : Fun K "lesser_end" "lesser_end" sLesser f fd) (T : Txt mg) :
    FnOk P w K mg base CX0 1 f fd ["one", "other"] spLesser := by
  refine F.ok scLesser (fun vs H Q E h => ?_) (fun cdv A outer s H vs Q E hr h => ?_)
  · obtain ⟨_, _, rfl, _⟩ := h; rfl
  · obtain ⟨o, p, rfl, k⟩ := h
    refine ⟨_, pss_cons (ps_if (pt_cmpR op_isN (pv 0) pe_non (nomark _)) (pss_one (ps_ret (pv 1))) pss_nil)
      (pss_cons (ps_if (pt_cmpR op_isN (pv 1) pe_non (nomark _)) (pss_one (ps_ret (pv 0))) pss_nil)
      (pss_one (ps_ret (pe_callB (call_min2 rfl) (by rfl) T.min (by decide +kernel) (pa_cons (pv 0) (pa_cons (pv 1) pa_nil)))))), ?_⟩
    try dsimp only [cxOf, Cx.nox]
    refine seqL2 ?_
    intro R2_ R1_
    cases o with
    | none => exact ⟨_, rfl, rfl, _, rfl, iteT ⟨_, rfl, k⟩⟩
    | some x =>
      refine ⟨_, rfl, rfl, _, rfl, iteF ?_⟩
      dsimp only [tNext]
      cases p with
      | none => exact ⟨_, rfl, rfl, _, rfl, iteT ⟨_, rfl, k⟩⟩
      | some y =>
        refine ⟨_, rfl, rfl, _, rfl, iteF ?_⟩
        dsimp only [tNext]
        exact ⟨_, rfl, _, rfl, x, y, rfl, k⟩
theorem scDeedsBy : FnScope ["history", "moment"] ["history", "moment"] (defScope sDeedsBy) := ⟨rfl, rfl, rfl, by decide +kernel, rfl, by decide +kernel, by decide +kernel⟩
theorem ok_DeedsBy {f : Addr} {fd : FuncData} (F : Fun K "deeds_by" "deeds_by" sDeedsBy f fd) (T : Txt mg) :
    FnOk P w K mg base CX0 1 f fd ["history", "moment"] spDeedsBy := by
  refine F.ok scDeedsBy (fun vs H Q E h => ?_) (fun cdv A outer s H vs Q E hr h => ?_)
  · obtain ⟨_, _, _, _, rfl, _⟩ := h; rfl
  · obtain ⟨h, N, ds, m, rfl, hh, d60, k⟩ := h
    refine ⟨_, pss_one (ps_ret (pe_callB call_len_seq (by rfl) T.len PySem.boot_len (pa_cons (pe_comp (T := ["deed"]) (F := ["moment"]) (js := [1]) (CS.to (osc := defScope sDeedsBy) ⟨by rfl, by decide +kernel, by decide +kernel, by decide +kernel, by decide +kernel, by decide +kernel, by decide +kernel⟩ rfl rfl) rfl (pi_tup (pe_ix ix_tup (pv 0) pe_int (fun _ _ => rfl))) (fun _ _ _ _ _ => pg_name (i := 0) (show (["deed", "moment"] : List Str).Nodup by decide +kernel) rfl (Or.inl rfl)) (fun _ _ _ _ _ => pif_one (pt_cmpR op_le (pe_ix (r := rIxT K) ix_tup (pv 0) pe_int (fun _ _ => rfl)) (pv 1) (nomark _))) (fun _ _ _ _ _ => pv 0)) pa_nil))), ?_⟩
    try dsimp only [cxOf, Cx.nox]
    obtain ⟨tp, rs, eh, et, hdd⟩ := id hh
    refine ⟨_, rfl, h, _, 1, _, rfl, rfl, SqT.of eh, atI_nat (j := 1) rfl, tp, rfl, ⟨_, SqT.of et⟩, fun D hD => comp_tupL (K := K) (a := tp) (xs := rs.map V.ref) (fun j σ ys H6 => ∃ (u : Option V) (fs : List Addr), σ = [u, some (.int m)] ∧ ys = fs.map V.ref ∧ H6 = upd H D (.lst ys) ∧ fs.length = ((ds.take j).filter fun d => decide (d.mo ≤ m)).length) ⟨none, [], rfl, rfl, rfl, rfl⟩ (fun j σ ys H6 _ ⟨_, _, _, _, e, _⟩ => by rw [e]; exact ⟨SqT.of (by rw [upd_ne (ne_of_none et hD)]; exact et), upd_same⟩) ?_ ?_⟩
    · intro j x σ ys H6 hx hI6_ E_
      refine hideG fun G_ hG_ => ?_
      obtain ⟨u, fs, rfl, rfl, rfl, fl⟩ := hI6_
      obtain ⟨r, hr', rfl⟩ := map_some hx
      obtain ⟨d, hd, er⟩ := hdd.get hr'
      have er6 := same_new (o := .lst (fs.map V.ref)) hD _ _ er
      have tk := take_snoc hd
      have fl60 : fs.length ≤ 60 := by
        have := List.length_filter_le (fun d : Dd => decide (d.mo ≤ m)) (ds.take j)
        rw [List.length_take] at this
        omega
      refine hG_ ?_
      refine ⟨_, rfl, r, _, 1, _, rfl, rfl, SqT.of er6, atI_nat (j := 1) (dvs1 d), _, rfl, _, _, rfl, rfl, _, rfl, ?_⟩
      by_cases g : d.mo ≤ m
      · rw [decide_eq_true g]
        refine iteT ⟨_, rfl, upd_same, small1000 (by rw [List.length_map]; exact Nat.le_trans (by assumption) (by decide)), _, fs ++ [r], rfl, by rw [List.map_append]; rfl, by rw [upd_upd], ?_⟩
        rw [tk, List.filter_append, List.length_append, List.length_append, fl, List.filter_cons_of_pos (by simpa using g)]; rfl
      · rw [decide_eq_false g]
        refine iteF ⟨_, fs, rfl, rfl, rfl, ?_⟩
        rw [tk, List.filter_append, List.length_append, fl, List.filter_cons_of_neg (by simpa using g)]; rfl
    · intro σ ys H6 hI3_
      refine hideG fun G_ hG_ => ?_
      obtain ⟨u, fs, rfl, rfl, rfl, fl⟩ := hI3_
      refine hG_ ?_
      rw [List.length_map, hdd.1, List.take_length] at fl
      refine ⟨D, _, rfl, .inl (SqL.of upd_same), ?_⟩
      have := k _ (same_new (o := .lst (fs.map V.ref)) hD)
      unfold cntF at this
      rw [← fl] at this
      rw [List.length_map]
      exact this
theorem scStretches : FnScope ["history", "lows", "deed"] ["history"] (defScope sStretches) := ⟨rfl, rfl, rfl, by decide +kernel, rfl, by decide +kernel, by decide +kernel⟩
theorem ok_Stretches {f : Addr} {fd : FuncData} (F : Fun K "stretches_of" "stretches_of" sStretches f fd) (T : Txt mg)
    {gDeedsBy : Addr} {fDeedsBy : FuncData} (kDeedsBy : PySem.W.keepIn K (.ref gDeedsBy) = true) (bDeedsBy : Binds K fDeedsBy ["history", "moment"] []) (hDeedsBy : mg "deeds_by" = some (.ref gDeedsBy)) (GDeedsBy : FnOk P w K mg base CX0 1 gDeedsBy fDeedsBy ["history", "moment"] spDeedsBy) :
    FnOk P w K mg base CX0 2 f fd ["history"] spStretches := by
  refine F.ok scStretches (fun vs H Q E h => ?_) (fun cdv A outer s H vs Q E hr h => ?_)
  · obtain ⟨_, _, _, rfl, _⟩ := h; rfl
  · obtain ⟨h, N, ds, rfl, hh, hR, k⟩ := h
    refine ⟨_, pss_cons (ps_set (i := 1) scStretches.nd rfl (Or.inl rfl) (pe_lst (pa_cons pe_int pa_nil)))
      (pss_cons (ps_for PassesOwn.never rfl (pi_tup (pe_ix ix_tup (pv 0) pe_int (fun _ _ => rfl))) (pg_name (i := 2) scStretches.nd rfl (Or.inl rfl)) (pss_one (ps_if (pt_cmpR op_gt (pe_ix ix_tup (pv 2) pe_int (fun _ _ => rfl)) (pe_ix ix_list (pv 1) (pe_un un_neg pe_int) (fun _ _ => rfl)) (nomark _)) (pss_one (ps_expr (pe_bm PySem.F.plainAttrs_list PySem.F.slot_list_append PySem.F.type_list_append mt_append (pv 1) (pa_cons (pe_ix ix_tup (pv 2) pe_int (fun _ _ => rfl)) pa_nil)))) pss_nil)))
      (pss_one (ps_ret (pe_comp (T := ["low", "high"]) (F := ["history"]) (js := [0]) (CS.to (osc := defScope sStretches) ⟨by rfl, by decide +kernel, by decide +kernel, by decide +kernel, by decide +kernel, by decide +kernel, by decide +kernel⟩ rfl rfl) rfl (pi_zipL rfl T.zip (pa_cons (pv 1) (pa_cons (pe_op op_cat (pe_slice sl_list (pv 1) (po_some pe_int) po_none) (pe_lst (pa_cons pe_non pa_nil))) pa_nil))) (fun _ _ _ _ _ => pg_tupK K 2 rfl rfl (pgs_cons (pg_name (i := 0) (show (["low", "high", "history"] : List Str).Nodup by decide +kernel) rfl (Or.inl rfl)) (pgs_cons (pg_name (i := 1) (show (["low", "high", "history"] : List Str).Nodup by decide +kernel) rfl (Or.inl rfl)) pgs_nil))) (fun _ _ _ _ _ => pif_nil) (fun _ _ _ _ _ => pe_tup (pa_cons (pv 0) (pa_cons (pv 1) (pa_cons (pe_call GDeedsBy hr rfl hDeedsBy kDeedsBy bDeedsBy .nil pass0 (pa_cons (pv 2) (pa_cons (pv 0) pa_nil))) pa_nil)))))))), ?_⟩
    dsimp only [cxOf, Cx.nox]
    refine seqL2 ?_
    intro R2_ R1_
    have d60 := hR.len
    have LO := fun n hn => lows_ok ds (fun d hd => (hR.mo d hd).1) hR.up n hn
    refine ⟨small (by simp), fun l hl => ?_⟩
    have s1 := same_new (o := .lst [.int 0]) hl
    have hh1 := hh.same s1
    obtain ⟨tp, rs, eh, et, hdd⟩ := id hh1
    have hdd1 : DdsAt (upd H l (.lst [.int 0])) rs ds := hdd
    have nlt : l ≠ tp := by
      intro e
      rw [← e, upd_same] at et
      cases et
    refine ⟨_, rfl, h, _, 1, _, rfl, rfl, SqT.of eh, atI_nat (j := 1) rfl, tp, rfl, ⟨_, SqT.of et⟩, for_tup (K := K) (a := tp) (xs := rs.map V.ref) (fun i σ H5 => ∃ (u2 : Option V), σ = [some (.ref h), some (.ref l), u2] ∧ H5 = upd H l (.lst ((lowsF (ds.take i)).map V.int))) ⟨_, rfl, rfl⟩ (fun i σ H5 _ ⟨_, _, e⟩ => by rw [e]; rw [upd_ne (Ne.symm nlt)] at et; exact SqT.of (by rw [upd_ne (Ne.symm nlt)]; exact et)) ?_ ?_⟩
    · rintro i x σ H5 hx ⟨u2, rfl, rfl⟩
      obtain ⟨r, hr', rfl⟩ := map_some hx
      obtain ⟨d, hd, er⟩ := hdd1.get hr'
      have hi : i < ds.length := (List.getElem?_eq_some_iff.mp hd).1
      have I := LO i (by exact Nat.le_of_lt (by assumption))
      have tk := take_snoc hd
      have nr : r ≠ l := by
        intro e
        rw [e, upd_same] at er
        cases er
      rw [upd_ne nr] at er
      have er5 : upd H l (.lst ((lowsF (ds.take i)).map V.int)) r = some (.tup d.vs) := by rw [upd_ne nr]; exact er
      have len := I.len
      rw [List.length_take] at len
      refine ⟨_, rfl, r, _, 1, _, rfl, rfl, SqT.of er5, atI_nat (j := 1) (dvs1 d), _, rfl, _, rfl, l, _, _, _, rfl, rfl, SqL.of upd_same, at_last1 I.ne, _, _, rfl, rfl, _, rfl, ?_⟩
      rw [tk, lows_snoc]
      unfold lowS
      by_cases g : (lowsF (ds.take i)).getLastD 0 < d.mo
      · rw [if_pos g, decide_eq_true (show d.mo > (lowsF (ds.take i)).getLastD 0 from g)]
        exact iteT ⟨_, rfl, .inl ⟨rfl, _, SqL.of upd_same⟩, _, rfl, r, _, 1, _, rfl, rfl, SqT.of er5, atI_nat (j := 1) (dvs1 d), l, _, _, rfl, rfl, upd_same, small1000 (by rw [List.length_map]; omega), _, rfl, by rw [upd_upd, List.map_append]; rfl⟩
      · rw [if_neg g, decide_eq_false (show ¬ d.mo > (lowsF (ds.take i)).getLastD 0 from g)]
        exact iteF ⟨_, rfl, rfl⟩
    · rintro σ H5 ⟨u2, rfl, rfl⟩
      rw [List.length_map, hdd1.1, List.take_length]
      have I := LO ds.length (Nat.le_refl _)
      rw [List.take_length] at I
      have sl := same_new (o := .lst ((lowsF ds).map V.int)) hl
      have l5 := upd_same (H := H) (a := l) (o := .lst ((lowsF ds).map V.int))
      have len := I.len
      generalize upd H l (.lst ((lowsF ds).map V.int)) = H5 at sl l5 ⊢
      refine ⟨_, rfl, _, rfl, _, rfl, l, _, rfl, SqL.of l5, fun c hc => ?_⟩
      rw [show cutV ((lowsF ds).map V.int) (some 1) none = ((lowsF ds).drop 1).map V.int by rw [List.map_drop]; exact cutV_drop (n := 1)]
      have sc := same_new (o := .lst (((lowsF ds).drop 1).map V.int)) hc
      have c6 := upd_same (H := H5) (a := c) (o := .lst (((lowsF ds).drop 1).map V.int))
      generalize upd H5 c (.lst (((lowsF ds).drop 1).map V.int)) = H6 at sc c6 ⊢
      refine ⟨small (by simp), fun n hn => ?_⟩
      have sn := same_new (o := .lst [.non]) hn
      have n7 := upd_same (H := H6) (a := n) (o := .lst [.non])
      have c7 := sn _ _ c6
      generalize upd H6 n (.lst [.non]) = H7 at sn n7 c7 ⊢
      refine ⟨c, n, _, _, rfl, rfl, c7, n7, small (by rw [List.length_map, List.length_drop]; show _ + 1 ≤ _; omega), fun z hz => ?_⟩
      have sz := same_new (o := .lst (((lowsF ds).drop 1).map V.int ++ [.non])) hz
      have z8 := upd_same (H := H7) (a := z) (o := .lst (((lowsF ds).drop 1).map V.int ++ [.non]))
      generalize upd H7 z (.lst (((lowsF ds).drop 1).map V.int ++ [.non])) = H8 at sz z8 ⊢
      have S8 : Same H5 H8 := (sc.trans sn).trans sz
      have l8 := S8 _ _ l5
      have SH : Same H H8 := sl.trans S8
      have hh8 := hh.same SH
      have next : ∀ (i : Nat) y, (((lowsF ds).drop 1).map V.int ++ [.non])[i]? = some y → y = oV ((lowsF ds)[i + 1]?) := fun i y hy => by
        rw [List.getElem?_append] at hy
        split at hy
        · obtain ⟨v, hv, rfl⟩ := map_some hy
          rw [List.getElem?_drop, Nat.add_comm] at hv
          rw [hv]; rfl
        · rename_i g
          have hz0 : i - (((lowsF ds).drop 1).map V.int).length = 0 := by
            have := (List.getElem?_eq_some_iff.mp hy).1
            simp only [List.length_cons, List.length_nil] at this
            clear len g; omega
          rw [hz0] at hy
          cases hy
          rw [List.length_map, List.length_drop] at g
          rw [List.getElem?_eq_none (by omega)]; rfl
      refine ⟨l, z, _, _, rfl, SqL.of l8, SqL.of z8, fun D hD => comp_zipL (K := K) (a := l) (b := z) (xs := (lowsF ds).map V.int) (ys := ((lowsF ds).drop 1).map V.int ++ [.non]) (fun j σ zs H9 => ∃ (u v : Option V) (rs : List Addr), σ = [u, v, some (.ref h)] ∧ zs = rs.map V.ref ∧ Same H8 H9 ∧ H9 D = some (.lst zs) ∧ SrsAt H9 rs ((strF ds).take j)) ⟨none, none, [], rfl, rfl, same_new hD, upd_same, rfl, fun i r x e => by simp at e⟩ (fun j σ zs H9 _ _ ⟨_, _, _, _, _, s9, e, _⟩ => ⟨SqL.of (s9 _ _ l8), SqL.of (s9 _ _ z8), e⟩) ?_ ?_⟩
      · intro j x y σ zs H9 TT hx hy hI9_ hTT
        refine hideG fun G_ hG_ => ?_
        obtain ⟨u, v, rs, rfl, rfl, s9, e9, R9⟩ := hI9_
        obtain ⟨lo, hlo, rfl⟩ := map_some hx
        have hy := next j y hy
        refine hG_ ?_
        subst hy
        have hj : j < (lowsF ds).length := (List.getElem?_eq_some_iff.mp hlo).1
        have sT := same_new (o := .tup [.int lo, oV ((lowsF ds)[j + 1]?)]) hTT
        have tT := upd_same (H := H9) (a := TT) (o := .tup [.int lo, oV ((lowsF ds)[j + 1]?)])
        generalize upd H9 TT (.tup [.int lo, oV ((lowsF ds)[j + 1]?)]) = HA at sT tT ⊢
        refine ⟨TT, _, rfl, SqT.of tT, rfl, _, _, rfl, _, _, rfl, rfl, ?_⟩
        refine ⟨_, rfl, _, rfl, _, rfl, _, rfl, h, N, ds, lo, rfl, hh8.same (s9.trans sT), d60, fun HB sB => ⟨small (by simp), fun t ht => ?_⟩⟩
        have st := same_new (o := .tup [.int lo, oV ((lowsF ds)[j + 1]?), .int (cntF ds lo : Int)]) ht
        have t9 := upd_same (H := HB) (a := t) (o := .tup [.int lo, oV ((lowsF ds)[j + 1]?), .int (cntF ds lo : Int)])
        have S9 : Same H9 (upd HB t (.tup [.int lo, oV ((lowsF ds)[j + 1]?), .int (cntF ds lo : Int)])) := (sT.trans sB).trans st
        generalize upd HB t (.tup [.int lo, oV ((lowsF ds)[j + 1]?), .int (cntF ds lo : Int)]) = HC at st t9 S9 ⊢
        have eD := S9 _ _ e9
        have rl : rs.length ≤ j := by rw [R9.1, List.length_take]; omega
        have tk : (strF ds).take (j + 1) = (strF ds).take j ++ [(lo, (lowsF ds)[j + 1]?, cntF ds lo)] := take_snoc (strG_get _ _ _ _ hlo)
        refine ⟨eD, small1000 (by rw [List.length_map]; omega), _, _, rs ++ [t], rfl, by rw [List.map_append]; rfl, same_set (s9.trans S9) hD, upd_same, ?_⟩
        rw [tk]
        have R := srs_snoc (x := (lo, (lowsF ds)[j + 1]?, cntF ds lo)) (R9.same S9) t9
        exact ⟨R.1, fun i r x a b => by have e := R.2 i r x a b; rw [upd_ne (ne_of e eD (by intro z; cases z))]; exact e⟩
      · intro i σ zs H9 hi hI5_
        refine hideG fun G_ hG_ => ?_
        obtain ⟨u, v, rs, rfl, rfl, s9, e9, R9⟩ := hI5_
        have hfull : (strF ds).take i = strF ds := by
          refine List.take_of_length_le ?_
          unfold strF
          rw [strG_len, hi, List.length_map, List.length_append, List.length_map, List.length_drop]
          show _ ≤ min _ (_ + 1)
          clear hi; omega
        refine hG_ ?_
        rw [hfull] at R9
        exact k D rs H9 (SH.trans s9) e9 R9
theorem scCommon : FnScope ["one", "other", "common", "low", "high", "start", "stop", "begin", "end"] ["one", "other"] (defScope sCommon) := ⟨rfl, rfl, rfl, by decide +kernel, rfl, by decide +kernel, by decide +kernel⟩
theorem ok_Common {f : Addr} {fd : FuncData} (F : Fun K "common_spans" "common_spans" sCommon f fd) (T : Txt mg)
    {gLesser : Addr} {fLesser : FuncData} (kLesser : PySem.W.keepIn K (.ref gLesser) = true) (bLesser : Binds K fLesser ["one", "other"] []) (hLesser : mg "lesser_end" = some (.ref gLesser)) (GLesser : FnOk P w K mg base CX0 1 gLesser fLesser ["one", "other"] spLesser) :
    FnOk P w K mg base CX0 2 f fd ["one", "other"] spCommon := by
  refine F.ok scCommon (fun vs H Q E h => ?_) (fun cdv A outer s H vs Q E hr h => ?_)
  · obtain ⟨_, _, _, _, rfl, _⟩ := h; rfl
  · obtain ⟨t, u, A, B, rfl, ⟨rs, et, hA⟩, ⟨qs, eu, hB⟩, AB, k⟩ := h
    refine ⟨_, pss_cons (ps_set (i := 2) scCommon.nd rfl (Or.inl rfl) (pe_lst pa_nil))
      (pss_cons (ps_for PassesOwn.never rfl (pi_tup (pv 0)) (pg_tup rfl (pgs_cons (pg_name (i := 3) scCommon.nd rfl (Or.inl rfl)) (pgs_cons (pg_name (i := 4) scCommon.nd rfl (Or.inl rfl)) pgs_nil))) (pss_one (ps_for PassesOwn.never rfl (pi_tup (pv 1)) (pg_tup rfl (pgs_cons (pg_name (i := 5) scCommon.nd rfl (Or.inl rfl)) (pgs_cons (pg_name (i := 6) scCommon.nd rfl (Or.inl rfl)) pgs_nil))) (pss_cons (ps_set (i := 7) scCommon.nd rfl (Or.inl rfl) (pe_callB (call_max2 rfl) (by rfl) T.max (by decide +kernel) (pa_cons (pv 3) (pa_cons (pv 5) pa_nil))))
      (pss_cons (ps_set (i := 8) scCommon.nd rfl (Or.inl rfl) (pe_call GLesser hr rfl hLesser kLesser bLesser .nil pass0 (pa_cons (pv 4) (pa_cons (pv 6) pa_nil))))
      (pss_one (ps_if (PW.pt (pw_or (pt_cmpR op_isN (pv 8) pe_non (nomark _)) (pw_or1 (pt_cmpR op_lt (pv 7) (pv 8) (nomark _))))) (pss_one (ps_expr (pe_bm PySem.F.plainAttrs_list PySem.F.slot_list_append PySem.F.type_list_append mt_append (pv 2) (pa_cons (pe_tup (pa_cons (pv 7) (pa_cons (pv 8) pa_nil))) pa_nil)))) pss_nil)))))))
      (pss_one (ps_ret (pe_callTy call_tuple_of (by rfl) T.tuple (by decide +kernel) (pa_cons (pv 2) pa_nil))))), ?_⟩
    dsimp only [cxOf, Cx.nox]
    refine seqL2 ?_
    intro R2_ R1_
    refine ⟨small (by simp), fun D hD => ?_⟩
    have sD := same_new (o := .lst []) hD
    have D1 := upd_same (H := H) (a := D) (o := .lst [])
    generalize upd H D (.lst []) = H1 at sD D1 ⊢
    refine ⟨_, rfl, t, rfl, ⟨_, SqT.of (sD _ _ et)⟩, for_tupL (K := K) (a := t) (xs := rs.map V.ref) (fun i σ H5 => ∃ (u3 u4 u5 u6 u7 u8 : Option V) (fs : List Addr), σ = [some (.ref t), some (.ref u), some (.ref D), u3, u4, u5, u6, u7, u8] ∧ Same H H5 ∧ H5 D = some (.lst (fs.map V.ref)) ∧ SnsA H5 fs (comF (A.take i) B)) ⟨_, _, _, _, _, _, [], rfl, sD, D1, rfl, fun i r x e => by simp at e⟩ (fun i σ H5 _ ⟨_, _, _, _, _, _, _, _, s, _⟩ => SqT.of (s _ _ et)) ?_ ?_⟩
    · intro i x σ H5 hx hI5_ E_
      refine hideG fun G_ hG_ => ?_
      obtain ⟨u3, u4, u5, u6, u7, u8, fs, rfl, s5, d5, F5⟩ := hI5_
      obtain ⟨r, hr', rfl⟩ := map_some hx
      obtain ⟨x, hx', er⟩ := rws_get hA hr'
      have er5 := s5 _ _ er
      have tkA := take_snoc hx'
      have hi : i < A.length := (List.getElem?_eq_some_iff.mp hx').1
      have cA := com_len (A.take i) B
      refine hG_ ?_
      rw [List.length_take] at cA
      refine ⟨r, _, rfl, SqT.of er5, rfl, _, _, rfl, _, _, rfl, rfl, ?_⟩
      refine ⟨_, rfl, u, rfl, ⟨_, SqT.of (s5 _ _ eu)⟩, for_tup (K := K) (a := u) (xs := qs.map V.ref) (fun j σ H6 => ∃ (u5 u6 u7 u8 : Option V) (fs : List Addr), σ = [some (.ref t), some (.ref u), some (.ref D), some (.int x.1), some (oV x.2), u5, u6, u7, u8] ∧ Same H H6 ∧ H6 D = some (.lst (fs.map V.ref)) ∧ SnsA H6 fs (comF (A.take i) B ++ (B.take j).filterMap (cutF x))) ⟨_, _, _, _, fs, rfl, s5, d5, by rw [List.take_zero, List.filterMap_nil, List.append_nil]; exact F5⟩ (fun j σ H6 _ ⟨_, _, _, _, _, _, s, _⟩ => SqT.of (s _ _ eu)) ?_ ?_⟩
      · intro j y σ H6 hy hI5_
        refine hideG fun G_ hG_ => ?_
        obtain ⟨v5, v6, v7, v8, gs, rfl, s6, d6, F6⟩ := hI5_
        obtain ⟨q, hq', rfl⟩ := map_some hy
        obtain ⟨y, hy', eq⟩ := rws_get hB hq'
        have eq6 := s6 _ _ eq
        have tkB := take_snoc hy'
        have hj : j < B.length := (List.getElem?_eq_some_iff.mp hy').1
        have gl : gs.length ≤ 5000 := by
          rw [F6.1, List.length_append]
          have f1 := List.length_filterMap_le (cutF x) (B.take j)
          rw [List.length_take] at f1
          have m1 : min i A.length * B.length + B.length ≤ A.length * B.length := by
            rw [← Nat.succ_mul]
            exact Nat.mul_le_mul_right _ (by clear AB cA hj f1; omega)
          clear hi; omega
        refine hG_ ?_
        refine ⟨q, _, rfl, SqT.of eq6, rfl, _, _, rfl, _, _, rfl, rfl, ?_⟩
        refine ⟨_, rfl, _, rfl, _, _, rfl, ?_⟩
        refine ⟨_, rfl, _, rfl, x.2, y.2, rfl, ?_⟩
        rw [les_eq]
        rw [tkB, List.filterMap_append, ← List.append_assoc]
        have add : ∀ (s' : Sn), cutF x y = some s' → ∀ (n : Addr), H6 n = none → SnsA (upd (upd H6 n (.tup (snV s'))) D (.lst (gs.map V.ref ++ [.ref n]))) (gs ++ [n]) (comF (A.take i) B ++ (B.take j).filterMap (cutF x) ++ [y].filterMap (cutF x)) ∧ upd H6 n (.tup (snV s')) D = some (.lst (gs.map V.ref)) ∧ Same H (upd (upd H6 n (.tup (snV s'))) D (.lst (gs.map V.ref ++ [.ref n]))) := fun s' hs n hn => by
          have sn := same_new (o := .tup (snV s')) hn
          have dn := sn _ _ d6
          refine ⟨?_, dn, same_set (s6.trans sn) hD⟩
          rw [List.filterMap_cons_some hs, List.filterMap_nil]
          exact rws_mono (rws_snoc (Pp := fun r x => upd H6 n (.tup (snV s')) r = some (.tup (snV x))) (rws_mono F6 fun r x e => sn _ _ e) upd_same) fun r x e => by rw [upd_ne (ne_of e dn (by intro z; cases z))]; exact e
        cases hl : lesO x.2 y.2 with
        | none =>
          have ec : cutF x y = some (if y.1 > x.1 then y.1 else x.1, none) := by unfold cutF; rw [hl]
          refine ⟨_, rfl, rfl, _, rfl, iteT ?_⟩
          refine ⟨_, rfl, .inl ⟨rfl, _, SqL.of d6⟩, _, rfl, _, rfl, small (by simp), fun n hn => ?_⟩
          obtain ⟨g1, g2, g3⟩ := add _ ec n hn
          exact ⟨D, _, _, rfl, rfl, g2, sm5 (by rw [List.length_map]; assumption), _, _, _, _, gs ++ [n], rfl, g3, by rw [upd_same, List.map_append]; rfl, g1⟩
        | some e =>
          refine ⟨_, rfl, rfl, _, rfl, iteF ?_⟩
          refine ⟨_, rfl, _, rfl, _, _, rfl, rfl, _, rfl, ?_⟩
          by_cases g : (if y.1 > x.1 then y.1 else x.1) < e
          · have ec : cutF x y = some (if y.1 > x.1 then y.1 else x.1, some e) := by unfold cutF; rw [hl]; exact if_pos g
            rw [decide_eq_true g]
            refine iteT ⟨_, rfl, .inl ⟨rfl, _, SqL.of d6⟩, _, rfl, _, rfl, small (by simp), fun n hn => ?_⟩
            obtain ⟨g1, g2, g3⟩ := add _ ec n hn
            exact ⟨D, _, _, rfl, rfl, g2, sm5 (by rw [List.length_map]; assumption), _, _, _, _, gs ++ [n], rfl, g3, by rw [upd_same, List.map_append]; rfl, g1⟩
          · have ec : cutF x y = none := by unfold cutF; rw [hl]; exact if_neg g
            rw [decide_eq_false g]
            refine iteF ⟨_, _, _, _, gs, rfl, s6, d6, ?_⟩
            rw [List.filterMap_cons_none ec, List.filterMap_nil, List.append_nil]
            exact F6
      · intro σ H6 hI2_
        refine hideG fun G_ hG_ => ?_
        obtain ⟨v5, v6, v7, v8, gs, rfl, s6, d6, F6⟩ := hI2_
        refine hG_ ?_
        rw [List.length_map, hB.1, List.take_length] at F6
        refine ⟨_, _, _, _, _, _, gs, rfl, s6, d6, ?_⟩
        have : comF (A.take (i + 1)) B = comF (A.take i) B ++ B.filterMap (cutF x) := by
          unfold comF
          rw [tkA, List.flatMap_append]
          simp
        rw [this]; exact F6
    · intro σ H5 hI2_
      refine hideG fun G_ hG_ => ?_
      obtain ⟨u3, u4, u5, u6, u7, u8, fs, rfl, s5, d5, F5⟩ := hI2_
      refine hG_ ?_
      rw [List.length_map, hA.1, List.take_length] at F5
      refine ⟨_, rfl, D, _, rfl, .inl ⟨SqL.of d5, fun r hr' => ?_⟩⟩
      have sr := same_new (o := .tup (fs.map V.ref)) hr'
      exact k r _ (s5.trans sr) ⟨fs, upd_same, rws_mono F5 fun r x e => sr _ _ e⟩
theorem scOther : FnScope ["spans", "others", "begin", "low", "high"] ["spans"] (defScope sOther) := ⟨rfl, rfl, rfl, by decide +kernel, rfl, by decide +kernel, by decide +kernel⟩
theorem ok_Other {f : Addr} {fd : FuncData} (F : Fun K "other_spans" "other_spans" sOther f fd) (T : Txt mg) :
    FnOk P w K mg base CX0 1 f fd ["spans"] spOther := by
  refine F.ok scOther (fun vs H Q E h => ?_) (fun cdv A outer s H vs Q E hr h => ?_)
  · obtain ⟨_, _, rfl, _⟩ := h; rfl
  · obtain ⟨t, L, rfl, ⟨rs, et, hL⟩, hn, L4, k⟩ := h
    refine ⟨_, pss_cons (ps_set (i := 1) scOther.nd rfl (Or.inl rfl) (pe_lst pa_nil))
      (pss_cons (ps_set (i := 2) scOther.nd rfl (Or.inl rfl) pe_int)
      (pss_cons (ps_for PassesOwn.never rfl (pi_tup (pv 0)) (pg_tup rfl (pgs_cons (pg_name (i := 3) scOther.nd rfl (Or.inl rfl)) (pgs_cons (pg_name (i := 4) scOther.nd rfl (Or.inl rfl)) pgs_nil))) (pss_cons (ps_if (pt_cmpR op_lt (pv 2) (pv 3) (nomark _)) (pss_one (ps_expr (pe_bm PySem.F.plainAttrs_list PySem.F.slot_list_append PySem.F.type_list_append mt_append (pv 1) (pa_cons (pe_tup (pa_cons (pv 2) (pa_cons (pv 3) pa_nil))) pa_nil)))) pss_nil)
      (pss_one (ps_set (i := 2) scOther.nd rfl (Or.inl rfl) (pv 4)))))
      (pss_cons (ps_if (pt_cmpR op_notN (pv 2) pe_non (nomark _)) (pss_one (ps_expr (pe_bm PySem.F.plainAttrs_list PySem.F.slot_list_append PySem.F.type_list_append mt_append (pv 1) (pa_cons (pe_tup (pa_cons (pv 2) (pa_cons pe_non pa_nil))) pa_nil)))) pss_nil)
      (pss_one (ps_ret (pe_callTy call_tuple_of (by rfl) T.tuple (by decide +kernel) (pa_cons (pv 1) pa_nil))))))), ?_⟩
    dsimp only [cxOf, Cx.nox]
    refine seqL4 ?_
    intro R4_ R3_ R2_ R1_
    refine ⟨small (by simp), fun D hD => ?_⟩
    have sD := same_new (o := .lst []) hD
    have D1 := upd_same (H := H) (a := D) (o := .lst [])
    generalize upd H D (.lst []) = H1 at sD D1 ⊢
    refine ⟨_, rfl, t, rfl, ⟨_, SqT.of (sD _ _ et)⟩, for_tupL (K := K) (a := t) (xs := rs.map V.ref) (fun i σ H5 => ∃ (u3 u4 : Option V) (fs : List Addr) (O : List Sn) (b : Option Int), σ = [some (.ref t), some (.ref D), some (oV b), u3, u4] ∧ Same H H5 ∧ H5 D = some (.lst (fs.map V.ref)) ∧ SnsA H5 fs O ∧ O.length ≤ i ∧ (∀ e, b = some e → oth 0 L = O ++ oth e (L.drop i) ∧ Norm e (L.drop i)) ∧ (b = none → oth 0 L = O ∧ L.drop i = [])) ⟨_, _, [], [], some 0, rfl, sD, D1, ⟨rfl, fun i r x e => by simp at e⟩, Nat.le_refl _, (fun e he => by cases he; exact ⟨rfl, hn⟩), fun h => by cases h⟩ (fun i σ H5 _ ⟨_, _, _, _, _, _, s, _⟩ => SqT.of (s _ _ et)) ?_ ?_⟩
    · intro i x σ H5 hx hI5_ E_
      refine hideG fun G_ hG_ => ?_
      obtain ⟨u3, u4, fs, O, b, rfl, s5, d5, F5, Ol, h1, h2⟩ := hI5_
      obtain ⟨r, hr', rfl⟩ := map_some hx
      obtain ⟨x, hx', er⟩ := rws_get hL hr'
      have er5 := s5 _ _ er
      have hi : i < L.length := (List.getElem?_eq_some_iff.mp hx').1
      have dr : L.drop i = x :: L.drop (i + 1) := by
        rw [List.drop_eq_getElem_cons hi]
        rw [(List.getElem?_eq_some_iff.mp hx').2]
      refine hG_ ?_
      cases b with
      | none => rw [(h2 rfl).2] at dr; cases dr
      | some e =>
      obtain ⟨o1, o2⟩ := h1 e rfl
      clear h1 h2
      rw [dr] at o1 o2
      have fl : fs.length ≤ 5000 := by rw [F5.1]; omega
      refine ⟨r, _, rfl, SqT.of er5, rfl, _, _, rfl, _, _, rfl, rfl, ?_⟩
      refine ⟨_, rfl, _, rfl, _, _, rfl, rfl, _, rfl, ?_⟩
      have fin : ∀ (fs' : List Addr) (O' : List Sn) (H6 : Hp), Same H H6 → H6 D = some (.lst (fs'.map V.ref)) → SnsA H6 fs' O' → O'.length ≤ i + 1 → O' = (if e < x.1 then O ++ [(e, some x.1)] else O) → ∃ (u3 u4 : Option V) (fs : List Addr) (O : List Sn) (b : Option Int), [some (.ref t), some (.ref D), some (oV x.2), some (.int x.1), some (oV x.2)] = [some (.ref t), some (.ref D), some (oV b), u3, u4] ∧ Same H H6 ∧ H6 D = some (.lst (fs.map V.ref)) ∧ SnsA H6 fs O ∧ O.length ≤ i + 1 ∧ (∀ e, b = some e → oth 0 L = O ++ oth e (L.drop (i + 1)) ∧ Norm e (L.drop (i + 1))) ∧ (b = none → oth 0 L = O ∧ L.drop (i + 1) = []) := fun fs' O' H6 s6 d6 F6 l6 eO => by
        refine ⟨_, _, fs', O', x.2, rfl, s6, d6, F6, l6, fun f hf => ?_, fun hf => ?_⟩
        · obtain ⟨xa, xb⟩ := x
          cases hf
          have ha := o2.2.1
          refine ⟨?_, o2.2.2.mono (by omega)⟩
          rw [o1, eO]
          show O ++ (if e < xa then (e, some xa) :: oth f (L.drop (i + 1)) else oth f (L.drop (i + 1))) = (if e < xa then O ++ [(e, some xa)] else O) ++ oth f (L.drop (i + 1))
          by_cases g : e < xa
          · rw [if_pos g, if_pos g, List.append_assoc]; rfl
          · rw [if_neg g, if_neg g]
        · obtain ⟨xa, xb⟩ := x
          cases hf
          refine ⟨?_, o2.2⟩
          rw [o1, eO]
          show O ++ (if e < xa then [(e, some xa)] else []) = (if e < xa then O ++ [(e, some xa)] else O)
          by_cases g : e < xa
          · rw [if_pos g, if_pos g]
          · rw [if_neg g, if_neg g, List.append_nil]
      by_cases g : e < x.1
      · rw [decide_eq_true g]
        refine iteT ⟨_, rfl, .inl ⟨rfl, _, SqL.of d5⟩, _, rfl, _, rfl, small (by simp), fun n hn' => ?_⟩
        have sn := same_new (o := .tup (snV (e, some x.1))) hn'
        have n6 := upd_same (H := H5) (a := n) (o := .tup (snV (e, some x.1)))
        have d6 := sn _ _ d5
        refine ⟨D, _, _, rfl, rfl, d6, sm5 (by rw [List.length_map]; assumption), ?_⟩
        refine ⟨_, rfl, ?_⟩
        exact fin (fs ++ [n]) (O ++ [(e, some x.1)]) _ (same_set (s5.trans sn) hD) (by rw [upd_same, List.map_append]; rfl) (rws_mono (rws_snoc (Pp := fun r x' => upd H5 n (.tup (snV (e, some x.1))) r = some (.tup (snV x'))) (rws_mono F5 fun r x e => sn _ _ e) n6) fun r x' e' => by rw [upd_ne (ne_of e' d6 (by intro z; cases z))]; exact e') (by rw [List.length_append]; show _ + 1 ≤ _; exact Nat.succ_le_succ (by assumption)) (by rw [if_pos g])
      · rw [decide_eq_false g]
        refine iteF ⟨_, rfl, ?_⟩
        exact fin fs O H5 s5 d5 F5 (by exact Nat.le_succ_of_le (by assumption)) (by rw [if_neg g])
    · intro σ H5 hI2_
      refine hideG fun G_ hG_ => ?_
      obtain ⟨u3, u4, fs, O, b, rfl, s5, d5, F5, Ol, h1, h2⟩ := hI2_
      refine hG_ ?_
      rw [List.length_map, hL.1] at Ol h1 h2
      rw [List.drop_length] at h1 h2
      have fl : fs.length ≤ 5000 := by rw [F5.1]; omega
      cases b with
      | none =>
        refine ⟨_, rfl, rfl, _, rfl, iteF ?_⟩
        dsimp only [tNext]
        refine ⟨_, rfl, D, _, rfl, .inl ⟨SqL.of d5, fun r hr' => ?_⟩⟩
        have sr := same_new (o := .tup (fs.map V.ref)) hr'
        rw [(h2 rfl).1] at k
        exact k r _ (s5.trans sr) ⟨fs, upd_same, rws_mono F5 fun r x e => sr _ _ e⟩
      | some e =>
        refine ⟨_, rfl, rfl, _, rfl, iteT ?_⟩
        refine ⟨_, rfl, .inl ⟨rfl, _, SqL.of d5⟩, _, rfl, small (by simp), fun n hn' => ?_⟩
        have sn := same_new (o := .tup (snV (e, none))) hn'
        have n6 := upd_same (H := H5) (a := n) (o := .tup (snV (e, none)))
        have d6 := sn _ _ d5
        refine ⟨D, _, _, rfl, rfl, d6, sm5 (by rw [List.length_map]; assumption), ?_⟩
        have F7 : SnsA (upd (upd H5 n (.tup (snV (e, none)))) D (.lst (fs.map V.ref ++ [.ref n]))) (fs ++ [n]) (O ++ [(e, none)]) := rws_mono (rws_snoc (Pp := fun r x' => upd H5 n (.tup (snV (e, none))) r = some (.tup (snV x'))) (rws_mono F5 fun r x e => sn _ _ e) n6) fun r x' e' => by rw [upd_ne (ne_of e' d6 (by intro z; cases z))]; exact e'
        have d7 : upd (upd H5 n (.tup (snV (e, none)))) D (.lst (fs.map V.ref ++ [.ref n])) D = some (.lst ((fs ++ [n]).map V.ref)) := by rw [upd_same, List.map_append]; rfl
        have s7 : Same H (upd (upd H5 n (.tup (snV (e, none)))) D (.lst (fs.map V.ref ++ [.ref n]))) := same_set (s5.trans sn) hD
        show TVarP _ _ _ _
        generalize hH7 : upd (upd H5 n (.tup (snV (e, none)))) D (.lst (fs.map V.ref ++ [.ref n])) = H7 at F7 d7 s7
        refine ⟨_, rfl, D, _, rfl, .inl ⟨SqL.of (by rw [← hH7] at d7; exact d7), fun r hr' => ?_⟩⟩
        have hr' : H7 r = none := by rw [← hH7]; exact hr'
        have sr := same_new (o := .tup ((fs ++ [n]).map V.ref)) hr'
        rw [(h1 e rfl).1] at k
        have := k r _ (s7.trans sr) ⟨fs ++ [n], upd_same, rws_mono F7 fun r x e => sr _ _ e⟩
        rw [← hH7] at this
        exact this
theorem scJoint : FnScope ["one", "other"] ["one", "other"] (defScope sJoint) := ⟨rfl, rfl, rfl, by decide +kernel, rfl, by decide +kernel, by decide +kernel⟩
theorem ok_Joint {f : Addr} {fd : FuncData} (F : Fun K "joint_spans" "joint_spans" sJoint f fd) (T : Txt mg)
    {gOther : Addr} {fOther : FuncData} (kOther : PySem.W.keepIn K (.ref gOther) = true) (bOther : Binds K fOther ["spans"] []) (hOther : mg "other_spans" = some (.ref gOther)) (GOther : FnOk P w K mg base CX0 2 gOther fOther ["spans"] spOther)
    {gCommon : Addr} {fCommon : FuncData} (kCommon : PySem.W.keepIn K (.ref gCommon) = true) (bCommon : Binds K fCommon ["one", "other"] []) (hCommon : mg "common_spans" = some (.ref gCommon)) (GCommon : FnOk P w K mg base CX0 2 gCommon fCommon ["one", "other"] spCommon) :
    FnOk P w K mg base CX0 3 f fd ["one", "other"] spJoint := by
  refine F.ok scJoint (fun vs H Q E h => ?_) (fun cdv A outer s H vs Q E hr h => ?_)
  · obtain ⟨_, _, _, _, rfl, _⟩ := h; rfl
  · obtain ⟨t, u, A, B, rfl, hA, hB, nA, nB, lA, lB, k⟩ := h
    refine ⟨_, pss_one (ps_ret (pe_call GOther hr rfl hOther kOther bOther .nil pass0 (pa_cons (pe_call GCommon hr rfl hCommon kCommon bCommon .nil pass0 (pa_cons (pe_call GOther hr rfl hOther kOther bOther .nil pass0 (pa_cons (pv 0) pa_nil)) (pa_cons (pe_call GOther hr rfl hOther kOther bOther .nil pass0 (pa_cons (pv 1) pa_nil)) pa_nil))) pa_nil))), ?_⟩
    try dsimp only [cxOf, Cx.nox]
    have oA := oth_len A 0
    have oB := oth_len B 0
    have cl := com_len (oth 0 A) (oth 0 B)
    have ml : (oth 0 A).length * (oth 0 B).length ≤ 101 * 11 := Nat.mul_le_mul (by omega) (by omega)
    refine ⟨_, rfl, t, A, rfl, hA, nA, by exact Nat.le_trans (by assumption) (by decide), fun r1 H1 s1 h1 => ?_⟩
    refine ⟨_, rfl, u, B, rfl, hB.same s1, nB, by exact Nat.le_trans (by assumption) (by decide), fun r2 H2 s2 h2 => ?_⟩
    refine ⟨r1, r2, oth 0 A, oth 0 B, rfl, h1.same s2, h2, by exact Nat.le_trans (by assumption) (by decide), fun r3 H3 s3 h3 => ?_⟩
    exact ⟨r3, comF (oth 0 A) (oth 0 B), rfl, h3, com_norm (oth_norm nA (Int.le_refl 0)) (oth_norm nB (Int.le_refl 0)), by clear oA oB; omega, fun r4 H4 s4 h4 => k r4 H4 (((s1.trans s2).trans s3).trans s4) h4⟩
theorem scWhere : FnScope ["history", "truths", "spans", "low", "high", "n"] ["history", "truths"] (defScope sWhere) := ⟨rfl, rfl, rfl, by decide +kernel, rfl, by decide +kernel, by decide +kernel⟩
theorem ok_Where {f : Addr} {fd : FuncData} (F : Fun K "spans_where" "spans_where" sWhere f fd) (T : Txt mg)
    {gStretches : Addr} {fStretches : FuncData} (kStretches : PySem.W.keepIn K (.ref gStretches) = true) (bStretches : Binds K fStretches ["history"] []) (hStretches : mg "stretches_of" = some (.ref gStretches)) (GStretches : FnOk P w K mg base CX0 3 gStretches fStretches ["history"] spStretches)
    {gJoint : Addr} {fJoint : FuncData} (kJoint : PySem.W.keepIn K (.ref gJoint) = true) (bJoint : Binds K fJoint ["one", "other"] []) (hJoint : mg "joint_spans" = some (.ref gJoint)) (GJoint : FnOk P w K mg base CX0 3 gJoint fJoint ["one", "other"] spJoint) :
    FnOk P w K mg base CX0 4 f fd ["history", "truths"] spWhere := by
  refine F.ok scWhere (fun vs H Q E h => ?_) (fun cdv A outer s H vs Q E hr h => ?_)
  · obtain ⟨_, _, _, _, _, rfl, _⟩ := h; rfl
  · obtain ⟨h, tr, N, ds, f, rfl, hh, hR, etr, k⟩ := h
    refine ⟨_, pss_cons (ps_set (i := 2) scWhere.nd rfl (Or.inl rfl) (pe_tup pa_nil))
      (pss_cons (ps_for PassesOwn.never rfl (pi_list (pe_call GStretches hr rfl hStretches kStretches bStretches .nil pass0 (pa_cons (pv 0) pa_nil))) (pg_tup rfl (pgs_cons (pg_name (i := 3) scWhere.nd rfl (Or.inl rfl)) (pgs_cons (pg_name (i := 4) scWhere.nd rfl (Or.inl rfl)) (pgs_cons (pg_name (i := 5) scWhere.nd rfl (Or.inl rfl)) pgs_nil)))) (pss_one (ps_if (pt_val (pe_ix ix_list (pv 1) (pv 5) (fun _ _ => rfl))) (pss_one (ps_set (i := 2) scWhere.nd rfl (Or.inl rfl) (pe_call GJoint hr rfl hJoint kJoint bJoint .nil pass0 (pa_cons (pv 2) (pa_cons (pe_tup (pa_cons (pe_tup (pa_cons (pv 3) (pa_cons (pv 4) pa_nil))) pa_nil)) pa_nil))))) pss_nil)))
      (pss_one (ps_ret (pv 2)))), ?_⟩
    dsimp only [cxOf, Cx.nox]
    refine seqL2 ?_
    intro R2_ R1_
    have d60 := hR.len
    have SL := strF_len hR
    have rows := str_rows hR
    refine ⟨small (by simp), fun e he => ?_⟩
    have se := same_new (o := .tup []) he
    have h0 : SpnAt (upd H e (.tup [])) e [] := ⟨[], upd_same, rfl, fun i r x e => by simp at e⟩
    generalize upd H e (.tup []) = H0 at se h0 ⊢
    refine ⟨_, rfl, h, N, ds, rfl, hh.same se, hR, fun l rs H1 s1 el RS => ?_⟩
    refine ⟨l, rfl, ⟨_, SqL.of el⟩, for_list (K := K) (a := l) (xs := rs.map V.ref) (fun i σ H5 => ∃ (sp : Addr) (u3 u4 u5 : Option V), σ = [some (.ref h), some (.ref tr), some (.ref sp), u3, u4, u5] ∧ Same H1 H5 ∧ SpnAt H5 sp (whF f ((strF ds).take i) [])) ⟨e, _, _, _, rfl, same_refl _, h0.same s1⟩ (fun i σ H5 _ ⟨_, _, _, _, _, s, _⟩ => SqL.of (s _ _ el)) ?_ ?_⟩
    · intro i x σ H5 hx hI5_
      refine hideG fun G_ hG_ => ?_
      obtain ⟨sp, u3, u4, u5, rfl, s5, A5⟩ := hI5_
      obtain ⟨r, hr', rfl⟩ := map_some hx
      obtain ⟨y, hy, er⟩ := RS.get hr'
      have er5 := s5 _ _ er
      have tk := take_snoc hy
      have ym := List.mem_of_getElem? hy
      have yr := rows y ym
      have rowsi : ∀ r ∈ (strF ds).take i, 0 ≤ r.1 ∧ ∀ e, r.2.1 = some e → r.1 < e := fun r hr => rows r (List.mem_of_mem_take hr)
      have yn : y.2.2 < ds.length + 1 := by
        have LO := lows_ok ds (fun d hd => (hR.mo d hd).1) hR.up ds.length (Nat.le_refl _)
        rw [List.take_length] at LO
        rw [(str_gap LO.up y ym).1]
        have := cnt_le ds y.1
        exact Nat.succ_le_succ (by assumption)
      refine hG_ ?_
      refine ⟨r, _, rfl, SqT.of er5, rfl, _, _, rfl, _, _, rfl, _, _, rfl, rfl, ?_⟩
      have etr5 := s5 _ _ (s1 _ _ (se _ _ etr))
      refine ⟨_, rfl, _, rfl, tr, _, _, _, rfl, rfl, SqL.of etr5, bl_at yn, _, rfl, ?_⟩
      rw [tk, wh_snoc]
      by_cases g : f y.2.2 = true
      · rw [g]
        refine iteT ?_
        rw [if_pos rfl]
        refine ⟨_, rfl, _, rfl, _, rfl, small (by simp), fun n1 hn1 => ?_⟩
        have sn1 := same_new (o := .tup [.int y.1, oV y.2.1]) hn1
        have n1e : upd H5 n1 (.tup [.int y.1, oV y.2.1]) n1 = some (.tup (snV (y.1, y.2.1))) := upd_same
        generalize upd H5 n1 (.tup [.int y.1, oV y.2.1]) = H6 at sn1 n1e ⊢
        refine ⟨small (by simp), fun n2 hn2 => ?_⟩
        have sn2 := same_new (o := .tup [.ref n1]) hn2
        have B7 : SpnAt (upd H6 n2 (.tup [.ref n1])) n2 [(y.1, y.2.1)] := ⟨[n1], upd_same, rfl, fun i r x e g => by
          match i, e, g with
          | 0, e, g => cases e; cases g; exact sn2 _ _ n1e
          | i + 1, e, _ => simp at e⟩
        generalize upd H6 n2 (.tup [.ref n1]) = H7 at sn2 B7 ⊢
        have nB : Norm 0 [(y.1, y.2.1)] := by
          obtain ⟨ya, yb, yc⟩ := y
          cases yb with
          | none => exact ⟨yr.1, rfl⟩
          | some e => exact ⟨yr.1, yr.2 e rfl, trivial⟩
        have wl := wh_len (tr := f) rowsi
        rw [List.length_take] at wl
        refine ⟨sp, n2, _, _, rfl, A5.same (sn1.trans sn2), B7, (wh_ok f _ [] trivial rowsi).1, nB, by clear yr yn; omega, by simp, fun r' H8 s8 A8 => ?_⟩
        exact ⟨r', _, _, _, rfl, ((s5.trans sn1).trans sn2).trans s8, A8⟩
      · have g : f y.2.2 = false := by simpa using g
        rw [g]
        refine iteF ?_
        rw [if_neg (by decide)]
        exact ⟨sp, _, _, _, rfl, s5, A5⟩
    · intro σ H5 hI2_
      refine hideG fun G_ hG_ => ?_
      obtain ⟨sp, u3, u4, u5, rfl, s5, A5⟩ := hI2_
      refine hG_ ?_
      rw [List.length_map, RS.1, List.take_length] at A5
      exact ⟨_, rfl, k sp H5 ((se.trans s1).trans s5) A5⟩
end
end K68
set_option maxHeartbeats 1000000
namespace K68
open PySem L2 Wk
inductive SpStandBP (vs : List V) (H : Hp) (Q : VK) (u_3 : XK) : Prop
  | mk (h : Addr) (N : Nat) (ds : List Dd) (n : Nat) : (vs = [.ref h, .int (n : Int)]) → (HistAt H h N ds) → (Right N ds) → (n ≤ ds.length) → (∀ st S H', Same H H' → StandAt H' st S → Srtd S (thr (ds.take n)) → Q (.ref st) H') → SpStandBP vs H Q u_3
def spStandB : Sp := fun vs H Q u_3 => SpStandBP vs H Q u_3
theorem rows_stand {H H' : Hp} {qs qs' : List Srt.Row} {S : List T4} {st : Addr} (hat : ∀ q ∈ qs, IsTie q.2 ∧ H q.1 = some (.tup (q.2.map kV))) (hS : (qs.map fun q => tieOf q.2).Perm S) (perm : qs'.Perm qs) (srt : qs'.Pairwise fun a b => Srt.ltR b.2 a.2 = false) (s : Same H H') (hst : H' st = some (.tup (qs'.map Srt.rRef))) :
    StandAt H' st (qs'.map fun q => tieOf q.2) ∧ Srtd (qs'.map fun q => tieOf q.2) S := by
  have hk : ∀ q ∈ qs', keysOf (tieOf q.2) = q.2 := fun q hq => by
    obtain ⟨⟨t, e⟩, _⟩ := hat q (perm.mem_iff.mp hq)
    rw [e, tieOf_keys]
  refine ⟨⟨qs'.map (·.1), ?_, ?_⟩, (perm.map _).trans hS, ?_⟩
  · have : (qs'.map (·.1)).map V.ref = qs'.map Srt.rRef := by rw [List.map_map]; rfl
    rw [this]; exact hst
  · refine ⟨by simp, fun i a t ha ht => ?_⟩
    obtain ⟨q, hq, rfl⟩ := map_some ha
    rw [List.getElem?_map, hq] at ht
    cases ht
    obtain ⟨⟨t, e⟩, h9⟩ := hat q (perm.mem_iff.mp (List.mem_of_getElem? hq))
    show _ = some (HO.tup (tieV (tieOf q.2)))
    rw [e, tieOf_keys, ← keys_tieV, ← e]
    exact s _ _ h9
  · rw [List.pairwise_map]
    refine srt.imp_of_mem fun {a b} ha hb h => ?_
    rw [hk a ha, hk b hb]; exact h
section
variable {P : Program} {w : World} {K : PySem.W.Frag} {mg : Str → Option Value} {base : Heap}
theorem scStandB : FnScope ["history", "n", "there", "deed", "name"] ["history", "n"] (defScope sStandB) := ⟨rfl, rfl, rfl, by decide +kernel, rfl, by decide +kernel, by decide +kernel⟩
theorem ok_StandB {f : Addr} {fd : FuncData} (F : Fun K "stand_behind" "stand_behind" sStandB f fd) (T : Txt mg) :
    FnOk P w K mg base CX0 1 f fd ["history", "n"] spStandB := by
  refine F.ok scStandB (fun vs H Q E h => ?_) (fun cdv A outer s H vs Q E hr h => ?_)
  · obtain ⟨_, _, _, _, rfl, _⟩ := h; rfl
  · obtain ⟨h, N, ds, n, rfl, ⟨tp, rs, eh, et, hdd⟩, hR, hn, k⟩ := h
    refine ⟨_, pss_cons (ps_set (i := 2) scStandB.nd rfl (Or.inl rfl) pe_dnewK)
      (pss_cons (ps_for PassesOwn.never rfl (pi_tup (PE.imp' (t' := tTakeH K 0 1) (pe_slice sl_tupA (pe_ix ix_tup (pv 0) pe_int (fun _ _ => rfl)) po_none (po_some (pv 1))) takeH_ok)) (pg_name (i := 3) scStandB.nd rfl (Or.inl rfl)) (pss_cons (ps_set (i := 4) scStandB.nd rfl (Or.inl rfl) (pe_ix ix_tup (pv 3) pe_int (fun _ _ => rfl)))
      (pss_one (ps_if (pt_cmpR op_eq (pe_ix ix_tup (pv 3) pe_int (fun _ _ => rfl)) pe_str (nomark _)) (pss_one (ps_dput (hu_of hr) (pv 2) (pv 4) (pe_slice sl_tup (pv 3) (po_some pe_int) po_none) rfl)) (pss_one (ps_ddel (pv 2) (pv 4)))))))
      (pss_one (ps_ret (pe_callTy call_tuple_of (by rfl) T.tuple (by decide +kernel) (pa_cons (pe_callB (Srt.call_sortedV rfl) (by rfl) T.sorted (by decide +kernel) (pa_cons (Srt.pe_dvals (pv 2) rfl rfl) pa_nil)) pa_nil))))), ?_⟩
    dsimp only [cxOf, Cx.nox]
    refine seqL2 ?_
    intro R2_ R1_
    refine fun th hth => ?_
    have s1 := same_new (o := .dK []) hth
    have d1 := upd_same (H := H) (a := th) (o := .dK [])
    generalize upd H th (.dK []) = H1 at s1 d1
    have lrs := hdd.1
    refine ⟨h, tp, _, n, rs.map V.ref, rfl, rfl, s1 _ _ eh, s1 _ _ et, by rw [List.length_map]; omega, fun p0 H2 s2 hp0 => ?_⟩
    rw [← List.map_take] at hp0
    have n60 := hR.len
    refine ⟨p0, rfl, ⟨_, SqT.of hp0⟩, for_tupL (K := K) (a := p0) (xs := (rs.take n).map V.ref) (fun i σ H3 => ∃ (x3 x4 : Option V) (ps : Ps), σ = [some (.ref h), some (.int (n : Int)), some (.ref th), x3, x4] ∧ Same H H3 ∧ H3 p0 = some (.tup ((rs.take n).map V.ref)) ∧ ThF H3 th ps ∧ ps.map (·.1) = thr (ds.take i)) ⟨none, none, [], rfl, s1.trans s2, hp0, ⟨s2 _ _ d1, by simp⟩, rfl⟩ (fun i σ H3 _ ⟨_, _, _, _, _, e, _⟩ => SqT.of e) ?_ ?_⟩
    · intro i x σ H3 hx hI5_
      refine hideG fun G_ hG_ => ?_
      obtain ⟨x3, x4, ps, rfl, s3, p3, T3, fs⟩ := hI5_
      obtain ⟨r, er, rfl⟩ := map_some hx
      have li : i < n := by have := (List.getElem?_eq_some_iff.mp er).1; rw [List.length_take] at this; omega
      refine hG_ ?_
      rw [List.getElem?_take_of_lt li] at er
      obtain ⟨dd, ed, r0⟩ := hdd.get er
      have r3 := s3 _ _ r0
      have hok := hR.ok i dd ed
      have tl := thr_len ds i
      have pl : ps.length ≤ 60 := by rw [← List.length_map (f := (·.1)), fs]; omega
      have tok := thr_ok hR i (by omega)
      rw [take_snoc ed, thr_snoc]
      intro E_
      cases dd with
      | come m t =>
        have nf : t.1 ∉ ps.map (·.1.1) := by rw [← ps_names, fs]; exact hok.1
        refine ⟨_, rfl, r, _, 2, _, rfl, rfl, SqT.of r3, atI_nat (j := 2) rfl, ?_⟩
        refine ⟨_, rfl, r, _, 0, _, rfl, rfl, SqT.of r3, atI_nat (j := 0) rfl, rfl, _, rfl, iteT ?_⟩
        refine ⟨_, rfl, _, rfl, r, _, rfl, SqT.of r3, (fun q => absurd (show (2 : Nat) = 0 from q.1) (by decide)), fun p hp => ?_⟩
        have ec : cutV (Dd.come m t).vs (some 2) none = tieV t := rfl
        rw [ec]
        have s4 := same_new (o := .tup (tieV t)) hp
        have p4 := upd_same (H := H3) (a := p) (o := .tup (tieV t))
        generalize upd H3 p (.tup (tieV t)) = H4 at s4 p4
        have d4 := s4 _ _ T3.1
        refine ⟨_, rfl, _, rfl, th, _, rfl, DPut.k (k := Sum.inr t.1) d4 (small1000 (by unfold psK; rw [List.length_map]; exact Nat.le_trans (by assumption) (by decide))), ?_⟩
        rw [psK_put nf]
        refine ⟨_, _, ps ++ [(t, p)], rfl, same_set (s3.trans s4) hth, by rw [upd_ne (ne_of (s4 _ _ p3) d4 (by intro z; cases z))]; exact s4 _ _ p3, ⟨upd_same, fun q hq => ?_⟩, by rw [List.map_append, fs]; rfl⟩
        rcases List.mem_append.mp hq with hq | hq
        · rw [upd_ne (ne_of (s4 _ _ (T3.2 q hq)) d4 (by intro z; cases z))]; exact s4 _ _ (T3.2 q hq)
        · rw [List.mem_singleton.mp hq, upd_ne (ne_of p4 d4 (by intro z; cases z))]; exact p4
      | go m nn =>
        refine ⟨_, rfl, r, _, 2, _, rfl, rfl, SqT.of r3, atI_nat (j := 2) rfl, ?_⟩
        refine ⟨_, rfl, r, _, 0, _, rfl, rfl, SqT.of r3, atI_nat (j := 0) rfl, rfl, _, rfl, iteF ?_⟩
        have hin : (valV (psK ps) (Sum.inr nn)).isSome = true := by
          rw [val_has, decide_eq_true_eq, ← ps_names, fs]; exact hok
        refine ⟨_, rfl, _, rfl, th, _, Sum.inr nn, rfl, T3.1, rfl, hin, ?_⟩
        rw [psK_drop]
        refine ⟨_, _, ps.filter (fun p => decide (p.1.1 ≠ nn)), rfl, same_set s3 hth, by rw [upd_ne (ne_of p3 T3.1 (by intro z; cases z))]; exact p3, ⟨upd_same, fun q hq => ?_⟩, by rw [ps_filt, fs]; rfl⟩
        rw [upd_ne (ne_of (T3.2 q (List.mem_filter.mp hq).1) T3.1 (by intro z; cases z))]; exact T3.2 q (List.mem_filter.mp hq).1
    · intro σ H3 hI2_
      refine hideG fun G_ hG_ => ?_
      obtain ⟨x3, x4, ps, rfl, s3, p3, T3, fs⟩ := hI2_
      have en : ((rs.take n).map V.ref).length = n := by rw [List.length_map, List.length_take]; omega
      refine hG_ ?_
      rw [en] at fs
      have tl := thr_len ds n
      have pl : ps.length ≤ 60 := by rw [← List.length_map (f := (·.1)), fs]; omega
      refine ⟨_, rfl, th, _, rfl, T3.1, fun v hv => ?_⟩
      have s4 := same_new (o := .frz (Srt.viewO th) (.own 0)) hv
      have v4 := upd_same (H := H3) (a := v) (o := .frz (Srt.viewO th) (.own 0))
      generalize upd H3 v (.frz (Srt.viewO th) (.own 0)) = H4 at s4 v4
      have hat : ∀ q ∈ ps.map (fun p => ((p.2, keysOf p.1) : Srt.Row)), IsTie q.2 ∧ H4 q.1 = some (.tup (q.2.map kV)) := fun q hq => by
        obtain ⟨p, hp, rfl⟩ := List.mem_map.mp hq
        exact ⟨⟨_, rfl⟩, s4 _ _ (T3.2 p hp)⟩
      refine ⟨v, th, psK ps, ps.map (fun p => ((p.2, keysOf p.1) : Srt.Row)), rfl, v4, s4 _ _ T3.1, ?_, ⟨fun q hq => SqT.of (hat q hq).2, fun q hq q' hq' => ?_, fun q hq => ?_, by rw [List.length_map]; exact Nat.lt_of_le_of_lt (by assumption) (by decide)⟩, fun l ps' hl pp pw => ?_⟩
      · unfold psK
        rw [List.map_map, List.map_map]
        rfl
      · obtain ⟨⟨t, e⟩, _⟩ := hat q hq
        obtain ⟨⟨t', e'⟩, _⟩ := hat q' hq'
        rw [e, e']; rfl
      · obtain ⟨⟨t, e⟩, _⟩ := hat q hq
        rw [e]; simp [keysOf]
      have sl := same_new (o := .lst (ps'.map Srt.rRef)) hl
      have l5 := upd_same (H := H4) (a := l) (o := .lst (ps'.map Srt.rRef))
      generalize upd H4 l (.lst (ps'.map Srt.rRef)) = H5 at sl l5
      refine ⟨l, _, rfl, .inl ⟨SqL.of l5, fun st hst => ?_⟩⟩
      have ss := same_new (o := .tup (ps'.map Srt.rRef)) hst
      have hS : ((ps.map (fun p => ((p.2, keysOf p.1) : Srt.Row))).map fun q => tieOf q.2).Perm (thr (ds.take n)) := by
        rw [List.map_map, ← fs]
        refine List.Perm.of_eq (List.map_congr_left fun p _ => tieOf_keys p.1)
      obtain ⟨x1, x2⟩ := rows_stand hat hS pp pw (sl.trans ss) upd_same
      exact k st _ _ (((s3.trans s4).trans sl).trans ss) x1 x2
end
end K68
set_option maxHeartbeats 1000000
namespace Srt
open PySem PySem.W PyProof.Rows L2
end Srt
set_option maxHeartbeats 1000000
namespace Wk
open PySem L2
theorem reach_mem {S S' : List T4} (h : ∀ u, u ∈ S ↔ u ∈ S') {a b : Nat} : Reach S a b ↔ Reach S' a b := ⟨fun r => r.mono fun t => (h t).mp, fun r => r.mono fun t => (h t).mpr⟩
end Wk
set_option maxHeartbeats 1000000
namespace K68
open PySem L2 Wk
def jnF (N : Nat) (ds : List Dd) (p q n : Nat) : Bool := decide (q ∈ partF N (thr (ds.take n)) p)
theorem thr_inN {N : Nat} {ds : List Dd} (h : Right N ds) {i : Nat} (hi : i ≤ ds.length) : InN N (thr (ds.take i)) := fun t ht => let x := (thr_ok h i hi).ok t ht; ⟨x.1, x.2.1⟩
theorem jn_iff {N : Nat} {ds : List Dd} (h : Right N ds) (hN : N ≤ 60) {p q i : Nat} (hi : i ≤ ds.length) (hp : p < N) : jnF N ds p q i = true ↔ q < N ∧ Reach (thr (ds.take i)) p q := by
  unfold jnF
  rw [decide_eq_true_eq, mem_part (thr_inN h hi) hp hN]
theorem srtd_inN {N : Nat} {S T : List T4} (s : Srtd S T) (h : InN N T) : InN N S := fun t ht => h t (s.1.mem_iff.mp ht)
theorem jn_srtd {N : Nat} {ds : List Dd} (h : Right N ds) (hN : N ≤ 60) {p q i : Nat} (hi : i ≤ ds.length) (hp : p < N) {S : List T4} (s : Srtd S (thr (ds.take i))) : decide (q ∈ partF N S p) = jnF N ds p q i := by
  rw [Bool.eq_iff_iff, jn_iff h hN hi hp, decide_eq_true_eq, mem_part (srtd_inN s (thr_inN h hi)) hp hN, reach_mem fun u => s.1.mem_iff]
inductive SpJoinedSP (vs : List V) (H : Hp) (Q : VK) (u_3 : XK) : Prop
  | mk (h : Addr) (N : Nat) (ds : List Dd) (p q : Nat) : (vs = [.ref h, .int (p : Int), .int (q : Int)]) → (HistAt H h N ds) → (Right N ds) → (N ≤ 60) → (p < N) → (∀ (r : Addr) (H' : Hp), Same H H' → SpnAt H' r (whF (jnF N ds p q) (strF ds) []) → Q (.ref r) H') → SpJoinedSP vs H Q u_3
def spJoinedS : Sp := fun vs H Q u_3 => SpJoinedSP vs H Q u_3
section
variable {P : Program} {w : World} {K : PySem.W.Frag} {mg : Str → Option Value} {base : Heap}
theorem scJoinedS : FnScope ["history", "one", "other", "many", "deeds", "truths"] ["history", "one", "other"] (defScope sJoinedS) := ⟨rfl, rfl, rfl, by decide +kernel, rfl, by decide +kernel, by decide +kernel⟩
theorem ok_JoinedS {f : Addr} {fd : FuncData} (F : Fun K "joined_spans" "joined_spans" sJoinedS f fd) (T : Txt mg)
    {gJoined : Addr} {fJoined : FuncData} (kJoined : PySem.W.keepIn K (.ref gJoined) = true) (bJoined : Binds K fJoined ["many", "stand", "one", "other"] []) (hJoined : mg "are_joined" = some (.ref gJoined)) (GJoined : FnOk P w K mg base CX0 4 gJoined fJoined ["many", "stand", "one", "other"] spJoined)
    {gStandB : Addr} {fStandB : FuncData} (kStandB : PySem.W.keepIn K (.ref gStandB) = true) (bStandB : Binds K fStandB ["history", "n"] []) (hStandB : mg "stand_behind" = some (.ref gStandB)) (GStandB : FnOk P w K mg base CX0 4 gStandB fStandB ["history", "n"] spStandB)
    {gWhere : Addr} {fWhere : FuncData} (kWhere : PySem.W.keepIn K (.ref gWhere) = true) (bWhere : Binds K fWhere ["history", "truths"] []) (hWhere : mg "spans_where" = some (.ref gWhere)) (GWhere : FnOk P w K mg base CX0 4 gWhere fWhere ["history", "truths"] spWhere) :
    FnOk P w K mg base CX0 5 f fd ["history", "one", "other"] spJoinedS := by
  refine F.ok scJoinedS (fun vs H Q E h => ?_) (fun cdv A outer s H vs Q E hr h => ?_)
  · obtain ⟨_, _, _, _, _, rfl, _⟩ := h; rfl
  · obtain ⟨h, N, ds, p, q, rfl, hh, hR, N60, pN, k⟩ := h
    refine ⟨_, pss_cons (ps_asg (pv 0) (pg_tup rfl (pgs_cons (pg_name (i := 3) scJoinedS.nd rfl (Or.inr rfl)) (pgs_cons (pg_name (i := 4) scJoinedS.nd rfl (Or.inl rfl)) pgs_nil))))
      (pss_cons (ps_comp (i := 5) (T := ["n"]) (F := ["many", "one", "other", "history"]) (js := [3, 1, 2, 0]) scJoinedS.nd rfl (Or.inl rfl) (CS.to (osc := defScope sJoinedS) ⟨by rfl, by decide +kernel, by decide +kernel, by decide +kernel, by decide +kernel, by decide +kernel, by decide +kernel⟩ rfl rfl) rfl (pi_range1 rfl T.range (pa_cons (pe_op op_add (pe_callB call_len_seq (by rfl) T.len PySem.boot_len (pa_cons (pv 4) pa_nil)) pe_int) pa_nil)) (fun _ _ _ _ _ => pg_name (i := 0) (show (["n", "many", "one", "other", "history"] : List Str).Nodup by decide +kernel) rfl (Or.inl rfl)) (fun _ _ _ _ _ => pif_nil) (fun _ _ _ _ _ => pe_call GJoined hr rfl hJoined kJoined bJoined .nil pass0 (pa_cons (pv 1) (pa_cons (pe_call GStandB hr rfl hStandB kStandB bStandB .nil pass0 (pa_cons (pv 4) (pa_cons (pv 0) pa_nil))) (pa_cons (pv 2) (pa_cons (pv 3) pa_nil))))))
      (pss_one (ps_ret (pe_call GWhere hr rfl hWhere kWhere bWhere .nil pass0 (pa_cons (pv 0) (pa_cons (pv 5) pa_nil)))))), ?_⟩
    dsimp only [cxOf, Cx.nox]
    refine seqL2 ?_
    intro R2_ R1_
    obtain ⟨tp, rs, eh, et, hdd⟩ := id hh
    have d60 := hR.len
    have lrs : rs.length = ds.length := hdd.1
    refine ⟨_, rfl, h, _, rfl, SqT.of eh, rfl, _, _, rfl, _, _, rfl, rfl, ?_⟩
    refine ⟨_, rfl, tp, _, rfl, .inr (SqT.of et), _, _, rfl, rfl, _, rfl, by omega, by rw [List.length_map]; omega, fun D hD => comp_rangeL (lo := 0) (n := (((rs.map V.ref).length : Int) + 1).toNat) (fun j σ ys H2 => ∃ (u : Option V), σ = [u, some (.int (N : Int)), some (.int (p : Int)), some (.int (q : Int)), some (.ref h)] ∧ ys = ((List.range j).map fun n => V.bl (jnF N ds p q n)) ∧ Same H H2 ∧ H2 D = some (.lst ys)) ⟨none, rfl, rfl, same_new hD, upd_same⟩ (fun j σ ys H2 _ ⟨_, _, _, _, e⟩ => e) ?_ ?_⟩
    · intro j σ ys H2 hj hI5_ E_
      refine hideG fun G_ hG_ => ?_
      obtain ⟨u, rfl, rfl, s2, e2⟩ := hI5_
      have hj : j ≤ ds.length := by rw [List.length_map] at hj; omega
      refine hG_ ?_
      rw [Int.zero_add]
      refine ⟨_, rfl, _, rfl, _, rfl, h, N, ds, j, rfl, hh.same s2, hR, hj, fun st S H3 s3 hs so => ?_⟩
      have tl := thr_len ds j
      have sl : S.length = (thr (ds.take j)).length := so.1.length_eq
      refine ⟨_, rfl, _, rfl, N, st, S, p, q, rfl, hs, srtd_inN so (thr_inN hR hj), N60, by omega, pN, fun H4 s4 => ?_⟩
      rw [jn_srtd hR N60 hj pN so]
      have S4 := (s2.trans s3).trans s4
      refine ⟨s4 _ _ (s3 _ _ e2), small1000 (by rw [List.length_map, List.length_range]; omega), _, rfl, ?_, same_set S4 hD, ?_⟩
      · rw [List.range_succ, List.map_append]; rfl
      · exact upd_same
    · intro σ ys H2 hI3_
      refine hideG fun G_ hG_ => ?_
      obtain ⟨u, rfl, rfl, s2, e2⟩ := hI3_
      refine hG_ ?_
      rw [List.length_map, lrs, show ((ds.length : Int) + 1).toNat = ds.length + 1 by omega] at e2
      exact ⟨_, rfl, _, rfl, h, D, N, ds, jnF N ds p q, rfl, hh.same s2, hR, e2, fun r H3 s3 hS => k r H3 (s2.trans s3) hS⟩
end
end K68
set_option maxHeartbeats 1000000
namespace Wk
open PySem L2
end Wk
set_option maxHeartbeats 1000000
namespace L2
open PySem PySem.Spec PyProof.Rows
end L2
namespace Wk
open PySem L2
end Wk
set_option maxHeartbeats 1000000
namespace HT
open PySem PyProof.Rows
end HT
namespace L2
open PySem PySem.Spec PyProof.Rows
end L2
namespace Wk
open PySem L2
end Wk
set_option maxHeartbeats 1000000
namespace PySem
open PySem.Spec PyProof.Rows
end PySem
namespace L2
open PySem PySem.Spec PyProof.Rows
end L2
set_option maxHeartbeats 1000000
namespace Wk
open PySem L2
end Wk
set_option maxHeartbeats 1000000
namespace Wk
open PySem L2
end Wk
set_option maxHeartbeats 1000000
namespace Wk
open PySem L2
end Wk
set_option maxHeartbeats 1000000
namespace Wk
open PySem L2
theorem closed_reach {S : List T4} {M : Nat → Prop} (h : ∀ t ∈ S, (M t.2.1 → M t.2.2.1) ∧ (M t.2.2.1 → M t.2.1)) {a b : Nat} (r : Reach S a b) (ha : M a) : M b := by
  obtain ⟨ws, l⟩ := r
  induction l with
  | nil => exact ha
  | @snoc ws b c n _ q ih =>
    obtain ⟨t, ht, _, ⟨e1, e2⟩ | ⟨e1, e2⟩⟩ := nb_elim q
    · rw [← e2]; exact (h t ht).1 (e1 ▸ ih)
    · rw [← e2]; exact (h t ht).2 (e1 ▸ ih)
end Wk
set_option maxHeartbeats 1000000
namespace K68
open PySem L2 Wk
structure PSt (N : Nat) (ps : List Nat) : Prop where
  nd : ps.Nodup
  lt : ∀ v ∈ ps, v < N
theorem PSt.len {N : Nat} {ps : List Nat} (h : PSt N ps) : ps.length ≤ N := by
  have := nodup_le ps (List.range N) h.nd fun v hv => List.mem_range.mpr (h.lt v hv)
  rwa [List.length_range] at this
def ClAt (S : List T4) (ps : List Nat) (v : Nat) : Prop := ∀ t ∈ S, (v = t.2.1 → t.2.2.1 ∈ ps) ∧ (v = t.2.2.1 → t.2.1 ∈ ps)
theorem inV_nat (q : Nat) (ps : List Nat) : inV (.int (q : Int)) ((ps.map Int.ofNat).map V.int) = decide (q ∈ ps) := by
  rw [inV_ints, Bool.eq_iff_iff, decide_eq_true_eq, decide_eq_true_eq, List.mem_map]
  constructor
  · rintro ⟨x, hx, e⟩
    have : x = q := by have : (x : Int) = q := e; omega
    rw [← this]; exact hx
  · intro h; exact ⟨q, h, rfl⟩
def LstAt (H : Hp) (l : Addr) (S : List T4) : Prop := ∃ rs : List Addr, H l = some (.lst (rs.map V.ref)) ∧ TiesAt H rs S
theorem LstAt.same {H H' : Hp} {st : Addr} {S : List T4} (h : LstAt H st S) (s : Same H H') : LstAt H' st S := let ⟨rs, a, b⟩ := h; ⟨rs, s _ _ a, b.same s⟩
theorem tie_reach {S : List T4} {t : T4} (h : t ∈ S) : Reach S t.2.1 t.2.2.1 := Reach.step (n := t.1) (List.mem_flatMap.mpr ⟨t, h, by unfold nbT; simp⟩)
inductive SpLPartP (vs : List V) (H : Hp) (Q : VK) (u_3 : XK) : Prop
  | mk (N : Nat) (st : Addr) (S : List T4) (p : Nat) : (vs = [.ref st, .int (p : Int)]) → (LstAt H st S) → (InN N S) → (p < N) → (N ≤ 60) → (∀ (l : Addr) (ps : List Nat) (H' : Hp), Same H H' → H' l = some (.lst ((ps.map Int.ofNat).map V.int)) → (∀ v, v ∈ ps ↔ Reach S p v) → Q (.ref l) H') → SpLPartP vs H Q u_3
def spLPart : Sp := fun vs H Q u_3 => SpLPartP vs H Q u_3
theorem part_reach {S : List T4} {p : Nat} {ps : List Nat} (hp : p ∈ ps) (hc : ∀ v ∈ ps, ClAt S ps v) (hr : ∀ v ∈ ps, Reach S p v) (v : Nat) : v ∈ ps ↔ Reach S p v :=
  ⟨hr v, fun r => closed_reach (M := fun x => x ∈ ps) (fun t ht => ⟨fun h => (hc _ h t ht).1 rfl, fun h => (hc _ h t ht).2 rfl⟩) r hp⟩
section
variable {P : Program} {w : World} {K : PySem.W.Frag} {mg : Str → Option Value} {base : Heap}
theorem scLPart : FnScope ["_law_ties", "_law_place", "_law_found", "_law_at", "_law_name", "_law_one", "_law_other", "_law_weight_here", "_law_start", "_law_end"] ["_law_ties", "_law_place"] (defScope sLPart) := ⟨rfl, rfl, rfl, by decide +kernel, rfl, by decide +kernel, by decide +kernel⟩
theorem ok_LPart {f : Addr} {fd : FuncData} (F : Fun K "_law_part" "_law_part" sLPart f fd) (T : Txt mg) :
    FnOk P w K mg base CX0 1 f fd ["_law_ties", "_law_place"] spLPart := by
  refine F.ok scLPart (fun vs H Q E h => ?_) (fun cdv A outer s H vs Q E hr h => ?_)
  · obtain ⟨_, _, _, _, rfl, _⟩ := h; rfl
  · obtain ⟨N, st, S, p, rfl, ⟨rs, hst, hrs⟩, SN, pN, N60, k⟩ := h
    refine ⟨_, pss_cons (ps_set (i := 2) scLPart.nd rfl (Or.inl rfl) (pe_lst (pa_cons (pv 1) pa_nil)))
      (pss_cons (ps_set (i := 3) scLPart.nd rfl (Or.inl rfl) pe_int)
      (pss_cons (ps_while PassesOwn.never (pt_cmpR op_lt (pv 3) (pe_callB call_len_seq (by rfl) T.len PySem.boot_len (pa_cons (pv 2) pa_nil)) (nomark _)) (pss_cons (ps_for PassesOwn.never rfl (pi_list (pv 0)) (pg_tup rfl (pgs_cons (pg_name (i := 4) scLPart.nd rfl (Or.inl rfl)) (pgs_cons (pg_name (i := 5) scLPart.nd rfl (Or.inl rfl)) (pgs_cons (pg_name (i := 6) scLPart.nd rfl (Or.inl rfl)) (pgs_cons (pg_name (i := 7) scLPart.nd rfl (Or.inl rfl)) pgs_nil))))) (pss_one (ps_for PassesOwn.never rfl (pi_list (pe_lst (pa_cons (pe_tup (pa_cons (pv 5) (pa_cons (pv 6) pa_nil))) (pa_cons (pe_tup (pa_cons (pv 6) (pa_cons (pv 5) pa_nil))) pa_nil)))) (pg_tup rfl (pgs_cons (pg_name (i := 8) scLPart.nd rfl (Or.inl rfl)) (pgs_cons (pg_name (i := 9) scLPart.nd rfl (Or.inl rfl)) pgs_nil))) (pss_one (ps_if (PW.pt (pw_and (pt_cmpR op_eq (pv 8) (pe_ix ix_list (pv 2) (pv 3) (fun _ _ => rfl)) (nomark _)) (pw_and1 (pt_cmpR op_notIn_seq (pv 9) (pv 2) (by rfl))))) (pss_one (ps_expr (pe_bm PySem.F.plainAttrs_list PySem.F.slot_list_append PySem.F.type_list_append mt_append (pv 2) (pa_cons (pv 9) pa_nil)))) pss_nil)))))
      (pss_one (ps_set (i := 3) scLPart.nd rfl (Or.inl rfl) (pe_op op_add (pv 3) pe_int)))))
      (pss_one (ps_ret (pv 2))))), ?_⟩
    dsimp only [cxOf, Cx.nox]
    refine seqL3 ?_
    intro R3_ R2_ R1_
    refine ⟨_, rfl, small (by simp), fun l hl => ?_⟩
    have s1 := same_new (o := .lst [.int (p : Int)]) hl
    have l1 := upd_same (H := H) (a := l) (o := .lst [.int (p : Int)])
    generalize upd H l (.lst [.int (p : Int)]) = H1 at s1 l1
    dsimp only [gName, tSeq]
    refine while_ghL (fun m σ H5 => ∃ (u4 u5 u6 u7 u8 u9 : Option V) (ps : List Nat) (at0 : Nat), σ = [some (.ref st), some (.int (p : Int)), some (.ref l), some (.int (at0 : Int)), u4, u5, u6, u7, u8, u9] ∧ Same H H5 ∧ H5 l = some (.lst ((ps.map Int.ofNat).map V.int)) ∧ PSt N ps ∧ p ∈ ps ∧ (∀ v ∈ ps, Reach S p v) ∧ at0 ≤ ps.length ∧ (∀ (i v : Nat), i < at0 → ps[i]? = some v → ClAt S ps v) ∧ m = N - at0) (m0 := N) ⟨_, _, _, _, _, _, [p], 0, rfl, s1, l1, ⟨by simp, fun v hv => by rw [List.mem_singleton.mp hv]; exact pN⟩, List.mem_singleton.mpr rfl, (fun v hv => by rw [List.mem_singleton.mp hv]; exact .refl), Nat.zero_le _, fun i v h => absurd h (by omega), rfl⟩ ?_ ?_
    rotate_left
    · intro σ H Q Q' f hI5_
      refine hideG fun G_ hG_ => ?_
      obtain ⟨v3, e3, v2, e2, l, xs, el, hl, i, j, ei, ej, b, eb, q⟩ := hI5_
      refine hG_ ?_
      exact ⟨v3, e3, v2, e2, l, xs, el, hl, i, j, ei, ej, b, eb, f _ _ q⟩
    intro m σ H5 hI3_ E_
    refine hideG fun G_ hG_ => ?_
    obtain ⟨u4, u5, u6, u7, u8, u9, ps, at0, rfl, s5, l5, P5, pp5, R5, a5, c5, hm⟩ := hI3_
    refine hG_ ?_
    refine ⟨_, rfl, _, rfl, l, _, rfl, .inl (SqL.of l5), _, _, rfl, rfl, _, rfl, ?_⟩
    rw [List.length_map, List.length_map]
    refine ite2 (fun g => ?_) fun g => ?_
    rotate_left
    · have g : ¬ ((at0 : Int) < (ps.length : Int)) := fun h => g (decide_eq_true h)
      refine ⟨_, rfl, k l ps H5 s5 l5 (part_reach pp5 (fun v hv => ?_) R5)⟩
      obtain ⟨i, hi, e⟩ := List.mem_iff_getElem.mp hv
      exact c5 i v (by clear pN hm; omega) (by rw [getq hi, e])
    have g : at0 < ps.length := by have := of_decide_eq_true g; omega
    have hv0 := getq g
    generalize ps[at0] = v at hv0
    have rv : Reach S p v := R5 v (List.mem_of_getElem? hv0)
    have st5 := s5 _ _ hst
    refine ⟨_, rfl, st, rfl, ⟨_, SqL.of st5⟩, for_listL (K := K) (a := st) (xs := rs.map V.ref) (fun i σ H6 => ∃ (u4 u5 u6 u7 u8 u9 : Option V) (qs : List Nat), σ = [some (.ref st), some (.int (p : Int)), some (.ref l), some (.int (at0 : Int)), u4, u5, u6, u7, u8, u9] ∧ Same H H6 ∧ H6 l = some (.lst ((qs.map Int.ofNat).map V.int)) ∧ PSt N qs ∧ (∀ v ∈ qs, Reach S p v) ∧ (∃ r, qs = ps ++ r) ∧ ClAt (S.take i) qs v) ⟨_, _, _, _, _, _, ps, rfl, s5, l5, P5, R5, ⟨[], by simp⟩, fun t ht => by simp at ht⟩ (fun i σ H6 _ ⟨_, _, _, _, _, _, _, _, s6, _⟩ => SqL.of (s6 _ _ hst)) ?_ ?_⟩
    · intro i x σ H6 hx hI5_ E_
      refine hideG fun G_ hG_ => ?_
      obtain ⟨u4, u5, u6, u7, u8, u9, qs, rfl, s6, l6, P6, R6, ⟨r6, e6⟩, c6⟩ := hI5_
      obtain ⟨r, hr', rfl⟩ := map_some hx
      obtain ⟨t, ht, er⟩ := hrs.get hr'
      have er6 := s6 _ _ er
      have tm := List.mem_of_getElem? ht
      have tN := SN t tm
      have tr := tie_reach tm
      have tk : S.take (i + 1) = S.take i ++ [t] := by rw [List.take_add_one, ht]; rfl
      have cnext : ∀ ws : List Nat, (∀ x ∈ qs, x ∈ ws) → (v = t.2.1 → t.2.2.1 ∈ ws) → (v = t.2.2.1 → t.2.1 ∈ ws) → ClAt (S.take (i + 1)) ws v := fun ws hs h1 h2 t' ht' => by
        rw [tk] at ht'
        rcases List.mem_append.mp ht' with h | h
        · exact ⟨fun e => hs _ ((c6 t' h).1 e), fun e => hs _ ((c6 t' h).2 e)⟩
        · rw [List.mem_singleton.mp h]; exact ⟨h1, h2⟩
      refine hG_ ?_
      refine ⟨r, _, rfl, SqT.of er6, rfl, _, _, rfl, _, _, rfl, _, _, rfl, _, _, rfl, rfl, ?_⟩
      refine ⟨_, rfl, _, rfl, small (by simp), fun c1 h1 => ?_⟩
      have s7 := same_new (o := .tup [.int (t.2.1 : Int), .int (t.2.2.1 : Int)]) h1
      have c7 := upd_same (H := H6) (a := c1) (o := .tup [.int (t.2.1 : Int), .int (t.2.2.1 : Int)])
      generalize upd H6 c1 (.tup [.int (t.2.1 : Int), .int (t.2.2.1 : Int)]) = H7 at s7 c7
      refine ⟨_, rfl, _, rfl, small (by simp), fun c2 h2 => ?_⟩
      have s8 := same_new (o := .tup [.int (t.2.2.1 : Int), .int (t.2.1 : Int)]) h2
      have d8 := upd_same (H := H7) (a := c2) (o := .tup [.int (t.2.2.1 : Int), .int (t.2.1 : Int)])
      have c8 := s8 _ _ c7
      generalize upd H7 c2 (.tup [.int (t.2.2.1 : Int), .int (t.2.1 : Int)]) = H8 at s8 c8 d8
      refine ⟨small (by simp), fun c3 h3 => ?_⟩
      have s9 := same_new (o := .lst [.ref c1, .ref c2]) h3
      have e9 := upd_same (H := H8) (a := c3) (o := .lst [.ref c1, .ref c2])
      have c9 := s9 _ _ c8
      have d9 := s9 _ _ d8
      generalize upd H8 c3 (.lst [.ref c1, .ref c2]) = H9 at s9 e9 c9 d9
      have S9 : Same H6 H9 := (s7.trans s8).trans s9
      have l9 := S9 _ _ l6
      have l3 : l ≠ c3 := ne_of_none (s8 _ _ (s7 _ _ l6)) h3
      have nc1 : c1 ≠ l := fun e => by rw [e] at c9; rw [l9] at c9; cases c9
      have nc2 : c2 ≠ l := fun e => by rw [e] at d9; rw [l9] at d9; cases d9
      have T9 := s6.trans S9
      clear s7 c7 s8 c8 d8 s9 S9 h1 h2 h3 l6
      have rows : ∀ (m : Nat) x, ([.ref c1, .ref c2] : List V)[m]? = some x → ∃ (c : Addr) (y z : Nat), x = .ref c ∧ c ≠ l ∧ H9 c = some (.tup [.int (y : Int), .int (z : Int)]) ∧ z < N ∧ Reach S y z ∧ ((m = 0 ∧ y = t.2.1 ∧ z = t.2.2.1) ∨ (m = 1 ∧ y = t.2.2.1 ∧ z = t.2.1)) := fun m x hx => by
        match m, hx with
        | 0, hx => cases hx; exact ⟨c1, _, _, rfl, nc1, c9, tN.2, tr, .inl ⟨rfl, rfl, rfl⟩⟩
        | 1, hx => cases hx; exact ⟨c2, _, _, rfl, nc2, d9, tN.1, tr.symm, .inr ⟨rfl, rfl, rfl⟩⟩
        | m + 2, hx => simp at hx
      refine ⟨c3, rfl, ⟨_, SqL.of e9⟩, for_listL (K := K) (a := c3) (xs := [.ref c1, .ref c2]) (fun m σ HA => ∃ (u8 u9 : Option V) (ws : List Nat), σ = [some (.ref st), some (.int (p : Int)), some (.ref l), some (.int (at0 : Int)), some (.str t.1), some (.int (t.2.1 : Int)), some (.int (t.2.2.1 : Int)), some (.int t.2.2.2), u8, u9] ∧ (∀ b o, b ≠ l → H9 b = some o → HA b = some o) ∧ Same H HA ∧ HA l = some (.lst ((ws.map Int.ofNat).map V.int)) ∧ PSt N ws ∧ (∀ v ∈ ws, Reach S p v) ∧ (∃ r, ws = qs ++ r) ∧ (1 ≤ m → v = t.2.1 → t.2.2.1 ∈ ws) ∧ (2 ≤ m → v = t.2.2.1 → t.2.1 ∈ ws)) ⟨_, _, qs, rfl, (fun b o _ e => e), T9, l9, P6, R6, ⟨[], by simp⟩, (fun h => absurd h (by decide)), (fun h => absurd h (by decide))⟩ (fun m σ HA _ ⟨_, _, _, _, f, _⟩ => SqL.of (f _ _ l3.symm e9)) ?_ ?_⟩
      · intro m x σ HA hx hI5_ E_
        refine hideG fun G_ hG_ => ?_
        obtain ⟨u8, u9, ws, rfl, fA, sA, lA, PA, RA, ⟨rA, eA⟩, m1, m2⟩ := hI5_
        obtain ⟨c, y, z, rfl, ncl, ec, zN, yz, cs⟩ := rows m x hx
        have ec := fA _ _ ncl ec
        have hvq : ws[at0]? = some v := by rw [eA, e6, List.append_assoc, List.getElem?_append_left g]; exact hv0
        have av : atI ((ws.map Int.ofNat).map V.int) (at0 : Int) = some (.int (v : Int)) := atI_nat (by rw [List.getElem?_map, List.getElem?_map, hvq]; rfl)
        have wl := PA.len
        have fin : ∀ ws' : List Nat, (∀ x ∈ ws, x ∈ ws') → (v = y → z ∈ ws') → (1 ≤ m + 1 → v = t.2.1 → t.2.2.1 ∈ ws') ∧ (2 ≤ m + 1 → v = t.2.2.1 → t.2.1 ∈ ws') := fun ws' hs hz => by
          rcases cs with ⟨rfl, rfl, rfl⟩ | ⟨rfl, rfl, rfl⟩
          · exact ⟨fun _ => hz, fun h => absurd h (by decide)⟩
          · exact ⟨fun _ e => hs _ (m1 (by decide) e), fun _ => hz⟩
        refine hG_ ?_
        refine ⟨c, _, rfl, SqT.of ec, rfl, _, _, rfl, _, _, rfl, rfl, ?_⟩
        refine ⟨_, rfl, _, rfl, _, rfl, l, _, _, _, rfl, rfl, SqL.of lA, av, rfl, _, rfl, ?_⟩
        by_cases gv : v = y
        rotate_left
        · rw [decide_eq_false (fun e => gv (by injection e with e; clear pN hm tN zN wl; omega))]
          obtain ⟨f1, f2⟩ := fin ws (fun x h => h) fun e => absurd e gv
          exact iteF (iteF ⟨_, _, ws, rfl, fA, sA, lA, PA, RA, ⟨rA, eA⟩, f1, f2⟩)
        rw [decide_eq_true (by rw [gv])]
        refine iteT ?_
        refine ⟨_, rfl, _, rfl, l, _, rfl, .inl (SqL.of lA), rfl, flat_ints _, _, rfl, ?_⟩
        show if (!inV (.int (z : Int)) ((ws.map Int.ofNat).map V.int)) = true then _ else _
        rw [inV_nat]
        by_cases gy : z ∈ ws
        · rw [decide_eq_true gy]
          obtain ⟨f1, f2⟩ := fin ws (fun x h => h) fun _ => gy
          exact iteF ⟨_, _, ws, rfl, fA, sA, lA, PA, RA, ⟨rA, eA⟩, f1, f2⟩
        · rw [decide_eq_false gy]
          refine iteT ?_
          have my : z ∈ ws ++ [z] := List.mem_append_right _ (List.mem_singleton.mpr rfl)
          obtain ⟨f1, f2⟩ := fin (ws ++ [z]) (fun x h => List.mem_append_left _ h) fun _ => my
          refine ⟨_, rfl, .inl ⟨rfl, _, SqL.of lA⟩, _, rfl, l, _, _, rfl, rfl, lA, small1000 (by rw [List.length_map, List.length_map]; clear hm tN; omega), _, _, ws ++ [z], rfl, (fun b o nb e => by rw [upd_ne nb]; exact fA b o nb e), same_set sA hl, ?_, ⟨?_, fun x hx => ?_⟩, fun x hx => ?_, ⟨rA ++ [z], by rw [eA, List.append_assoc]⟩, f1, f2⟩
          · rw [upd_same, List.map_append, List.map_append]; rfl
          · refine List.nodup_append.mpr ⟨PA.nd, List.nodup_cons.mpr ⟨by simp, List.nodup_nil⟩, fun x hx z' hz e => ?_⟩
            rw [List.mem_singleton.mp hz] at e
            exact gy (e ▸ hx)
          · rcases List.mem_append.mp hx with h | h
            · exact PA.lt x h
            · rw [List.mem_singleton.mp h]; exact zN
          · rcases List.mem_append.mp hx with h | h
            · exact RA x h
            · rw [List.mem_singleton.mp h]; exact rv.trans (by rw [gv]; exact yz)
      · intro σ HA hI2_
        refine hideG fun G_ hG_ => ?_
        obtain ⟨u8, u9, ws, rfl, fA, sA, lA, PA, RA, ⟨rA, eA⟩, m1, m2⟩ := hI2_
        refine hG_ ?_
        exact ⟨_, _, _, _, _, _, ws, rfl, sA, lA, PA, RA, ⟨r6 ++ rA, by rw [eA, e6, List.append_assoc]⟩, cnext ws (fun x h => by rw [eA]; exact List.mem_append_left _ h) (m1 (by show 1 ≤ 2; decide)) (m2 (Nat.le_refl _))⟩
    · intro σ H6 hI2_
      refine hideG fun G_ hG_ => ?_
      obtain ⟨u4, u5, u6, u7, u8, u9, qs, rfl, s6, l6, P6, R6, ⟨r6, e6⟩, c6⟩ := hI2_
      refine hG_ ?_
      rw [List.length_map, hrs.1, List.take_length] at c6
      have ql := P6.len
      refine ⟨_, rfl, _, _, rfl, rfl, N - (at0 + 1), by have := P5.len; omega, _, _, _, _, _, _, qs, at0 + 1, rfl, s6, l6, P6, (by rw [e6]; exact List.mem_append_left _ pp5), R6, by rw [e6, List.length_append]; clear pN hm; omega, fun i w hi hw => ?_, rfl⟩
      by_cases e : i = at0
      · subst e
        rw [e6, List.getElem?_append_left g, hv0] at hw
        cases hw
        exact c6
      · rw [e6, List.getElem?_append_left (by exact Nat.le_trans (by assumption) (by assumption))] at hw
        have := c5 i w (by clear pN hm ql; omega) hw
        intro t ht
        rw [e6]
        exact ⟨fun z => List.mem_append_left _ ((this t ht).1 z), fun z => List.mem_append_left _ ((this t ht).2 z)⟩
end
end K68
set_option maxHeartbeats 2000000
namespace K68
open PySem L2 Wk
theorem rows_lst {H H' : Hp} {qs qs' : List Srt.Row} {S : List T4} {st : Addr} (hat : ∀ q ∈ qs, IsTie q.2 ∧ H q.1 = some (.tup (q.2.map kV))) (hS : (qs.map fun q => tieOf q.2).Perm S) (perm : qs'.Perm qs) (srt : qs'.Pairwise fun a b => Srt.ltR b.2 a.2 = false) (s : Same H H') (hst : H' st = some (.lst (qs'.map Srt.rRef))) :
    LstAt H' st (qs'.map fun q => tieOf q.2) ∧ Srtd (qs'.map fun q => tieOf q.2) S := by
  have hk : ∀ q ∈ qs', keysOf (tieOf q.2) = q.2 := fun q hq => by
    obtain ⟨⟨t, e⟩, _⟩ := hat q (perm.mem_iff.mp hq)
    rw [e, tieOf_keys]
  refine ⟨⟨qs'.map (·.1), ?_, ?_⟩, (perm.map _).trans hS, ?_⟩
  · have : (qs'.map (·.1)).map V.ref = qs'.map Srt.rRef := by rw [List.map_map]; rfl
    rw [this]; exact hst
  · refine ⟨by simp, fun i a t ha ht => ?_⟩
    obtain ⟨q, hq, rfl⟩ := map_some ha
    rw [List.getElem?_map, hq] at ht
    cases ht
    obtain ⟨⟨t, e⟩, h9⟩ := hat q (perm.mem_iff.mp (List.mem_of_getElem? hq))
    show _ = some (HO.tup (tieV (tieOf q.2)))
    rw [e, tieOf_keys, ← keys_tieV, ← e]
    exact s _ _ h9
  · rw [List.pairwise_map]
    refine srt.imp_of_mem fun {a b} ha hb h => ?_
    rw [hk a ha, hk b hb]; exact h
theorem cntD_lt : ∀ {ds : List Dd}, ds.Pairwise (fun d e => d.mo ≤ e.mo) → ∀ {i : Nat} {d : Dd} {m : Int}, ds[i]? = some d → (d.mo ≤ m ↔ i < cntF ds m)
  | [], _, i, d, m, h => by simp at h
  | x :: ds, up, i, d, m, h => by
    have h1 := (List.pairwise_cons.mp up).1
    have ih : ∀ {i : Nat} {d : Dd}, ds[i]? = some d → (d.mo ≤ m ↔ i < cntF ds m) := fun {i d} h => cntD_lt (List.pairwise_cons.mp up).2 h
    unfold cntF at ih ⊢
    by_cases g : x.mo ≤ m
    · rw [List.filter_cons_of_pos (p := fun d : Dd => decide (d.mo ≤ m)) (decide_eq_true g), List.length_cons]
      cases i with
      | zero => cases h; exact ⟨fun _ => by omega, fun _ => g⟩
      | succ i => rw [ih (by simpa using h)]; clear g; omega
    · have z : ds.filter (fun d => decide (d.mo ≤ m)) = [] := by
        refine List.filter_eq_nil_iff.mpr fun e he => ?_
        have := h1 e he
        simp; omega
      rw [List.filter_cons_of_neg (p := fun d : Dd => decide (d.mo ≤ m)) (by simp; omega), z]
      constructor
      · intro q
        exfalso
        cases i with
        | zero => cases h; exact g q
        | succ i =>
          have := h1 d (List.mem_of_getElem? (by simpa using h))
          omega
      · intro q; exact absurd q (Nat.not_lt_zero _)
theorem dd_mo (d : Dd) : atI d.vs 1 = some (.int d.mo) := by cases d <;> exact atI_nat (j := 1) rfl
inductive SpLStandAtP (vs : List V) (H : Hp) (Q : VK) (u_3 : XK) : Prop
  | mk (h : Addr) (N : Nat) (ds : List Dd) (m : Int) : (vs = [.ref h, .int m]) → (HistAt H h N ds) → (Right N ds) → (∀ (l : Addr) (S : List T4) (H' : Hp), Same H H' → H l = none → LstAt H' l S → Srtd S (thr (ds.take (cntF ds m))) → Q (.ref l) H') → SpLStandAtP vs H Q u_3
def spLStandAt : Sp := fun vs H Q u_3 => SpLStandAtP vs H Q u_3
section
variable {P : Program} {w : World} {K : PySem.W.Frag} {mg : Str → Option Value} {base : Heap}
theorem scLStandAt : FnScope ["_law_history_here", "_law_moment_here", "_law_there", "_law_deed"] ["_law_history_here", "_law_moment_here"] (defScope sLStandAt) := ⟨rfl, rfl, rfl, by decide +kernel, rfl, by decide +kernel, by decide +kernel⟩
theorem ok_LStandAt {f : Addr} {fd : FuncData} (F : Fun K "_law_stand_at" "_law_stand_at" sLStandAt f fd) (T : Txt mg) :
    FnOk P w K mg base CX0 1 f fd ["_law_history_here", "_law_moment_here"] spLStandAt := by
  refine F.ok scLStandAt (fun vs H Q E h => ?_) (fun cdv A outer s H vs Q E hr h => ?_)
  · obtain ⟨_, _, _, _, rfl, _⟩ := h; rfl
  · obtain ⟨h, N, ds, m, rfl, ⟨tp, rs, eh, et, hdd⟩, hR, k⟩ := h
    refine ⟨_, pss_cons (ps_set (i := 2) scLStandAt.nd rfl (Or.inl rfl) pe_dnewK)
      (pss_cons (ps_for PassesOwn.never rfl (pi_tup (pe_ix ix_tup (pv 0) pe_int (fun _ _ => rfl))) (pg_name (i := 3) scLStandAt.nd rfl (Or.inl rfl)) (pss_one (ps_if (PW.pt (pw_and (pt_cmpR op_le (pe_ix ix_tup (pv 3) pe_int (fun _ _ => rfl)) (pv 1) (nomark _)) (pw_and1 (pt_cmpR op_eq (pe_ix ix_tup (pv 3) pe_int (fun _ _ => rfl)) pe_str (nomark _))))) (pss_one (ps_dput (hu_of hr) (pv 2) (pe_ix ix_tup (pv 3) pe_int (fun _ _ => rfl)) (pe_slice sl_tup (pv 3) (po_some pe_int) po_none) rfl)) (pss_one (ps_if (pt_cmpR op_le (pe_ix ix_tup (pv 3) pe_int (fun _ _ => rfl)) (pv 1) (nomark _)) (pss_one (ps_expr (pe_dpop1 (pv 2) (pe_ix ix_tup (pv 3) pe_int (fun _ _ => rfl)) ⟨rfl, rfl, rfl, rfl⟩))) pss_nil)))))
      (pss_one (ps_ret (pe_callB (Srt.call_sortedV rfl) (by rfl) T.sorted (by decide +kernel) (pa_cons (Srt.pe_dvals (pv 2) rfl rfl) pa_nil))))), ?_⟩
    dsimp only [cxOf, Cx.nox]
    refine seqL2 ?_
    intro R2_ R1_
    refine fun th hth => ?_
    have s1 := same_new (o := .dK []) hth
    have d1 := upd_same (H := H) (a := th) (o := .dK [])
    generalize upd H th (.dK []) = H1 at s1 d1
    have lrs : rs.length = ds.length := hdd.1
    have n60 := hR.len
    have cl := cnt_le ds m
    refine ⟨_, rfl, h, _, 1, _, rfl, rfl, SqT.of (s1 _ _ eh), atI_nat (j := 1) rfl, tp, rfl, ⟨_, SqT.of (s1 _ _ et)⟩, for_tupL (K := K) (a := tp) (xs := rs.map V.ref) (fun i σ H3 => ∃ (x3 : Option V) (ps : Ps), σ = [some (.ref h), some (.int m), some (.ref th), x3] ∧ Same H H3 ∧ ThF H3 th ps ∧ ps.map (·.1) = thr (ds.take (min i (cntF ds m)))) ⟨none, [], rfl, s1, ⟨d1, by simp⟩, by rw [Nat.zero_min]; rfl⟩ (fun i σ H3 _ ⟨_, _, _, s3, _⟩ => SqT.of (s3 _ _ et)) ?_ ?_⟩
    · intro i x σ H3 hx hI5_
      refine hideG fun G_ hG_ => ?_
      obtain ⟨x3, ps, rfl, s3, T3, fs⟩ := hI5_
      obtain ⟨r, er, rfl⟩ := map_some hx
      obtain ⟨dd, ed, r0⟩ := hdd.get er
      have r3 := s3 _ _ r0
      have cc := cntD_lt hR.up (m := m) ed
      have hok := hR.ok i dd ed
      have li : i < ds.length := (List.getElem?_eq_some_iff.mp ed).1
      refine hG_ ?_
      by_cases gm : dd.mo ≤ m
      rotate_left
      · have gi : ¬ i < cntF ds m := fun z => gm (cc.mpr z)
        rw [Nat.min_eq_right (by exact Nat.not_lt.mp (by assumption))] at fs
        rw [Nat.min_eq_right (show cntF ds m ≤ i + 1 by omega)]
        intro E_
        refine ⟨_, rfl, r, _, 1, _, rfl, rfl, SqT.of r3, dd_mo dd, _, rfl, _, _, rfl, rfl, _, rfl, ?_⟩
        rw [decide_eq_false gm]
        refine iteF (iteF ?_)
        refine ⟨_, rfl, r, _, 1, _, rfl, rfl, SqT.of r3, dd_mo dd, _, rfl, _, _, rfl, rfl, _, rfl, ?_⟩
        rw [decide_eq_false gm]
        exact iteF ⟨_, ps, rfl, s3, T3, fs⟩
      have gi := cc.mp gm
      rw [Nat.min_eq_left (by exact Nat.le_of_lt (by assumption))] at fs
      rw [Nat.min_eq_left (show i + 1 ≤ cntF ds m by assumption)]
      have tl := thr_len ds i
      have pl : ps.length ≤ 60 := by rw [← List.length_map (f := (·.1)), fs]; omega
      rw [take_snoc ed, thr_snoc]
      intro E_
      refine ⟨_, rfl, r, _, 1, _, rfl, rfl, SqT.of r3, dd_mo dd, _, rfl, _, _, rfl, rfl, _, rfl, ?_⟩
      rw [decide_eq_true gm]
      refine iteT ?_
      cases dd with
      | come m' t =>
        have nf : t.1 ∉ ps.map (·.1.1) := by rw [← ps_names, fs]; exact hok.1
        refine ⟨_, rfl, r, _, 0, _, rfl, rfl, SqT.of r3, atI_nat (j := 0) rfl, rfl, _, rfl, iteT ?_⟩
        refine ⟨_, rfl, _, rfl, r, _, rfl, SqT.of r3, (fun q => absurd (show (2 : Nat) = 0 from q.1) (by decide)), fun p hp => ?_⟩
        have ec : cutV (Dd.come m' t).vs (some 2) none = tieV t := rfl
        rw [ec]
        have s4 := same_new (o := .tup (tieV t)) hp
        have p4 := upd_same (H := H3) (a := p) (o := .tup (tieV t))
        generalize upd H3 p (.tup (tieV t)) = H4 at s4 p4
        have d4 := s4 _ _ T3.1
        refine ⟨_, rfl, _, rfl, r, _, 2, _, rfl, rfl, SqT.of (s4 _ _ r3), atI_nat (j := 2) rfl, th, _, rfl, DPut.k (k := Sum.inr t.1) d4 (small1000 (by unfold psK; rw [List.length_map]; exact Nat.le_trans (by assumption) (by decide))), ?_⟩
        rw [psK_put nf]
        refine ⟨_, ps ++ [(t, p)], rfl, same_set (s3.trans s4) hth, ⟨upd_same, fun q hq => ?_⟩, by rw [List.map_append, fs]; rfl⟩
        rcases List.mem_append.mp hq with hq | hq
        · rw [upd_ne (ne_of (s4 _ _ (T3.2 q hq)) d4 (by intro z; cases z))]; exact s4 _ _ (T3.2 q hq)
        · rw [List.mem_singleton.mp hq, upd_ne (ne_of p4 d4 (by intro z; cases z))]; exact p4
      | go m' nn =>
        refine ⟨_, rfl, r, _, 0, _, rfl, rfl, SqT.of r3, atI_nat (j := 0) rfl, rfl, _, rfl, iteF ?_⟩
        refine ⟨_, rfl, r, _, 1, _, rfl, rfl, SqT.of r3, dd_mo (.go m' nn), _, rfl, _, _, rfl, rfl, _, rfl, ?_⟩
        rw [decide_eq_true gm]
        refine iteT ?_
        have hin : (valV (psK ps) (Sum.inr nn)).isSome = true := by
          rw [val_has, decide_eq_true_eq, ← ps_names, fs]; exact hok
        obtain ⟨v, hv⟩ := Option.isSome_iff_exists.mp hin
        refine ⟨_, rfl, th, rfl, .inl ⟨_, .inl T3.1⟩, _, rfl, r, _, 2, _, rfl, rfl, SqT.of r3, atI_nat (j := 2) rfl, psK ps, Sum.inr nn, v, T3.1, rfl, hv, ?_⟩
        rw [psK_drop]
        refine ⟨_, ps.filter (fun p => decide (p.1.1 ≠ nn)), rfl, same_set s3 hth, ⟨upd_same, fun q hq => ?_⟩, by rw [ps_filt, fs]; rfl⟩
        rw [upd_ne (ne_of (T3.2 q (List.mem_filter.mp hq).1) T3.1 (by intro z; cases z))]; exact T3.2 q (List.mem_filter.mp hq).1
    · intro σ H3 hI2_
      refine hideG fun G_ hG_ => ?_
      obtain ⟨x3, ps, rfl, s3, T3, fs⟩ := hI2_
      refine hG_ ?_
      rw [List.length_map, lrs, Nat.min_eq_right cl] at fs
      have tl := thr_len ds (cntF ds m)
      have pl : ps.length ≤ 60 := by rw [← List.length_map (f := (·.1)), fs]; omega
      refine ⟨_, rfl, th, _, rfl, T3.1, fun v hv => ?_⟩
      have s4 := same_new (o := .frz (Srt.viewO th) (.own 0)) hv
      have v4 := upd_same (H := H3) (a := v) (o := .frz (Srt.viewO th) (.own 0))
      generalize upd H3 v (.frz (Srt.viewO th) (.own 0)) = H4 at s4 v4
      have hat : ∀ q ∈ ps.map (fun p => ((p.2, keysOf p.1) : Srt.Row)), IsTie q.2 ∧ H4 q.1 = some (.tup (q.2.map kV)) := fun q hq => by
        obtain ⟨p, hp, rfl⟩ := List.mem_map.mp hq
        exact ⟨⟨_, rfl⟩, s4 _ _ (T3.2 p hp)⟩
      refine ⟨v, th, psK ps, ps.map (fun p => ((p.2, keysOf p.1) : Srt.Row)), rfl, v4, s4 _ _ T3.1, ?_, ⟨fun q hq => SqT.of (hat q hq).2, fun q hq q' hq' => ?_, fun q hq => ?_, by rw [List.length_map]; exact Nat.lt_of_le_of_lt (by assumption) (by decide)⟩, fun l ps' hl pp pw => ?_⟩
      · unfold psK
        rw [List.map_map, List.map_map]
        rfl
      · obtain ⟨⟨t, e⟩, _⟩ := hat q hq
        obtain ⟨⟨t', e'⟩, _⟩ := hat q' hq'
        rw [e, e']; rfl
      · obtain ⟨⟨t, e⟩, _⟩ := hat q hq
        rw [e]; simp [keysOf]
      have sl := same_new (o := .lst (ps'.map Srt.rRef)) hl
      have hS : ((ps.map (fun p => ((p.2, keysOf p.1) : Srt.Row))).map fun q => tieOf q.2).Perm (thr (ds.take (cntF ds m))) := by
        rw [List.map_map, ← fs]
        refine List.Perm.of_eq (List.map_congr_left fun p _ => tieOf_keys p.1)
      obtain ⟨x1, x2⟩ := rows_lst hat hS pp pw sl upd_same
      exact k l _ _ ((s3.trans s4).trans sl) (none_of (s3.trans s4) hl) x1 x2
end
end K68
set_option maxHeartbeats 1000000
namespace StT
open PySem
def Up (xs : Array Nat) : Prop := xs.toList.Pairwise (· < ·)
theorem Up.lt {xs : Array Nat} (h : Up xs) {i k a b : Nat} (ik : i < k) (ha : xs[i]? = some a) (hb : xs[k]? = some b) : a < b := by
  rw [← Array.getElem?_toList] at ha hb
  obtain ⟨h1, e1⟩ := List.getElem?_eq_some_iff.mp ha
  obtain ⟨h2, e2⟩ := List.getElem?_eq_some_iff.mp hb
  rw [← e1, ← e2]
  exact List.pairwise_iff_getElem.mp h i k h1 h2 ik
theorem go_ok {xs : Array Nat} {j : Nat} (h : Up xs) : ∀ (fuel lo hi : Nat), lo ≤ hi → hi ≤ xs.size → hi - lo ≤ fuel → (∀ i a, i < lo → xs[i]? = some a → a < j) → (∀ i a, hi ≤ i → xs[i]? = some a → j ≤ a) →
    SetTable.below.go xs j fuel lo hi ≤ xs.size ∧ (∀ i a, i < SetTable.below.go xs j fuel lo hi → xs[i]? = some a → a < j) ∧ ∀ i a, SetTable.below.go xs j fuel lo hi ≤ i → xs[i]? = some a → j ≤ a
  | 0, lo, hi, h1, h2, h3, h4, h5 => by
    have : lo = hi := by omega
    subst this
    exact ⟨h2, h4, h5⟩
  | fuel + 1, lo, hi, h1, h2, h3, h4, h5 => by
    unfold SetTable.below.go
    by_cases c : lo < hi
    · rw [if_pos c]
      have hm : (lo + hi) / 2 < xs.size := by omega
      have hg : xs[(lo + hi) / 2]? = some (xs.getD ((lo + hi) / 2) j) := by
        rw [Array.getD_eq_getD_getElem?, Array.getElem?_eq_getElem hm]; rfl
      dsimp only
      by_cases d : xs.getD ((lo + hi) / 2) j < j
      · rw [if_pos d]
        refine go_ok h fuel _ _ (by omega) h2 (by omega) (fun i a hi' ha => ?_) h5
        rcases Nat.lt_or_eq_of_le (show i ≤ (lo + hi) / 2 by omega) with z | z
        · exact Nat.lt_trans (h.lt z ha hg) d
        · rw [z, hg] at ha; cases ha; exact d
      · rw [if_neg d]
        refine go_ok h fuel _ _ (by omega) (by exact Nat.le_of_lt (by assumption)) (by omega) h4 (fun i a hi' ha => ?_)
        rcases Nat.lt_or_eq_of_le hi' with z | z
        · have := h.lt z hg ha; omega
        · rw [← z, hg] at ha; cases ha; exact Nat.not_lt.mp (by assumption)
    · rw [if_neg c]
      have : lo = hi := by omega
      subst this
      exact ⟨h2, h4, h5⟩
theorem below_ok {xs : Array Nat} (h : Up xs) (j : Nat) : SetTable.below xs j ≤ xs.size ∧ (∀ i a, i < SetTable.below xs j → xs[i]? = some a → a < j) ∧ ∀ i a, SetTable.below xs j ≤ i → xs[i]? = some a → j ≤ a :=
  go_ok h xs.size 0 xs.size (Nat.zero_le _) (Nat.le_refl _) (by exact Nat.le_refl _) (fun i a hi => absurd hi (by omega)) fun i a hi ha => by
    have := (Array.getElem?_eq_some_iff.mp ha).1
    omega
theorem insert_list {α : Type} (xs : Array α) (p : Nat) (x : α) (hp : p ≤ xs.size) : (SetTable.insertAt xs p x).toList = xs.toList.take p ++ [x] ++ xs.toList.drop p := by
  unfold SetTable.insertAt
  rw [Array.toList_append, Array.toList_push]
  congr 1
  · congr 1
    rw [Array.toList_extract]; simp
  · rw [Array.toList_extract]
    simp only [List.extract_eq_drop_take]
    exact List.take_of_length_le (by rw [List.length_drop, Array.length_toList]; exact Nat.le_refl _)
theorem mem_of_idx {xs : Array Nat} {j : Nat} (h : Up xs) (hj : j ∈ xs.toList) : xs[SetTable.below xs j]? = some j := by
  obtain ⟨i, hi⟩ := List.getElem?_of_mem hj
  rw [Array.getElem?_toList] at hi
  obtain ⟨b1, b2, b3⟩ := below_ok h j
  have h1 : SetTable.below xs j ≤ i := by
    rcases Nat.lt_or_ge i (SetTable.below xs j) with z | z
    · exact absurd (b2 i j z hi) (Nat.lt_irrefl _)
    · exact z
  have hl : SetTable.below xs j < xs.size := Nat.lt_of_le_of_lt h1 (Array.getElem?_eq_some_iff.mp hi).1
  have hb := Array.getElem?_eq_getElem hl
  have h2 := b3 _ _ (Nat.le_refl _) hb
  rcases Nat.lt_or_eq_of_le h1 with z | z
  · have := h.lt z hb hi; omega
  · rw [z]; exact hi
theorem up_insert {xs : Array Nat} {j : Nat} (h : Up xs) (hj : j ∉ xs.toList) : Up (SetTable.insertAt xs (SetTable.below xs j) j) := by
  obtain ⟨b1, b2, b3⟩ := below_ok h j
  unfold Up
  rw [insert_list xs _ j b1]
  have lo : ∀ a ∈ xs.toList.take (SetTable.below xs j), a < j := fun a ha => by
    obtain ⟨i, hi⟩ := List.getElem?_of_mem ha
    rw [List.getElem?_take] at hi
    split at hi
    · rename_i z
      rw [Array.getElem?_toList] at hi
      exact b2 i a z hi
    · cases hi
  have hi : ∀ a ∈ xs.toList.drop (SetTable.below xs j), j < a := fun a ha => by
    have hm : a ∈ xs.toList := List.mem_of_mem_drop ha
    obtain ⟨i, hi⟩ := List.getElem?_of_mem ha
    rw [List.getElem?_drop, Array.getElem?_toList] at hi
    have := b3 _ a (Nat.le_add_right _ _) hi
    rcases Nat.lt_or_eq_of_le this with z | z
    · exact z
    · exact absurd (z ▸ hm) hj
  refine List.pairwise_append.mpr ⟨List.pairwise_append.mpr ⟨List.Pairwise.sublist (List.take_sublist ..) h, List.pairwise_singleton .., fun a ha b hb => ?_⟩, List.Pairwise.sublist (List.drop_sublist ..) h, fun a ha b hb => ?_⟩
  · rw [List.mem_singleton.mp hb]; exact lo a ha
  · rcases List.mem_append.mp ha with z | z
    · exact Nat.lt_trans (lo a z) (hi b hb)
    · rw [List.mem_singleton.mp z]; exact hi b hb
structure TOk (t : SetTable) (b : Bool) : Prop where
  up : Up t.place
  nod : t.dummies = #[]
  led : t.led = b
theorem TOk.fresh (b : Bool) : TOk (SetTable.fresh 0 0 b) b := ⟨List.Pairwise.nil, rfl, rfl⟩
theorem TOk.plain {t : SetTable} {b p : Bool} (h : TOk t b) : TOk { t with plain := p } b := ⟨h.up, h.nod, h.led⟩
theorem TOk.standIn {t : SetTable} {b : Bool} (h : TOk t b) (n : Nat) : TOk (t.standIn n) b := by
  refine ⟨?_, rfl, h.led⟩
  show Up (Array.range n)
  unfold Up
  rw [Array.toList_range]
  exact List.pairwise_lt_range
theorem has_nil (j : Nat) : SetTable.has #[] j = false := rfl
theorem slot_cases {t : SetTable} {b : Bool} (h : TOk t b) (j : Nat) : (t.slot j = .empty ∧ j ∉ t.place.toList) ∨ ∃ i, t.slot j = .live i := by
  unfold SetTable.slot
  dsimp only
  by_cases c : (t.place[SetTable.below t.place j]? == some j) = true
  · rw [if_pos c]; exact .inr ⟨_, rfl⟩
  · rw [if_neg c, h.nod, has_nil]
    refine .inl ⟨rfl, fun hm => c ?_⟩
    rw [mem_of_idx h.up hm]; simp
theorem advance_dummy (t : SetTable) (p : SetTable.Probe) : (t.advance p).dummy = p.dummy := by
  unfold SetTable.advance
  split
  · rfl
  · rfl
theorem probe_free {t : SetTable} {b : Bool} (h : TOk t b) {hashAt : Nat → Int} {hh : Int} {j : Nat} {d : Option Nat} : ∀ (fuel : Nat) (p : SetTable.Probe), p.dummy = none → SetTable.probe.go t hashAt hh fuel p = some (.empty j d) → d = none ∧ j ∉ t.place.toList
  | 0, p, _, e => by simp [SetTable.probe.go] at e
  | fuel + 1, p, hp, e => by
    unfold SetTable.probe.go at e
    rcases slot_cases h p.j with ⟨s, hn⟩ | ⟨i, s⟩
    · rw [s] at e
      simp only [Option.some.injEq, SetTable.Met.empty.injEq] at e
      exact ⟨by rw [← e.2, hp], by rw [← e.1]; exact hn⟩
    · rw [s] at e
      dsimp only at e
      split at e
      · cases e
      · exact probe_free h fuel _ (by rw [advance_dummy]; exact hp) e
theorem free_ok {t : SetTable} {b : Bool} (h : TOk t b) {hh : Int} {s : Nat} {wd : Bool} (e : t.freeSlot hh = some (s, wd)) : s ∉ t.place.toList := by
  unfold SetTable.freeSlot at e
  split at e
  · rename_i j d q
    obtain ⟨rfl, hn⟩ := probe_free h _ _ rfl q
    simp only [Option.getD_none, Option.some.injEq, Prod.mk.injEq] at e
    rw [← e.1]; exact hn
  · cases e
theorem TOk.or {t : SetTable} {b : Bool} (h : TOk t b) (n : Nat) : TOk (t.orStandIn n) b := by
  unfold SetTable.orStandIn
  split
  · exact h
  · exact h.standIn n
theorem layNew_ok {t : SetTable} {b : Bool} (h : TOk t b) (es : Array (Int × Value)) (hh : Int) (x : Value) : TOk (layNew t es hh x).2.1 b := by
  unfold layNew
  split
  · rename_i s wd e
    refine TOk.or (t := (t.put s).1) ⟨up_insert h.up (free_ok h e), ?_, h.led⟩ _
    show (if SetTable.has t.dummies s then _ else t.dummies) = #[]
    rw [h.nod, has_nil]; rfl
  · exact h.standIn _
theorem laid_up {mask : Nat} {owner : Array (Option Nat)} : Up ((((List.range (mask + 1)).filterMap fun j => (owner.getD j none).map (j, ·)).map (·.1)).toArray) := by
  unfold Up
  rw [List.toList_toArray]
  have : (((List.range (mask + 1)).filterMap fun j => (owner.getD j none).map (j, ·)).map (·.1)).Sublist (List.range (mask + 1)) := by
    generalize List.range (mask + 1) = l
    induction l with
    | nil => exact List.Sublist.refl _
    | cons a l ih =>
      rw [List.filterMap_cons]
      cases owner.getD a none with
      | none => exact ih.cons a
      | some k => exact ih.cons₂ a
  exact List.Pairwise.sublist this List.pairwise_lt_range
theorem relay_ok {t : SetTable} {b : Bool} (h : TOk t b) (es : Array (Int × Value)) (wanted : Nat) : TOk (relayAll t es wanted).2.1 b := by
  unfold relayAll
  split
  · rename_i t' order e
    have ht : TOk t' b := by
      unfold SetTable.relaid SetTable.laid at e
      cases q : SetTable.layClean (SetTable.sizeAbove wanted - 1) (es.map (·.1)) with
      | none => rw [q] at e; cases e
      | some owner =>
        rw [q] at e
        have e : some (({ mask := SetTable.sizeAbove wanted - 1, place := (((List.range (SetTable.sizeAbove wanted - 1 + 1)).filterMap fun j => (owner.getD j none).map (j, ·)).map (·.1)).toArray, dummies := #[], finger := t.finger, led := t.led, moves := t.movedTo (SetTable.sizeAbove wanted - 1), plain := t.plain } : SetTable), (((List.range (SetTable.sizeAbove wanted - 1 + 1)).filterMap fun j => (owner.getD j none).map (j, ·)).map (·.2)).toArray) = some (t', order) := e
        injection e with e
        injection e with e _
        rw [← e]
        exact ⟨laid_up, rfl, h.led⟩
    dsimp only
    split
    · exact ht
    · exact h.standIn _
  · exact h.standIn _
end StT
set_option maxHeartbeats 1000000
namespace StT
open PySem
theorem perm_take {α : Type} {l : List α} {k : Nat} {x : α} (h : l[k]? = some x) : (x :: l.eraseIdx k).Perm l := by
  obtain ⟨hk, rfl⟩ := List.getElem?_eq_some_iff.mp h
  rw [List.eraseIdx_eq_take_drop_succ]
  have e : l = l.take k ++ (l[k] :: l.drop (k + 1)) := by rw [← List.drop_eq_getElem_cons hk, List.take_append_drop]
  conv => rhs; rw [e]
  exact List.perm_middle.symm
theorem pick_go {α : Type} (next : Nat → Nat) : ∀ (fuel k : Nat) (left : List α) (out : Array α), fuel = left.length → (pickOrder.go next fuel k left out).toList.Perm (out.toList ++ left)
  | 0, k, left, out, h => by
    have : left = [] := List.length_eq_zero_iff.mp h.symm
    subst this
    unfold pickOrder.go
    rw [List.append_nil]
  | fuel + 1, k, left, out, h => by
    unfold pickOrder.go
    have hl : next k % left.length < left.length := Nat.mod_lt _ (by omega)
    have hx := List.getElem?_eq_getElem hl
    generalize left[next k % left.length] = x at hx
    rw [hx]
    dsimp only
    refine (pick_go next fuel (k + 1) _ _ (by rw [List.length_eraseIdx, if_pos hl]; omega)).trans ?_
    rw [Array.toList_push, List.append_assoc]
    exact List.Perm.append_left _ (perm_take hx)
theorem pick_perm {α : Type} (next : Nat → Nat) (xs : Array α) : (pickOrder next xs).toList.Perm xs.toList := by
  have := pick_go next xs.size 0 xs.toList #[] (by simp)
  simpa [pickOrder] using this
section
variable {M : Model} {A : Around} {E : Value → Shared → Prop} {s : Shared}
theorem wp_draw {n : Nat} (hn : n ≠ 0) {src : Source} {Q : Nat → Shared → Prop} (q : ∀ i d, i < n → Q i { s with drawn := d }) : wpAny M A (choose src n) Q E s := by
  intro Γ p hΓ
  unfold choose
  rw [Sem.wp_choose]
  exact ⟨hn, q _ _ (Nat.mod_lt _ (Nat.pos_of_ne_zero hn))⟩
theorem draw_perm {α : Type} : ∀ (n : Nat) (xs : List α) (s : Shared) (Q : List α → Shared → Prop), n = xs.length → (∀ ys d, ys.Perm xs → Q ys { s with drawn := d }) → wpAny M A (drawOrder n xs) Q E s
  | 0, xs, s, Q, h, q => by
    have : xs = [] := List.length_eq_zero_iff.mp h.symm
    subst this
    unfold drawOrder
    have := q [] s.drawn (.refl _)
    exact wpAny_pure this
  | n + 1, [], s, Q, h, q => by cases h
  | n + 1, x :: xs, s, Q, h, q => by
    unfold drawOrder
    refine wpAny_bind (wp_draw (by simp) fun i d hi => ?_)
    have hx := List.getElem?_eq_getElem hi
    generalize (x :: xs)[i] = y at hx
    rw [hx]
    dsimp only
    refine wpAny_bind (draw_perm n _ _ _ (by rw [List.length_eraseIdx, if_pos hi]; simp at h ⊢; assumption) fun ys d' pm => ?_)
    exact wpAny_pure (q (y :: ys) d' ((pm.cons y).trans (perm_take hx)))
end
end StT
set_option maxHeartbeats 1000000
namespace StT
open PySem
section
variable {prog : Program} {w : World} {K : Type} [DecidableEq K] {knd : KeyKind prog w K} {A : Around} {E : Value → Shared → Prop} {s : Shared}
def Dis (knd : KeyKind prog w K) (l : List (Int × Value)) : Prop := l.Pairwise fun e e' => ∀ k, ¬ (knd.is k e.2 = true ∧ knd.is k e'.2 = true)
theorem Dis.perm {l l' : List (Int × Value)} (h : Dis knd l) (p : l'.Perm l) : Dis knd l' := (p.pairwise_iff fun {x y} z k c => z k ⟨c.2, c.1⟩).mpr h
theorem Dis.push {l : List (Int × Value)} {S : K → Bool} (h : Dis knd l) (mem : ∀ k, S k = true ↔ ∃ e ∈ l, knd.is k e.2 = true) {k : K} {x : Value} {i : Int} (hk : knd.is k x = true) (hS : S k = false) : Dis knd (l ++ [(i, x)]) := by
  refine List.pairwise_append.mpr ⟨h, List.pairwise_singleton .., fun e he e' he' k' c => ?_⟩
  rw [List.mem_singleton.mp he'] at c
  have := knd.inj x k' k c.2 hk
  subst this
  rw [(mem k').mpr ⟨e, he, c.1⟩] at hS
  cases hS
def SetU (knd : KeyKind prog w K) (h : Heap) (a : Addr) (S : K → Bool) (n : Nat) (b : Bool) : Prop := ∃ o es ep t, h.get? a = some o ∧ o.ExactSet ∧ o.data = .set es ep t ∧ ElemsOf knd es.toList ∧ (∀ k, S k = true ↔ ∃ e ∈ es.toList, knd.is k e.2 = true) ∧ es.size < scanBound ∧ t.fits es.size = true ∧ es.size = n ∧ TOk t b ∧ Dis knd es.toList
theorem SetU.congr {h : Heap} {a : Addr} {S S' : K → Bool} {n n' : Nat} {b : Bool} (x : SetU knd h a S n b) (e : ∀ k, S k = S' k) (en : n = n') : SetU knd h a S' n' b := by
  obtain rfl : S = S' := funext e
  subst en
  exact x
theorem SetU.put {h : Heap} {a : Addr} {o : Obj} {es : Array (Int × Value)} {ep : Nat} {t : SetTable} {b : Bool} (ho : h.get? a = some o) (hex : o.ExactSet) (hd : o.data = .set es ep t) {es' : Array (Int × Value)} {t' : SetTable} {S' : K → Bool} (el : ElemsOf knd es'.toList) (mem : ∀ k, S' k = true ↔ ∃ e ∈ es'.toList, knd.is k e.2 = true) (sz : es'.size < scanBound) (fit : t'.fits es'.size = true) (ok : TOk t' b) (dis : Dis knd es'.toList) :
    (h.update a (Obj.putSet es' t')).get? a = some { o with data := .set es' (ep + 1) t' } ∧ SetU knd (h.update a (Obj.putSet es' t')) a S' es'.size b := by
  have z := (SetOf_store (knd := knd) (es' := es') (t' := t') (S' := S') ho hex hd el mem sz fit).1
  exact ⟨z, _, es', ep + 1, t', z, hex, rfl, el, mem, sz, fit, rfl, ok, dis⟩
theorem add_tail {g : Bool → Sem Unit} (hg : ∀ (c : Bool) (s1 : Shared) (Q1 : Unit → Shared → Prop), Q1 () s1 → wpAny (model prog w) A (g c) Q1 E s1) {a : Addr} {o : Obj} {es : Array (Int × Value)} {ep : Nat} {t : SetTable} {b : Bool} (ho : s.heap.get? a = some o) (hex : o.ExactSet) (hd : o.data = .set es ep t)
    {e1 : Array (Int × Value)} {t1 : SetTable} {S' : K → Bool} (el : ElemsOf knd e1.toList) (mem : ∀ k, S' k = true ↔ ∃ e ∈ e1.toList, knd.is k e.2 = true) (sz : e1.size < scanBound) (fit : t1.fits e1.size = true) (ok : TOk t1 b) (dis : Dis knd e1.toList) {wd : Bool} {R : Option Bool → Shared → Prop}
    (q : ∀ h', Heap.SameBut a s.heap h' → SetU knd h' a S' e1.size b → R (some true) { s with heap := h' }) :
    wpAny (model prog w) A (do
      storeSet a e1 t1
      if (!wd && t1.tooFull) = true then do
        g (relayAll t1 e1 (SetTable.grown e1.size)).2.2
        storeSet a (relayAll t1 e1 (SetTable.grown e1.size)).1 (relayAll t1 e1 (SetTable.grown e1.size)).2.1
        pure (some true)
      else pure (some true)) R E s := by
  refine wpAny_bind (wpAny_storeSet_of ho hd ?_ (fits_of_scanBound sz))
  obtain ⟨ho1, u1⟩ := SetU.put (knd := knd) ho hex hd el mem sz fit ok dis
  have sb1 := Heap.SameBut.update s.heap a (Obj.putSet e1 t1)
  split
  · have pm := relayAll_perm t1 e1 (SetTable.grown e1.size)
    have ft := relayAll_fits t1 e1 (SetTable.grown e1.size)
    have tk := relay_ok ok e1 (SetTable.grown e1.size)
    generalize relayAll t1 e1 (SetTable.grown e1.size) = Rl at pm ft tk ⊢
    obtain ⟨e2, t2, gv⟩ := Rl
    dsimp only at pm ft tk ⊢
    have sz2 : e2.size = e1.size := by rw [← Array.length_toList, pm.length_eq, Array.length_toList]
    have mem2 : ∀ k, S' k = true ↔ ∃ e ∈ e2.toList, knd.is k e.2 = true := fun k => by
      rw [mem k]
      exact ⟨fun ⟨e, he, z⟩ => ⟨e, pm.mem_iff.mpr he, z⟩, fun ⟨e, he, z⟩ => ⟨e, pm.mem_iff.mp he, z⟩⟩
    refine wpAny_bind (hg _ _ _ (wpAny_bind (wpAny_storeSet_of ho1 rfl ?_ (fits_of_scanBound (by omega)))))
    have u2 := (SetU.put (knd := knd) ho1 hex rfl (el.perm pm) mem2 (by omega) ft tk (dis.perm pm)).2
    rw [sz2] at u2
    exact wpAny_pure (q _ (sb1.trans (Heap.SameBut.update _ a _)) u2)
  · exact wpAny_pure (q _ sb1 u1)
theorem add_ok {a : Addr} {S : K → Bool} {n : Nat} {b : Bool} {k : K} {x : Value} {Q : Bool → Shared → Prop} (hk : knd.is k x = true) (hx : x.scannable = true) (hS : SetU knd s.heap a S n b) (hr : n + 1 < scanBound)
    (q : ∀ h', Heap.SameBut a s.heap h' → SetU knd h' a (fun k' => S k' || decide (k' = k)) (if S k then n else n + 1) b → Q (!S k) { s with heap := h' }) : wpAny (model prog w) A (setAddHashed a x (knd.hash k)) Q E s := by
  obtain ⟨o, es, ep, t, ho, hex, hd, el, mem, sz, fit, hn, ok, dis⟩ := hS
  unfold setAddHashed setAddHashedIn
  refine wpAny_holding (wpAny_bind (wpAny_setState_of ho hd fit ?_))
  dsimp only
  rw [byScan_of hx sz el]
  simp only [↓reduceIte]
  unfold setAddByScan
  refine wpAny_bind (wpAny_bind (wpAny_rule (wpAny_bind (wpAny_setScan_of hk ho hd fit el ?_))))
  cases fi : List.findIdx? (fun e => knd.is k e.2) es.toList with
  | some j =>
    dsimp only
    obtain ⟨hj, pj, _⟩ := List.findIdx?_eq_some_iff_getElem.mp fi
    have Sk : S k = true := (mem k).mpr ⟨es.toList[j], List.getElem_mem hj, pj⟩
    refine wpAny_pure (wpAny_pure ?_)
    have z := q s.heap (Heap.SameBut.refl a s.heap) ⟨o, es, ep, t, ho, hex, hd, el, fun k' => by
      rw [Bool.or_eq_true, decide_eq_true_eq, ← mem k']
      constructor
      · rintro (h | rfl)
        · exact h
        · exact Sk
      · exact .inl, sz, fit, by rw [Sk]; exact hn, ok, dis⟩
    rw [Sk] at z
    have es : s = { s with heap := s.heap } := by cases s; rfl
    rw [es]
    exact z
  | none =>
    dsimp only
    have Sk : S k = false := by
      cases c : S k with
      | false => rfl
      | true =>
        obtain ⟨e, he, z⟩ := (mem k).mp c
        have := List.findIdx?_eq_none_iff.mp fi e he
        rw [z] at this
        cases this
    have gw : ∀ (c : Bool) {s1 : Shared} {Q1 : Unit → Shared → Prop}, Q1 () s1 → wpAny (model prog w) A (match c with | true => rule "set.scan.the-table-gave-way" | false => pure ()) Q1 E s1 := fun c s1 Q1 h1 => by
      cases c
      · exact wpAny_pure h1
      · exact wpAny_rule h1
    have pm := layNew_perm t es (knd.hash k) x
    have ft := layNew_fits t es (knd.hash k) x
    have tk := layNew_ok ok es (knd.hash k) x
    generalize layNew t es (knd.hash k) x = L at pm ft tk ⊢
    obtain ⟨e1, t1, wd, gv⟩ := L
    dsimp only at pm ft tk ⊢
    rw [Array.toList_push] at pm
    have el1 : ElemsOf knd e1.toList := (el.push hk hx).perm pm
    have mem1 := mem_push_iff hk mem pm
    have dis1 : Dis knd e1.toList := (dis.push mem hk Sk).perm pm
    have sz1 : e1.size = n + 1 := by rw [← Array.length_toList, pm.length_eq, List.length_append, Array.length_toList, hn]; rfl
    have fin : ∀ h', Heap.SameBut a s.heap h' → SetU knd h' a (fun k' => S k' || decide (k' = k)) e1.size b → Q true { s with heap := h' } := fun h' sb u => by
      have z := q h' sb
      rw [Sk] at z
      rw [sz1] at u
      exact z u
    refine wpAny_bind (gw _ ?_)
    split
    · refine wpAny_bind ?_
      rw [hashByValue_scannable 8 hx]
      refine wpAny_pure ?_
      refine add_tail (b := b) ?_ ho hex hd el1 mem1 (by omega) ?_ ?_ dis1 fun h' sb u => ?_
      · intro c s1 Q1 h1
        cases c <;> first | exact wpAny_pure h1 | exact wpAny_rule h1
      · split
        · exact ft
        · exact SetTable.fits_plain_off ft
      · split
        · exact tk
        · exact tk.plain
      · dsimp only; exact wpAny_pure (fin h' sb u)
    · refine wpAny_bind (wpAny_pure ?_)
      simp only [↓reduceIte]
      refine add_tail (b := b) ?_ ho hex hd el1 mem1 (by omega) ft tk dis1 fun h' sb u => ?_
      · intro c s1 Q1 h1
        cases c <;> first | exact wpAny_pure h1 | exact wpAny_rule h1
      · dsimp only; exact wpAny_pure (fin h' sb u)
end
end StT
set_option maxHeartbeats 3200000
namespace StT
open PySem PyProof.Rows
section
variable {prog : Program} {w : World} {K : Type} [DecidableEq K] {knd : KeyKind prog w K} {A : Around} {E : Value → Shared → Prop} {s : Shared}
theorem SetU.at {h h' : Heap} {a : Addr} {S : K → Bool} {n : Nat} {b : Bool} (x : SetU knd h a S n b) (f : ∀ o, h.get? a = some o → h'.get? a = some o) : SetU knd h' a S n b := let ⟨o, es, ep, t, ho, r⟩ := x; ⟨o, es, ep, t, f o ho, r⟩
def metF (val : Nat → K) (i : Nat) (k : K) : Bool := (List.range i).any fun j => decide (k = val j)
theorem met_succ (val : Nat → K) (i : Nat) (k : K) : metF val (i + 1) k = (metF val i k || decide (k = val i)) := by
  unfold metF
  rw [List.range_succ, List.any_append]; simp
end
section
variable {prog : Program} {w : World} {K : Type} [DecidableEq K] {knd : KeyKind prog w K} {A : Around} {R : Result → Shared → Prop} {I : Addr} {fp wr : List Addr} {G : Array GenState → Array GenState → Prop} {n : Nat} {P : Nat → Value → Prop} {St : Nat → Shared → Prop}
theorem upd_loop (W : WalksS prog w A.in1 I fp wr G n P St) {T : Addr} (hT : T ∉ fp) {val : Nat → K} (hv : ∀ i v, P i v → knd.is (val i) v = true ∧ v.scannable = true) (hb : n + 1 < scanBound) {b : Bool} :
    ∀ (k i : Nat) (s : Shared), n - i = k → i ≤ n → St i s → (∃ m, m ≤ i ∧ SetU knd s.heap T (metF val i) m b) →
      (∀ s', Moved (T :: wr) G s s' → (∃ m, m ≤ n ∧ SetU knd s'.heap T (metF val n) m b) → R (.ok (.ret .none)) s') →
      codeAny (model prog w) A (.builtin "set.update.loop" ⟨[.ref T, .ref I], []⟩) R s
  | 0, i, s, hk, hi, st, ⟨m, mi, u⟩, q => by
    obtain rfl : i = n := by omega
    have nw : T ∉ wr := fun z => hT (W.sub _ z)
    refine codeAny_builtin F.entry_set_update_loop ?_
    rw [Around.under_plainId F.plain_set_update_loop _]
    refine wpAny_bind (m := pyNext (.ref I)) (W.done s _ _ st fun s' mv => ?_)
    exact wpAny_pure (q s' (mv.mono fun x hx => List.mem_cons_of_mem _ hx) ⟨m, mi, u.at fun o e => mv.heap T o nw e⟩)
  | k + 1, i, s, hk, hi, st, ⟨m, mi, u⟩, q => by
    have lt : i < n := by omega
    have nw : T ∉ wr := fun z => hT (W.sub _ z)
    refine codeAny_builtin F.entry_set_update_loop ?_
    rw [Around.under_plainId F.plain_set_update_loop _]
    refine wpAny_bind (m := pyNext (.ref I)) (W.item i s _ _ lt st fun v s' pv st' mv => ?_)
    obtain ⟨hk1, hk2⟩ := hv i v pv
    have u' := u.at (h' := s'.heap) fun o e => mv.heap T o nw e
    refine wpAny_bind (m := holding [v] (setAdd T v)) (wpAny_holding ?_)
    unfold setAdd
    refine wpAny_holding (wpAny_bind (knd.pyHash hk1 ?_))
    refine add_ok (s := { s' with toks := s'.toks + 1 }) hk1 hk2 u' (by omega) fun h' sb u2 => ?_
    have mv2 : Moved (T :: wr) G s { s' with heap := h', toks := s'.toks + 1 } := (mv.mono fun x hx => List.mem_cons_of_mem _ hx).then_heap (Nat.le_succ _) fun x o hx e => by
      rw [sb.2 x fun z => hx (z ▸ List.mem_cons_self)]; exact e
    refine wpAny_pure ⟨plainId_quiet F.plain_set_update_loop _, upd_loop W hT hv hb k (i + 1) _ (by omega) lt (W.frame _ s' _ _ st' (Nat.le_succ _) fun x hx o e => ?_) ⟨if metF val i (val i) then m else m + 1, ?_, u2.congr (fun k' => (met_succ val i k').symm) rfl⟩ fun s'' m'' u'' => q s'' (Moved.trans W.gtrans mv2 m'') u''⟩
    · rw [sb.2 x fun z => hT (z ▸ hx)]; exact e
    · split <;> omega
end
section
variable {prog : Program} {w : World} {K : Type} [DecidableEq K] {knd : KeyKind prog w K} {A : Around} {E : Value → Shared → Prop} {s : Shared}
def byT (w : World) : Bool := w.params.followText "set-order"
theorem set_new (a : Value) {Q1 : Value → Shared → Prop} (q : Q1 (.ref s.heap.objs.size) { s with heap := s.heap.push { cls := .type "set", dict := none, data := .set #[] 0 (.fresh 0 0 (!byT w)) } }) :
    codeAny (model prog w) A (.call (.builtin "set.__new__") ⟨[.type "set", a], []⟩) (wants Q1 E) s := by
  refine codeAny_call_builtin F.plain_set_new F.entry_set_new (wpAny_of_eq (F.newCall_set_1 a) ?_)
  unfold Builtin.«set.__new__» Builtin.Frozenset.newClass
  have hsub := sub_set_self
  obtain ⟨hp, g, d, tk, os⟩ := s
  dsimp only
  wp_walk
  refine wpAny_askSetting (wpAny_pure ?_)
  dsimp only
  simp only [newObj]
  exact wpAny_bind (wpAny_alloc (wpAny_pure (wpAny_pure q)))
end
end StT
set_option maxHeartbeats 3200000
namespace StT
open PySem PyProof.Rows
theorem tup_set : isSubtype (.type "tuple") (.type "set") = pure false := by rw [isSubtype_type]; kernel_rfl
theorem tup_fro : isSubtype (.type "tuple") (.type "frozenset") = pure false := by rw [isSubtype_type]; kernel_rfl
section
variable {prog : Program} {w : World} {K : Type} [DecidableEq K] {knd : KeyKind prog w K} {A : Around} {E : Value → Shared → Prop} {s : Shared}
theorem call_set_list {l : Addr} {items : Array Value} {Q : Value → Shared → Prop} {val : Nat → K} (hh : A.handled = none) (hl : s.heap.IsList l items) (hv : ∀ i v, items[i]? = some v → knd.is (val i) v = true ∧ v.scannable = true) (hb : items.size + 1 < scanBound)
    (q : ∀ (h' : Heap) (tk m : Nat), m ≤ items.size → SetU knd h' s.heap.objs.size (metF val items.size) m (!byT w) → (∀ b o, s.heap.get? b = some o → h'.get? b = some o) → Q (.ref s.heap.objs.size) { s with heap := h', toks := tk }) : wpAny (model prog w) A (call (.type "set") [.ref l]) Q E s := by
  have cs := F.called_set
  obtain ⟨c, tl, m1⟩ := cs.mro
  have m2 := cs.made
  have m3 := cs.sub
  refine wpAny_call (codeAny_of_tree (wpAny_pure ⟨Code.quiet_builtin _ (by decide +kernel), codeAny_builtin F.entry_type_call ?_⟩))
  rw [Around.under_plain (weight_type_call_type "set" [.ref l] []) rfl]
  have m4 := cs.notType
  have m5 := cs.canCreate
  have m6 := F.typeCall_set_1 (.ref l)
  repeat (any_goals (first | assumption | wp_step))
  have hN : (s.heap.push { cls := .type "set", dict := none, data := .set #[] 0 (.fresh 0 0 (!byT w)) }).get? s.heap.objs.size = some { cls := .type "set", dict := none, data := .set #[] 0 (.fresh 0 0 (!byT w)) } := Heap.get?_push_size _ rfl
  refine codeAny_mono (set_new (.ref l) (E := E) (Q1 := fun v t => v = .ref s.heap.objs.size ∧ t = { s with heap := s.heap.push { cls := .type "set", dict := none, data := .set #[] 0 (.fresh 0 0 (!byT w)) } }) ⟨rfl, rfl⟩) fun r1 t1 z1 => ?_
  rcases r1 with e1 | f1
  · exact z1
  cases f1
  case ret v1 =>
    obtain ⟨rfl, rfl⟩ := z1
    have tS : Shared.TypeIs { s with heap := s.heap.push { cls := .type "set", dict := none, data := .set #[] 0 (.fresh 0 0 (!byT w)) } } (.ref s.heap.objs.size) "set" := ⟨_, hN, rfl⟩
    have m7 := cs.init.lookup
    have m8 := cs.init.bind (.ref s.heap.objs.size)
    repeat (any_goals (first | assumption | wp_step))
    refine codeAny_mono (codeAny_call_builtin (R := wants (fun v t => v = .none ∧ ∃ h' tk m, t = { s with heap := h', toks := tk } ∧ m ≤ items.size ∧ SetU knd h' s.heap.objs.size (metF val items.size) m (!byT w) ∧ ∀ b o, s.heap.get? b = some o → h'.get? b = some o) E) cs.init.plain F.entry_set_init (check_set_init_1 tS ?_)) fun r2 t2 z2 => ?_
    · obtain ⟨⟨c0, d0, da0, s0⟩, g0, hc0, n0, hd0⟩ := id hl
      simp only at hc0 hd0
      subst hc0
      subst hd0
      have g1 : (s.heap.push { cls := .type "set", dict := none, data := .set #[] 0 (.fresh 0 0 (!byT w)) }).get? l = some { cls := .type "list", dict := d0, data := .seq items n0, slots := s0 } := Heap.get?_push_of_some _ g0
      have a1 := F.sub_list_set
      have a2 := F.sub_list_frozenset
      have a3 : (Value.type "list" == Value.type "dict") = false := by decide
      have hl1 : (s.heap.push { cls := .type "set", dict := none, data := .set #[] 0 (.fresh 0 0 (!byT w)) }).IsList l items := ⟨_, g1, rfl, n0, rfl⟩
      unfold Builtin.«set.__init__» noKeywords Builtin.Frozenset.updateFrom
      generalize hI : pyIter = PI
      wp_walk
      subst hI
      refine wpAny_pyIter_list hl1 (wpAny_bind (wpAny_runValue ?_))
      have lS : l < s.heap.objs.size := Heap.lt_size g0
      have h3 : A.in1.in1.in1.handled = none := by simp [hh]
      have nI : l ≠ (s.heap.push { cls := .type "set", dict := none, data := .set #[] 0 (.fresh 0 0 (!byT w)) }).objs.size := by
        rw [Heap.size_push]; exact Nat.ne_of_lt (Nat.lt_succ_of_lt lS)
      have nS : s.heap.objs.size ∉ [(s.heap.push { cls := .type "set", dict := none, data := .set #[] 0 (.fresh 0 0 (!byT w)) }).objs.size, l] := by
        rw [Heap.size_push]
        simp only [List.mem_cons, List.not_mem_nil, or_false, not_or]
        exact ⟨Nat.ne_of_lt (Nat.lt_succ_self _), Nat.ne_of_gt lS⟩
      refine upd_loop ((Walks.list h3 _ l nI items).toS) nS (val := val) (b := !byT w) hv hb (items.size - 0) 0 _ (by omega) (Nat.zero_le _) ⟨⟨_, Heap.get?_push_size _ rfl, rfl, rfl⟩, hl1.push _⟩ ⟨0, Nat.le_refl _, ?_⟩ fun t mv ⟨m, mi, u⟩ => ?_
      · exact ⟨_, #[], 0, _, Heap.get?_push_of_some _ hN, ⟨rfl, rfl, rfl⟩, rfl, fun e he => (by simp at he), fun k => (by simp [metF]), by unfold scanBound; decide, rfl, rfl, TOk.fresh _, List.Pairwise.nil⟩
      · obtain ⟨h', g', d', tk', os'⟩ := t
        obtain rfl : g' = s.gens := mv.gens
        obtain rfl : d' = s.drawn := mv.drawn
        obtain rfl : os' = s.os := mv.os
        refine wpAny_pure (wpAny_pure ⟨rfl, h', tk', m, rfl, mi, u, fun b o e => ?_⟩)
        have lb : b < s.heap.objs.size := Heap.lt_size e
        refine mv.heap b o ?_ (Heap.get?_push_of_some _ (Heap.get?_push_of_some _ e))
        rw [Heap.size_push]
        simp only [List.mem_cons, List.not_mem_nil, or_false, not_or]
        exact ⟨Nat.ne_of_lt lb, Nat.ne_of_lt (Nat.lt_succ_of_lt lb)⟩
    · rcases r2 with e2 | f2
      · exact z2
      cases f2
      case ret v2 =>
        obtain ⟨rfl, h', tk, m, rfl, mi, u, kp⟩ := z2
        repeat (any_goals (first | assumption | wp_step))
        exact q h' tk m mi u kp
      all_goals exact z2.elim
  all_goals exact z1.elim
theorem call_set_tuple {l : Addr} {items : Array Value} {Q : Value → Shared → Prop} {val : Nat → K} (hh : A.handled = none) (hl : s.heap.IsTuple l items) (hv : ∀ i v, items[i]? = some v → knd.is (val i) v = true ∧ v.scannable = true) (hb : items.size + 1 < scanBound)
    (q : ∀ (h' : Heap) (tk m : Nat), m ≤ items.size → SetU knd h' s.heap.objs.size (metF val items.size) m (!byT w) → (∀ b o, s.heap.get? b = some o → h'.get? b = some o) → Q (.ref s.heap.objs.size) { s with heap := h', toks := tk }) : wpAny (model prog w) A (call (.type "set") [.ref l]) Q E s := by
  have cs := F.called_set
  obtain ⟨c, tl, m1⟩ := cs.mro
  have m2 := cs.made
  have m3 := cs.sub
  refine wpAny_call (codeAny_of_tree (wpAny_pure ⟨Code.quiet_builtin _ (by decide +kernel), codeAny_builtin F.entry_type_call ?_⟩))
  rw [Around.under_plain (weight_type_call_type "set" [.ref l] []) rfl]
  have m4 := cs.notType
  have m5 := cs.canCreate
  have m6 := F.typeCall_set_1 (.ref l)
  repeat (any_goals (first | assumption | wp_step))
  have hN : (s.heap.push { cls := .type "set", dict := none, data := .set #[] 0 (.fresh 0 0 (!byT w)) }).get? s.heap.objs.size = some { cls := .type "set", dict := none, data := .set #[] 0 (.fresh 0 0 (!byT w)) } := Heap.get?_push_size _ rfl
  refine codeAny_mono (set_new (.ref l) (E := E) (Q1 := fun v t => v = .ref s.heap.objs.size ∧ t = { s with heap := s.heap.push { cls := .type "set", dict := none, data := .set #[] 0 (.fresh 0 0 (!byT w)) } }) ⟨rfl, rfl⟩) fun r1 t1 z1 => ?_
  rcases r1 with e1 | f1
  · exact z1
  cases f1
  case ret v1 =>
    obtain ⟨rfl, rfl⟩ := z1
    have tS : Shared.TypeIs { s with heap := s.heap.push { cls := .type "set", dict := none, data := .set #[] 0 (.fresh 0 0 (!byT w)) } } (.ref s.heap.objs.size) "set" := ⟨_, hN, rfl⟩
    have m7 := cs.init.lookup
    have m8 := cs.init.bind (.ref s.heap.objs.size)
    repeat (any_goals (first | assumption | wp_step))
    refine codeAny_mono (codeAny_call_builtin (R := wants (fun v t => v = .none ∧ ∃ h' tk m, t = { s with heap := h', toks := tk } ∧ m ≤ items.size ∧ SetU knd h' s.heap.objs.size (metF val items.size) m (!byT w) ∧ ∀ b o, s.heap.get? b = some o → h'.get? b = some o) E) cs.init.plain F.entry_set_init (check_set_init_1 tS ?_)) fun r2 t2 z2 => ?_
    · obtain ⟨⟨c0, d0, da0, s0⟩, g0, hc0, n0, hd0⟩ := id hl
      simp only at hc0 hd0
      subst hc0
      subst hd0
      have g1 : (s.heap.push { cls := .type "set", dict := none, data := .set #[] 0 (.fresh 0 0 (!byT w)) }).get? l = some { cls := .type "tuple", dict := d0, data := .seq items n0, slots := s0 } := Heap.get?_push_of_some _ g0
      have a1 := tup_set
      have a2 := tup_fro
      have a3 : (Value.type "tuple" == Value.type "dict") = false := by decide
      have hl1 : (s.heap.push { cls := .type "set", dict := none, data := .set #[] 0 (.fresh 0 0 (!byT w)) }).IsTuple l items := ⟨_, g1, rfl, n0, rfl⟩
      unfold Builtin.«set.__init__» noKeywords Builtin.Frozenset.updateFrom
      generalize hI : pyIter = PI
      wp_walk
      subst hI
      refine wpAny_pyIter_tuple hl1 (wpAny_bind (wpAny_runValue ?_))
      have lS : l < s.heap.objs.size := Heap.lt_size g0
      have h3 : A.in1.in1.in1.handled = none := by simp [hh]
      have nI : l ≠ (s.heap.push { cls := .type "set", dict := none, data := .set #[] 0 (.fresh 0 0 (!byT w)) }).objs.size := by
        rw [Heap.size_push]; exact Nat.ne_of_lt (Nat.lt_succ_of_lt lS)
      have nS : s.heap.objs.size ∉ [(s.heap.push { cls := .type "set", dict := none, data := .set #[] 0 (.fresh 0 0 (!byT w)) }).objs.size, l] := by
        rw [Heap.size_push]
        simp only [List.mem_cons, List.not_mem_nil, or_false, not_or]
        exact ⟨Nat.ne_of_lt (Nat.lt_succ_self _), Nat.ne_of_gt lS⟩
      refine upd_loop ((Walks.tuple h3 _ l nI items).toS) nS (val := val) (b := !byT w) hv hb (items.size - 0) 0 _ (by omega) (Nat.zero_le _) ⟨⟨_, Heap.get?_push_size _ rfl, rfl, rfl⟩, hl1.push _⟩ ⟨0, Nat.le_refl _, ?_⟩ fun t mv ⟨m, mi, u⟩ => ?_
      · exact ⟨_, #[], 0, _, Heap.get?_push_of_some _ hN, ⟨rfl, rfl, rfl⟩, rfl, fun e he => (by simp at he), fun k => (by simp [metF]), by unfold scanBound; decide, rfl, rfl, TOk.fresh _, List.Pairwise.nil⟩
      · obtain ⟨h', g', d', tk', os'⟩ := t
        obtain rfl : g' = s.gens := mv.gens
        obtain rfl : d' = s.drawn := mv.drawn
        obtain rfl : os' = s.os := mv.os
        refine wpAny_pure (wpAny_pure ⟨rfl, h', tk', m, rfl, mi, u, fun b o e => ?_⟩)
        have lb : b < s.heap.objs.size := Heap.lt_size e
        refine mv.heap b o ?_ (Heap.get?_push_of_some _ (Heap.get?_push_of_some _ e))
        rw [Heap.size_push]
        simp only [List.mem_cons, List.not_mem_nil, or_false, not_or]
        exact ⟨Nat.ne_of_lt lb, Nat.ne_of_lt (Nat.lt_succ_of_lt lb)⟩
    · rcases r2 with e2 | f2
      · exact z2
      cases f2
      case ret v2 =>
        obtain ⟨rfl, h', tk, m, rfl, mi, u, kp⟩ := z2
        repeat (any_goals (first | assumption | wp_step))
        exact q h' tk m mi u kp
      all_goals exact z2.elim
  all_goals exact z1.elim
end
end StT
set_option maxHeartbeats 3200000
namespace StT
open PySem PyProof.Rows
theorem slot_si_next : Slot "set_iterator" "__next__" "set_iterator.__next__" :=
  .of (owner := "set_iterator") (n := "__next__") (by rw [typeLookup_type, builtinLookup_eq_fast]; kernel_rfl) (by decide +kernel) (by decide +kernel) (by decide +kernel) (by first | exact .inl (by decide +kernel) | exact .inr (by decide +kernel)) (by rw [isSubtype_type]; kernel_rfl)
theorem entry_si_next : entryFor table "set_iterator.__next__" = some Builtin.«set_iterator.__next__» := entryFor_of_tree (by kernel_rfl)
theorem args_si_next (a : Value) : argsOk "set_iterator.__next__" ⟨[a], []⟩ := by unfold argsOk; kernel_rfl
theorem entry_s_iter : entryFor table "set.__iter__" = some Builtin.«frozenset.__iter__» := entryFor_alias (id' := "frozenset.__iter__") (by kernel_rfl) rfl (by decide +kernel) (by kernel_rfl)
def ItS (h : Heap) (I a : Addr) (first : Value) (i n ep : Nat) : Prop := ∃ o, h.get? I = some o ∧ o.cls = .type "set_iterator" ∧ o.data = .fields #[first, .int (i : Int) 0, .ref a, .int (n : Int) 0, .int (ep : Int) 0]
def SSt (h : Heap) (a : Addr) (es : Array (Int × Value)) (ep : Nat) (t : SetTable) : Prop := ∃ o, h.get? a = some o ∧ o.data = .set es ep t ∧ t.fits es.size = true
theorem ItS.type {s : Shared} {I a : Addr} {first : Value} {i n ep : Nat} (h : ItS s.heap I a first i n ep) : s.TypeIs (.ref I) "set_iterator" := let ⟨o, a, b, _⟩ := h; ⟨o, a, b⟩
section
variable {prog : Program} {w : World} {A : Around} {E : Value → Shared → Prop} {s : Shared} {I a T : Addr} {i n ep : Nat} {first : Value} {es : Array (Int × Value)} {t : SetTable}
theorem setF {o : Obj} {vs : Array Value} {k : Nat} {x : Value} {Q : Unit → Shared → Prop} (ho : s.heap.get? I = some o) (hd : o.data = .fields vs) (hk : k < vs.size)
    (q : ∀ (h' : Heap) (o' : Obj), h'.get? I = some o' → o'.cls = o.cls → o'.data = .fields (vs.setIfInBounds k x) → Heap.SameBut I s.heap h' → Q () { s with heap := h' }) : wpAny (model prog w) A (setField (.ref I) k x) Q E s :=
  wpAny_setField ho hd hk (q _ _ (Heap.get?_update_self _ ho (Obj.isFreed_of_fields (Obj.data_mapFields hd _))) (Obj.cls_mapFields ..) (Obj.data_mapFields hd _) (Heap.SameBut.update ..))
theorem stop_ok (hh : A.handled = none) {X : Fin → Shared → Prop} {Q : Option Value → Shared → Prop} (q : ∀ h', (∀ b o, s.heap.get? b = some o → h'.get? b = some o) → Q none { s with heap := h' }) :
    wpAny (model prog w) A.in1 (newExc (Value.type "StopIteration") [] >>= fun e => raiseNew e) X (fun e s' => wpAny (model prog w) A (isInstance e (Value.type "StopIteration") >>= fun c => if c = true then pure none else throw e) Q E s') s := by
  refine wpAny_bind ?_
  simp only [newExc, newTuple]
  refine wpAny_bind (wpAny_newObj_type (wpAny_bind (m := firstArgMember _ _) (wpAny_of_eq (a := Value.none) (by first | rfl | (simp only [firstArgMember]; rfl)) (wpAny_newObj_type ?_ (by size_fits)))) (by size_fits))
  simp only [raiseNew]
  refine wpAny_bind (wpAny_handled ?_)
  rw [show A.in1.handled = none from hh]
  refine wpAny_bind (wpAny_pure (wpAny_throw ?_))
  refine wpAny_bind (wpAny_isInstance (T := "StopIteration") (b := true) ⟨_, Heap.get?_push_size _ rfl, rfl⟩ isSubtype_stop ?_)
  exact wpAny_pure (q _ fun b o e => Heap.get?_push_of_some _ (Heap.get?_push_of_some _ e))
theorem ask_by {Q : Bool → Shared → Prop} (q : Q (byT w) s) : wpAny (model prog w) A setsByText Q E s := wpAny_bind (wpAny_askSetting (wpAny_pure q))
theorem next_some {first' x : Value} {nx : Nat} {Q : Option Value → Shared → Prop} {slot : Nat} (hI : ItS s.heap I a (.int (slot : Int) 0) i es.size ep) (hS : SSt s.heap a es ep t)
    (sn : ∀ R : Option (Value × Nat) → Shared → Prop, R (some (x, nx)) s → wpAny (model prog w) A.in1 (setNext a slot i ep) R (fun e s' => wpAny (model prog w) A (isInstance e (Value.type "StopIteration") >>= fun c => if c = true then pure none else throw e) Q E s') s)
    (q : ∀ h', ItS h' I a (.int (nx : Int) 0) (i + 1) es.size ep → Heap.SameBut I s.heap h' → Q (some x) { s with heap := h' }) : wpAny (model prog w) A (pyNext (.ref I)) Q E s := by
  obtain ⟨oI, gI, cI, dI⟩ := id hI
  obtain ⟨oS, gS, dS, fit⟩ := id hS
  unfold pyNext
  refine wpAny_bind (wpAny_attempt (wpAny_callSpecial?_slot (name := Str.ofString "__next__") hI.type slot_si_next (wpAny_call_entry slot_si_next hI.type entry_si_next ?_ (args_si_next _))))
  unfold Builtin.«set_iterator.__next__»
  refine wpAny_bind (m := slotArgs _ _ _) (wpAny_pure (wpAny_bind (wpAny_fieldsOf gI dI ?_)))
  dsimp only
  refine wpAny_bind (wpAny_setEntries_of gS dS fit ?_)
  rw [if_neg (by simp)]
  refine wpAny_bind ?_
  rw [Int.toNat_natCast, Int.toNat_natCast, Int.toNat_natCast]
  refine sn _ ?_
  dsimp only
  refine wpAny_bind (setF gI dI (by simp) fun h1 o1 g1 c1 d1 sb1 => ?_)
  refine wpAny_bind (setF (s := { s with heap := h1 }) g1 d1 (by simp) fun h2 o2 g2 c2 d2 sb2 => ?_)
  refine wpAny_pure ⟨x, rfl, wpAny_pure (q h2 ⟨o2, g2, (c2.trans c1).trans cI, ?_⟩ (sb1.trans sb2))⟩
  rw [d2]
  simp [rawInt]
theorem next_none {Q : Option Value → Shared → Prop} {slot : Nat} (hh : A.handled = none) (hI : ItS s.heap I a (.int (slot : Int) 0) i es.size ep) (hS : SSt s.heap a es ep t)
    (sn : ∀ R : Option (Value × Nat) → Shared → Prop, R none s → wpAny (model prog w) A.in1 (setNext a slot i ep) R (fun e s' => wpAny (model prog w) A (isInstance e (Value.type "StopIteration") >>= fun c => if c = true then pure none else throw e) Q E s') s)
    (q : ∀ h', (∀ b o, b ≠ I → s.heap.get? b = some o → h'.get? b = some o) → Q none { s with heap := h' }) : wpAny (model prog w) A (pyNext (.ref I)) Q E s := by
  obtain ⟨oI, gI, cI, dI⟩ := id hI
  obtain ⟨oS, gS, dS, fit⟩ := id hS
  unfold pyNext
  refine wpAny_bind (wpAny_attempt (wpAny_callSpecial?_slot (name := Str.ofString "__next__") hI.type slot_si_next (wpAny_call_entry slot_si_next hI.type entry_si_next ?_ (args_si_next _))))
  unfold Builtin.«set_iterator.__next__»
  refine wpAny_bind (m := slotArgs _ _ _) (wpAny_pure (wpAny_bind (wpAny_fieldsOf gI dI ?_)))
  dsimp only
  refine wpAny_bind (wpAny_setEntries_of gS dS fit ?_)
  rw [if_neg (by simp)]
  refine wpAny_bind ?_
  rw [Int.toNat_natCast, Int.toNat_natCast, Int.toNat_natCast]
  refine sn _ ?_
  dsimp only
  refine wpAny_bind (setF gI dI (by simp) fun h1 o1 g1 c1 d1 sb1 => ?_)
  exact stop_ok (s := { s with heap := h1 }) hh fun h2 k2 => q h2 fun b o nb e => k2 b o (by rw [sb1.2 b nb]; exact e)
theorem drawn_some {x : Value} {Q : Option Value → Shared → Prop} {ps : Array Value} {p : Nat} {u : Tok} {hx : Int} {oT : Obj} {m : Nat} (hI : ItS s.heap I a (.ref T) i es.size ep) (hS : SSt s.heap a es ep t) (gT : s.heap.get? T = some oT) (dT : oT.data = .seq ps m) (hp : ps[i]? = some (.int (p : Int) u)) (ex : es[p]? = some (hx, x))
    (q : ∀ h', ItS h' I a (.ref T) (i + 1) es.size ep → Heap.SameBut I s.heap h' → Q (some x) { s with heap := h' }) : wpAny (model prog w) A (pyNext (.ref I)) Q E s := by
  obtain ⟨oI, gI, cI, dI⟩ := id hI
  obtain ⟨oS, gS, dS, fit⟩ := id hS
  unfold pyNext
  refine wpAny_bind (wpAny_attempt (wpAny_callSpecial?_slot (name := Str.ofString "__next__") hI.type slot_si_next (wpAny_call_entry slot_si_next hI.type entry_si_next ?_ (args_si_next _))))
  unfold Builtin.«set_iterator.__next__»
  refine wpAny_bind (m := slotArgs _ _ _) (wpAny_pure (wpAny_bind (wpAny_fieldsOf gI dI ?_)))
  dsimp only
  refine wpAny_bind (wpAny_setEntries_of gS dS fit ?_)
  rw [if_neg (by simp)]
  refine wpAny_bind (wpAny_seqItems gT dT ?_)
  dsimp only
  rw [Int.toNat_natCast, Int.toNat_natCast, hp]
  dsimp only
  refine wpAny_bind ?_
  unfold setNextDrawn
  refine wpAny_bind (wpAny_setState_of gS dS fit ?_)
  dsimp only
  rw [if_neg (by simp), Int.toNat_natCast, ex]
  refine wpAny_pure (wpAny_bind (setF gI dI (by simp) fun h1 o1 g1 c1 d1 sb1 => ?_))
  refine wpAny_pure ⟨x, rfl, wpAny_pure (q h1 ⟨o1, g1, c1.trans cI, ?_⟩ sb1)⟩
  rw [d1]
  simp [rawInt]
theorem drawn_none {Q : Option Value → Shared → Prop} {ps : Array Value} {oT : Obj} {m : Nat} (hh : A.handled = none) (hI : ItS s.heap I a (.ref T) i es.size ep) (hS : SSt s.heap a es ep t) (gT : s.heap.get? T = some oT) (dT : oT.data = .seq ps m) (hp : ps[i]? = none)
    (q : ∀ h', (∀ b o, b ≠ I → s.heap.get? b = some o → h'.get? b = some o) → Q none { s with heap := h' }) : wpAny (model prog w) A (pyNext (.ref I)) Q E s := by
  obtain ⟨oI, gI, cI, dI⟩ := id hI
  obtain ⟨oS, gS, dS, fit⟩ := id hS
  unfold pyNext
  refine wpAny_bind (wpAny_attempt (wpAny_callSpecial?_slot (name := Str.ofString "__next__") hI.type slot_si_next (wpAny_call_entry slot_si_next hI.type entry_si_next ?_ (args_si_next _))))
  unfold Builtin.«set_iterator.__next__»
  refine wpAny_bind (m := slotArgs _ _ _) (wpAny_pure (wpAny_bind (wpAny_fieldsOf gI dI ?_)))
  dsimp only
  refine wpAny_bind (wpAny_setEntries_of gS dS fit ?_)
  rw [if_neg (by simp)]
  refine wpAny_bind (wpAny_seqItems gT dT ?_)
  dsimp only
  rw [Int.toNat_natCast, hp]
  dsimp only
  refine wpAny_bind (setF gI dI (by simp) fun h1 o1 g1 c1 d1 sb1 => ?_)
  refine wpAny_bind (setF (s := { s with heap := h1 }) g1 d1 (by simp) fun h2 o2 g2 c2 d2 sb2 => ?_)
  exact stop_ok (s := { s with heap := h2 }) hh fun h3 k3 => q h3 fun b o nb e => k3 b o (by rw [sb2.2 b nb, sb1.2 b nb]; exact e)
end
end StT
set_option maxHeartbeats 3200000
namespace StT
open PySem PyProof.Rows
theorem slot_si_iter : Slot "set_iterator" "__iter__" "set_iterator.__iter__" :=
  .of (owner := "set_iterator") (n := "__iter__") (by rw [typeLookup_type, builtinLookup_eq_fast]; kernel_rfl) (by decide +kernel) (by decide +kernel) (by decide +kernel) (by first | exact .inl (by decide +kernel) | exact .inr (by decide +kernel)) (by rw [isSubtype_type]; kernel_rfl)
theorem entry_si_iter : entryFor table "set_iterator.__iter__" = some Builtin.«dict_keyiterator.__iter__» := entryFor_alias (id' := "dict_keyiterator.__iter__") (by kernel_rfl) rfl (by decide +kernel) (by kernel_rfl)
theorem args_si_iter (a : Value) : argsOk "set_iterator.__iter__" ⟨[a], []⟩ := by unfold argsOk; kernel_rfl
theorem below_is {xs : Array Nat} (h : Up xs) {j m : Nat} (hm : m ≤ xs.size) (h1 : ∀ i a, i < m → xs[i]? = some a → a < j) (h2 : ∀ i a, m ≤ i → xs[i]? = some a → j ≤ a) : SetTable.below xs j = m := by
  obtain ⟨b1, b2, b3⟩ := below_ok h j
  rcases Nat.lt_trichotomy (SetTable.below xs j) m with z | z | z
  · have hl : SetTable.below xs j < xs.size := by exact Nat.le_trans (by assumption) (by assumption)
    have e := Array.getElem?_eq_getElem hl
    have := h1 _ _ z e
    have := b3 _ _ (Nat.le_refl _) e
    omega
  · exact z
  · have hl : m < xs.size := by exact Nat.le_trans (by assumption) (by assumption)
    have e := Array.getElem?_eq_getElem hl
    have := b2 _ _ z e
    have := h2 _ _ (Nat.le_refl _) e
    omega
section
variable {prog : Program} {w : World} {A : Around} {E : Value → Shared → Prop} {s : Shared} {I a T : Addr} {i n ep : Nat} {first : Value} {es : Array (Int × Value)} {t : SetTable}
theorem ItS.at {h h' : Heap} (x : ItS h I a first i n ep) (f : ∀ o, h.get? I = some o → h'.get? I = some o) : ItS h' I a first i n ep := let ⟨o, g, r⟩ := x; ⟨o, f o g, r⟩
theorem SSt.at {h h' : Heap} (x : SSt h a es ep t) (f : ∀ o, h.get? a = some o → h'.get? a = some o) : SSt h' a es ep t := let ⟨o, g, r⟩ := x; ⟨o, f o g, r⟩
theorem sn_led {slot : Nat} {R : Option (Value × Nat) → Shared → Prop} (hS : SSt s.heap a es ep t) (by0 : byT w = false) (dr : (!t.plain && decide (es.size > 1)) = false) (led : t.led = true)
    (q : R (match es[SetTable.below t.place slot]?, t.place[SetTable.below t.place slot]? with | some (_, x), some j => some (x, j + 1) | _, _ => none) s) : wpAny (model prog w) A (setNext a slot i ep) R E s := by
  obtain ⟨oS, gS, dS, fit⟩ := id hS
  unfold setNext
  refine wpAny_bind (wpAny_setState_of gS dS fit ?_)
  dsimp only
  refine wpAny_bind (ask_by ?_)
  rw [by0]
  simp only [Bool.false_eq_true, if_false]
  show wpAny _ _ (if (!t.plain && decide (es.size > 1)) = true then _ else _) _ _ _
  rw [dr]
  simp only [Bool.false_eq_true, if_false]
  refine wpAny_bind ?_
  show wpAny _ _ (if (!t.led && !es.isEmpty) = true then _ else _) _ _ _
  rw [led]
  simp only [Bool.not_true, Bool.false_and, Bool.false_eq_true, if_false]
  exact wpAny_pure (wpAny_pure q)
theorem sn_text {slot : Nat} {R : Option (Value × Nat) → Shared → Prop} (hS : SSt s.heap a es ep t) (by1 : byT w = true)
    (q : R (((pickOrder (w.params.setOrder a ep) es)[i]?).map fun e => (e.2, slot)) s) : wpAny (model prog w) A (setNext a slot i ep) R E s := by
  obtain ⟨oS, gS, dS, fit⟩ := id hS
  unfold setNext
  refine wpAny_bind (wpAny_setState_of gS dS fit ?_)
  dsimp only
  refine wpAny_bind (ask_by ?_)
  rw [by1]
  simp only [if_true]
  rw [if_neg (by simp)]
  refine wpAny_bind ?_
  unfold setWalk
  refine wpAny_bind (wpAny_setState_of gS dS fit ?_)
  dsimp only
  refine wpAny_bind (ask_by ?_)
  rw [by1]
  simp only [if_true]
  exact wpAny_bind (wpAny_askSetting (wpAny_pure (wpAny_pure q)))
theorem self_ok {Q : Value → Shared → Prop} (hI : ItS s.heap I a first i n ep) (q : Q (.ref I) s) : wpAny (model prog w) A (pyIter (.ref I)) Q E s := by
  refine wpAny_pyIter_slot hI.type slot_si_iter (wpAny_call_entry slot_si_iter hI.type entry_si_iter ?_ (args_si_iter _))
  exact wpAny_pure ⟨_, rfl, "set_iterator", _, hI.type, slot_si_next.lookup, q⟩
theorem moved_of {h' : Heap} {wr : List Addr} (k : ∀ b o, b ∉ wr → s.heap.get? b = some o → h'.get? b = some o) : Moved wr (fun a b => b = a) s { s with heap := h' } := ⟨k, rfl, rfl, rfl, Nat.le_refl _⟩
theorem walkC (hh : A.handled = none) (hne : a ≠ I) (ok : TOk t true) (by0 : byT w = false) (dr : (!t.plain && decide (es.size > 1)) = false) :
    WalksS prog w A I [I, a] [I] (fun x y => y = x) es.size (fun i v => (es.toList.map (·.2))[i]? = some v) (fun i s => (∃ slot : Nat, ItS s.heap I a (.int (slot : Int) 0) i es.size ep ∧ SetTable.below t.place slot = i) ∧ SSt s.heap a es ep t) where
  sub := fun b hb => by simp at hb; simp [hb]
  grefl := fun _ => rfl
  gtrans := fun _ _ _ h1 h2 => h2.trans h1
  frame := fun i s h' tk st _ k => ⟨let ⟨sl, x, y⟩ := st.1; ⟨sl, x.at fun o e => k I (by simp) o e, y⟩, st.2.at fun o e => k a (by simp) o e⟩
  item := fun i s Q E hi st q => by
    obtain ⟨⟨slot, hI, bl⟩, hS⟩ := st
    obtain ⟨oS, gS, dS, fit⟩ := id hS
    have fit' : t.place.size = es.size := by
      simp only [SetTable.fits, Bool.and_eq_true, beq_iff_eq] at fit
      exact fit.1
    have ex := Array.getElem?_eq_getElem hi
    generalize es[i] = e at ex
    have ej := Array.getElem?_eq_getElem (xs := t.place) (i := i) (by omega)
    generalize t.place[i]'(by omega) = j at ej
    refine next_some (nx := j + 1) (x := e.2) (first' := .none) hI hS (fun R r => sn_led hS by0 dr ok.led ?_) fun h' hI' sb => ?_
    · rw [bl, ex, ej]; exact r
    · refine q _ _ (by rw [List.getElem?_map, Array.getElem?_toList, ex]; rfl) ⟨⟨j + 1, hI', ?_⟩, hS.at fun o g => by rw [sb.2 a hne]; exact g⟩ (moved_of fun b o nb g => by rw [sb.2 b fun z => nb (z ▸ List.mem_singleton.mpr rfl)]; exact g)
      refine below_is ok.up (by omega) (fun k b hk hb => ?_) fun k b hk hb => ?_
      · rcases Nat.lt_or_eq_of_le (show k ≤ i by omega) with z | z
        · have := ok.up.lt z hb ej; exact Nat.lt_succ_of_lt (by assumption)
        · rw [z, ej] at hb; cases hb; exact Nat.le_refl _
      · have := ok.up.lt (show i < k by assumption) ej hb; assumption
  done := fun s Q E st q => by
    obtain ⟨⟨slot, hI, bl⟩, hS⟩ := st
    refine next_none hh hI hS (fun R r => sn_led hS by0 dr ok.led ?_) fun h' k => q _ (moved_of fun b o nb g => k b o (fun z => nb (z ▸ List.mem_singleton.mpr rfl)) g)
    rw [bl, Array.getElem?_eq_none (Nat.le_refl _)]; exact r
  self := fun i s Q E st q => let ⟨⟨_, hI, _⟩, _⟩ := st; self_ok hI q
theorem walkA (hh : A.handled = none) (hne : a ≠ I) (by1 : byT w = true) :
    WalksS prog w A I [I, a] [I] (fun x y => y = x) es.size (fun i v => ((pickOrder (w.params.setOrder a ep) es).toList.map (·.2))[i]? = some v) (fun i s => ItS s.heap I a (.int ((0 : Nat) : Int) 0) i es.size ep ∧ SSt s.heap a es ep t) where
  sub := fun b hb => by simp at hb; simp [hb]
  grefl := fun _ => rfl
  gtrans := fun _ _ _ h1 h2 => h2.trans h1
  frame := fun i s h' tk st _ k => ⟨st.1.at fun o e => k I (by simp) o e, st.2.at fun o e => k a (by simp) o e⟩
  item := fun i s Q E hi st q => by
    have hl : (pickOrder (w.params.setOrder a ep) es).size = es.size := by rw [← Array.length_toList, (pick_perm _ es).length_eq, Array.length_toList]
    have ex := Array.getElem?_eq_getElem (xs := pickOrder (w.params.setOrder a ep) es) (i := i) (by omega)
    generalize (pickOrder (w.params.setOrder a ep) es)[i]'(by omega) = e at ex
    refine next_some (nx := 0) (x := e.2) (first' := .none) st.1 st.2 (fun R r => sn_text st.2 by1 ?_) fun h' hI' sb => ?_
    · rw [ex]; exact r
    · exact q _ _ (by rw [List.getElem?_map, Array.getElem?_toList, ex]; rfl) ⟨hI', st.2.at fun o g => by rw [sb.2 a hne]; exact g⟩ (moved_of fun b o nb g => by rw [sb.2 b fun z => nb (z ▸ List.mem_singleton.mpr rfl)]; exact g)
  done := fun s Q E st q => by
    have hl : (pickOrder (w.params.setOrder a ep) es).size = es.size := by rw [← Array.length_toList, (pick_perm _ es).length_eq, Array.length_toList]
    refine next_none hh st.1 st.2 (fun R r => sn_text st.2 by1 ?_) fun h' k => q _ (moved_of fun b o nb g => k b o (fun z => nb (z ▸ List.mem_singleton.mpr rfl)) g)
    rw [Array.getElem?_eq_none (by exact Nat.le_of_eq (by assumption))]; exact r
  self := fun i s Q E st q => self_ok st.1 q
theorem walkB {ps : List Nat} {m : Nat} (hh : A.handled = none) (hne : a ≠ I) (hT : T ≠ I) (hp : ps.Perm (List.range es.size)) :
    WalksS prog w A I [I, a, T] [I] (fun x y => y = x) es.size (fun i v => (ps.filterMap fun p => (es[p]?).map (·.2))[i]? = some v) (fun i s => ItS s.heap I a (.ref T) i es.size ep ∧ SSt s.heap a es ep t ∧ ∃ o, s.heap.get? T = some o ∧ o.data = .seq (ps.map fun (p : Nat) => Value.int (p : Int) 0).toArray m) where
  sub := fun b hb => by simp at hb; simp [hb]
  grefl := fun _ => rfl
  gtrans := fun _ _ _ h1 h2 => h2.trans h1
  frame := fun i s h' tk st _ k => ⟨st.1.at fun o e => k I (by simp) o e, st.2.1.at fun o e => k a (by simp) o e, let ⟨o, g, d⟩ := st.2.2; ⟨o, k T (by simp) o g, d⟩⟩
  item := fun i s Q E hi st q => by
    obtain ⟨hI, hS, o, g, d⟩ := st
    have hl : ps.length = es.size := by rw [hp.length_eq, List.length_range]
    have ep' := List.getElem?_eq_getElem (l := ps) (i := i) (by omega)
    generalize ps[i]'(by omega) = p at ep'
    have pN : p < es.size := List.mem_range.mp (hp.mem_iff.mp (List.mem_of_getElem? ep'))
    have ex := Array.getElem?_eq_getElem pN
    generalize es[p] = e at ex
    have all : ∀ {l : List Nat}, (∀ x ∈ l, x < es.size) → ∀ (i p : Nat) (e : Int × Value), l[i]? = some p → es[p]? = some e → (l.filterMap fun p => (es[p]?).map (·.2))[i]? = some e.2 := by
      intro l
      induction l with
      | nil => intro _ i p e h; simp at h
      | cons x l ih =>
        intro hl i p e h he
        have hx := Array.getElem?_eq_getElem (hl x (List.mem_cons_self ..))
        rw [List.filterMap_cons, hx]
        cases i with
        | zero =>
          simp only [List.getElem?_cons_zero, Option.some.injEq] at h
          subst h
          rw [he] at hx
          cases hx
          rfl
        | succ i =>
          simp only [List.getElem?_cons_succ] at h
          exact ih (fun y hy => hl y (List.mem_cons_of_mem _ hy)) i p e h he
    refine drawn_some (p := p) (u := 0) (hx := e.1) (x := e.2) hI hS g d (by rw [List.getElem?_toArray, List.getElem?_map, ep']; rfl) ex fun h' hI' sb => ?_
    exact q _ _ (all (fun x hx => List.mem_range.mp (hp.mem_iff.mp hx)) i p e ep' ex) ⟨hI', hS.at fun o g => by rw [sb.2 a hne]; exact g, o, by rw [sb.2 T hT]; exact g, d⟩ (moved_of fun b o nb g => by rw [sb.2 b fun z => nb (z ▸ List.mem_singleton.mpr rfl)]; exact g)
  done := fun s Q E st q => by
    obtain ⟨hI, hS, o, g, d⟩ := st
    have hl : ps.length = es.size := by rw [hp.length_eq, List.length_range]
    exact drawn_none hh hI hS g d (by rw [List.getElem?_toArray, List.getElem?_eq_none (by rw [List.length_map]; exact Nat.le_of_eq (by assumption))]) fun h' k => q _ (moved_of fun b o nb g => k b o (fun z => nb (z ▸ List.mem_singleton.mpr rfl)) g)
  self := fun i s Q E st q => self_ok st.1 q
end
end StT
set_option maxHeartbeats 3200000
namespace StT
open PySem PyProof.Rows
section
variable {prog : Program} {w : World} {A : Around} {E : Value → Shared → Prop} {s : Shared} {a : Addr} {ep : Nat} {es : Array (Int × Value)} {t : SetTable}
def WOut (prog : Program) (w : World) (s s2 : Shared) (a I : Addr) (ys : List Value) : Prop := ∃ (fp : List Addr) (St : Nat → Shared → Prop), (∀ B : Around, B.handled = none → WalksS prog w B I fp [I] (fun x y => y = x) ys.length (fun i v => ys[i]? = some v) St) ∧ St 0 s2 ∧ (∀ b ∈ fp, b = a ∨ s.heap.objs.size ≤ b) ∧ s.heap.objs.size ≤ I ∧ (∀ b o, s.heap.get? b = some o → s2.heap.get? b = some o) ∧ s2.gens = s.gens ∧ s2.os = s.os ∧ s2.toks = s.toks
theorem iter_set {Q : Value → Shared → Prop} (hT : s.TypeIs (.ref a) "set") (hS : SSt s.heap a es ep t) (ok : TOk t (!byT w)) (hz : es.size < scanBound)
    (q : ∀ (I : Addr) (s2 : Shared) (ys : List Value), ys.Perm (es.toList.map (·.2)) → WOut prog w s s2 a I ys → Q (.ref I) s2) : wpAny (model prog w) A (pyIter (.ref a)) Q E s := by
  obtain ⟨oS, gS, dS, fit⟩ := id hS
  have la : a < s.heap.objs.size := Heap.lt_size gS
  refine wpAny_pyIter_slot hT F.slot_set_iter (wpAny_call_entry F.slot_set_iter hT entry_s_iter ?_ (F.args_set_iter_1 _))
  unfold Builtin.«frozenset.__iter__» Builtin.Frozenset.slot0 slotArgs
  simp only [List.isEmpty_nil, Bool.not_true, Bool.false_eq_true, ↓reduceIte, bind_assoc, List.length_nil, bne_self_eq_false]
  unfold Builtin.Frozenset.addrOf Builtin.Frozenset.sizeOf
  refine wpAny_bind (wpAny_pure ?_)
  dsimp only
  refine wpAny_bind (wpAny_pure ?_)
  refine wpAny_bind (wpAny_bind (wpAny_setEntries_of gS dS fit (wpAny_pure ?_)))
  unfold setDrawn
  refine wpAny_bind (wpAny_bind (wpAny_setState_of gS dS fit ?_))
  dsimp only
  refine wpAny_bind (ask_by (wpAny_pure ?_))
  show wpAny _ _ (if (!byT w && (!t.plain && decide (es.size > 1))) = true then _ else _) _ _ _
  have zl : es.size ≤ sizeLine := fits_of_scanBound hz
  by_cases c : (!byT w && (!t.plain && decide (es.size > 1))) = true
  · rw [if_pos c]
    refine wpAny_bind (draw_perm es.size (List.range es.size) s _ (by simp) fun ps d pm => ?_)
    have pl : ps.length = es.size := by rw [pm.length_eq, List.length_range]
    simp only [newTuple, newFields]
    refine wpAny_bind (wpAny_newObj_type ?_ (by show (ps.map _).toArray.size ≤ _; rw [List.size_toArray, List.length_map]; omega))
    refine wpAny_bind (wpAny_setEpoch_of (Heap.get?_push_of_some _ gS) dS fit ?_)
    refine wpAny_bind (wpAny_newObj_type (wpAny_pure ⟨_, rfl, "set_iterator", _, ⟨_, Heap.get?_push_size _ rfl, rfl⟩, slot_si_next.lookup, ?_⟩))
    have hl : (ps.filterMap fun p => (es[p]?).map (·.2)).Perm (es.toList.map (·.2)) := by
      have e1 := pm.filterMap fun p => (es[p]?).map (·.2)
      refine e1.trans (List.Perm.of_eq ?_)
      refine List.ext_getElem? fun k => ?_
      have key : ∀ m, m ≤ es.size → ((List.range m).filterMap fun p => (es[p]?).map (·.2)) = (es.toList.take m).map (·.2) := by
        intro m
        induction m with
        | zero => intro _; simp
        | succ m ih =>
          intro hm
          have ex := Array.getElem?_eq_getElem (xs := es) (i := m) (by assumption)
          rw [List.range_succ, List.filterMap_append, ih (by exact Nat.le_of_lt (by assumption)), List.take_add_one, List.map_append, Array.getElem?_toList, ex]
          simp [ex]
      rw [key es.size (Nat.le_refl _), List.take_of_length_le (by simp)]
    have hlen : (ps.filterMap fun p => (es[p]?).map (·.2)).length = es.size := by rw [hl.length_eq, List.length_map, Array.length_toList]
    refine q _ _ (ps.filterMap fun p => (es[p]?).map (·.2)) hl ⟨[(s.heap.push { cls := .type "tuple", data := .seq (ps.map fun (i : Nat) => rawInt (i : Int)).toArray }).objs.size, a, s.heap.objs.size], fun i s' => ItS s'.heap (s.heap.push { cls := .type "tuple", data := .seq (ps.map fun (i : Nat) => rawInt (i : Int)).toArray }).objs.size a (.ref s.heap.objs.size) i es.size ep ∧ SSt s'.heap a es ep t ∧ ∃ o, s'.heap.get? s.heap.objs.size = some o ∧ o.data = .seq (ps.map fun (p : Nat) => Value.int (p : Int) 0).toArray 0, fun B hB => ?_, ?_, ?_, ?_, ?_, rfl, rfl, rfl⟩
    · rw [hlen]
      refine walkB hB ?_ ?_ pm
      · rw [Heap.size_push]; exact Nat.ne_of_lt (Nat.lt_succ_of_lt la)
      · rw [Heap.size_push]; exact Nat.ne_of_lt (Nat.lt_succ_self _)
    · exact ⟨⟨_, Heap.get?_push_size _ rfl, rfl, rfl⟩, ⟨oS, Heap.get?_push_of_some _ (Heap.get?_push_of_some _ gS), dS, fit⟩, _, Heap.get?_push_of_some _ (Heap.get?_push_size _ rfl), rfl⟩
    · intro b hb
      simp only [List.mem_cons, List.not_mem_nil, or_false] at hb
      rcases hb with rfl | rfl | rfl
      · rw [Heap.size_push]; exact .inr (Nat.le_succ _)
      · exact .inl rfl
      · exact .inr (Nat.le_refl _)
    · rw [Heap.size_push]; exact Nat.le_succ _
    · exact fun b o e => Heap.get?_push_of_some _ (Heap.get?_push_of_some _ e)
  · rw [if_neg c]
    refine wpAny_bind (wpAny_pure ?_)
    refine wpAny_bind (wpAny_setEpoch_of gS dS fit ?_)
    simp only [newFields]
    refine wpAny_bind (wpAny_newObj_type (wpAny_pure ⟨_, rfl, "set_iterator", _, ⟨_, Heap.get?_push_size _ rfl, rfl⟩, slot_si_next.lookup, ?_⟩))
    have nI : a ≠ s.heap.objs.size := Nat.ne_of_lt la
    have fpo : ∀ b ∈ [s.heap.objs.size, a], b = a ∨ s.heap.objs.size ≤ b := fun b hb => by
      simp only [List.mem_cons, List.not_mem_nil, or_false] at hb
      rcases hb with rfl | rfl
      · exact .inr (Nat.le_refl _)
      · exact .inl rfl
    cases hb : byT w with
    | true =>
      have hl := (pick_perm (w.params.setOrder a ep) es).map (·.2)
      have hlen : ((pickOrder (w.params.setOrder a ep) es).toList.map (·.2)).length = es.size := by rw [hl.length_eq, List.length_map, Array.length_toList]
      refine q _ _ ((pickOrder (w.params.setOrder a ep) es).toList.map (·.2)) hl ⟨[s.heap.objs.size, a], fun i s' => ItS s'.heap s.heap.objs.size a (.int ((0 : Nat) : Int) 0) i es.size ep ∧ SSt s'.heap a es ep t, fun B hB => ?_, ⟨⟨_, Heap.get?_push_size _ rfl, rfl, rfl⟩, ⟨oS, Heap.get?_push_of_some _ gS, dS, fit⟩⟩, fpo, Nat.le_refl _, fun b o e => Heap.get?_push_of_some _ e, rfl, rfl, rfl⟩
      rw [hlen]
      exact walkA hB nI hb
    | false =>
      rw [hb] at c ok
      have dr : (!t.plain && decide (es.size > 1)) = false := by simpa using c
      have hlen : (es.toList.map (·.2)).length = es.size := by rw [List.length_map, Array.length_toList]
      refine q _ _ (es.toList.map (·.2)) (.refl _) ⟨[s.heap.objs.size, a], fun i s' => (∃ slot : Nat, ItS s'.heap s.heap.objs.size a (.int (slot : Int) 0) i es.size ep ∧ SetTable.below t.place slot = i) ∧ SSt s'.heap a es ep t, fun B hB => ?_, ⟨⟨0, ⟨_, Heap.get?_push_size _ rfl, rfl, rfl⟩, below_is ok.up (Nat.zero_le _) (fun i a h => absurd h (Nat.not_lt_zero _)) fun i a _ _ => Nat.zero_le _⟩, ⟨oS, Heap.get?_push_of_some _ gS, dS, fit⟩⟩, fpo, Nat.le_refl _, fun b o e => Heap.get?_push_of_some _ e, rfl, rfl, rfl⟩
      rw [hlen]
      exact walkC hB nI ok hb dr
end
end StT
set_option maxHeartbeats 3200000
namespace StT
open PySem PyProof.Rows
section
variable {prog : Program} {w : World} {A : Around} {E : Value → Shared → Prop} {s : Shared} {a : Addr} {ep : Nat} {es : Array (Int × Value)} {t : SetTable}
theorem collect_set {Q : List Value → Shared → Prop} (hh : A.handled = none) (hT : s.TypeIs (.ref a) "set") (hS : SSt s.heap a es ep t) (ok : TOk t (!byT w)) (hz : es.size < scanBound)
    (q : ∀ (ys : List Value) (s' : Shared), ys.Perm (es.toList.map (·.2)) → (∀ b o, s.heap.get? b = some o → s'.heap.get? b = some o) → s'.gens = s.gens → s'.os = s.os → Q ys s') : wpAny (model prog w) A (collect (.ref a)) Q E s := by
  obtain ⟨oS, gS, dS, fit⟩ := id hS
  have la : a < s.heap.objs.size := Heap.lt_size gS
  unfold collect
  refine wpAny_bind (wpAny_runValue (codeAny_builtin F.entry_proto_collect ?_))
  rw [Around.under_plainId F.plain_proto_collect _]
  refine wpAny_bind (m := newList []) (wpAny_newObj_type ?_)
  refine wpAny_pure ⟨plainId_quiet F.plain_list_iadd _, codeAny_builtin F.entry_list_iadd ?_⟩
  rw [Around.under_plainId F.plain_list_iadd _]
  obtain ⟨h1, eh1⟩ : ∃ h1, h1 = s.heap.push { cls := .type "list", data := .seq ([] : List Value).toArray } := ⟨_, rfl⟩
  have g1 : h1.get? s.heap.objs.size = some { cls := .type "list", data := .seq ([] : List Value).toArray } := by rw [eh1]; exact Heap.get?_push_size _ rfl
  have k1 : ∀ b o, s.heap.get? b = some o → h1.get? b = some o := fun b o e => by rw [eh1]; exact Heap.get?_push_of_some _ e
  have z1 : h1.objs.size = s.heap.objs.size + 1 := by rw [eh1, Heap.size_push]
  show wpAny _ A.in1 (Builtin.List.listExtendWith (.ref s.heap.objs.size) (.ref a) (.ref s.heap.objs.size)) _ _ { s with heap := s.heap.push { cls := .type "list", data := .seq ([] : List Value).toArray } }
  rw [← eh1]
  have T1 : Shared.TypeIs { s with heap := h1 } (.ref a) "set" := by
    obtain ⟨o, x, y⟩ := hT
    exact ⟨o, k1 _ _ x, y⟩
  unfold Builtin.List.listExtendWith
  refine wpAny_bind (wpAny_typeOf T1 ?_)
  have n1 : Builtin.List.listSameRef (.ref s.heap.objs.size) (.ref a) = false := by
    simp only [Builtin.List.listSameRef, beq_eq_false_iff_ne]
    exact Nat.ne_of_gt la
  have n2 : (Value.type "set" == Value.type "list") = false := by decide
  have n3 : (Value.type "set" == Value.type "tuple") = false := by decide
  simp only [n1, n2, n3, Bool.or_false, Bool.false_eq_true, if_false]
  refine wpAny_bind (iter_set (s := { s with heap := h1 }) T1 (hS.at fun o e => k1 _ _ e) ok hz fun I s2 ys pm W => ?_)
  obtain ⟨fp, St, wk, st0, fpo, Ige, k2, e1, e2, e3⟩ := W
  have T2 : s2.TypeIs (.ref a) "set" := by
    obtain ⟨o, x, y⟩ := T1
    exact ⟨o, k2 _ _ x, y⟩
  refine wpAny_bind (wpAny_holding ?_)
  unfold Builtin.List.listLengthHint
  refine wpAny_bind (wpAny_specialOf T2 F.slot_set_len.lookup ?_)
  generalize hid : ("set.__len__" : String) = id0
  dsimp only
  rw [show splitId id0 = some ("set", "__len__") from by subst hid; decide +kernel]
  dsimp only
  refine wpAny_bind (wpAny_isInstance (b := true) T2 (by rw [isSubtype_type]; kernel_rfl) ?_)
  simp only [Bool.not_true, Bool.false_eq_true, if_false]
  subst hid
  rw [if_pos (by decide +kernel)]
  refine wpAny_bind (wpAny_typeOf T2 (wpAny_pure ?_))
  rw [if_pos (by decide +kernel)]
  refine wpAny_bind (wpAny_rule ?_)
  have g2 := k2 _ _ g1
  have nL : s.heap.objs.size ∉ fp := fun z => by
    rcases fpo _ z with x | x
    · exact absurd x (Nat.ne_of_gt la)
    · rw [z1] at x; exact absurd x (Nat.not_succ_le_self _)
  have nI : s.heap.objs.size ≠ I := fun z => by
    rw [z1, ← z] at Ige
    exact absurd Ige (Nat.not_succ_le_self _)
  refine wpAny_bind ?_
  unfold Builtin.List.listTouch
  refine wpAny_bind (m := updateSeq s.heap.objs.size (·.push .none)) (wpAny_updateSeq g2 rfl ?_)
  have g3 := Heap.get?_update_self (Obj.mapSeq (·.push Value.none)) g2 rfl
  refine wpAny_updateSeq g3 rfl ?_
  have g4 := Heap.get?_update_self (Obj.mapSeq (·.pop)) g3 rfl
  have oth : ∀ b o, b ≠ s.heap.objs.size → s2.heap.get? b = some o → ((s2.heap.update s.heap.objs.size (Obj.mapSeq (·.push Value.none))).update s.heap.objs.size (Obj.mapSeq (·.pop))).get? b = some o := fun b o nb e => by
    rw [Heap.get?_update_other _ _ (Ne.symm nb), Heap.get?_update_other _ _ (Ne.symm nb)]; exact e
  have hB : A.in1.handled = none := by simp [hh]
  have W := wk A.in1 hB
  have ylen : ys.length = es.size := by rw [pm.length_eq, List.length_map, Array.length_toList]
  have yz : ys.length ≤ sizeLine := by rw [ylen]; exact fits_of_scanBound hz
  refine wpAny_pure ⟨plainId_quiet F.plain_extend_loop _, codeAny_extend_loopS W yz s.heap.objs.size nL _ ys.length 0 _ _ _ rfl (Nat.zero_le _) (W.frame 0 s2 _ s2.toks st0 (Nat.le_refl _) fun b hb o e => oth b o (fun z => nL (z ▸ hb)) e) g4 (ItemsOf.nil _) fun s3 acc c mv g5 it => ?_⟩
  refine wpAny_bind (wpAny_load g5 (wpAny_pure ?_))
  have ea : acc.toList = ys := by
    refine List.ext_getElem? fun k => ?_
    rw [Array.getElem?_toList]
    by_cases hk : k < acc.size
    · have e := Array.getElem?_eq_getElem hk
      rw [e]
      exact (it.2 k _ e).symm
    · rw [Array.getElem?_eq_none (by exact Nat.not_lt.mp (by assumption)), List.getElem?_eq_none (by have := it.1; omega)]
  rw [ea]
  refine q ys s3 pm (fun b o e => ?_) ((mv.gens).trans e1) (mv.os.trans e2)
  have lb : b < s.heap.objs.size := Heap.lt_size e
  refine mv.heap b o ?_ (oth b o (Nat.ne_of_lt lb) (k2 _ _ (k1 _ _ e)))
  simp only [List.mem_cons, List.not_mem_nil, or_false, not_or]
  refine ⟨Nat.ne_of_lt lb, fun z => ?_⟩
  rw [z1, ← z] at Ige
  exact absurd (Nat.lt_of_lt_of_le (Nat.lt_succ_of_lt lb) Ige) (Nat.lt_irrefl _)
end
end StT
set_option maxHeartbeats 3200000
namespace Srt
open PySem PySem.W PyProof.Rows
section
variable {prog : Program} {w : World} {A : Around} {E : Value → Shared → Prop} {s : Shared}
theorem sorted_any {κ : SortKind} {lt : List Value → Nat → Nat → Bool} (O : ∀ vs, Ord (lt vs)) {v : Value} (I : List Value → Prop) {Q : Value → Shared → Prop} (h64 : ∀ vs, I vs → vs.length < 64)
    (hcol : ∀ (Q : List Value → Shared → Prop), (∀ (vs : List Value) (s1 : Shared), I vs → (∀ b o, s.heap.get? b = some o → s1.heap.get? b = some o) → s1.gens = s.gens → s1.os = s.os → Q vs s1) → wpAny (model prog w) A.in1 (collect v) Q E s)
    (hk : ∀ (vs : List Value) (s1 : Shared), I vs → 2 ≤ vs.length → ∀ Q : SortKind → Shared → Prop, Q κ s1 → wpAny (model prog w) A.in1.in1 (keyKind' vs.toArray) Q E s1)
    (hc : ∀ (vs : List Value) (s1 : Shared), I vs → ∀ i j (C : Bool → Shared → Prop), i < vs.length → j < vs.length → C (lt vs i j) s1 → kas_ask prog w A.in1.in1 κ vs i j C s1)
    (h : ∀ (vs : List Value) (p : Array Nat) (s1 : Shared) (h' : Heap) (l e : Nat), I vs → Pm vs.length p → Sto (lt vs) p vs.length → (∀ b o, s.heap.get? b = some o → s1.heap.get? b = some o) → s1.gens = s.gens → s1.os = s.os → (∀ b o, s1.heap.get? b = some o → h'.get? b = some o) → s1.heap.objs.size ≤ l → h'.get? l = some (seqObj "list" (p.toList.map fun i => vs.getD i Value.none).toArray e) → Q (.ref l) { s1 with heap := h' }) :
    wpAny (model prog w) A (call (.builtin "sorted") [v]) Q E s := by
  refine Calls.call_function_entry kind_sorted plain_sorted entry_sorted (args_sorted1 _) ?_
  unfold Builtin.«sorted»
  refine wpAny_bind (m := checkCount "sorted" 1 1 _) (wpAny_pure ?_)
  refine wpAny_bind (hcol _ fun vs s1 hI k1 eg eo => ?_)
  have h64 := h64 vs hI
  refine wpAny_bind (wpAny_newList ?_ (by rw [sizeLine_eq]; omega))
  have hoL : (s1.heap.push (seqObj "list" vs.toArray 0)).get? s1.heap.objs.size = some (seqObj "list" vs.toArray 0) := Heap.get?_push_size _ rfl
  show wpAny _ _ _ _ _ { s1 with heap := s1.heap.push (seqObj "list" vs.toArray 0) }
  have k3 : ∀ b o, s1.heap.get? b = some o → b ≠ s1.heap.objs.size ∧ (s1.heap.push (seqObj "list" vs.toArray 0)).get? b = some o := fun b o q =>
    ⟨Nat.ne_of_lt (Heap.lt_size q), Heap.get?_push_of_some _ q⟩
  refine wpAny_bind (wpAny_holding (wpAny_call_entry slot_list_sort ⟨_, hoL, rfl⟩ entry_list_sort (list_sort_raw (s := { s1 with heap := s1.heap.push (seqObj "list" vs.toArray 0) }) (κ := κ) (O vs) hoL h64 (fun h' k l2 Q q => ?_) (fun h' k i j C hi hj q => ?_) fun p hp hs => ⟨_, rfl, ?_⟩) (args_list_sort _)))
  · exact hk vs { s1 with heap := h' } hI l2 Q q
  · exact hc vs { s1 with heap := h' } hI i j C hi hj q
  · refine wpAny_pure ⟨_, rfl, ?_⟩
    obtain ⟨e, he⟩ : ∃ e, (sortedHeap (s1.heap.push (seqObj "list" vs.toArray 0)) s1.heap.objs.size vs (p.toList.map fun i => vs.getD i Value.none).toArray).get? s1.heap.objs.size = some (seqObj "list" (p.toList.map fun i => vs.getD i Value.none).toArray e) := by
      unfold sortedHeap
      obtain ⟨e1, ho1⟩ : ∃ e1, ((s1.heap.push (seqObj "list" vs.toArray 0)).update s1.heap.objs.size (Obj.mapSeq fun _ => #[])).get? s1.heap.objs.size = some (seqObj "list" #[] e1) := ⟨_, get?_update_seq hoL (fun _ => #[])⟩
      have ho6 : ((((s1.heap.push (seqObj "list" vs.toArray 0)).update s1.heap.objs.size (Obj.mapSeq fun _ => #[])).push (seqObj "tuple" vs.toArray 0)).push (seqObj "list" #[] 0)).get? s1.heap.objs.size = some (seqObj "list" #[] e1) := Heap.get?_push_of_some _ (Heap.get?_push_of_some _ ho1)
      exact ⟨_, get?_update_seq ho6 fun _ => _⟩
    refine h vs p s1 _ s1.heap.objs.size e hI hp hs k1 eg eo (fun b o q => ?_) (Nat.le_refl _) he
    have q2 := k3 b o q
    unfold sortedHeap
    rw [Heap.get?_update_ne _ _ _ _ q2.1]
    refine Heap.get?_push_of_some _ (Heap.get?_push_of_some _ ?_)
    rw [Heap.get?_update_ne _ _ _ _ q2.1]
    exact q2.2
end
end Srt
namespace StT
open PySem PyProof.Rows L2
theorem Inv.any {X : Cx} {pins : List (Addr × Obj)} {σ : L2.St} {H : Hp} {s s' : Shared} (I : L2.Inv X pins σ H s) (k : ∀ b o, s.heap.get? b = some o → s'.heap.get? b = some o) (hg : s'.gens = s.gens) (ho : s'.os = s.os) : L2.Inv X pins σ H s' := by
  have J := I.kept (t' := s'.toks) k
  exact ⟨J.ok, by rw [ho]; exact J.os, by rw [hg]; exact J.bare, J.base, J.loc, J.cell, J.free, J.freeC, J.pin, J.hok, J.len⟩
theorem ints_of {prog : Program} {w : World} : ∀ {l : List (Int × Value)}, ElemsOf (intKind prog w) l → Dis (intKind prog w) l → ∃ ks : List Int, Vals (ks.map V.int) (l.map (·.2)) ∧ ks.Nodup ∧ ∀ k, k ∈ ks ↔ ∃ e ∈ l, (intKind prog w).is k e.2 = true
  | [], _, _ => ⟨[], .nil, List.nodup_nil, fun k => by simp⟩
  | e :: l, h, d => by
    obtain ⟨ks, v, nd, mem⟩ := ints_of (l := l) (fun x hx => h x (List.mem_cons_of_mem _ hx)) (List.Pairwise.tail d)
    obtain ⟨⟨k, hk, _⟩, _⟩ := h e (List.mem_cons_self ..)
    obtain ⟨t, et⟩ := Value.isInt_shape hk
    refine ⟨k :: ks, .cons ⟨t, et⟩ v, List.nodup_cons.mpr ⟨fun hm => ?_, nd⟩, fun k' => ?_⟩
    · obtain ⟨e', he', z⟩ := (mem k).mp hm
      exact List.rel_of_pairwise_cons d he' k ⟨hk, z⟩
    · rw [List.mem_cons, mem k']
      constructor
      · rintro (rfl | ⟨e', he', z⟩)
        · exact ⟨e, List.mem_cons_self .., hk⟩
        · exact ⟨e', List.mem_cons_of_mem _ he', z⟩
      · rintro ⟨e', he', z⟩
        rcases List.mem_cons.mp he' with rfl | he'
        · exact .inl ((intKind prog w).inj e'.2 k' k z hk)
        · exact .inr ⟨e', he', z⟩
theorem vals_perm {ks : List Int} {us vs : List Value} (v : Vals (ks.map V.int) us) (p : vs.Perm us) : ∃ ks' : List Int, Vals (ks'.map V.int) vs ∧ ks'.Perm ks := by
  induction p generalizing ks with
  | nil => cases ks with
    | nil => exact ⟨[], .nil, .refl _⟩
    | cons _ _ => cases v
  | cons x p ih =>
    cases ks with
    | nil => cases v
    | cons k ks =>
      cases v with
      | cons r t =>
        obtain ⟨ks', v', p'⟩ := ih t
        exact ⟨k :: ks', .cons r v', p'.cons k⟩
  | swap x y l =>
    cases ks with
    | nil => cases v
    | cons k ks =>
      cases v with
      | cons r t =>
        cases ks with
        | nil => cases t
        | cons k2 ks =>
          cases t with
          | cons r2 t2 => exact ⟨k2 :: k :: ks, .cons r2 (.cons r t2), .swap _ _ _⟩
  | trans p1 p2 ih1 ih2 =>
    obtain ⟨k1, v1, q1⟩ := ih2 v
    obtain ⟨k2, v2, q2⟩ := ih1 v1
    exact ⟨k2, v2, q2.trans q1⟩
end StT
set_option maxHeartbeats 3200000
namespace StT
open PySem PySem.W PyProof.Rows L2 Srt
def kOf : Value → Key
  | .int k _ => .inl k
  | .str x _ => .inr x
  | _ => .inl 0
theorem vals_k {ks : List Int} {vs : List Value} (v : Vals (ks.map V.int) vs) {i : Nat} (hi : i < ks.length) : ∃ t, vs.getD i Value.none = .int (ks.getD i 0) t := by
  obtain ⟨a, ha, t, rfl⟩ := Vals.get v (i := i) (x := V.int (ks.getD i 0)) (by simp [hi])
  exact ⟨t, by simp [List.getD, ha]⟩
theorem sorted_set {X : Cx} {pins : List (Addr × Obj)} {σ : L2.St} {H : Hp} {s : Shared} {Q : VK} (I : L2.Inv X pins σ H s) (hh : X.A.handled = none) {s2 : Shared} (k0 : ∀ b o, s.heap.get? b = some o → s2.heap.get? b = some o) (hg : s2.gens = s.gens) (hos : s2.os = s.os) {a : Addr} {S : Int → Bool} {n : Nat} (u : SetU (intKind X.prog X.w) s2.heap a S n (!byT X.w)) (n64 : n < 64)
    (q : ∀ (l : Addr) (ms : List Int), H l = none → ms.Pairwise (· < ·) → (∀ x, x ∈ ms ↔ S x = true) → Q (.ref l) (upd H l (.lst (ms.map V.int)))) : wpAny (model X.prog X.w) X.A (call (.builtin "sorted") [.ref a]) (L2.EP X pins σ Q) X.xe s2 := by
  obtain ⟨o, es, ep, t, ho, hex, hd, el, mem, sz, fit, hn, ok, dis⟩ := u
  obtain ⟨ks, kv, knd, kmem⟩ := ints_of el dis
  have kl : ks.length = n := by
    have e1 : ks.length = es.size := by
      have := kv.length
      simp only [List.length_map, Array.length_toList] at this
      assumption
    omega
  refine sorted_any (κ := oneType') (lt := fun vs i j => ltR [kOf (vs.getD i Value.none)] [kOf (vs.getD j Value.none)]) (fun vs => ord_rows fun i => [kOf (vs.getD i Value.none)]) (fun vs => ∃ ks' : List Int, Vals (ks'.map V.int) vs ∧ ks'.Perm ks) (fun vs ⟨ks', v, p⟩ => ?_) (fun Q hq => ?_) (fun vs s1 ⟨ks', v, p⟩ l2 Q hq => ?_) (fun vs s1 ⟨ks', v, p⟩ i j C hi hj hC => ?_) fun vs pp s1 h' l e ⟨ks', v, p⟩ pm st k1 eg eo k2 zl hl => ?_
  · have := v.length
    rw [List.length_map, p.length_eq] at this
    omega
  · refine collect_set (ep := ep) (es := es) (t := t) (by simp [hh]) ⟨o, ho, hex.1⟩ ⟨o, ho, hd, fit⟩ ok sz fun ys s' pm k eg eo => ?_
    obtain ⟨ks', v', p'⟩ := vals_perm kv pm
    exact hq ys s' ⟨ks', v', p'⟩ k eg eo
  · refine kas_kind (s := s1) (T := Value.type "int") l2 (fun x hx => ?_) rfl rfl hq
    clear hq l2 p
    have : ∀ {ns : List Int} {us : List Value}, Vals (ns.map V.int) us → ∀ v ∈ us, ∃ x t, v = Value.int x t := by
      intro ns
      induction ns with
      | nil => intro us hu v hv; cases hu; cases hv
      | cons n ns ih =>
        intro us hu v hv
        cases hu with
        | cons r t =>
          rcases List.mem_cons.mp hv with rfl | hv
          · obtain ⟨t, rfl⟩ := r; exact ⟨_, _, rfl⟩
          · exact ih t v hv
    obtain ⟨y, t, rfl⟩ := this v x hx
    exact Looks.of_pure rfl
  · have lv := v.length
    rw [List.length_map] at lv
    obtain ⟨t1, e1⟩ := vals_k v (i := i) (by omega)
    obtain ⟨t2, e2⟩ := vals_k v (i := j) (by omega)
    show wpAny _ _ (keyLt' oneType' (vs.getD i Value.none) (vs.getD j Value.none)) C _ _
    rw [e1, e2] at hC ⊢
    rw [keyLt'_oneType]
    refine key_lt (x := Sum.inl (ks'.getD i 0)) (y := Sum.inl (ks'.getD j 0)) rfl ⟨t1, rfl⟩ ⟨t2, rfl⟩ ?_
    have : ltR [Sum.inl (ks'.getD i 0)] [Sum.inl (ks'.getD j 0)] = ltK (Sum.inl (ks'.getD i 0)) (Sum.inl (ks'.getD j 0)) := by
      unfold ltR
      split
      · rename_i e; rw [e, ltK_irr]; rfl
      · rfl
    rw [← this]; exact hC
  · have lv := v.length
    rw [List.length_map] at lv
    have J : L2.Inv X pins σ H s1 := Inv.any I (fun b o z => k1 _ _ (k0 _ _ z)) (eg.trans hg) (eo.trans hos)
    rw [← lv] at pm st
    have pl := pm.toList
    have mem' : ∀ i ∈ pp.toList, i < ks'.length := fun i hi => by simpa using pl.mem_iff.mp hi
    have ppm : (pp.toList.map fun i => ks'.getD i 0).Perm ks' := by
      have := pl.map (fun i => ks'.getD i (0 : Int))
      rwa [map_range_getD] at this
    have nd : (pp.toList.map fun i => ks'.getD i 0).Nodup := (ppm.trans p).nodup_iff.mpr knd
    have pw : (pp.toList.map fun i => ks'.getD i (0 : Int)).Pairwise (· < ·) := by
      have le : (pp.toList.map fun i => ks'.getD i (0 : Int)).Pairwise (· ≤ ·) := by
        rw [List.pairwise_map]
        refine List.Pairwise.imp_of_mem ?_ (st.pairwise pm.size)
        intro x y hx hy hab
        obtain ⟨t1, e1⟩ := vals_k v (mem' x hx)
        obtain ⟨t2, e2⟩ := vals_k v (mem' y hy)
        rw [e1, e2] at hab
        unfold ltR at hab
        split at hab
        · rename_i e; injection e with e; omega
        · have hab : decide (ks'.getD y 0 < ks'.getD x 0) = false := hab
          rw [decide_eq_false_iff_not] at hab
          exact Int.not_lt.mp (by assumption)
      refine List.Pairwise.imp₂ (fun a b h1 h2 => ?_) le nd
      have : a ≠ b := h2
      omega
    have vv : Vals ((pp.toList.map fun i => ks'.getD i 0).map V.int) (pp.toList.map fun i => vs.getD i Value.none) := by
      clear hl pw ppm pl st pm nd
      generalize pp.toList = il at mem'
      induction il with
      | nil => exact .nil
      | cons i il ih =>
        refine .cons ?_ (ih fun j hj => mem' j (.tail _ hj))
        obtain ⟨t1, e1⟩ := vals_k v (mem' i (.head _))
        exact ⟨t1, e1⟩
    refine ⟨.ref l, _, J.laid (t' := s1.toks) (o := .lst ((pp.toList.map fun i => ks'.getD i 0).map V.int)) k2 zl ⟨?_, _, e, vv, hl⟩, rfl, q l _ (J.hok.fresh zl) pw fun x => ?_⟩
    · rw [List.length_map, ppm.length_eq, p.length_eq, kl, sizeLine_eq]; omega
    · rw [(ppm.trans p).mem_iff, kmem x, mem x]
end StT
set_option maxHeartbeats 1000000
namespace L2
open PySem PySem.W PyProof.Rows StT
section
variable {X : Cx} {e : Expr} {te : TE} {p p2 pos pos2 : Pos}
def tSortSet (K : PySem.W.Frag) (te : TE) : TE := fun σ H Q => te σ H fun x H1 => ∃ (a : Addr) (ns : List Int), x = .ref a ∧ (SqL K H1 a (ns.map V.int) ∨ SqT K H1 a (ns.map V.int)) ∧ ns.length < 64 ∧ ∀ (l : Addr) (ms : List Int), H1 l = none → ms.Pairwise (· < ·) → (∀ x, x ∈ ms ↔ x ∈ ns) → Q (.ref l) (upd H1 l (.lst (ms.map V.int)))
theorem met_mem {ns : List Int} {k : Int} : metF (fun i => ns.getD i 0) ns.length k = true ↔ k ∈ ns := by
  unfold metF
  rw [List.any_eq_true]
  constructor
  · rintro ⟨j, hj, h⟩
    have hj := List.mem_range.mp hj
    rw [decide_eq_true_eq] at h
    rw [h]
    show ns.getD j 0 ∈ ns
    rw [List.getD_eq_getElem?_getD, List.getElem?_eq_getElem hj]
    exact List.getElem_mem hj
  · intro h
    obtain ⟨j, hj, rfl⟩ := List.mem_iff_getElem.mp h
    refine ⟨j, List.mem_range.mpr hj, ?_⟩
    rw [decide_eq_true_eq]
    show ns[j] = ns.getD j 0
    rw [List.getD_eq_getElem?_getD, List.getElem?_eq_getElem hj]; rfl
theorem pe_sortset (hc : X.calm = true) (he0 : PE X e te) (hg : Gl X "sorted") (hm : X.mg "sorted" = none) (hg2 : Gl X "set") (hm2 : X.mg "set" = none)
    (hs1 : starEach [.Call (.Name "set" p2) [e] [] pos2] X.env = [(false, eval (.Call (.Name "set" p2) [e] [] pos2) X.env)] := by rfl) (hs2 : starEach [e] X.env = [(false, eval e X.env)] := by rfl) :
    PE X (.Call (.Name "sorted" p) [.Call (.Name "set" p2) [e] [] pos2] [] pos) (tSortSet X.K te) := by
  intro pins s σ H Q I h
  refine wpAny_Call_Name_kw (ld_blt I hg hm (show bootBuiltins "sorted" = some (.builtin "sorted") by decide +kernel) ?_ (by decide) (by decide))
  refine PyProof.Rows.callWith_builtin1 (rest := []) ?_ hs1 rfl
  rw [hs1]
  show wpAny _ _ (spliced ((false, eval (.Call (.Name "set" p2) [e] [] pos2) X.env) :: backTo pos (starEach [] X.env))) _ _ s
  refine Calls.spliced_cons ?_
  refine wpAny_Call_Name_kw (ld_blt I hg2 hm2 (show bootBuiltins "set" = some (.type "set") by decide +kernel) ?_ (by decide) (by decide))
  refine PyProof.Rows.callWith_type1 (rest := []) ?_ hs2 rfl
  rw [hs2]
  show wpAny _ _ (spliced ((false, eval e X.env) :: backTo pos2 (starEach [] X.env))) _ _ s
  refine Calls.spliced_cons (thn (he0 pins s σ H _ I h) fun u s1 ⟨x, H1, I1, r1, q1⟩ => Calls.spliced_nil ?_)
  obtain ⟨a, ns, rfl, hq, h64, q⟩ := q1
  cases r1
  have hh : X.A.handled = none := I1.ok.hd hc
  have fin : ∀ (its : List Value) (h' : Heap) (tk m : Nat), its.length = ns.length → m ≤ its.toArray.size → SetU (intKind X.prog X.w) h' s1.heap.objs.size (metF (fun i => ns.getD i 0) its.toArray.size) m (!byT X.w) → (∀ b o, s1.heap.get? b = some o → h'.get? b = some o) → wpAny (model X.prog X.w) X.A (spliced (backTo pos (starEach [] X.env))) (fun vs s2 => wpAny (model X.prog X.w) X.A (call (.builtin "sorted") (.ref s1.heap.objs.size :: vs)) (EP X pins σ Q) X.xe s2) X.xe { s1 with heap := h', toks := tk } := fun its h' tk m le mi u kp => by
    refine Calls.spliced_nil ?_
    have ez : its.toArray.size = ns.length := by rw [List.size_toArray]; exact le
    rw [ez] at mi u
    exact sorted_set I1 hh (s2 := { s1 with heap := h', toks := tk }) kp rfl rfl u (by omega) fun l ms hn pw mm => q l ms hn pw fun x => (mm x).trans met_mem
  have vi : ∀ {its : List Value}, Vals (ns.map V.int) its → ∀ i v, its.toArray[i]? = some v → (intKind X.prog X.w).is (ns.getD i 0) v = true ∧ v.scannable = true := fun {its} rv i v hv => by
    have le := rv.length
    rw [List.length_map] at le
    rw [List.getElem?_toArray] at hv
    have hi := (List.getElem?_eq_some_iff.mp hv).1
    obtain ⟨t, e⟩ := vals_k rv (i := i) (by omega)
    rw [List.getD_eq_getElem?_getD, hv] at e
    have e : v = .int (ns.getD i 0) t := e
    rw [e]
    exact ⟨intKind_is _ _ _ _, rfl⟩
  rcases hq with hq | hq
  · obtain ⟨its, rv, ht, hz⟩ := I1.list hq
    have le := rv.length
    rw [List.length_map] at le
    exact call_set_list (knd := intKind X.prog X.w) (val := fun i => ns.getD i 0) hh ht.isList (vi rv) (by rw [List.size_toArray]; unfold scanBound; omega) fun h' tk m mi u kp => fin its h' tk m (by omega) mi u kp
  · obtain ⟨its, rv, ht, hz⟩ := I1.tuple hq
    have le := rv.length
    rw [List.length_map] at le
    exact call_set_tuple (knd := intKind X.prog X.w) (val := fun i => ns.getD i 0) hh ht (vi rv) (by rw [List.size_toArray]; unfold scanBound; omega) fun h' tk m mi u kp => fin its h' tk m (by omega) mi u kp
end
end L2
set_option maxHeartbeats 2000000
namespace K68
open PySem L2 Wk
theorem sns_split {H : Hp} {rs : List Addr} {L : List Sn} {x : Sn} (h : SnsA H rs (L ++ [x])) : ∃ rs' r, rs = rs' ++ [r] ∧ SnsA H rs' L ∧ H r = some (.tup (snV x)) := by
  obtain ⟨rs', r, rfl⟩ : ∃ rs' r, rs = rs' ++ [r] := by
    rcases List.eq_nil_or_concat rs with z | ⟨rs', r, z⟩
    · have := h.1
      rw [z] at this; simp at this
    · exact ⟨rs', r, by rw [z, List.concat_eq_append]⟩
  have dl : rs'.length = L.length := by have := h.1; simp at this; exact this
  refine ⟨_, _, rfl, ⟨dl, fun i r y e1 e2 => ?_⟩, ?_⟩
  · refine h.2 i r y ?_ ?_
    · rw [List.getElem?_append_left (List.getElem?_eq_some_iff.mp e1).1]; exact e1
    · rw [List.getElem?_append_left (List.getElem?_eq_some_iff.mp e2).1]; exact e2
  · refine h.2 L.length _ x ?_ ?_
    · rw [List.getElem?_append_right (by exact Nat.le_of_eq (by assumption)), dl, Nat.sub_self]; rfl
    · rw [List.getElem?_append_right (Nat.le_refl _), Nat.sub_self]; rfl
theorem first_zero {bs : List Int} (pw : bs.Pairwise (· < ·)) (h : (0 : Int) ∈ bs) (p : ∀ b ∈ bs, 0 ≤ b) : bs[0]? = some 0 := by
  cases bs with
  | nil => cases h
  | cons b bs =>
    rcases List.mem_cons.mp h with rfl | h
    · rfl
    · have h1 := (List.pairwise_cons.mp pw).1 0 h
      have h2 := p b (List.mem_cons_self ..)
      omega
theorem len_of {ms xs : List Int} (h : ms.Pairwise (· < ·)) (m : ∀ x, x ∈ ms ↔ x ∈ xs) : ms.length ≤ xs.length := by
  have nd : ms.Nodup := h.imp fun {a b} q e => by rw [e] at q; exact Int.lt_irrefl _ q
  exact nodup_len _ _ nd fun x hx => (m x).mp hx
theorem LstAt.set {H : Hp} {L D : Addr} {S : List T4} {xs ys : List V} (h : LstAt H L S) (ne : L ≠ D) (e : H D = some (.lst xs)) : LstAt (upd H D (.lst ys)) L S := let ⟨rs, a, b⟩ := h; ⟨rs, by rw [upd_ne ne]; exact a, b.1, fun i r t hr ht => by have q := b.2 i r t hr ht; rw [upd_ne (ne_of q e (by intro z; cases z))]; exact q⟩
structure Bds (ds : List Dd) (bs : List Int) : Prop where
  up : bs.Pairwise (· < ·)
  z0 : bs[0]? = some 0
  all : ∀ d ∈ ds, d.mo ∈ bs
  pos : ∀ b ∈ bs, 0 ≤ b
  len : bs.length ≤ 61
  src : ∀ b ∈ bs, b = 0 ∨ ∃ d ∈ ds, d.mo = b
def SRow (H0 : Hp) (ds : List Dd) (bs : List Int) (H : Hp) (r : Addr) (i : Nat) : Prop := ∃ (b : Int) (L : Addr) (S : List T4), H0 L = none ∧ bs[i]? = some b ∧ H r = some (.tup [.int b, oV bs[i + 1]?, .ref L]) ∧ LstAt H L S ∧ Srtd S (thr (ds.take (cntF ds b)))
theorem SRow.same {H0 : Hp} {ds : List Dd} {bs : List Int} {H H' : Hp} {r : Addr} {i : Nat} (h : SRow H0 ds bs H r i) (s : Same H H') : SRow H0 ds bs H' r i := let ⟨b, L, S, n, e, f, g, k⟩ := h; ⟨b, L, S, n, e, s _ _ f, g.same s, k⟩
def StrL (H0 : Hp) (ds : List Dd) (bs : List Int) (H : Hp) (l : Addr) : Prop := ∃ rs : List Addr, H l = some (.lst (rs.map V.ref)) ∧ rs.length = bs.length ∧ ∀ (i : Nat) r, rs[i]? = some r → SRow H0 ds bs H r i
theorem StrL.same {H0 : Hp} {ds : List Dd} {bs : List Int} {H H' : Hp} {l : Addr} (h : StrL H0 ds bs H l) (s : Same H H') : StrL H0 ds bs H' l := let ⟨rs, e, f, g⟩ := h; ⟨rs, s _ _ e, f, fun i r q => (g i r q).same s⟩
inductive SpLStrP (vs : List V) (H : Hp) (Q : VK) (u_3 : XK) : Prop
  | mk (h : Addr) (N : Nat) (ds : List Dd) : (vs = [.ref h]) → (HistAt H h N ds) → (Right N ds) → (∀ (l : Addr) (bs : List Int) (H' : Hp), Same H H' → H l = none → Bds ds bs → StrL H ds bs H' l → Q (.ref l) H') → SpLStrP vs H Q u_3
def spLStr : Sp := fun vs H Q u_3 => SpLStrP vs H Q u_3
section
variable {P : Program} {w : World} {K : PySem.W.Frag} {mg : Str → Option Value} {base : Heap}
theorem scLStr : FnScope ["_law_history_here", "_law_lows"] ["_law_history_here"] (defScope sLStr) := ⟨rfl, rfl, rfl, by decide +kernel, rfl, by decide +kernel, by decide +kernel⟩
theorem ok_LStr {f : Addr} {fd : FuncData} (F : Fun K "_law_stretches" "_law_stretches" sLStr f fd) (T : Txt mg)
    {gLStandAt : Addr} {fLStandAt : FuncData} (kLStandAt : PySem.W.keepIn K (.ref gLStandAt) = true) (bLStandAt : Binds K fLStandAt ["_law_history_here", "_law_moment_here"] []) (hLStandAt : mg "_law_stand_at" = some (.ref gLStandAt)) (GLStandAt : FnOk P w K mg base CX0 1 gLStandAt fLStandAt ["_law_history_here", "_law_moment_here"] spLStandAt) :
    FnOk P w K mg base CX0 2 f fd ["_law_history_here"] spLStr := by
  refine F.ok scLStr (fun vs H Q E h => ?_) (fun cdv A outer s H vs Q E hr h => ?_)
  · obtain ⟨_, _, _, rfl, _⟩ := h; rfl
  · obtain ⟨h, N, ds, rfl, hh, hR, k⟩ := h
    refine ⟨_, pss_cons (ps_set (i := 1) scLStr.nd rfl (Or.inl rfl) (pe_sortset rfl (pe_op op_cat (pe_lst (pa_cons pe_int pa_nil)) (pe_comp (T := ["_law_deed"]) (F := []) (js := []) (CS.to (osc := defScope sLStr) ⟨by rfl, by decide +kernel, by decide +kernel, by decide +kernel, by decide +kernel, by decide +kernel, by decide +kernel⟩ rfl rfl) rfl (pi_tup (pe_ix ix_tup (pv 0) pe_int (fun _ _ => rfl))) (fun _ _ _ _ _ => pg_name (i := 0) (show (["_law_deed"] : List Str).Nodup by decide +kernel) rfl (Or.inl rfl)) (fun _ _ _ _ _ => pif_nil) (fun _ _ _ _ _ => pe_ix (r := rIxT K) ix_tup (pv 0) pe_int (fun _ _ => rfl)))) rfl T.sorted rfl T.set))
      (pss_one (ps_ret (pe_comp (T := ["_law_low", "_law_high"]) (F := ["_law_history_here"]) (js := [0]) (CS.to (osc := defScope sLStr) ⟨by rfl, by decide +kernel, by decide +kernel, by decide +kernel, by decide +kernel, by decide +kernel, by decide +kernel⟩ rfl rfl) rfl (pi_zipL rfl T.zip (pa_cons (pv 1) (pa_cons (pe_op op_cat (pe_slice sl_list (pv 1) (po_some pe_int) po_none) (pe_lst (pa_cons pe_non pa_nil))) pa_nil))) (fun _ _ _ _ _ => pg_tupK K 2 rfl rfl (pgs_cons (pg_name (i := 0) (show (["_law_low", "_law_high", "_law_history_here"] : List Str).Nodup by decide +kernel) rfl (Or.inl rfl)) (pgs_cons (pg_name (i := 1) (show (["_law_low", "_law_high", "_law_history_here"] : List Str).Nodup by decide +kernel) rfl (Or.inl rfl)) pgs_nil))) (fun _ _ _ _ _ => pif_nil) (fun _ _ _ _ _ => pe_tup (pa_cons (pv 0) (pa_cons (pv 1) (pa_cons (pe_call GLStandAt hr rfl hLStandAt kLStandAt bLStandAt .nil pass0 (pa_cons (pv 2) (pa_cons (pv 0) pa_nil))) pa_nil))))))), ?_⟩
    dsimp only [cxOf, Cx.nox]
    refine seqL1 ?_
    intro R1_
    refine ⟨small (by simp), fun p hp => ?_⟩
    have s1 := same_new (o := .lst [.int 0]) hp
    have p1 := upd_same (H := H) (a := p) (o := .lst [.int 0])
    generalize upd H p (.lst [.int 0]) = H1 at s1 p1
    obtain ⟨t, rs, eh, et, hdd⟩ := id hh
    have lrs : rs.length = ds.length := hdd.1
    have l60 := hR.len
    refine ⟨_, rfl, h, _, 1, _, rfl, rfl, SqT.of (s1 _ _ eh), atI_nat (j := 1) rfl, t, rfl, ⟨_, SqT.of (s1 _ _ et)⟩, fun D hD => comp_tupL (K := K) (a := t) (xs := rs.map V.ref) (fun j σ ys H6 => ∃ (u : Option V) (ns : List Int), σ = [u] ∧ Same H1 H6 ∧ H6 D = some (.lst ys) ∧ ys = ns.map V.int ∧ ns = (ds.take j).map Dd.mo) ⟨none, [], rfl, same_new hD, upd_same, rfl, rfl⟩ (fun j σ ys H6 _ ⟨_, _, _, s, e, _⟩ => ⟨SqT.of (s _ _ (s1 _ _ et)), e⟩) ?_ ?_⟩
    · intro j x σ ys H6 hx hI6_ E_
      refine hideG fun G_ hG_ => ?_
      obtain ⟨u, ns, rfl, s6, e6, rfl, en⟩ := hI6_
      obtain ⟨r, er, rfl⟩ := map_some hx
      obtain ⟨dd, ed, r0⟩ := hdd.get er
      have li : j < ds.length := (List.getElem?_eq_some_iff.mp ed).1
      refine hG_ ?_
      refine ⟨_, rfl, r, _, 1, _, rfl, rfl, SqT.of (s6 _ _ (s1 _ _ r0)), dd_mo dd, e6, small1000 (by rw [List.length_map, en, List.length_map, List.length_take]; omega), _, ns ++ [dd.mo], rfl, same_set s6 hD, upd_same, by rw [List.map_append]; rfl, ?_⟩
      rw [en, take_snoc ed, List.map_append]; rfl
    intro σ ys H6 hI3_
    refine hideG fun G_ hG_ => ?_
    obtain ⟨u, ns, rfl, s6, e6, rfl, en⟩ := hI3_
    refine hG_ ?_
    rw [List.length_map, lrs, List.take_length] at en
    have nl : ns.length = ds.length := by rw [en, List.length_map]
    refine ⟨p, D, _, _, rfl, rfl, s6 _ _ p1, e6, small (by simp; omega), fun c hc => ?_⟩
    have s7 := same_new (o := .lst ([.int 0] ++ ns.map V.int)) hc
    have c7 : upd H6 c (.lst ([.int 0] ++ ns.map V.int)) c = some (.lst (((0 : Int) :: ns).map V.int)) := upd_same
    generalize upd H6 c (.lst ([.int 0] ++ ns.map V.int)) = H7 at s7 c7
    refine ⟨c, (0 : Int) :: ns, rfl, .inl (SqL.of c7), by simp; omega, fun l bs hB pw mm => ?_⟩
    have s8 := same_new (o := .lst (bs.map V.int)) hB
    have l5 := upd_same (H := H7) (a := l) (o := .lst (bs.map V.int))
    generalize upd H7 l (.lst (bs.map V.int)) = H5 at s8 l5
    have S5 : Same H H5 := ((s1.trans s6).trans s7).trans s8
    have bl := len_of pw mm
    rw [List.length_cons] at bl
    have bb : ∀ b ∈ bs, 0 ≤ b := fun b hb => by
      rcases List.mem_cons.mp ((mm b).mp hb) with rfl | hb
      · exact Int.le_refl _
      · rw [en] at hb
        obtain ⟨d, hd, rfl⟩ := List.mem_map.mp hb
        exact (hR.mo d hd).1
    have BD : Bds ds bs := ⟨pw, first_zero pw ((mm 0).mpr (List.mem_cons_self ..)) bb, fun d hd => (mm _).mpr (List.mem_cons_of_mem _ (by rw [en]; exact List.mem_map.mpr ⟨d, hd, rfl⟩)), bb, by omega, fun b hb => by
      rcases List.mem_cons.mp ((mm b).mp hb) with e | e
      · exact .inl e
      · rw [en] at e
        obtain ⟨d, hd, e⟩ := List.mem_map.mp e
        exact .inr ⟨d, hd, e⟩⟩
    clear s1 p1 s6 e6 s7 c7 s8 mm pw bb hp hD hc hB
    refine ⟨_, rfl, _, rfl, _, rfl, l, _, rfl, SqL.of l5, fun c hc => ?_⟩
    rw [show cutV (bs.map V.int) (some 1) none = (bs.drop 1).map V.int by rw [List.map_drop]; exact cutV_drop (n := 1)]
    have sc := same_new (o := .lst ((bs.drop 1).map V.int)) hc
    have c6 := upd_same (H := H5) (a := c) (o := .lst ((bs.drop 1).map V.int))
    generalize upd H5 c (.lst ((bs.drop 1).map V.int)) = H6 at sc c6 ⊢
    refine ⟨small (by simp), fun n hn => ?_⟩
    have sn := same_new (o := .lst [.non]) hn
    have n7 := upd_same (H := H6) (a := n) (o := .lst [.non])
    have c7 := sn _ _ c6
    generalize upd H6 n (.lst [.non]) = H7 at sn n7 c7 ⊢
    refine ⟨c, n, _, _, rfl, rfl, c7, n7, small (by rw [List.length_map, List.length_drop]; show _ + 1 ≤ _; omega), fun z hz => ?_⟩
    have sz := same_new (o := .lst ((bs.drop 1).map V.int ++ [.non])) hz
    have z8 := upd_same (H := H7) (a := z) (o := .lst ((bs.drop 1).map V.int ++ [.non]))
    generalize upd H7 z (.lst ((bs.drop 1).map V.int ++ [.non])) = H8 at sz z8 ⊢
    have S8 : Same H5 H8 := (sc.trans sn).trans sz
    have l8 := S8 _ _ l5
    have SH : Same H H8 := S5.trans S8
    have next : ∀ (i : Nat) y, ((bs.drop 1).map V.int ++ [.non])[i]? = some y → y = oV (bs[i + 1]?) := fun i y hy => by
      rw [List.getElem?_append] at hy
      split at hy
      · obtain ⟨v, hv, rfl⟩ := map_some hy
        rw [List.getElem?_drop, Nat.add_comm] at hv
        rw [hv]; rfl
      · rename_i g
        have hz0 : i - ((bs.drop 1).map V.int).length = 0 := by
          have := (List.getElem?_eq_some_iff.mp hy).1
          simp only [List.length_cons, List.length_nil] at this
          clear lrs bl g; omega
        rw [hz0] at hy
        cases hy
        rw [List.length_map, List.length_drop] at g
        rw [List.getElem?_eq_none (by clear lrs; omega)]; rfl
    refine ⟨l, z, _, _, rfl, SqL.of l8, SqL.of z8, fun D hD => comp_zipL (K := K) (a := l) (b := z) (xs := bs.map V.int) (ys := (bs.drop 1).map V.int ++ [.non]) (fun j σ zs H9 => ∃ (u v : Option V) (rs : List Addr), σ = [u, v, some (.ref h)] ∧ zs = rs.map V.ref ∧ Same H8 H9 ∧ H9 D = some (.lst zs) ∧ rs.length = j ∧ ∀ (i : Nat) r, rs[i]? = some r → ∃ (b : Int) (L : Addr) (S : List T4), H L = none ∧ L ≠ D ∧ bs[i]? = some b ∧ H9 r = some (.tup [.int b, oV bs[i + 1]?, .ref L]) ∧ LstAt H9 L S ∧ Srtd S (thr (ds.take (cntF ds b)))) ⟨none, none, [], rfl, rfl, same_new hD, upd_same, rfl, fun i r e => by simp at e⟩ (fun j σ zs H9 _ _ ⟨_, _, _, _, _, s9, e, _⟩ => ⟨SqL.of (s9 _ _ l8), SqL.of (s9 _ _ z8), e⟩) ?_ ?_⟩
    · intro j x y σ zs H9 TT hx hy hI9_ hTT
      refine hideG fun G_ hG_ => ?_
      obtain ⟨u, v, rs, rfl, rfl, s9, e9, rl, R9⟩ := hI9_
      obtain ⟨b, hb, rfl⟩ := map_some hx
      refine hG_ ?_
      rw [next j y hy]
      have jl : j < bs.length := (List.getElem?_eq_some_iff.mp hb).1
      have sT := same_new (o := .tup [.int b, oV bs[j + 1]?]) hTT
      have tT := upd_same (H := H9) (a := TT) (o := .tup [.int b, oV bs[j + 1]?])
      generalize upd H9 TT (.tup [.int b, oV bs[j + 1]?]) = HA at sT tT ⊢
      refine ⟨TT, _, rfl, SqT.of tT, rfl, _, _, rfl, _, _, rfl, rfl, ?_⟩
      refine ⟨_, rfl, _, rfl, _, rfl, _, rfl, h, N, ds, b, rfl, hh.same ((SH.trans s9).trans sT), hR, fun L S HB sB nL hL so => ?_⟩
      have eA := sT _ _ e9
      have LD : L ≠ D := (ne_of_none eA nL).symm
      refine ⟨small (by simp), fun q hq => ?_⟩
      have sq := same_new (o := .tup [.int b, oV bs[j + 1]?, .ref L]) hq
      have q9 := upd_same (H := HB) (a := q) (o := .tup [.int b, oV bs[j + 1]?, .ref L])
      have S9 : Same H9 (upd HB q (.tup [.int b, oV bs[j + 1]?, .ref L])) := (sT.trans sB).trans sq
      have hL := hL.same sq
      generalize upd HB q (.tup [.int b, oV bs[j + 1]?, .ref L]) = HC at sq q9 S9 hL ⊢
      have eD := S9 _ _ e9
      refine ⟨eD, small1000 (by rw [List.length_map]; omega), _, _, rs ++ [q], rfl, by rw [List.map_append]; rfl, same_set (s9.trans S9) hD, upd_same, by simp [rl], fun i r hr' => ?_⟩
      rcases Nat.lt_or_ge i rs.length with z' | z'
      · rw [List.getElem?_append_left z'] at hr'
        obtain ⟨b', L', S', l0, l1, l2, l3, l4, l5⟩ := R9 i r hr'
        refine ⟨b', L', S', l0, l1, l2, ?_, (l4.same S9).set l1 eD, l5⟩
        have := S9 _ _ l3
        rw [upd_ne (ne_of this eD (by intro z; cases z))]; exact this
      · rw [List.getElem?_append_right z'] at hr'
        have i0 : i - rs.length = 0 := by
          have := (List.getElem?_eq_some_iff.mp hr').1
          simp only [List.length_cons, List.length_nil] at this
          clear lrs z'; omega
        have ij : i = j := by clear lrs; omega
        rw [i0] at hr'
        cases hr'
        rw [ij]
        refine ⟨b, L, S, none_of ((SH.trans s9).trans sT) nL, LD, hb, ?_, hL.set LD eD, so⟩
        rw [upd_ne (ne_of q9 eD (by intro z; cases z))]; exact q9
    · intro i σ zs H9 hi hI5_
      refine hideG fun G_ hG_ => ?_
      obtain ⟨u, v, rs, rfl, rfl, s9, e9, rl, R9⟩ := hI5_
      have en' : rs.length = bs.length := by
        rw [rl, hi, List.length_map, List.length_append, List.length_map, List.length_drop]
        have : 0 < bs.length := (List.getElem?_eq_some_iff.mp BD.z0).1
        show min _ (_ + 1) = _
        clear hi rl; omega
      refine hG_ ?_
      exact k D bs H9 (SH.trans s9) (none_of SH hD) BD ⟨rs, e9, en', fun i r hr' => let ⟨b, L, S, l0, _, l2, l3, l4, l5⟩ := R9 i r hr'; ⟨b, L, S, l0, l2, l3, l4, l5⟩⟩
end
end K68
set_option maxHeartbeats 2000000
namespace K68
open PySem L2 Wk
theorem up_uniq : ∀ {xs ys : List Int}, xs.Pairwise (· < ·) → ys.Pairwise (· < ·) → (∀ x, x ∈ xs ↔ x ∈ ys) → xs = ys
  | [], [], _, _, _ => rfl
  | [], y :: ys, _, _, h => by have := (h y).mpr (List.mem_cons_self ..); cases this
  | x :: xs, [], _, _, h => by have := (h x).mp (List.mem_cons_self ..); cases this
  | x :: xs, y :: ys, h1, h2, h => by
    obtain ⟨x1, x2⟩ := List.pairwise_cons.mp h1
    obtain ⟨y1, y2⟩ := List.pairwise_cons.mp h2
    have e : x = y := by
      rcases List.mem_cons.mp ((h x).mp (List.mem_cons_self ..)) with e | e
      · exact e
      · rcases List.mem_cons.mp ((h y).mpr (List.mem_cons_self ..)) with e' | e'
        · exact e'.symm
        · have := y1 x e; have := x1 y e'; omega
    subst e
    rw [up_uniq x2 y2 fun z => ?_]
    constructor
    · intro hz
      rcases List.mem_cons.mp ((h z).mp (List.mem_cons_of_mem _ hz)) with e | e
      · have := x1 z hz; omega
      · exact e
    · intro hz
      rcases List.mem_cons.mp ((h z).mpr (List.mem_cons_of_mem _ hz)) with e | e
      · have := y1 z hz; omega
      · exact e
theorem bds_lows {N : Nat} {ds : List Dd} (hR : Right N ds) {bs : List Int} (B : Bds ds bs) : bs = lowsF ds := by
  have L := lows_ok ds (fun d hd => (hR.mo d hd).1) hR.up ds.length (Nat.le_refl _)
  rw [List.take_length] at L
  refine up_uniq B.up L.up fun x => ⟨fun h => ?_, fun h => ?_⟩
  · rcases B.src x h with rfl | ⟨d, hd, rfl⟩
    · exact List.mem_of_head? L.hd
    · exact L.all d hd
  · rcases L.src x h with rfl | ⟨d, hd, rfl⟩
    · exact List.mem_of_getElem? B.z0
    · exact B.all d hd
theorem spW_tr (f : Nat → Bool) (cnt : Int → Nat) (bs : List Int) (m : Int) : ∀ k, k ≤ bs.length → inB m (spW f ((strG cnt bs).take k)) = trB bs (fun i => f (cnt (bs.getD i 0))) k m
  | 0, _ => rfl
  | k + 1, hk => by
    have e : bs[k]? = some bs[k] := List.getElem?_eq_getElem (by assumption)
    have g : bs.getD k 0 = bs[k] := by rw [List.getD_eq_getElem?_getD, e]; rfl
    rw [take_snoc (strG_get cnt bs k _ e), trB_succ, ← spW_tr f cnt bs m k (by exact Nat.le_of_lt (by assumption)), g]
    unfold spW
    rw [List.filter_append, List.map_append, inB_app]
    have hp : pc bs k = (bs[k], bs[k + 1]?) := by unfold pc; rw [g]
    rw [hp]
    cases h : f (cnt bs[k]) with
    | true => rw [List.filter_cons_of_pos (p := fun r : Sr => f r.2.2) h]; simp [inB]
    | false => rw [List.filter_cons_of_neg (p := fun r : Sr => f r.2.2) (by show ¬ f (cnt bs[k]) = true; rw [h]; decide)]; simp [inB]
theorem trB_congr {bs : List Int} {f g : Nat → Bool} {n : Nat} {m : Int} (h : ∀ i, i < n → f i = g i) : trB bs f n m = trB bs g n m := by
  rw [Bool.eq_iff_iff, trB_true, trB_true]
  constructor
  · rintro ⟨i, hi, a, b⟩; exact ⟨i, hi, by rw [← h i hi]; exact a, b⟩
  · rintro ⟨i, hi, a, b⟩; exact ⟨i, hi, by rw [h i hi]; exact a, b⟩
def layF (P : List Sn) : List Sn := P.foldl (fun F x => ext x.1 x.2 F) []
theorem lay_snoc (P : List Sn) (x : Sn) : layF (P ++ [x]) = ext x.1 x.2 (layF P) := by unfold layF; rw [List.foldl_append]; rfl
def pcsL (bs : List Int) (f : Nat → Bool) (n : Nat) : List Sn := ((List.range n).filter f).map (pc bs)
theorem pcsL_succ (bs : List Int) (f : Nat → Bool) (n : Nat) : pcsL bs f (n + 1) = if f n = true then pcsL bs f n ++ [pc bs n] else pcsL bs f n := by
  unfold pcsL
  rw [List.range_succ, List.filter_append, List.map_append]
  by_cases h : f n = true
  · rw [if_pos h, List.filter_cons_of_pos (p := f) h]; rfl
  · rw [if_neg h, List.filter_cons_of_neg (p := f) h]; simp
theorem lay_laid {bs : List Int} (up : bs.Pairwise (· < ·)) (pos : ∀ b ∈ bs, 0 ≤ b) (f : Nat → Bool) : ∀ n, n ≤ bs.length → LaidTo bs f n (layF (pcsL bs f n))
  | 0, _ => LaidTo.zero
  | n + 1, h => by
    have ih := lay_laid up pos f n (by exact Nat.le_of_lt (by assumption))
    have e : bs[n]? = some bs[n] := List.getElem?_eq_getElem (by assumption)
    have g : bs.getD n 0 = bs[n] := by rw [List.getD_eq_getElem?_getD, e]; rfl
    rw [pcsL_succ]
    cases hf : f n with
    | true =>
      rw [if_pos rfl, lay_snoc]
      have hp : pc bs n = (bs[n], bs[n + 1]?) := by unfold pc; rw [g]
      rw [hp]
      exact ih.put up pos e hf
    | false => rw [if_neg (by decide)]; exact ih.skip up e hf
theorem lay_wh {N : Nat} {ds : List Dd} (hR : Right N ds) {bs : List Int} (B : Bds ds bs) {f : Nat → Bool} {g : Nat → Bool} (h : ∀ i, i < bs.length → f i = g (cntF ds (bs.getD i 0))) : layF (pcsL bs f bs.length) = whF g (strF ds) [] := by
  obtain ⟨n, w⟩ := wh_ok g (strF ds) [] trivial (str_rows hR)
  have L := lay_laid B.up B.pos f bs.length (Nat.le_refl _)
  refine norm_uniq L.norm n fun m hm => ?_
  rw [L.here, w m hm, trB_congr h]
  have e := spW_tr g (cntF ds) bs m bs.length (Nat.le_refl _)
  rw [List.take_of_length_le (by rw [strG_len]; exact Nat.le_refl _)] at e
  rw [← e]
  have : strG (cntF ds) bs = strF ds := by unfold strF; rw [bds_lows hR B]
  rw [this]; rfl
inductive SpLaidP (vs : List V) (H : Hp) (Q : VK) (u_3 : XK) : Prop
  | mk (l : Addr) (rs : List Addr) (P : List Sn) : (vs = [.ref l]) → (H l = some (.lst (rs.map V.ref))) → (SnsA H rs P) → (P.length ≤ 400) → (∀ (r : Addr) (H' : Hp), Same H H' → SpnAt H' r (layF P) → Q (.ref r) H') → SpLaidP vs H Q u_3
def spLaid : Sp := fun vs H Q u_3 => SpLaidP vs H Q u_3
theorem ext_none {b : Int} {h : Option Int} {a : Int} : ∀ {F : List Sn}, ext b h (F ++ [(a, none)]) = F ++ [(a, none), (b, h)]
  | [] => rfl
  | [x] => by show ext b h (x :: (a, none) :: []) = _; rw [ext_cons]; rfl
  | x :: y :: F => by
    show ext b h (x :: y :: (F ++ [(a, none)])) = _
    rw [ext_cons]
    have := ext_none (b := b) (h := h) (a := a) (F := y :: F)
    show x :: ext b h (y :: F ++ [(a, none)]) = _
    rw [this]; rfl
theorem ext_len (b : Int) (h : Option Int) : ∀ F : List Sn, (ext b h F).length ≤ F.length + 1
  | [] => Nat.le_refl _
  | [(a, none)] => by show 2 ≤ 2; decide
  | [(a, some e)] => by unfold ext; split <;> simp
  | x :: y :: F => by rw [ext_cons]; have := ext_len b h (y :: F); simp at this ⊢; assumption
theorem lay_len : ∀ (n : Nat) (P : List Sn), P.length = n → (layF P).length ≤ n
  | 0, P, h => by rw [List.length_eq_zero_iff.mp h]; exact Nat.le_refl _
  | n + 1, P, h => by
    have ne : P ≠ [] := fun e => by rw [e] at h; cases h
    obtain ⟨ys, x, rfl⟩ : ∃ ys x, P = ys ++ [x] := ⟨_, _, (List.dropLast_concat_getLast ne).symm⟩
    have ly : ys.length = n := by simpa using h
    have := lay_len n ys ly
    have := ext_len x.1 x.2 (layF ys)
    rw [lay_snoc]; clear h; omega
section
variable {P : Program} {w : World} {K : PySem.W.Frag} {mg : Str → Option Value} {base : Heap}
theorem scLaid : FnScope ["_law_pairs_here", "_law_found", "_law_low", "_law_high"] ["_law_pairs_here"] (defScope sLaid) := ⟨rfl, rfl, rfl, by decide +kernel, rfl, by decide +kernel, by decide +kernel⟩
theorem ok_Laid {f : Addr} {fd : FuncData} (F : Fun K "_law_laid" "_law_laid" sLaid f fd) (T : Txt mg) :
    FnOk P w K mg base CX0 1 f fd ["_law_pairs_here"] spLaid := by
  refine F.ok scLaid (fun vs H Q E h => ?_) (fun cdv A outer s H vs Q E hr h => ?_)
  · obtain ⟨_, _, _, rfl, _⟩ := h; rfl
  · obtain ⟨l, rs, P, rfl, hl, hP, P4, k⟩ := h
    refine ⟨_, pss_cons (ps_set (i := 1) scLaid.nd rfl (Or.inl rfl) (pe_lst pa_nil))
      (pss_cons (ps_for PassesOwn.never rfl (pi_list (pv 0)) (pg_tup rfl (pgs_cons (pg_name (i := 2) scLaid.nd rfl (Or.inl rfl)) (pgs_cons (pg_name (i := 3) scLaid.nd rfl (Or.inl rfl)) pgs_nil))) (pss_one (ps_if (PW.pt (pw_and (pt_cmpR (op_neNil hr.units) (pv 1) (pe_lst pa_nil) (nomark _)) (pw_and1 (pt_cmpR op_eq (pe_ix ix_tup (pe_ix ix_list (pv 1) (pe_un un_neg pe_int) (fun _ _ => rfl)) pe_int (fun _ _ => rfl)) (pv 2) (nomark _))))) (pss_one (ps_asg (pe_tup (pa_cons (pe_ix ix_tup (pe_ix ix_list (pv 1) (pe_un un_neg pe_int) (fun _ _ => rfl)) pe_int (fun _ _ => rfl)) (pa_cons (pv 3) pa_nil))) (pg_sub (pv 1) (pe_un un_neg pe_int) set_list))) (pss_one (ps_expr (pe_bm PySem.F.plainAttrs_list PySem.F.slot_list_append PySem.F.type_list_append mt_append (pv 1) (pa_cons (pe_tup (pa_cons (pv 2) (pa_cons (pv 3) pa_nil))) pa_nil)))))))
      (pss_one (ps_ret (pe_callTy call_tuple_of (by rfl) T.tuple (by decide +kernel) (pa_cons (pv 1) pa_nil))))), ?_⟩
    dsimp only [cxOf, Cx.nox]
    refine seqL2 ?_
    intro R2_ R1_
    refine ⟨small (by simp), fun F hF => ?_⟩
    have s1 := same_new (o := .lst []) hF
    have f1 := upd_same (H := H) (a := F) (o := .lst [])
    generalize upd H F (.lst []) = H1 at s1 f1
    refine ⟨_, rfl, l, rfl, ⟨_, SqL.of (s1 _ _ hl)⟩, for_list (K := K) (a := l) (xs := rs.map V.ref) (fun i σ H2 => ∃ (u v : Option V) (as : List Addr), σ = [some (.ref l), some (.ref F), u, v] ∧ Same H H2 ∧ H2 F = some (.lst (as.map V.ref)) ∧ SnsA H2 as (layF (P.take i))) ⟨none, none, [], rfl, s1, f1, ⟨rfl, fun i r x e => by simp at e⟩⟩ (fun i σ H2 _ ⟨_, _, _, _, s, _⟩ => SqL.of (s _ _ hl)) ?_ ?_⟩
    · intro i x σ H2 hx hI5_
      refine hideG fun G_ hG_ => ?_
      obtain ⟨u, v, as, rfl, S4, f4, sp4⟩ := hI5_
      obtain ⟨r0, hr0, rfl⟩ := map_some hx
      obtain ⟨y, hy, er0⟩ := rws_get hP hr0
      have hi : i < P.length := (List.getElem?_eq_some_iff.mp hy).1
      have er0 := S4 _ _ er0
      have ts : layF (P.take (i + 1)) = ext y.1 y.2 (layF (P.take i)) := by rw [take_snoc hy, lay_snoc]
      have al := sp4.1
      have ll := lay_len (P.take i).length (P.take i) rfl
      refine hG_ ?_
      rw [List.length_take] at ll
      generalize layF (P.take i) = L at ts sp4 al ll
      rw [ts]
      obtain ⟨b, ho⟩ := y
      refine ⟨r0, _, rfl, SqT.of er0, rfl, _, _, rfl, _, _, rfl, rfl, ?_⟩
      refine ⟨_, rfl, small (by simp), fun q hq => ?_⟩
      have s5 := same_new (o := .lst []) hq
      have q5 := upd_same (H := H2) (a := q) (o := .lst [])
      generalize upd H2 q (.lst []) = H5 at s5 q5
      refine ⟨F, q, _, rfl, rfl, SqL.of (s5 _ _ f4), SqL.of q5, _, rfl, ?_⟩
      have new : ext b ho L = L ++ [(b, ho)] → ∀ (t : Addr), H5 t = none → tBM K "list" rAppend (tVar 1) (tCons (tC (.ref t)) tNil) [some (.ref l), some (.ref F), some (.int b), some (oV ho)] (upd H5 t (.tup [.int b, oV ho])) (fun x H2 => ∃ (u v : Option V) (as : List Addr), [some (.ref l), some (.ref F), some (.int b), some (oV ho)] = [some (.ref l), some (.ref F), u, v] ∧ Same H H2 ∧ H2 F = some (.lst (as.map V.ref)) ∧ SnsA H2 as (ext b ho L)) := fun eL t ht => by
        have s6 := same_new (o := .tup [.int b, oV ho]) ht
        have t6 : upd H5 t (.tup [.int b, oV ho]) t = some (.tup (snV (b, ho))) := upd_same
        generalize upd H5 t (.tup [.int b, oV ho]) = H6 at s6 t6
        have f6 := s6 _ _ (s5 _ _ f4)
        refine ⟨_, rfl, .inl ⟨rfl, _, SqL.of f6⟩, F, _, _, rfl, rfl, f6, small1000 (by rw [List.length_map]; omega), _, _, as ++ [t], rfl, same_set ((S4.trans s5).trans s6) hF, by rw [upd_same, List.map_append]; rfl, ?_⟩
        rw [eL]
        refine rws_snoc (Pp := fun r x => upd H6 F (.lst (as.map V.ref ++ [.ref t])) r = some (.tup (snV x))) (rws_mono sp4 fun r x e => ?_) ?_
        · rw [upd_ne (ne_of e f4 (by intro z; cases z))]
          exact s6 _ _ (s5 _ _ e)
        · rw [upd_ne (ne_of t6 f6 (by intro z; cases z))]; exact t6
      rcases List.eq_nil_or_concat L with rfl | ⟨qs, p, rfl⟩
      · have as0 : as = [] := List.eq_nil_of_length_eq_zero sp4.1
        rw [show (!(as.map V.ref).isEmpty) = false by rw [as0]; rfl]
        refine iteF (iteF ?_)
        refine ⟨_, rfl, .inl ⟨rfl, _, SqL.of (s5 _ _ f4)⟩, _, rfl, _, rfl, small (by simp), fun t ht => ?_⟩
        obtain ⟨_, e0, h0, h1⟩ := new rfl t ht
        cases e0
        exact h1
      · rw [List.concat_eq_append] at *
        obtain ⟨as', r, rfl, sq, er⟩ := sns_split sp4
        rw [show (!((as' ++ [r]).map V.ref).isEmpty) = true by simp]
        refine iteT ?_
        have er5 := s5 _ _ er
        obtain ⟨lo, ph⟩ := p
        have atl : atI ((as' ++ [r]).map V.ref) (-1) = some (.ref r) := by rw [List.map_append]; exact atI_last _ _
        refine ⟨_, rfl, _, rfl, F, _, -1, _, rfl, rfl, SqL.of (s5 _ _ f4), atl, r, _, 1, _, rfl, rfl, SqT.of er5, atI_nat (j := 1) rfl, _, rfl, ?_⟩
        refine ⟨by cases ph <;> rfl, _, rfl, ite2 (fun g => ?_) fun g => ?_⟩
        · have g : ph = some b := by
            have := of_decide_eq_true g
            cases ph with
            | none => cases this
            | some e => injection this with this; rw [this]
          subst g
          refine ⟨_, rfl, _, rfl, F, _, -1, _, rfl, rfl, SqL.of (s5 _ _ f4), atl, r, _, 0, _, rfl, rfl, SqT.of er5, atI_nat (j := 0) rfl, _, rfl, small (by simp), fun t ht => ?_⟩
          have s6 := same_new (o := .tup [.int lo, oV ho]) ht
          have t6 : upd H5 t (.tup [.int lo, oV ho]) t = some (.tup (snV (lo, ho))) := upd_same
          generalize upd H5 t (.tup [.int lo, oV ho]) = H6 at s6 t6
          have f6 := s6 _ _ (s5 _ _ f4)
          refine ⟨_, rfl, _, rfl, F, _, -1, as'.length, rfl, rfl, f6, by simp [ixN]; clear hi ll al; omega, _, _, as' ++ [t], rfl, same_set ((S4.trans s5).trans s6) hF, ?_, ?_⟩
          · rw [upd_same]
            simp
          · rw [ext_snoc, if_pos rfl]
            refine rws_snoc (Pp := fun r' x => upd H6 F (.lst (((as' ++ [r]).map V.ref).set as'.length (.ref t))) r' = some (.tup (snV x))) (rws_mono sq fun r' x e => ?_) ?_
            · rw [upd_ne (ne_of e f4 (by intro z; cases z))]
              exact s6 _ _ (s5 _ _ e)
            · rw [upd_ne (ne_of t6 f6 (by intro z; cases z))]; exact t6
        · have eL : ext b ho (qs ++ [(lo, ph)]) = (qs ++ [(lo, ph)]) ++ [(b, ho)] := by
            cases ph with
            | none => rw [ext_none, List.append_assoc]; rfl
            | some e =>
              rw [ext_snoc, if_neg (fun z => g (by rw [z]; exact decide_eq_true rfl)), List.append_assoc]; rfl
          refine ⟨_, rfl, .inl ⟨rfl, _, SqL.of (s5 _ _ f4)⟩, _, rfl, _, rfl, small (by simp), fun t ht => ?_⟩
          obtain ⟨_, e0, h0, h1⟩ := new eL t ht
          cases e0
          exact h1
    · intro σ H2 hI2_
      refine hideG fun G_ hG_ => ?_
      obtain ⟨u, v, as, rfl, s2, f2, sp⟩ := hI2_
      refine hG_ ?_
      rw [List.length_map, hP.1, List.take_length] at sp
      refine ⟨_, rfl, F, _, rfl, .inl ⟨SqL.of f2, fun r hr' => ?_⟩⟩
      have sr := same_new (o := .tup (as.map V.ref)) hr'
      exact k r _ (s2.trans sr) ⟨as, upd_same, rws_mono sp fun r x e => sr _ _ e⟩
end
end K68
set_option maxHeartbeats 2000000
namespace K68
open PySem L2 Wk
inductive SpLSpansP (vs : List V) (H : Hp) (Q : VK) (u_3 : XK) : Prop
  | mk (l : Addr) (H0 : Hp) (N : Nat) (ds : List Dd) (bs : List Int) (p q : Nat) : (vs = [.ref l, .int (p : Int), .int (q : Int)]) → (StrL H0 ds bs H l) → (Bds ds bs) → (Right N ds) → (N ≤ 60) → (p < N) → (q < N) → (∀ (r : Addr) (H' : Hp), Same H H' → SpnAt H' r (whF (jnF N ds p q) (strF ds) []) → Q (.ref r) H') → SpLSpansP vs H Q u_3
def spLSpans : Sp := fun vs H Q u_3 => SpLSpansP vs H Q u_3
def bdJ (N : Nat) (ds : List Dd) (bs : List Int) (p q i : Nat) : Bool := jnF N ds p q (cntF ds (bs.getD i 0))
theorem pcsL_len (bs : List Int) (f : Nat → Bool) (n : Nat) : (pcsL bs f n).length ≤ n := by
  unfold pcsL
  rw [List.length_map]
  exact Nat.le_trans (List.length_filter_le _ _) (by rw [List.length_range]; exact Nat.le_refl _)
section
variable {P : Program} {w : World} {K : PySem.W.Frag} {mg : Str → Option Value} {base : Heap}
theorem scLSpans : FnScope ["_law_stretches_here", "_law_one", "_law_other"] ["_law_stretches_here", "_law_one", "_law_other"] (defScope sLSpans) := ⟨rfl, rfl, rfl, by decide +kernel, rfl, by decide +kernel, by decide +kernel⟩
theorem ok_LSpans {f : Addr} {fd : FuncData} (F : Fun K "_law_spans" "_law_spans" sLSpans f fd) (T : Txt mg)
    {gLaid : Addr} {fLaid : FuncData} (kLaid : PySem.W.keepIn K (.ref gLaid) = true) (bLaid : Binds K fLaid ["_law_pairs_here"] []) (hLaid : mg "_law_laid" = some (.ref gLaid)) (GLaid : FnOk P w K mg base CX0 1 gLaid fLaid ["_law_pairs_here"] spLaid)
    {gLPart : Addr} {fLPart : FuncData} (kLPart : PySem.W.keepIn K (.ref gLPart) = true) (bLPart : Binds K fLPart ["_law_ties", "_law_place"] []) (hLPart : mg "_law_part" = some (.ref gLPart)) (GLPart : FnOk P w K mg base CX0 1 gLPart fLPart ["_law_ties", "_law_place"] spLPart) :
    FnOk P w K mg base CX0 2 f fd ["_law_stretches_here", "_law_one", "_law_other"] spLSpans := by
  refine F.ok scLSpans (fun vs H Q E h => ?_) (fun cdv A outer s H vs Q E hr h => ?_)
  · obtain ⟨_, _, _, _, _, _, _, rfl, _⟩ := h; rfl
  · obtain ⟨l, H0, N, ds, bs, p, q, rfl, ⟨rs, el, rl, hrs⟩, BD, hR, N60, pN, qN, k⟩ := h
    refine ⟨_, pss_one (ps_ret (pe_call GLaid hr rfl hLaid kLaid bLaid .nil pass0 (pa_cons (pe_comp (T := ["_law_low", "_law_high", "_law_ties"]) (F := ["_law_other", "_law_one"]) (js := [2, 1]) (CS.to (osc := defScope sLSpans) ⟨by rfl, by decide +kernel, by decide +kernel, by decide +kernel, by decide +kernel, by decide +kernel, by decide +kernel⟩ rfl rfl) rfl (pi_list (pv 0)) (fun _ _ _ _ _ => pg_tupK K 3 rfl rfl (pgs_cons (pg_name (i := 0) (show (["_law_low", "_law_high", "_law_ties", "_law_other", "_law_one"] : List Str).Nodup by decide +kernel) rfl (Or.inl rfl)) (pgs_cons (pg_name (i := 1) (show (["_law_low", "_law_high", "_law_ties", "_law_other", "_law_one"] : List Str).Nodup by decide +kernel) rfl (Or.inl rfl)) (pgs_cons (pg_name (i := 2) (show (["_law_low", "_law_high", "_law_ties", "_law_other", "_law_one"] : List Str).Nodup by decide +kernel) rfl (Or.inl rfl)) pgs_nil)))) (fun _ _ _ _ _ => pif_one (pt_cmpR (r := rIn K false) op_in_seq (pv 3) (pe_call GLPart hr rfl hLPart kLPart bLPart .nil pass0 (pa_cons (pv 2) (pa_cons (pv 4) pa_nil))) (by rfl))) (fun _ _ _ _ _ => pe_tup (pa_cons (pv 0) (pa_cons (pv 1) pa_nil)))) pa_nil))), ?_⟩
    try dsimp only [cxOf, Cx.nox]
    have b61 := BD.len
    refine ⟨_, rfl, l, rfl, ⟨_, SqL.of el⟩, fun D hD => comp_listL (K := K) (a := l) (xs := rs.map V.ref) (fun j σ ys H6 => ∃ (u v w : Option V) (as : List Addr), σ = [u, v, w, some (.int (q : Int)), some (.int (p : Int))] ∧ ys = as.map V.ref ∧ Same H H6 ∧ H6 D = some (.lst ys) ∧ SnsA H6 as (pcsL bs (bdJ N ds bs p q) j)) ⟨none, none, none, [], rfl, rfl, same_new hD, upd_same, rfl, fun i r x e => by simp at e⟩ (fun j σ ys H6 _ ⟨_, _, _, _, _, _, s, e, _⟩ => ⟨SqL.of (s _ _ el), e⟩) ?_ ?_⟩
    · intro j x σ ys H6 hx hI6_ E_
      refine hideG fun G_ hG_ => ?_
      obtain ⟨u, v, w', as, rfl, rfl, s6, e6, sn⟩ := hI6_
      obtain ⟨r, hr', rfl⟩ := map_some hx
      obtain ⟨b, L, S, _, hb, er, hL, so⟩ := hrs j r hr'
      have jl : j < bs.length := (List.getElem?_eq_some_iff.mp hb).1
      have gd : bs.getD j 0 = b := by rw [List.getD_eq_getElem?_getD, hb]; rfl
      have cl := cnt_le ds b
      have al := sn.1
      have pl := pcsL_len bs (bdJ N ds bs p q) j
      refine hG_ ?_
      refine ⟨r, _, rfl, SqT.of (s6 _ _ er), rfl, _, _, rfl, _, _, rfl, _, _, rfl, rfl, ?_⟩
      refine ⟨_, rfl, _, rfl, _, rfl, N, L, S, p, rfl, hL.same s6, srtd_inN so (thr_inN hR cl), pN, N60, fun r' ps H7 s7 e7 iff => ⟨r', _, rfl, .inl (SqL.of e7), rfl, flat_ints _, _, rfl, ?_⟩⟩
      show if (inV (.int (q : Int)) ((ps.map Int.ofNat).map V.int)) = true then _ else _
      rw [inV_nat]
      have ej : decide (q ∈ ps) = bdJ N ds bs p q j := by
        unfold bdJ
        rw [gd, Bool.eq_iff_iff, jn_iff hR N60 cl pN, decide_eq_true_eq, iff q, reach_mem fun u => so.1.mem_iff]
        exact ⟨fun z => ⟨qN, z⟩, fun z => z.2⟩
      rw [ej]
      have ps' := pcsL_succ bs (bdJ N ds bs p q) j
      have T7 := s6.trans s7
      have e6' := s7 _ _ e6
      have sn7 : SnsA H7 as (pcsL bs (bdJ N ds bs p q) j) := rws_mono sn fun r x e => s7 _ _ e
      cases g : bdJ N ds bs p q j with
      | false =>
        rw [g, if_neg (by decide)] at ps'
        refine iteF ⟨_, _, _, as, rfl, rfl, T7, e6', ?_⟩
        rw [ps']; exact sn7
      | true =>
        rw [g, if_pos rfl] at ps'
        refine iteT ⟨_, rfl, _, rfl, small (by simp), fun t ht => ?_⟩
        have s8 := same_new (o := .tup [.int b, oV bs[j + 1]?]) ht
        have t8 : upd H7 t (.tup [.int b, oV bs[j + 1]?]) t = some (.tup (snV (pc bs j))) := by
          rw [upd_same]; unfold pc; rw [gd]; rfl
        generalize upd H7 t (.tup [.int b, oV bs[j + 1]?]) = H8 at s8 t8
        have e8 := s8 _ _ e6'
        refine ⟨e8, small1000 (by rw [List.length_map]; omega), _, _, _, as ++ [t], rfl, by rw [List.map_append]; rfl, same_set (T7.trans s8) hD, upd_same, ?_⟩
        rw [ps']
        refine rws_snoc (Pp := fun r x => upd H8 D (.lst (as.map V.ref ++ [.ref t])) r = some (.tup (snV x))) (rws_mono sn7 fun r x e => ?_) ?_
        · have e := s8 _ _ e
          rw [upd_ne (ne_of e e8 (by intro z; cases z))]; exact e
        · rw [upd_ne (ne_of t8 e8 (by intro z; cases z))]; exact t8
    · intro σ ys H6 hI3_
      refine hideG fun G_ hG_ => ?_
      obtain ⟨u, v, w', as, rfl, rfl, s6, e6, sn⟩ := hI3_
      refine hG_ ?_
      rw [List.length_map, rl] at sn
      have pl := pcsL_len bs (bdJ N ds bs p q) bs.length
      refine ⟨D, as, _, rfl, e6, sn, by omega, fun r H7 s7 hS => ?_⟩
      rw [lay_wh hR BD (f := bdJ N ds bs p q) (g := jnF N ds p q) fun i _ => rfl] at hS
      exact k r H7 (s6.trans s7) hS
end
end K68
set_option maxHeartbeats 2000000
namespace K68
open PySem L2 Wk
def PrAt (N : Nat) (H : Hp) (r : Addr) : Prop := ∃ p q : Nat, p < N ∧ q < N ∧ H r = some (.tup [.int (p : Int), .int (q : Int)])
theorem nat_of {v : Int} (h : 0 ≤ v) : ∃ n : Nat, v = (n : Int) := ⟨v.toNat, by omega⟩
inductive SpLPairsP (vs : List V) (H : Hp) (Q : VK) (u_3 : XK) : Prop
  | mk (d c h : Addr) (N : Nat) (ds : List Dd) : (vs = [.ref d, .ref h]) → (DeckAt H d c) → (HistAt H h N ds) → (Right N ds) → (1 ≤ N) → (N ≤ 60) → (∀ (l : Addr) (rs : List Addr) (H' : Hp), But d c H H' → DeckAt H' d c → H' l = some (.lst (rs.map V.ref)) → l ≠ d → l ≠ c → (∀ r ∈ rs, PrAt N H' r) → Q (.ref l) H') → SpLPairsP vs H Q u_3
def spLPairs : Sp := fun vs H Q u_3 => SpLPairsP vs H Q u_3
theorem hist_but {H H' : Hp} {a c h : Addr} {N : Nat} {ds : List Dd} (x : HistAt H h N ds) (b : But a c H H') (D : DeckAt H a c) : HistAt H' h N ds := x.mono fun r xs e => b.tup D e
theorem PrAt.tup {N : Nat} {H H' : Hp} {r : Addr} (h : PrAt N H r) (t : Tup H H') : PrAt N H' r := let ⟨p, q, a, b, e⟩ := h; ⟨p, q, a, b, t _ _ e⟩
def CmAt (N : Nat) (H : Hp) (r : Addr) : Prop := ∃ (m : Int) (t : T4), t.2.1 < N ∧ t.2.2.1 < N ∧ H r = some (.tup (Dd.come m t).vs)
theorem CmAt.tup {N : Nat} {H H' : Hp} {r : Addr} (h : CmAt N H r) (t : Tup H H') : CmAt N H' r := let ⟨m, x, a, b, e⟩ := h; ⟨m, x, a, b, t _ _ e⟩
section
variable {P : Program} {w : World} {K : PySem.W.Frag} {mg : Str → Option Value} {base : Heap}
theorem scLPairs : FnScope ["_law_deck_here", "_law_history_here", "_law_many", "_law_found", "_law_comings", "_law_k", "_law_deed", "_law_place"] ["_law_deck_here", "_law_history_here"] (defScope sLPairs) := ⟨rfl, rfl, rfl, by decide +kernel, rfl, by decide +kernel, by decide +kernel⟩
theorem ok_LPairs {f : Addr} {fd : FuncData} (F : Fun K "_law_pairs" "_law_pairs" sLPairs f fd) (T : Txt mg)
    {gDraw : Addr} {fDraw : FuncData} (kDraw : PySem.W.keepIn K (.ref gDraw) = true) (bDraw : Binds K fDraw ["_law_deck_here", "_law_most"] []) (hDraw : mg "_law_draw" = some (.ref gDraw)) (GDraw : FnOk P w K mg base CX0 2 gDraw fDraw ["_law_deck_here", "_law_most"] spDraw) :
    FnOk P w K mg base CX0 3 f fd ["_law_deck_here", "_law_history_here"] spLPairs := by
  refine F.ok scLPairs (fun vs H Q E h => ?_) (fun cdv A outer s H vs Q E hr h => ?_)
  · obtain ⟨_, _, _, _, _, rfl, _⟩ := h; rfl
  · obtain ⟨d, c, h, N, ds, rfl, hD, hh, hR, N1, N60, k⟩ := h
    refine ⟨_, pss_cons (ps_set (i := 2) scLPairs.nd rfl (Or.inl rfl) (pe_ix ix_tup (pv 1) pe_int (fun _ _ => rfl)))
      (pss_cons (ps_set (i := 3) scLPairs.nd rfl (Or.inl rfl) (pe_lst (pa_cons (pe_tup (pa_cons (pe_call GDraw hr rfl hDraw kDraw bDraw .nil pass0 (pa_cons (pv 0) (pa_cons (pv 2) pa_nil))) (pa_cons (pe_call GDraw hr rfl hDraw kDraw bDraw .nil pass0 (pa_cons (pv 0) (pa_cons (pv 2) pa_nil))) pa_nil))) (pa_cons (pe_tup (pa_cons (pe_op op_sub (pv 2) pe_int) (pa_cons pe_int pa_nil))) pa_nil))))
      (pss_cons (ps_comp (i := 4) (T := ["_law_deed"]) (F := []) (js := []) scLPairs.nd rfl (Or.inl rfl) (CS.to (osc := defScope sLPairs) ⟨by rfl, by decide +kernel, by decide +kernel, by decide +kernel, by decide +kernel, by decide +kernel, by decide +kernel⟩ rfl rfl) rfl (pi_tup (pe_ix ix_tup (pv 1) pe_int (fun _ _ => rfl))) (fun _ _ _ _ _ => pg_name (i := 0) (show (["_law_deed"] : List Str).Nodup by decide +kernel) rfl (Or.inl rfl)) (fun _ _ _ _ _ => pif_one (pt_cmpR op_eq (pe_ix (r := rIxT K) ix_tup (pv 0) pe_int (fun _ _ => rfl)) pe_str (nomark _))) (fun _ _ _ _ _ => pv 0))
      (pss_cons (ps_for PassesOwn.never rfl (pi_range1 rfl T.range (pa_cons (pe_op op_mul pe_int (pe_callTy call_int1 (by rfl) T.int (by decide +kernel) (pa_cons (pe_cmpR (op_neNil hr.units) (pv 4) (pe_lst pa_nil) (nomark _)) pa_nil))) pa_nil)) (pg_name (i := 5) scLPairs.nd rfl (Or.inl rfl)) (pss_cons (ps_set (i := 6) scLPairs.nd rfl (Or.inl rfl) (pe_ix ix_list (pv 4) (pe_call GDraw hr rfl hDraw kDraw bDraw .nil pass0 (pa_cons (pv 0) (pa_cons (pe_callB call_len_seq (by rfl) T.len PySem.boot_len (pa_cons (pv 4) pa_nil)) pa_nil))) (fun _ _ => rfl)))
      (pss_one (ps_expr (pe_bm PySem.F.plainAttrs_list PySem.F.slot_list_append PySem.F.type_list_append mt_append (pv 3) (pa_cons (pe_ix ix_list (pe_lst (pa_cons (pe_tup (pa_cons (pe_ix ix_tup (pv 6) pe_int (fun _ _ => rfl)) (pa_cons (pe_ix ix_tup (pv 6) pe_int (fun _ _ => rfl)) pa_nil))) (pa_cons (pe_tup (pa_cons (pe_ix ix_tup (pv 6) pe_int (fun _ _ => rfl)) (pa_cons (pe_call GDraw hr rfl hDraw kDraw bDraw .nil pass0 (pa_cons (pv 0) (pa_cons (pv 2) pa_nil))) pa_nil))) pa_nil))) (pv 5) (fun _ _ => rfl)) pa_nil))))))
      (pss_cons (ps_set (i := 7) scLPairs.nd rfl (Or.inl rfl) (pe_call GDraw hr rfl hDraw kDraw bDraw .nil pass0 (pa_cons (pv 0) (pa_cons (pv 2) pa_nil))))
      (pss_one (ps_ret (pe_op op_cat (pv 3) (pe_lst (pa_cons (pe_tup (pa_cons (pv 7) (pa_cons (pv 7) pa_nil))) pa_nil))))))))), ?_⟩
    dsimp only [cxOf, Cx.nox]
    refine seqL5 ?_
    intro R5_ R4_ R3_ R2_ R1_
    obtain ⟨tp, rs, eh, et, hdd⟩ := id hh
    have d60 := hR.len
    refine ⟨_, rfl, h, _, 0, _, rfl, rfl, SqT.of eh, atI_nat (j := 0) rfl, ?_⟩
    refine ⟨_, rfl, _, rfl, d, c, _, rfl, hD, by omega, by omega, fun v1 H1 a0 a1 b1 D1 => ⟨_, rfl, _, rfl, d, c, _, rfl, D1, by omega, by omega, fun v2 H2 a2 a3 b2 D2 => ⟨small (by simp), fun t1 h1 => ?_⟩⟩⟩
    obtain ⟨p1, rfl⟩ := nat_of a0
    obtain ⟨q1, rfl⟩ := nat_of a2
    have B2 := b1.trans b2
    have s3 := same_new (o := .tup [.int (p1 : Int), .int (q1 : Int)]) h1
    have e3 := upd_same (H := H2) (a := t1) (o := .tup [.int (p1 : Int), .int (q1 : Int)])
    generalize upd H2 t1 (.tup [.int (p1 : Int), .int (q1 : Int)]) = H3 at s3 e3
    refine ⟨_, rfl, _, _, rfl, rfl, small (by simp), fun t2 h2 => ?_⟩
    have s4 := same_new (o := .tup [.int ((N : Int) - 1), .int 0]) h2
    have e4 := upd_same (H := H3) (a := t2) (o := .tup [.int ((N : Int) - 1), .int 0])
    generalize upd H3 t2 (.tup [.int ((N : Int) - 1), .int 0]) = H4 at s4 e4
    refine ⟨small (by simp), fun F hF => ?_⟩
    have s5 := same_new (o := .lst [.ref t1, .ref t2]) hF
    have f5 : upd H4 F (.lst [.ref t1, .ref t2]) F = some (.lst (([t1, t2] : List Addr).map V.ref)) := upd_same
    have nF := (D2.same (s3.trans s4)).ne hF
    have F0 : H F = none := by
      have := none_of (s3.trans s4) hF
      exact B2.none D2 this
    generalize upd H4 F (.lst [.ref t1, .ref t2]) = H5 at s5 f5
    have S5 : Same H2 H5 := (s3.trans s4).trans s5
    have D5 := D2.same S5
    have B5 : But d c H H5 := B2.trans (But.of S5)
    have hh5 := hist_but hh B5 hD
    have P5 : ∀ r ∈ ([t1, t2] : List Addr), PrAt N H5 r := fun r hr' => by
      rcases List.mem_cons.mp hr' with rfl | hr'
      · exact ⟨p1, q1, by omega, by omega, s5 _ _ (s4 _ _ e3)⟩
      · rw [List.mem_singleton.mp hr']
        exact ⟨N - 1, 0, by exact Nat.sub_lt (by assumption) (by decide), by assumption, by rw [s5 _ _ e4, show ((N : Int) - 1) = ((N - 1 : Nat) : Int) by clear d60; omega]; rfl⟩
    clear s3 s4 s5 e3 e4 h1 h2 hF S5 b1 b2 B2 D1 D2 a0 a1 a2 a3
    obtain ⟨tp', rs', eh5, et5, hdd5⟩ := id hh5
    refine ⟨_, rfl, h, _, 1, _, rfl, rfl, SqT.of eh5, atI_nat (j := 1) rfl, tp', rfl, ⟨_, SqT.of et5⟩, fun C hC => comp_tupL (K := K) (a := tp') (xs := rs'.map V.ref) (fun j σ ys H6 => ∃ (u : Option V) (as : List Addr), σ = [u] ∧ Same H5 H6 ∧ H6 C = some (.lst ys) ∧ ys = as.map V.ref ∧ as.length ≤ j ∧ ∀ r ∈ as, CmAt N H6 r) ⟨none, [], rfl, same_new hC, upd_same, rfl, Nat.le_refl _, fun r hr => nomatch hr⟩ (fun j σ ys H6 _ ⟨_, _, _, s, e, _⟩ => ⟨SqT.of (s _ _ et5), e⟩) ?_ ?_⟩
    · rintro j x σ ys H6 hx ⟨u, as, rfl, s6, e6, rfl, al, ac⟩
      intro E_
      obtain ⟨r, er, rfl⟩ := map_some hx
      obtain ⟨dd, ed, r0⟩ := hdd5.get er
      have r6 := s6 _ _ r0
      have jl : j < ds.length := (List.getElem?_eq_some_iff.mp ed).1
      cases dd with
      | come m t =>
        have tk := (hR.ok j _ ed).2
        refine ⟨_, rfl, r, _, 0, _, rfl, rfl, SqT.of r6, atI_nat (j := 0) rfl, rfl, _, rfl, iteT ?_⟩
        refine ⟨_, rfl, e6, small1000 (by rw [List.length_map]; omega), _, as ++ [r], rfl, same_set s6 hC, upd_same, by rw [List.map_append]; rfl, by simp; assumption, fun r' hr' => ?_⟩
        have tt : Tup H6 (upd H6 C (.lst (as.map V.ref ++ [.ref r]))) := Tup.lst e6
        rcases List.mem_append.mp hr' with z | z
        · exact (ac r' z).tup tt
        · rw [List.mem_singleton.mp z]; exact ⟨m, t, tk.1, tk.2.1, tt _ _ r6⟩
      | go m n =>
        refine ⟨_, rfl, r, _, 0, _, rfl, rfl, SqT.of r6, atI_nat (j := 0) rfl, rfl, _, rfl, iteF ?_⟩
        exact ⟨_, as, rfl, s6, e6, rfl, by exact Nat.le_succ_of_le (by assumption), ac⟩
    rintro σ ys H6 ⟨u, as, rfl, s6, e6, rfl, al, ac⟩
    rw [List.length_map, hdd5.1] at al
    have D6 := D5.same s6
    have nC := D5.ne hC
    have C0 : H C = none := B5.none D5 hC
    have FC : F ≠ C := ne_of_none f5 hC
    refine ⟨_, rfl, small (by simp), fun e he => ?_⟩
    have s7 := same_new (o := .lst []) he
    have e7 := upd_same (H := H6) (a := e) (o := .lst [])
    generalize upd H6 e (.lst []) = H7 at s7 e7
    have S7 := s6.trans s7
    refine ⟨C, e, _, rfl, rfl, SqL.of (s7 _ _ e6), SqL.of e7, .inr ⟨_, rfl, _, _, rfl, rfl, .inl ⟨by decide, by decide⟩, ?_⟩⟩
    obtain ⟨tot, htot⟩ : ∃ tot : Int, tot = 2 * (if (!(as.map V.ref).isEmpty) = true then 1 else 0) := ⟨_, rfl⟩
    have tb : 0 ≤ tot ∧ tot ≤ 2 ∧ (0 < tot → 0 < as.length) := by
      rw [htot]
      cases as with
      | nil => exact ⟨by decide, by decide, fun z => absurd z (by decide)⟩
      | cons x xs => rw [if_pos (show (!(List.map V.ref (x :: xs)).isEmpty) = true from rfl)]; exact ⟨by decide, by decide, fun _ => by simp⟩
    refine ⟨tot, by rw [htot], by clear al; omega, by clear al; omega, for_rangeL (lo := 0) (n := tot.toNat) (fun i σ H8 => ∃ (u5 u6 u7 : Option V) (fs : List Addr), σ = [some (.ref d), some (.ref h), some (.int (N : Int)), some (.ref F), some (.ref C), u5, u6, u7] ∧ But d c H H8 ∧ DeckAt H8 d c ∧ H8 F = some (.lst (fs.map V.ref)) ∧ fs.length ≤ 2 + i ∧ (∀ r ∈ fs, PrAt N H8 r) ∧ H8 C = some (.lst (as.map V.ref)) ∧ ∀ r ∈ as, CmAt N H8 r) ⟨_, _, _, [t1, t2], rfl, B5.trans (But.of S7), D5.same S7, S7 _ _ f5, Nat.le_refl _, fun r hr' => (P5 r hr').tup (Tup.of S7), s7 _ _ e6, fun r hr' => (ac r hr').tup (Tup.of s7)⟩ ?_ ?_⟩
    · rintro i σ H8 hi ⟨u5, u6, u7, fs, rfl, b8, D8, f8, fl, fp, c8, cm⟩
      intro E_
      have as0 : 0 < as.length := tb.2.2 (by clear al; omega)
      refine seqG1 ?_
      intro R1_
      refine ⟨_, rfl, _, rfl, _, rfl, C, _, rfl, .inl (SqL.of c8), d, c, _, rfl, D8, by rw [List.length_map]; omega, by rw [List.length_map]; omega, fun v H9 v0 v1 b9 D9 => ?_⟩
      rw [List.length_map] at v1
      obtain ⟨r, hr', hy⟩ := ref_item as v0 v1
      have c9 := b9 _ _ c8 nC.1 nC.2
      have tA : Tup H8 H9 := Tup.but b9 D8
      obtain ⟨m, t, z1, z2, er⟩ := (cm r hr').tup tA
      refine ⟨C, _, v, _, rfl, rfl, SqL.of c9, hy, ?_⟩
      have f9 := b9 _ _ f8 nF.1 nF.2
      refine ⟨_, rfl, .inl ⟨rfl, _, SqL.of f9⟩, ?_⟩
      refine ⟨_, rfl, r, _, 3, _, rfl, rfl, SqT.of er, atI_nat (j := 3) rfl, _, rfl, r, _, 4, _, rfl, rfl, SqT.of er, atI_nat (j := 4) rfl, small (by simp), fun x1 h1 => ?_⟩
      have sA := same_new (o := .tup [.int (t.2.1 : Int), .int (t.2.2.1 : Int)]) h1
      have eA := upd_same (H := H9) (a := x1) (o := .tup [.int (t.2.1 : Int), .int (t.2.2.1 : Int)])
      generalize upd H9 x1 (.tup [.int (t.2.1 : Int), .int (t.2.2.1 : Int)]) = HA at sA eA
      have DA := D9.same sA
      refine ⟨_, rfl, r, _, 4, _, rfl, rfl, SqT.of (sA _ _ er), atI_nat (j := 4) rfl, _, rfl, _, rfl, d, c, _, rfl, DA, by omega, by omega, fun w HB w0 w1 bB DB => ⟨small (by simp), fun x2 h2 => ?_⟩⟩
      obtain ⟨w, rfl⟩ := nat_of w0
      have sC := same_new (o := .tup [.int (t.2.2.1 : Int), .int (w : Int)]) h2
      have eC := upd_same (H := HB) (a := x2) (o := .tup [.int (t.2.2.1 : Int), .int (w : Int)])
      generalize upd HB x2 (.tup [.int (t.2.2.1 : Int), .int (w : Int)]) = HC at sC eC
      refine ⟨small (by simp), fun q hq => ?_⟩
      have sD := same_new (o := .lst [.ref x1, .ref x2]) hq
      have eD := upd_same (H := HC) (a := q) (o := .lst [.ref x1, .ref x2])
      generalize upd HC q (.lst [.ref x1, .ref x2]) = HD at sD eD
      have t1' : HD x1 = some (.tup [.int (t.2.1 : Int), .int (t.2.2.1 : Int)]) := sD _ _ (sC _ _ (bB.tup DA eA))
      have t2' := sD _ _ eC
      have S2 := sC.trans sD
      have DD := DB.same S2
      have BD' : But d c H8 HD := ((b9.trans (But.of sA)).trans bB).trans (But.of S2)
      have fD := BD' _ _ f8 nF.1 nF.2
      have cD := BD' _ _ c8 nC.1 nC.2
      have tD : Tup H8 HD := Tup.but BD' D8
      obtain ⟨x, hx, px⟩ : ∃ x : Addr, atI [V.ref x1, V.ref x2] ((0 : Int) + (i : Int)) = some (V.ref x) ∧ PrAt N HD x := by
        rw [Int.zero_add]
        have i2 : i < 2 := by clear al; omega
        match i, i2 with
        | 0, _ => exact ⟨x1, atI_nat (j := 0) rfl, _, _, z1, z2, t1'⟩
        | 1, _ => exact ⟨x2, atI_nat (j := 1) rfl, _, _, z2, by omega, t2'⟩
      have tE : Tup HD (upd HD F (.lst (fs.map V.ref ++ [.ref x]))) := Tup.lst fD
      refine ⟨_, rfl, q, _, _, _, rfl, rfl, SqL.of eD, hx, F, _, _, rfl, rfl, fD, small1000 (by rw [List.length_map]; clear al; omega), _, _, _, fs ++ [x], rfl, (b8.trans BD').set F0, DD.upd nF, by rw [upd_same, List.map_append]; rfl, by simp; exact Nat.succ_le_succ (by assumption), fun r hr' => ?_, by rw [upd_ne FC.symm]; exact cD, fun r hr' => ((cm r hr').tup tD).tup tE⟩
      rcases List.mem_append.mp hr' with z | z
      · exact ((fp r z).tup tD).tup tE
      · rw [List.mem_singleton.mp z]; exact px.tup tE
    · rintro σ H8 ⟨u5, u6, u7, fs, rfl, b8, D8, f8, fl, fp, c8, cm⟩
      refine ⟨_, rfl, _, rfl, d, c, _, rfl, D8, by omega, by omega, fun v H9 v0 v1 b9 D9 => ?_⟩
      obtain ⟨w, rfl⟩ := nat_of v0
      have f9 := b9 _ _ f8 nF.1 nF.2
      refine ⟨_, rfl, _, rfl, _, rfl, small (by simp), fun x1 h1 => ?_⟩
      have sA := same_new (o := .tup [.int (w : Int), .int (w : Int)]) h1
      have eA := upd_same (H := H9) (a := x1) (o := .tup [.int (w : Int), .int (w : Int)])
      generalize upd H9 x1 (.tup [.int (w : Int), .int (w : Int)]) = HA at sA eA
      refine ⟨small (by simp), fun q hq => ?_⟩
      have sB := same_new (o := .lst [.ref x1]) hq
      have eB := upd_same (H := HA) (a := q) (o := .lst [.ref x1])
      generalize upd HA q (.lst [.ref x1]) = HB at sB eB
      have S2 := sA.trans sB
      refine ⟨F, q, _, _, rfl, rfl, S2 _ _ f9, eB, small (by simp; clear al; omega), fun l hl => ?_⟩
      have sC := same_new (o := .lst (fs.map V.ref ++ [.ref x1])) hl
      have nl := (D9.same S2).ne hl
      have S3 := S2.trans sC
      refine k l (fs ++ [x1]) _ ((b8.trans b9).trans (But.of S3)) (D9.same S3) (by rw [upd_same, List.map_append]; rfl) nl.1 nl.2 fun r hr' => ?_
      rcases List.mem_append.mp hr' with z | z
      · exact ((fp r z).tup (Tup.but b9 D8)).tup (Tup.of S3)
      · rw [List.mem_singleton.mp z]; exact ⟨w, w, by clear fl; omega, by clear fl; omega, sC _ _ (sB _ _ eA)⟩
end
end K68
set_option maxHeartbeats 1000000
namespace K68
open PySem L2 Wk
def SmV : Nat → Hp → V → V → Prop
  | 0, _, x, y => x = y ∧ ((∃ i, x = .int i) ∨ (∃ s, x = .str s) ∨ (∃ c, x = .bl c) ∨ x = .non)
  | n + 1, H, x, y => ∃ (a b : Addr) (xs ys : List V), x = .ref a ∧ y = .ref b ∧ H a = some (.tup xs) ∧ H b = some (.tup ys) ∧ xs.length = ys.length ∧ xs.length ≤ 400 ∧ ∀ (i : Nat) u v, xs[i]? = some u → ys[i]? = some v → SmV n H u v
inductive SpSameP (n : Nat) (vs : List V) (H : Hp) (Q : VK) (u_3 : XK) : Prop
  | mk (x y : V) : (vs = [x, y]) → (SmV n H x y) → (∀ H', Same H H' → Q (.bl true) H') → SpSameP n vs H Q u_3
def spSame (n : Nat) : Sp := fun vs H Q u_3 => SpSameP n vs H Q u_3
theorem sm_opt {H : Hp} (o : Option Int) : SmV 0 H (oV o) (oV o) := by
  cases o with
  | none => exact ⟨rfl, .inr (.inr (.inr rfl))⟩
  | some i => exact ⟨rfl, .inl ⟨i, rfl⟩⟩
section
variable {P : Program} {w : World} {K : PySem.W.Frag} {mg : Str → Option Value} {base : Heap}
theorem scSame : FnScope ["_law_found", "_law_due"] ["_law_found", "_law_due"] (defScope sSame) := ⟨rfl, rfl, rfl, by decide +kernel, rfl, by decide +kernel, by decide +kernel⟩
theorem ok_Same0 {f : Addr} {fd : FuncData} (F : Fun K "_law_same" "_law_same" sSame f fd) (T : Txt mg) :
    FnOk P w K mg base CX0 1 f fd ["_law_found", "_law_due"] (spSame 0) := by
  refine F.ok scSame (fun vs H Q E h => ?_) (fun cdv A outer s H vs Q E hr h => ?_)
  · obtain ⟨_, _, rfl, _⟩ := h; rfl
  · obtain ⟨x, y, rfl, ⟨rfl, hx⟩, k⟩ := h
    refine ⟨_, pss_cons (ps_if (pt_val (pe_callB call_isi (by rfl) T.isinstance (by decide +kernel) (pa_cons (pv 1) (pa_cons (pe_ty (T := "tuple") (by rfl) T.tuple (by decide +kernel)) pa_nil)))) (pss_cons (ps_if (PW.pt (pw_or (pt_not (pt_val (pe_callB call_isi (by rfl) T.isinstance (by decide +kernel) (pa_cons (pv 0) (pa_cons (pe_ty (T := "tuple") (by rfl) T.tuple (by decide +kernel)) pa_nil))))) (pw_or1 (pt_cmpR op_ne (pe_callB call_len_seq (by rfl) T.len PySem.boot_len (pa_cons (pv 0) pa_nil)) (pe_callB call_len_seq (by rfl) T.len PySem.boot_len (pa_cons (pv 1) pa_nil)) (nomark _))))) (pss_one (ps_ret pe_bl)) pss_nil)
      (pss_one ps_never)) pss_nil)
      (pss_cons (ps_if (pt_cmpR op_isN (pv 1) pe_non (nomark _)) (pss_one (ps_ret (pe_cmpR op_isN (pv 0) pe_non (nomark _)))) pss_nil)
      (pss_cons (ps_if (PW.pt (pw_or (pt_val (pe_callB call_isi (by rfl) T.isinstance (by decide +kernel) (pa_cons (pv 1) (pa_cons (pe_ty (T := "bool") (by rfl) T.bool (by decide +kernel)) pa_nil)))) (pw_or1 (pt_val (pe_callB call_isi (by rfl) T.isinstance (by decide +kernel) (pa_cons (pv 0) (pa_cons (pe_ty (T := "bool") (by rfl) T.bool (by decide +kernel)) pa_nil))))))) (pss_one (ps_ret (pe_and (pe_callB call_isi (by rfl) T.isinstance (by decide +kernel) (pa_cons (pv 1) (pa_cons (pe_ty (T := "bool") (by rfl) T.bool (by decide +kernel)) pa_nil))) (pe_and (pe_callB call_isi (by rfl) T.isinstance (by decide +kernel) (pa_cons (pv 0) (pa_cons (pe_ty (T := "bool") (by rfl) T.bool (by decide +kernel)) pa_nil))) (pe_one (pe_cmpR op_eq (pv 0) (pv 1) (nomark _))))))) pss_nil)
      (pss_cons (ps_if (pt_val (pe_callB call_isi (by rfl) T.isinstance (by decide +kernel) (pa_cons (pv 1) (pa_cons (pe_ty (T := "str") (by rfl) T.str (by decide +kernel)) pa_nil)))) (pss_one (ps_ret (pe_and (pe_callB call_isi (by rfl) T.isinstance (by decide +kernel) (pa_cons (pv 0) (pa_cons (pe_ty (T := "str") (by rfl) T.str (by decide +kernel)) pa_nil))) (pe_one (pe_cmpR op_eq (pv 0) (pv 1) (nomark _)))))) pss_nil)
      (pss_one (ps_ret (pe_and (pe_callB call_isi (by rfl) T.isinstance (by decide +kernel) (pa_cons (pv 0) (pa_cons (pe_ty (T := "int") (by rfl) T.int (by decide +kernel)) pa_nil))) (pe_one (pe_cmpR op_eq (pv 0) (pv 1) (nomark _))))))))), ?_⟩
    try dsimp only [cxOf, Cx.nox]
    rcases hx with ⟨i, rfl⟩ | ⟨z, rfl⟩ | ⟨c, rfl⟩ | rfl
    · refine ⟨_, rfl, .int i, .type "int", "tuple", false, rfl, .int i, rfl, _, rfl, iteF ?_⟩
      dsimp only [tNext]
      refine ⟨_, rfl, rfl, _, rfl, iteF ?_⟩
      dsimp only [tNext]
      refine ⟨_, rfl, .int i, .type "int", "bool", false, rfl, .int i, rfl, _, rfl, iteF ⟨_, rfl, .int i, .type "int", "bool", false, rfl, .int i, rfl, _, rfl, iteF ?_⟩⟩
      dsimp only [tNext]
      refine ⟨_, rfl, .int i, .type "int", "str", false, rfl, .int i, rfl, _, rfl, iteF ?_⟩
      dsimp only [tNext]
      refine ⟨_, rfl, .int i, .type "int", "int", true, rfl, .int i, rfl, _, rfl, iteT ⟨_, rfl, _, rfl, rfl, ?_⟩⟩
      rw [decide_eq_true rfl]
      exact k _ (same_refl _)
    · refine ⟨_, rfl, .str z, .type "str", "tuple", false, rfl, .str z, rfl, _, rfl, iteF ?_⟩
      dsimp only [tNext]
      refine ⟨_, rfl, rfl, _, rfl, iteF ?_⟩
      dsimp only [tNext]
      refine ⟨_, rfl, .str z, .type "str", "bool", false, rfl, .str z, rfl, _, rfl, iteF ⟨_, rfl, .str z, .type "str", "bool", false, rfl, .str z, rfl, _, rfl, iteF ?_⟩⟩
      dsimp only [tNext]
      refine ⟨_, rfl, .str z, .type "str", "str", true, rfl, .str z, rfl, _, rfl, iteT ?_⟩
      refine ⟨_, rfl, .str z, .type "str", "str", true, rfl, .str z, rfl, _, rfl, iteT ⟨_, rfl, _, rfl, rfl, ?_⟩⟩
      rw [decide_eq_true rfl]
      exact k _ (same_refl _)
    · refine ⟨_, rfl, .bl c, .type "bool", "tuple", false, rfl, .bl c, rfl, _, rfl, iteF ?_⟩
      dsimp only [tNext]
      refine ⟨_, rfl, rfl, _, rfl, iteF ?_⟩
      dsimp only [tNext]
      refine ⟨_, rfl, .bl c, .type "bool", "bool", true, rfl, .bl c, rfl, _, rfl, iteT ?_⟩
      refine ⟨_, rfl, .bl c, .type "bool", "bool", true, rfl, .bl c, rfl, _, rfl, iteT ⟨_, rfl, .bl c, .type "bool", "bool", true, rfl, .bl c, rfl, _, rfl, iteT ⟨_, rfl, _, rfl, rfl, ?_⟩⟩⟩
      rw [decide_eq_true rfl]
      exact k _ (same_refl _)
    · refine ⟨_, rfl, .non, .type "NoneType", "tuple", false, rfl, .non, rfl, _, rfl, iteF ?_⟩
      dsimp only [tNext]
      refine ⟨_, rfl, rfl, _, rfl, iteT ?_⟩
      refine ⟨_, rfl, rfl, ?_⟩
      rw [decide_eq_true rfl]
      exact k _ (same_refl _)
end
end K68
set_option maxHeartbeats 1000000
namespace L2
open PySem PySem.Spec PyProof.Rows
end L2
set_option maxHeartbeats 1000000
namespace L2
open PySem PySem.Spec PyProof.Rows
theorem op_neNilT {X : Cx} (hu : X.A.units + 64 < cLine) : OpR X (compareOp .NotEq) (fun x y H Q => ∃ (a b : Addr) (xs : List V), x = .ref a ∧ y = .ref b ∧ SqT X.K H a xs ∧ SqT X.K H b [] ∧ Q (.bl (!xs.isEmpty)) H) := by
  intro pins s σ H x y u v Q I rx ry h
  obtain ⟨a, b, xs, rfl, rfl, ha, hb, q⟩ := h
  cases rx
  cases ry
  obtain ⟨its, r1, h1, _⟩ := I.tuple ha
  obtain ⟨its2, r2, h2, _⟩ := I.tuple hb
  have l1 := r1.length
  have l2 := r2.length
  have e2 : its2 = [] := by cases its2 with | nil => rfl | cons _ _ => simp at l2
  subst e2
  have hu' : X.A.units < cLine := by omega
  refine (SeqAt.RcNeAt.tuples (e := fun _ => true) h1 h2 hu' (fun j g1 g2 => absurd g2 (by simp))) X.prog X.w X.xe _ ?_
  refine ⟨.bl _, H, I, rfl, ?_⟩
  have : ((List.range (min its.toArray.size ([] : List Value).toArray.size)).all (fun _ => true) && its.toArray.size == ([] : List Value).toArray.size) = xs.isEmpty := by
    cases xs with
    | nil => cases its with | nil => rfl | cons _ _ => simp at l1
    | cons x xs => cases its with | nil => simp at l1 | cons _ _ => simp
  rw [this]; exact q
end L2
set_option maxHeartbeats 2000000
namespace K68
open PySem L2 Wk
def endB (e : Int) : Option Int → Int
  | none => e
  | some h => if e < h then e else h
theorem les_end (h : Option Int) (e : Int) : oV (lesF h (some e)) = .int (endB e h) := by cases h <;> rfl
def lstB (e : Int) (L : List Sn) : Option Int := L.foldl (fun f s => if s.1 < e then some (endB e s.2 - 1) else f) none
theorem lst_snoc (e : Int) (L : List Sn) (s : Sn) : lstB e (L ++ [s]) = if s.1 < e then some (endB e s.2 - 1) else lstB e L := by unfold lstB; rw [List.foldl_append]; rfl
def fstB (L : List Sn) : Option Int := L.head?.map (·.1)
theorem jn_sym {N : Nat} {ds : List Dd} (h : Right N ds) (hN : N ≤ 60) {p q : Nat} (hp : p < N) (hq : q < N) : jnF N ds p q = jnF N ds q p := by
  have key : ∀ n, n ≤ ds.length → jnF N ds p q n = jnF N ds q p n := fun n hn => by
    rw [Bool.eq_iff_iff, jn_iff h hN hn hp, jn_iff h hN hn hq]
    exact ⟨fun z => ⟨hp, z.2.symm⟩, fun z => ⟨hq, z.2.symm⟩⟩
  funext n
  rcases Nat.le_total n ds.length with z | z
  · exact key n z
  · have := key ds.length (Nat.le_refl _)
    unfold jnF at this ⊢
    rw [List.take_of_length_le z]
    rwa [List.take_length] at this
theorem wh_len61 {N : Nat} {ds : List Dd} (h : Right N ds) (f : Nat → Bool) : (whF f (strF ds) []).length ≤ 400 := by
  have a := wh_len (tr := f) (str_rows h)
  have b := strF_len h
  have c := h.len
  omega
inductive SpFirstP (vs : List V) (H : Hp) (Q : VK) (u_3 : XK) : Prop
  | mk (h : Addr) (N : Nat) (ds : List Dd) (p q : Nat) : (vs = [.ref h, .int (p : Int), .int (q : Int)]) → (HistAt H h N ds) → (Right N ds) → (N ≤ 60) → (p < N) → (∀ H', Same H H' → Q (oV (fstB (whF (jnF N ds p q) (strF ds) []))) H') → SpFirstP vs H Q u_3
def spFirst : Sp := fun vs H Q u_3 => SpFirstP vs H Q u_3
inductive SpLastJP (vs : List V) (H : Hp) (Q : VK) (u_3 : XK) : Prop
  | mk (h : Addr) (N : Nat) (ds : List Dd) (p q : Nat) (e : Int) : (vs = [.ref h, .int (p : Int), .int (q : Int), .int e]) → (HistAt H h N ds) → (Right N ds) → (N ≤ 60) → (p < N) → (∀ H', Same H H' → Q (oV (lstB e (whF (jnF N ds p q) (strF ds) []))) H') → SpLastJP vs H Q u_3
def spLastJ : Sp := fun vs H Q u_3 => SpLastJP vs H Q u_3
inductive SpLLastP (vs : List V) (H : Hp) (Q : VK) (u_3 : XK) : Prop
  | mk (t : Addr) (L : List Sn) (e : Int) : (vs = [.ref t, .int e]) → (SpnAt H t L) → (Q (oV (lstB e L)) H) → SpLLastP vs H Q u_3
def spLLast : Sp := fun vs H Q u_3 => SpLLastP vs H Q u_3
inductive SpEndsOfP (vs : List V) (H : Hp) (Q : VK) (u_3 : XK) : Prop
  | mk (d c h : Addr) (N : Nat) (ds : List Dd) : (vs = [.ref d, .ref h]) → (DeckAt H d c) → (HistAt H h N ds) → (Right N ds) → (∀ (l : Addr) (es : List Int) (H' : Hp), But d c H H' → DeckAt H' d c → H' l = some (.lst (es.map V.int)) → l ≠ d → l ≠ c → es.length ≤ 100 → (∀ x ∈ es, 0 ≤ x) → Q (.ref l) H') → SpEndsOfP vs H Q u_3
def spEndsOf : Sp := fun vs H Q u_3 => SpEndsOfP vs H Q u_3
section
variable {P : Program} {w : World} {K : PySem.W.Frag} {mg : Str → Option Value} {base : Heap}
theorem scFirst : FnScope ["history", "one", "other", "spans"] ["history", "one", "other"] (defScope sFirst) := ⟨rfl, rfl, rfl, by decide +kernel, rfl, by decide +kernel, by decide +kernel⟩
theorem ok_First {f : Addr} {fd : FuncData} (F : Fun K "first_joined" "first_joined" sFirst f fd) (T : Txt mg)
    {gJoinedS : Addr} {fJoinedS : FuncData} (kJoinedS : PySem.W.keepIn K (.ref gJoinedS) = true) (bJoinedS : Binds K fJoinedS ["history", "one", "other"] []) (hJoinedS : mg "joined_spans" = some (.ref gJoinedS)) (GJoinedS : FnOk P w K mg base CX0 5 gJoinedS fJoinedS ["history", "one", "other"] spJoinedS) :
    FnOk P w K mg base CX0 6 f fd ["history", "one", "other"] spFirst := by
  refine F.ok scFirst (fun vs H Q E h => ?_) (fun cdv A outer s H vs Q E hr h => ?_)
  · obtain ⟨_, _, _, _, _, rfl, _⟩ := h; rfl
  · obtain ⟨h, N, ds, p, q, rfl, hh, hR, N60, pN, k⟩ := h
    refine ⟨_, pss_cons (ps_set (i := 3) scFirst.nd rfl (Or.inl rfl) (pe_call GJoinedS hr rfl hJoinedS kJoinedS bJoinedS .nil pass0 (pa_cons (pv 0) (pa_cons (pv 1) (pa_cons (pv 2) pa_nil)))))
      (pss_one (ps_ret (pe_ifExp (pt_truth (pv 3) (fun _ => rfl)) (pe_ix ix_tup (pe_ix ix_tup (pv 3) pe_int (fun _ _ => rfl)) pe_int (fun _ _ => rfl)) pe_non))), ?_⟩
    dsimp only [cxOf, Cx.nox]
    refine seqL1 ?_
    intro R1_
    refine ⟨_, rfl, _, rfl, _, rfl, h, N, ds, p, q, rfl, hh, hR, N60, pN, fun r H1 s1 ⟨rs, et, hL⟩ => ?_⟩
    have k := k H1 s1
    generalize whF (jnF N ds p q) (strF ds) [] = L at hL k
    refine ⟨_, rfl, _, .inr (.inl ⟨_, SqT.of et, rfl⟩), ?_⟩
    cases L with
    | nil =>
      have r0 : rs = [] := List.eq_nil_of_length_eq_zero hL.1
      subst r0
      exact iteF k
    | cons y L =>
      obtain ⟨r0, hr0⟩ : ∃ r0, rs[0]? = some r0 := ⟨_, List.getElem?_eq_getElem (by rw [hL.1]; exact Nat.succ_pos _)⟩
      obtain ⟨y', hy, er⟩ := rws_get hL hr0
      cases hy
      rw [show (!(rs.map V.ref).isEmpty) = true by cases rs with | nil => cases hr0 | cons _ _ => rfl]
      refine iteT ⟨_, rfl, r, _, 0, _, rfl, rfl, SqT.of et, atI_nat (j := 0) (by rw [List.getElem?_map, hr0]; rfl), r0, _, 0, _, rfl, rfl, SqT.of er, atI_nat (j := 0) rfl, k⟩
theorem scLastJ : FnScope ["history", "one", "other", "end", "lasts"] ["history", "one", "other", "end"] (defScope sLastJ) := ⟨rfl, rfl, rfl, by decide +kernel, rfl, by decide +kernel, by decide +kernel⟩
theorem ok_LastJ {f : Addr} {fd : FuncData} (F : Fun K "last_joined" "last_joined" sLastJ f fd) (T : Txt mg)
    {gJoinedS : Addr} {fJoinedS : FuncData} (kJoinedS : PySem.W.keepIn K (.ref gJoinedS) = true) (bJoinedS : Binds K fJoinedS ["history", "one", "other"] []) (hJoinedS : mg "joined_spans" = some (.ref gJoinedS)) (GJoinedS : FnOk P w K mg base CX0 5 gJoinedS fJoinedS ["history", "one", "other"] spJoinedS)
    {gLesser : Addr} {fLesser : FuncData} (kLesser : PySem.W.keepIn K (.ref gLesser) = true) (bLesser : Binds K fLesser ["one", "other"] []) (hLesser : mg "lesser_end" = some (.ref gLesser)) (GLesser : FnOk P w K mg base CX0 5 gLesser fLesser ["one", "other"] spLesser) :
    FnOk P w K mg base CX0 6 f fd ["history", "one", "other", "end"] spLastJ := by
  refine F.ok scLastJ (fun vs H Q E h => ?_) (fun cdv A outer s H vs Q E hr h => ?_)
  · obtain ⟨_, _, _, _, _, _, rfl, _⟩ := h; rfl
  · obtain ⟨h, N, ds, p, q, e, rfl, hh, hR, N60, pN, k⟩ := h
    refine ⟨_, pss_cons (ps_comp (i := 4) (T := ["low", "high"]) (F := ["end"]) (js := [3]) scLastJ.nd rfl (Or.inl rfl) (CS.to (osc := defScope sLastJ) ⟨by rfl, by decide +kernel, by decide +kernel, by decide +kernel, by decide +kernel, by decide +kernel, by decide +kernel⟩ rfl rfl) rfl (pi_tup (pe_call GJoinedS hr rfl hJoinedS kJoinedS bJoinedS .nil pass0 (pa_cons (pv 0) (pa_cons (pv 1) (pa_cons (pv 2) pa_nil))))) (fun _ _ _ _ _ => pg_tupK K 2 rfl rfl (pgs_cons (pg_name (i := 0) (show (["low", "high", "end"] : List Str).Nodup by decide +kernel) rfl (Or.inl rfl)) (pgs_cons (pg_name (i := 1) (show (["low", "high", "end"] : List Str).Nodup by decide +kernel) rfl (Or.inl rfl)) pgs_nil))) (fun _ _ _ _ _ => pif_one (pt_cmpR op_lt (pv 0) (pv 2) (nomark _))) (fun _ _ _ _ _ => pe_op op_sub (pe_call GLesser hr rfl hLesser kLesser bLesser .nil pass0 (pa_cons (pv 1) (pa_cons (pv 2) pa_nil))) pe_int))
      (pss_one (ps_ret (pe_ifExp (pt_truth (pv 4) (fun _ => rfl)) (pe_ix ix_list (pv 4) (pe_un un_neg pe_int) (fun _ _ => rfl)) pe_non))), ?_⟩
    dsimp only [cxOf, Cx.nox]
    refine seqL1 ?_
    intro R1_
    refine ⟨_, rfl, _, rfl, _, rfl, h, N, ds, p, q, rfl, hh, hR, N60, pN, fun r H1 s1 ⟨rs, et, hL⟩ => ?_⟩
    have W := wh_len61 hR (jnF N ds p q)
    generalize whF (jnF N ds p q) (strF ds) [] = L at hL k W
    refine ⟨r, rfl, ⟨_, SqT.of et⟩, fun D hD => comp_tup (K := K) (a := r) (xs := rs.map V.ref) (fun j σ ys H6 => ∃ (u v : Option V) (ns : List Int), σ = [u, v, some (.int e)] ∧ Same H1 H6 ∧ H6 D = some (.lst ys) ∧ ys = ns.map V.int ∧ ns.length ≤ j ∧ ns.getLast? = lstB e (L.take j)) ⟨none, none, [], rfl, same_new hD, upd_same, rfl, Nat.le_refl _, rfl⟩ (fun j σ ys H6 _ ⟨_, _, _, _, s, d, _⟩ => ⟨SqT.of (s _ _ et), d⟩) ?_ ?_⟩
    · rintro j x σ ys H6 hx ⟨u, v, ns, rfl, s6, d6, rfl, nl, sm⟩
      obtain ⟨r0, hr', rfl⟩ := map_some hx
      obtain ⟨y, hy, er⟩ := rws_get hL hr'
      have hj : j < L.length := (List.getElem?_eq_some_iff.mp hy).1
      rw [take_snoc hy, lst_snoc]
      refine ⟨r0, _, rfl, SqT.of (s6 _ _ er), rfl, _, _, rfl, _, _, rfl, rfl, ?_⟩
      refine ⟨_, rfl, _, rfl, _, _, rfl, rfl, _, rfl, ite2 (fun g => ?_) fun g => ?_⟩
      · rw [if_pos (of_decide_eq_true g)]
        refine ⟨_, rfl, _, rfl, y.2, some e, rfl, ?_⟩
        rw [les_end]
        exact ⟨_, _, rfl, rfl, d6, small1000 (by rw [List.length_map]; omega), _, _, ns ++ [_], rfl, same_set s6 hD, upd_same, by rw [List.map_append]; rfl, by simp; omega, by simp⟩
      · rw [if_neg (fun z => g (decide_eq_true z))]
        exact ⟨_, _, ns, rfl, s6, d6, rfl, by omega, sm⟩
    · rintro σ ys H6 ⟨u, v, ns, rfl, s6, d6, rfl, nl, sm⟩
      rw [List.length_map, hL.1, List.take_length] at sm
      refine ⟨_, rfl, _, .inl ⟨_, SqL.of d6, rfl⟩, ?_⟩
      rw [← sm] at k
      rcases List.eq_nil_or_concat ns with rfl | ⟨qs, z, rfl⟩
      · exact iteF (k H6 (s1.trans s6))
      · rw [List.concat_eq_append] at *
        rw [show (!((qs ++ [z]).map V.int).isEmpty) = true by simp]
        refine iteT ⟨_, rfl, _, rfl, D, _, -1, _, rfl, rfl, SqL.of d6, by rw [List.map_append]; exact atI_last _ _, ?_⟩
        have := k H6 (s1.trans s6)
        rw [List.getLast?_concat] at this
        exact this
theorem scLLast : FnScope ["_law_spans_here", "_law_end", "_law_found", "_law_low", "_law_high"] ["_law_spans_here", "_law_end"] (defScope sLLast) := ⟨rfl, rfl, rfl, by decide +kernel, rfl, by decide +kernel, by decide +kernel⟩
theorem ok_LLast {f : Addr} {fd : FuncData} (F : Fun K "_law_last" "_law_last" sLLast f fd) (T : Txt mg) :
    FnOk P w K mg base CX0 1 f fd ["_law_spans_here", "_law_end"] spLLast := by
  refine F.ok scLLast (fun vs H Q E h => ?_) (fun cdv A outer s H vs Q E hr h => ?_)
  · obtain ⟨_, _, _, rfl, _⟩ := h; rfl
  · obtain ⟨t, L, e, rfl, ⟨rs, et, hL⟩, k⟩ := h
    refine ⟨_, pss_cons (ps_set (i := 2) scLLast.nd rfl (Or.inl rfl) pe_non)
      (pss_cons (ps_for PassesOwn.never rfl (pi_tup (pv 0)) (pg_tup rfl (pgs_cons (pg_name (i := 3) scLLast.nd rfl (Or.inl rfl)) (pgs_cons (pg_name (i := 4) scLLast.nd rfl (Or.inl rfl)) pgs_nil))) (pss_one (ps_if (PW.pt (pw_and (pt_cmpR op_lt (pv 3) (pv 1) (nomark _)) (pw_and1 (PW.pt (pw_or (pt_cmpR op_isN (pv 4) pe_non (nomark _)) (pw_or1 (pt_cmpR op_lt (pv 1) (pv 4) (nomark _)))))))) (pss_one (ps_set (i := 2) scLLast.nd rfl (Or.inl rfl) (pe_op op_sub (pv 1) pe_int))) (pss_one (ps_if (pt_cmpR op_lt (pv 3) (pv 1) (nomark _)) (pss_one (ps_set (i := 2) scLLast.nd rfl (Or.inl rfl) (pe_op op_sub (pv 4) pe_int))) pss_nil)))))
      (pss_one (ps_ret (pv 2)))), ?_⟩
    dsimp only [cxOf, Cx.nox]
    refine seqL2 ?_
    intro R2_ R1_
    refine ⟨_, rfl, t, rfl, ⟨_, SqT.of et⟩, for_tup (K := K) (a := t) (xs := rs.map V.ref) (fun i σ H2 => ∃ (u v : Option V), σ = [some (.ref t), some (.int e), some (oV (lstB e (L.take i))), u, v] ∧ H2 = H) ⟨none, none, rfl, rfl⟩ (fun i σ H2 _ ⟨_, _, _, s⟩ => by rw [s]; exact SqT.of et) ?_ ?_⟩
    · rintro i x σ H2 hx ⟨u, v, rfl, rfl⟩
      obtain ⟨r0, hr0, rfl⟩ := map_some hx
      obtain ⟨y, hy, er0⟩ := rws_get hL hr0
      rw [take_snoc hy, lst_snoc]
      obtain ⟨b, ho⟩ := y
      refine ⟨r0, _, rfl, SqT.of er0, rfl, _, _, rfl, _, _, rfl, rfl, ?_⟩
      refine ⟨_, rfl, _, rfl, _, _, rfl, rfl, _, rfl, ?_⟩
      by_cases g : b < e
      · rw [decide_eq_true g, if_pos g]
        refine iteT ?_
        cases ho with
        | none => exact ⟨_, rfl, rfl, _, rfl, iteT (iteT ⟨_, rfl, _, _, rfl, rfl, _, _, rfl, rfl⟩)⟩
        | some h =>
          refine ⟨_, rfl, rfl, _, rfl, iteF ⟨_, rfl, _, rfl, _, _, rfl, rfl, _, rfl, ?_⟩⟩
          by_cases g2 : e < h
          · rw [decide_eq_true g2]
            rw [show endB e (b, some h).snd = e from if_pos g2]
            exact iteT ⟨_, rfl, _, _, rfl, rfl, _, _, rfl, rfl⟩
          · rw [decide_eq_false g2]
            refine iteF ⟨_, rfl, _, rfl, _, _, rfl, rfl, _, rfl, ?_⟩
            rw [decide_eq_true g]
            rw [show endB e (b, some h).snd = h from if_neg g2]
            exact iteT ⟨_, rfl, _, _, rfl, rfl, _, _, rfl, rfl⟩
      · rw [decide_eq_false g, if_neg g]
        refine iteF (iteF ⟨_, rfl, _, rfl, _, _, rfl, rfl, _, rfl, ?_⟩)
        rw [decide_eq_false g]
        exact iteF ⟨_, _, rfl, rfl⟩
    · rintro σ H2 ⟨u, v, rfl, rfl⟩
      rw [List.length_map, hL.1, List.take_length]
      exact ⟨_, rfl, k⟩
theorem scEndsOf : FnScope ["_law_deck_here", "_law_history_here", "_law_found", "_law_k", "_law_moment_here"] ["_law_deck_here", "_law_history_here"] (defScope sEndsOf) := ⟨rfl, rfl, rfl, by decide +kernel, rfl, by decide +kernel, by decide +kernel⟩
theorem ok_EndsOf {f : Addr} {fd : FuncData} (F : Fun K "_law_ends_of" "_law_ends_of" sEndsOf f fd) (T : Txt mg)
    {gDraw : Addr} {fDraw : FuncData} (kDraw : PySem.W.keepIn K (.ref gDraw) = true) (bDraw : Binds K fDraw ["_law_deck_here", "_law_most"] []) (hDraw : mg "_law_draw" = some (.ref gDraw)) (GDraw : FnOk P w K mg base CX0 2 gDraw fDraw ["_law_deck_here", "_law_most"] spDraw) :
    FnOk P w K mg base CX0 3 f fd ["_law_deck_here", "_law_history_here"] spEndsOf := by
  refine F.ok scEndsOf (fun vs H Q E h => ?_) (fun cdv A outer s H vs Q E hr h => ?_)
  · obtain ⟨_, _, _, _, _, rfl, _⟩ := h; rfl
  · obtain ⟨d, c, h, N, ds, rfl, hD, hh, hR, k⟩ := h
    refine ⟨_, pss_cons (ps_set (i := 2) scEndsOf.nd rfl (Or.inl rfl) (pe_lst (pa_cons (pe_call GDraw hr rfl hDraw kDraw bDraw .nil pass0 (pa_cons (pv 0) (pa_cons pe_int pa_nil))) (pa_cons (pe_op op_pow pe_int pe_int) (pa_cons (pe_call GDraw hr rfl hDraw kDraw bDraw .nil pass0 (pa_cons (pv 0) (pa_cons (pe_op op_add (pe_op op_pow pe_int pe_int) pe_int) pa_nil))) pa_nil)))))
      (pss_cons (ps_for PassesOwn.never rfl (pi_range1 rfl T.range (pa_cons (pe_op op_mul pe_int (pe_callTy call_int1 (by rfl) T.int (by decide +kernel) (pa_cons (pe_cmpR (op_neNilT hr.units) (pe_ix ix_tup (pv 1) pe_int (fun _ _ => rfl)) (pe_tup pa_nil) (nomark _)) pa_nil))) pa_nil)) (pg_name (i := 3) scEndsOf.nd rfl (Or.inl rfl)) (pss_cons (ps_set (i := 4) scEndsOf.nd rfl (Or.inl rfl) (pe_ix ix_tup (pe_ix ix_tup (pe_ix ix_tup (pv 1) pe_int (fun _ _ => rfl)) (pe_call GDraw hr rfl hDraw kDraw bDraw .nil pass0 (pa_cons (pv 0) (pa_cons (pe_callB call_len_seq (by rfl) T.len PySem.boot_len (pa_cons (pe_ix ix_tup (pv 1) pe_int (fun _ _ => rfl)) pa_nil)) pa_nil))) (fun _ _ => rfl)) pe_int (fun _ _ => rfl)))
      (pss_one (ps_set (i := 2) scEndsOf.nd rfl (Or.inl rfl) (pe_op op_cat (pv 2) (pe_lst (pa_cons (pe_ix ix_list (pe_lst (pa_cons (pe_callB (call_max2 rfl) (by rfl) T.max (by decide +kernel) (pa_cons pe_int (pa_cons (pe_op op_sub (pv 4) pe_int) pa_nil))) (pa_cons (pv 4) pa_nil))) (pv 3) (fun _ _ => rfl)) (pa_cons (pe_callB (call_min2 rfl) (by rfl) T.min (by decide +kernel) (pa_cons (pe_op op_pow pe_int pe_int) (pa_cons (pe_op op_add (pv 4) pe_int) pa_nil))) pa_nil))))))))
      (pss_one (ps_ret (pv 2)))), ?_⟩
    dsimp only [cxOf, Cx.nox]
    refine seqL2 ?_
    intro R2_ R1_
    refine ⟨_, rfl, d, c, _, rfl, hD, by decide, by decide, fun e1 H1e e10 e11 b1 D1e => ⟨_, _, rfl, rfl, ⟨by decide, by decide, by decide⟩, _, rfl, _, _, rfl, rfl, ⟨by decide, by decide, by decide⟩, _, _, rfl, rfl, d, c, _, rfl, D1e, by decide, by decide, fun e2 H2e e20 e21 b2 D2e => ⟨small (by simp), fun F hF => ?_⟩⟩⟩
    have nF := D2e.ne hF
    have t9 : (10 : Int) ^ (9 : Int).toNat = 1000000000 := by decide
    have s3 := same_new (o := .lst [.int e1, .int (10 ^ (9 : Int).toNat), .int e2]) hF
    have f3 : upd H2e F (.lst [.int e1, .int (10 ^ (9 : Int).toNat), .int e2]) F = some (.lst (([e1, 10 ^ (9 : Int).toNat, e2] : List Int).map V.int)) := upd_same
    generalize upd H2e F (.lst [.int e1, .int (10 ^ (9 : Int).toNat), .int e2]) = H3e at s3 f3
    have D3e := D2e.same s3
    have B3e : But d c H H3e := (b1.trans b2).trans (But.of s3)
    have pos3 : ∀ x ∈ ([e1, 10 ^ (9 : Int).toNat, e2] : List Int), 0 ≤ x := fun x hx => by
      rw [t9] at hx
      simp only [List.mem_cons, List.not_mem_nil, or_false] at hx
      rcases hx with rfl | rfl | rfl <;> omega
    clear b1 b2 D1e D2e hF s3 e10 e11 e20 e21
    obtain ⟨tp, rs, eh, et, hdd⟩ := id hh
    refine ⟨_, rfl, h, _, 1, _, rfl, rfl, SqT.of (B3e.tup hD eh), atI_nat (j := 1) rfl, small (by simp), fun e he => ?_⟩
    have s4 := same_new (o := .tup []) he
    have e4 := upd_same (H := H3e) (a := e) (o := .tup [])
    generalize upd H3e e (.tup []) = H4e at s4 e4
    refine ⟨tp, e, _, rfl, rfl, SqT.of (s4 _ _ (B3e.tup hD et)), SqT.of e4, .inr ⟨_, rfl, _, _, rfl, rfl, .inl ⟨by decide, by decide⟩, ?_⟩⟩
    obtain ⟨tot, htot⟩ : ∃ tot : Int, tot = 2 * (if (!(rs.map V.ref).isEmpty) = true then 1 else 0) := ⟨_, rfl⟩
    have tb : 0 ≤ tot ∧ tot ≤ 2 ∧ (0 < tot → 0 < rs.length) := by
      rw [htot]
      cases rs with
      | nil => exact ⟨by decide, by decide, fun z => absurd z (by decide)⟩
      | cons x xs => rw [if_pos (show (!(List.map V.ref (x :: xs)).isEmpty) = true from rfl)]; exact ⟨by decide, by decide, fun _ => by simp⟩
    have d60 := hR.len
    refine ⟨tot, by rw [htot], by omega, by omega, for_rangeL (lo := 0) (n := tot.toNat) (fun i σ H8 => ∃ (v3 v4 : Option V) (F : Addr) (es : List Int), σ = [some (.ref d), some (.ref h), some (.ref F), v3, v4] ∧ But d c H H8 ∧ DeckAt H8 d c ∧ H8 F = some (.lst (es.map V.int)) ∧ F ≠ d ∧ F ≠ c ∧ es.length = 3 + 2 * i ∧ ∀ x ∈ es, 0 ≤ x) ⟨_, _, F, _, rfl, B3e.trans (But.of s4), D3e.same s4, s4 _ _ f3, nF.1, nF.2, rfl, pos3⟩ ?_ ?_⟩
    · rintro i σ H8 hi ⟨v3, v4, F, es, rfl, b8, D8, f8, nd, nc, le, pos⟩
      intro E_
      have r0 : 0 < rs.length := tb.2.2 (by omega)
      have eh8 := b8.tup hD eh
      have et8 := b8.tup hD et
      have dl := hdd.1
      refine seqG1 ?_
      intro R1_
      refine ⟨_, rfl, h, _, 1, _, rfl, rfl, SqT.of eh8, atI_nat (j := 1) rfl, _, rfl, _, rfl, h, _, 1, _, rfl, rfl, SqT.of eh8, atI_nat (j := 1) rfl, tp, _, rfl, .inr (SqT.of et8), d, c, _, rfl, D8, by rw [List.length_map]; omega, by rw [List.length_map]; omega, fun v H9 v0 v1 b9 D9 => ?_⟩
      rw [List.length_map] at v1
      obtain ⟨y, rfl⟩ := nat_of v0
      obtain ⟨r, hr'⟩ : ∃ r, rs[y]? = some r := ⟨_, List.getElem?_eq_getElem (by omega)⟩
      obtain ⟨dd, ed, r0⟩ := hdd.get hr'
      have B9 := b8.trans b9
      have mb := hR.mo dd (List.mem_of_getElem? ed)
      refine ⟨tp, _, _, _, rfl, rfl, SqT.of (B9.tup hD et), atI_nat (by rw [List.getElem?_map, hr']; rfl), r, _, 1, _, rfl, rfl, SqT.of (B9.tup hD r0), dd_mo dd, ?_⟩
      have f9 := b9 _ _ f8 nd nc
      generalize dd.mo = m at mb
      refine ⟨_, rfl, _, rfl, _, _, rfl, rfl, _, _, rfl, _, rfl, small (by simp), fun x1 h1 => ?_⟩
      obtain ⟨mx, emx⟩ : ∃ mx : Int, mx = (if m - 1 > 0 then m - 1 else 0) := ⟨_, rfl⟩
      rw [← emx]
      have mx0 : 0 ≤ mx := by rw [emx]; split <;> omega
      have sA := same_new (o := .lst [.int mx, .int m]) h1
      have eA := upd_same (H := H9) (a := x1) (o := .lst [.int mx, .int m])
      generalize upd H9 x1 (.lst [.int mx, .int m]) = HA at sA eA
      obtain ⟨y1, hy1, p1⟩ : ∃ y1 : Int, atI [V.int mx, V.int m] ((0 : Int) + (i : Int)) = some (.int y1) ∧ 0 ≤ y1 := by
        rw [Int.zero_add]
        have i2 : i < 2 := by omega
        match i, i2 with
        | 0, _ => exact ⟨mx, atI_nat (j := 0) rfl, mx0⟩
        | 1, _ => exact ⟨m, atI_nat (j := 1) rfl, mb.1⟩
      refine ⟨_, rfl, x1, _, _, _, rfl, rfl, SqL.of eA, hy1, _, _, rfl, rfl, ⟨by decide, by decide, by decide⟩, _, rfl, _, _, rfl, rfl, _, _, rfl, small (by simp), fun x2 h2 => ?_⟩
      obtain ⟨mn, emn⟩ : ∃ mn : Int, mn = (if m + 1 < (10 : Int) ^ (9 : Int).toNat then m + 1 else (10 : Int) ^ (9 : Int).toNat) := ⟨_, rfl⟩
      rw [← emn]
      have mn0 : 0 ≤ mn := by rw [emn, t9]; split <;> omega
      have sB := same_new (o := .lst [.int y1, .int mn]) h2
      have eB := upd_same (H := HA) (a := x2) (o := .lst [.int y1, .int mn])
      generalize upd HA x2 (.lst [.int y1, .int mn]) = HB at sB eB
      have sAB := sA.trans sB
      have DB := D9.same sAB
      refine ⟨F, x2, _, _, rfl, rfl, sAB _ _ f9, eB, small (by rw [List.length_map]; show _ + 2 ≤ _; omega), fun F' hF' => ?_⟩
      have sC := same_new (o := .lst (es.map V.int ++ [.int y1, .int mn])) hF'
      have eC := upd_same (H := HB) (a := F') (o := .lst (es.map V.int ++ [.int y1, .int mn]))
      have nF' := DB.ne hF'
      refine ⟨_, _, F', es ++ [y1, mn], rfl, B9.trans (But.of (sAB.trans sC)), DB.same sC, by rw [upd_same, List.map_append]; rfl, nF'.1, nF'.2, by simp; omega, fun x hx => ?_⟩
      rcases List.mem_append.mp hx with z | z
      · exact pos x z
      · simp only [List.mem_cons, List.not_mem_nil, or_false] at z
        rcases z with rfl | rfl
        · exact p1
        · exact mn0
    · rintro σ H8 ⟨v3, v4, F, es, rfl, b8, D8, f8, nd, nc, le, pos⟩
      have le : es.length ≤ 100 := by omega
      exact ⟨_, rfl, k F es H8 b8 D8 f8 nd nc le pos⟩
end
end K68
set_option maxHeartbeats 2000000
namespace K68
open PySem L2 Wk
inductive SpLawP (K : PySem.W.Frag) (vs : List V) (H : Hp) (Q : VK) (u_3 : XK) : Prop
  | mk (s : Addr) (ns : List Int) : (vs = [.ref s]) → (SqL K H s (ns.map V.int)) → (ns.length ≤ 63) → (∀ H', Q (.bl true) H') → SpLawP K vs H Q u_3
def spLaw (K : PySem.W.Frag) : Sp := fun vs H Q u_3 => SpLawP K vs H Q u_3
theorem str_but {H0 H H' : Hp} {d c l : Addr} {ds : List Dd} {bs : List Int} (h : StrL H0 ds bs H l) (l0 : H0 l = none) (D0 : DeckAt H0 d c) (b : But d c H H') (D : DeckAt H d c) : StrL H0 ds bs H' l := by
  obtain ⟨rs, e, f, g⟩ := h
  have n := D0.ne l0
  refine ⟨rs, b _ _ e n.1 n.2, f, fun i r q => ?_⟩
  obtain ⟨x, L, S, n0, e1, e2, ⟨qs, e3, e4⟩, e5⟩ := g i r q
  have n := D0.ne n0
  exact ⟨x, L, S, n0, e1, b.tup D e2, ⟨qs, b _ _ e3 n.1 n.2, e4.1, fun i r t a c => b.tup D (e4.2 i r t a c)⟩, e5⟩
def tBothL : TS := fun D σ H => ∃ (s d h l F R : Addr) (N : Nat) (ds : List Dd) (es : List Int) (p q : Nat) (u9 u10 u11 u12 : Option V), σ = [some (.ref s), some (.ref d), some (.ref h), some (.ref l), some (.ref F), some (.int (p : Int)), some (.int (q : Int)), some (.ref R), some (oV (fstB (whF (jnF N ds p q) (strF ds) []))), u9, u10, u11, u12] ∧ HistAt H h N ds ∧ Right N ds ∧ N ≤ 60 ∧ p < N ∧ q < N ∧ SpnAt H R (whF (jnF N ds p q) (strF ds) []) ∧ H F = some (.lst (es.map V.int)) ∧ es.length ≤ 100 ∧ ∀ (u9 u10 u11 u12 : Option V) (H' : Hp), Same H H' → D.nx [some (.ref s), some (.ref d), some (.ref h), some (.ref l), some (.ref F), some (.int (p : Int)), some (.int (q : Int)), some (.ref R), some (oV (fstB (whF (jnF N ds p q) (strF ds) []))), u9, u10, u11, u12] H'
section
variable {P : Program} {w : World} {K : PySem.W.Frag} {mg : Str → Option Value} {base : Heap}
theorem scLaw : FnScope ["_law_script", "_law_deck_here", "_law_history_here", "_law_stretches_here", "_law_ends_here", "_law_one", "_law_other", "_law_spans_here", "_law_first", "_law_both", "_law_here", "_law_there", "_law_k"] ["_law_script"] (defScope sLaw) := ⟨rfl, rfl, rfl, by decide +kernel, rfl, by decide +kernel, by decide +kernel⟩
theorem ok_Law {f : Addr} {fd : FuncData} (F : Fun K "law" "law" sLaw f fd) (T : Txt mg)
    {gDeck : Addr} {fDeck : FuncData} (kDeck : PySem.W.keepIn K (.ref gDeck) = true) (bDeck : Binds K fDeck ["_law_script"] []) (hDeck : mg "_law_deck" = some (.ref gDeck)) (GDeck : FnOk P w K mg base CX0 6 gDeck fDeck ["_law_script"] (spDeck K))
    {gHistory : Addr} {fHistory : FuncData} (kHistory : PySem.W.keepIn K (.ref gHistory) = true) (bHistory : Binds K fHistory ["_law_deck_here"] []) (hHistory : mg "_law_history" = some (.ref gHistory)) (GHistory : FnOk P w K mg base CX0 6 gHistory fHistory ["_law_deck_here"] spHistory)
    {gLStr : Addr} {fLStr : FuncData} (kLStr : PySem.W.keepIn K (.ref gLStr) = true) (bLStr : Binds K fLStr ["_law_history_here"] []) (hLStr : mg "_law_stretches" = some (.ref gLStr)) (GLStr : FnOk P w K mg base CX0 6 gLStr fLStr ["_law_history_here"] spLStr)
    {gEndsOf : Addr} {fEndsOf : FuncData} (kEndsOf : PySem.W.keepIn K (.ref gEndsOf) = true) (bEndsOf : Binds K fEndsOf ["_law_deck_here", "_law_history_here"] []) (hEndsOf : mg "_law_ends_of" = some (.ref gEndsOf)) (GEndsOf : FnOk P w K mg base CX0 6 gEndsOf fEndsOf ["_law_deck_here", "_law_history_here"] spEndsOf)
    {gLPairs : Addr} {fLPairs : FuncData} (kLPairs : PySem.W.keepIn K (.ref gLPairs) = true) (bLPairs : Binds K fLPairs ["_law_deck_here", "_law_history_here"] []) (hLPairs : mg "_law_pairs" = some (.ref gLPairs)) (GLPairs : FnOk P w K mg base CX0 6 gLPairs fLPairs ["_law_deck_here", "_law_history_here"] spLPairs)
    {gLSpans : Addr} {fLSpans : FuncData} (kLSpans : PySem.W.keepIn K (.ref gLSpans) = true) (bLSpans : Binds K fLSpans ["_law_stretches_here", "_law_one", "_law_other"] []) (hLSpans : mg "_law_spans" = some (.ref gLSpans)) (GLSpans : FnOk P w K mg base CX0 6 gLSpans fLSpans ["_law_stretches_here", "_law_one", "_law_other"] spLSpans)
    {gSame : Addr} {fSame : FuncData} (kSame : PySem.W.keepIn K (.ref gSame) = true) (bSame : Binds K fSame ["_law_found", "_law_due"] []) (hSame : mg "_law_same" = some (.ref gSame)) (GSame : FnOk P w K mg base CX0 6 gSame fSame ["_law_found", "_law_due"] (spSame 0))
    {gFirst : Addr} {fFirst : FuncData} (kFirst : PySem.W.keepIn K (.ref gFirst) = true) (bFirst : Binds K fFirst ["history", "one", "other"] []) (hFirst : mg "first_joined" = some (.ref gFirst)) (GFirst : FnOk P w K mg base CX0 6 gFirst fFirst ["history", "one", "other"] spFirst)
    {gLastJ : Addr} {fLastJ : FuncData} (kLastJ : PySem.W.keepIn K (.ref gLastJ) = true) (bLastJ : Binds K fLastJ ["history", "one", "other", "end"] []) (hLastJ : mg "last_joined" = some (.ref gLastJ)) (GLastJ : FnOk P w K mg base CX0 6 gLastJ fLastJ ["history", "one", "other", "end"] spLastJ)
    {gLLast : Addr} {fLLast : FuncData} (kLLast : PySem.W.keepIn K (.ref gLLast) = true) (bLLast : Binds K fLLast ["_law_spans_here", "_law_end"] []) (hLLast : mg "_law_last" = some (.ref gLLast)) (GLLast : FnOk P w K mg base CX0 6 gLLast fLLast ["_law_spans_here", "_law_end"] spLLast) :
    FnOk P w K mg base CX0 7 f fd ["_law_script"] (spLaw K) := by
  refine F.ok scLaw (fun vs H Q E h => ?_) (fun cdv A outer s H vs Q E hr h => ?_)
  · obtain ⟨_, _, rfl, _⟩ := h; rfl
  · obtain ⟨s, ns, rfl, hS, hl, k⟩ := h
    refine ⟨_, pss_cons (ps_set (i := 1) scLaw.nd rfl (Or.inl rfl) (pe_call GDeck hr rfl hDeck kDeck bDeck .nil pass0 (pa_cons (pv 0) pa_nil)))
      (pss_cons (ps_set (i := 2) scLaw.nd rfl (Or.inl rfl) (pe_call GHistory hr rfl hHistory kHistory bHistory .nil pass0 (pa_cons (pv 1) pa_nil)))
      (pss_cons (ps_set (i := 3) scLaw.nd rfl (Or.inl rfl) (pe_call GLStr hr rfl hLStr kLStr bLStr .nil pass0 (pa_cons (pv 2) pa_nil)))
      (pss_cons (ps_set (i := 4) scLaw.nd rfl (Or.inl rfl) (pe_call GEndsOf hr rfl hEndsOf kEndsOf bEndsOf .nil pass0 (pa_cons (pv 1) (pa_cons (pv 2) pa_nil))))
      (pss_cons (ps_for PassesOwn.never rfl (pi_list (pe_call GLPairs hr rfl hLPairs kLPairs bLPairs .nil pass0 (pa_cons (pv 1) (pa_cons (pv 2) pa_nil)))) (pg_tup rfl (pgs_cons (pg_name (i := 5) scLaw.nd rfl (Or.inl rfl)) (pgs_cons (pg_name (i := 6) scLaw.nd rfl (Or.inl rfl)) pgs_nil))) (pss_cons (ps_set (i := 7) scLaw.nd rfl (Or.inl rfl) (pe_call GLSpans hr rfl hLSpans kLSpans bLSpans .nil pass0 (pa_cons (pv 3) (pa_cons (pv 5) (pa_cons (pv 6) pa_nil)))))
      (pss_cons (ps_set (i := 8) scLaw.nd rfl (Or.inl rfl) pe_non)
      (pss_cons (ps_if (pt_cmpR (op_neNilT hr.units) (pv 7) (pe_tup pa_nil) (nomark _)) (pss_one (ps_set (i := 8) scLaw.nd rfl (Or.inl rfl) (pe_ix ix_tup (pe_ix ix_tup (pv 7) pe_int (fun _ _ => rfl)) pe_int (fun _ _ => rfl)))) pss_nil)
      (PSs.imp' (t' := tBothL) (pss_cons (ps_set (i := 9) scLaw.nd rfl (Or.inl rfl) (pe_lst (pa_cons (pe_tup (pa_cons (pv 5) (pa_cons (pv 6) pa_nil))) (pa_cons (pe_tup (pa_cons (pv 6) (pa_cons (pv 5) pa_nil))) pa_nil))))
      (pss_cons (ps_for PassesOwn.never rfl (pi_list (pv 9)) (pg_tup rfl (pgs_cons (pg_name (i := 10) scLaw.nd rfl (Or.inl rfl)) (pgs_cons (pg_name (i := 11) scLaw.nd rfl (Or.inl rfl)) pgs_nil))) (pss_one (ps_if (pt_not (pt_val (pe_call GSame hr rfl hSame kSame bSame .nil pass0 (pa_cons (pe_call GFirst hr rfl hFirst kFirst bFirst .nil pass0 (pa_cons (pv 2) (pa_cons (pv 10) (pa_cons (pv 11) pa_nil)))) (pa_cons (pv 8) pa_nil))))) (pss_one (ps_ret pe_bl)) pss_nil)))
      (pss_one (ps_for PassesOwn.never rfl (pi_range1 rfl T.range (pa_cons (pe_callB call_len_seq (by rfl) T.len PySem.boot_len (pa_cons (pv 4) pa_nil)) pa_nil)) (pg_name (i := 12) scLaw.nd rfl (Or.inl rfl)) (pss_cons (ps_asg (pe_ix ix_list (pv 9) (pe_op op_mod (pv 12) pe_int) (fun _ _ => rfl)) (pg_tup rfl (pgs_cons (pg_name (i := 10) scLaw.nd rfl (Or.inl rfl)) (pgs_cons (pg_name (i := 11) scLaw.nd rfl (Or.inl rfl)) pgs_nil))))
      (pss_one (ps_if (pt_not (pt_val (pe_call GSame hr rfl hSame kSame bSame .nil pass0 (pa_cons (pe_call GLastJ hr rfl hLastJ kLastJ bLastJ .nil pass0 (pa_cons (pv 2) (pa_cons (pv 10) (pa_cons (pv 11) (pa_cons (pe_ix ix_list (pv 4) (pv 12) (fun _ _ => rfl)) pa_nil))))) (pa_cons (pe_call GLLast hr rfl hLLast kLLast bLLast .nil pass0 (pa_cons (pv 7) (pa_cons (pe_ix ix_list (pv 4) (pv 12) (fun _ _ => rfl)) pa_nil))) pa_nil))))) (pss_one (ps_ret pe_bl)) pss_nil))))))) ?tail)))))
      (pss_one (ps_ret pe_bl)))))), ?_⟩
    case tail =>
      dsimp only [cxOf, Cx.nox]
      clear k hS hl
      rintro D σ H ⟨s, d, h, l, F, R, N, ds, es, p, q, u9, u10, u11, u12, rfl, hh, hR, N60, pN, qN, hDue, eF, le, k⟩
      have e2 := jn_sym hR N60 pN qN
      refine ⟨_, rfl, _, rfl, small (by simp), fun c1 h1 => ?_⟩
      have sA := same_new (o := .tup [.int (p : Int), .int (q : Int)]) h1
      have eA := upd_same (H := H) (a := c1) (o := .tup [.int (p : Int), .int (q : Int)])
      generalize upd H c1 (.tup [.int (p : Int), .int (q : Int)]) = HA at sA eA
      refine ⟨_, rfl, _, rfl, small (by simp), fun c2 h2 => ?_⟩
      have sB := same_new (o := .tup [.int (q : Int), .int (p : Int)]) h2
      have eB := upd_same (H := HA) (a := c2) (o := .tup [.int (q : Int), .int (p : Int)])
      generalize upd HA c2 (.tup [.int (q : Int), .int (p : Int)]) = HB at sB eB
      refine ⟨small (by simp), fun c4 h4 => ?_⟩
      have sD := same_new (o := .lst [.ref c1, .ref c2]) h4
      have eD := upd_same (H := HB) (a := c4) (o := .lst [.ref c1, .ref c2])
      generalize upd HB c4 (.lst [.ref c1, .ref c2]) = HD at sD eD
      have x1 := sD _ _ (sB _ _ eA)
      have x2 := sD _ _ eB
      have TD : Same H HD := (sA.trans sB).trans sD
      clear sA sB sD eA eB h1 h2 h4
      have hDue := hDue.same TD
      have eF := TD _ _ eF
      have hh := hh.same TD
      have rows : ∀ (m : Nat) x, ([.ref c1, .ref c2] : List V)[m]? = some x → ∃ (e : Addr) (a b : Nat), x = .ref e ∧ a < N ∧ HD e = some (.tup [.int (a : Int), .int (b : Int)]) ∧ jnF N ds a b = jnF N ds p q := fun m x hx => by
        match m, hx with
        | 0, hx => cases hx; exact ⟨c1, p, q, rfl, pN, x1, rfl⟩
        | 1, hx => cases hx; exact ⟨c2, q, p, rfl, qN, x2, e2.symm⟩
        | m + 2, hx => simp at hx
      generalize eL : whF (jnF N ds p q) (strF ds) [] = L at hDue k
      refine ⟨_, rfl, c4, rfl, ⟨_, SqL.of eD⟩, for_listL (K := K) (a := c4) (xs := [.ref c1, .ref c2]) (fun m σ HE => ∃ (u10 u11 : Option V), σ = [some (.ref s), some (.ref d), some (.ref h), some (.ref l), some (.ref F), some (.int (p : Int)), some (.int (q : Int)), some (.ref R), some (oV (fstB L)), some (.ref c4), u10, u11, u12] ∧ Same HD HE) ⟨_, _, rfl, same_refl _⟩ (fun m σ HE _ ⟨_, _, _, s⟩ => SqL.of (s _ _ eD)) ?_ ?_⟩
      · rintro m x σ HE hx ⟨u10, u11, rfl, sE⟩
        intro E_
        obtain ⟨e, a, b, rfl, aN, ee, ej⟩ := rows m x hx
        refine ⟨e, _, rfl, SqT.of (sE _ _ ee), rfl, _, _, rfl, _, _, rfl, rfl, ?_⟩
        refine ⟨_, rfl, _, rfl, _, rfl, h, N, ds, a, b, rfl, hh.same sE, hR, N60, aN, fun HF sF => ?_⟩
        rw [ej, eL]
        refine ⟨_, rfl, _, _, rfl, sm_opt _, fun HG sG => ⟨_, rfl, iteF ?_⟩⟩
        exact ⟨_, _, rfl, (sE.trans sF).trans sG⟩
      rintro σ HE ⟨u10, u11, rfl, sE⟩
      refine ⟨_, rfl, F, _, rfl, .inl (SqL.of (sE _ _ eF)), _, rfl, by omega, by rw [List.length_map]; omega, for_rangeL (lo := 0) (n := ((es.map V.int).length : Int).toNat) (fun m σ HG => ∃ (u10 u11 u12 : Option V), σ = [some (.ref s), some (.ref d), some (.ref h), some (.ref l), some (.ref F), some (.int (p : Int)), some (.int (q : Int)), some (.ref R), some (oV (fstB L)), some (.ref c4), u10, u11, u12] ∧ Same HD HG) ⟨_, _, _, rfl, sE⟩ ?_ ?_⟩
      · rintro m σ HG hm ⟨u10, u11, u12, rfl, sG⟩
        intro E_
        rw [List.length_map] at hm
        rw [Int.zero_add]
        have hm : m < es.length := by omega
        obtain ⟨e, hx⟩ : ∃ e, atI [V.ref c1, V.ref c2] ((m : Int) % 2) = some (.ref e) ∧ ∃ (a b : Nat), a < N ∧ HD e = some (.tup [.int (a : Int), .int (b : Int)]) ∧ jnF N ds a b = jnF N ds p q := by
          rcases Nat.mod_two_eq_zero_or_one m with z | z
          · exact ⟨c1, by rw [show ((m : Int) % 2) = ((0 : Nat) : Int) by omega]; exact atI_nat (j := 0) rfl, p, q, pN, x1, rfl⟩
          · exact ⟨c2, by rw [show ((m : Int) % 2) = ((1 : Nat) : Int) by omega]; exact atI_nat (j := 1) rfl, q, p, qN, x2, e2.symm⟩
        obtain ⟨hx, a, b, aN, ee, ej⟩ := hx
        refine ⟨_, rfl, _, rfl, _, _, rfl, rfl, (by show (0 : Int) < 2; decide), c4, _, _, _, rfl, rfl, SqL.of (sG _ _ eD), hx, ?_⟩
        refine ⟨e, _, rfl, SqT.of (sG _ _ ee), rfl, _, _, rfl, _, _, rfl, rfl, ?_⟩
        have ei : atI (es.map V.int) (m : Int) = some (.int es[m]) := atI_nat (by rw [List.getElem?_map, List.getElem?_eq_getElem hm]; rfl)
        generalize es[m] = e0 at ei
        refine ⟨_, rfl, _, rfl, _, rfl, _, rfl, _, rfl, F, _, _, _, rfl, rfl, SqL.of (sG _ _ eF), ei, h, N, ds, a, b, e0, rfl, hh.same sG, hR, N60, aN, fun HI sI => ?_⟩
        rw [ej, eL]
        refine ⟨_, rfl, _, rfl, _, rfl, F, _, _, _, rfl, rfl, SqL.of (sI _ _ (sG _ _ eF)), ei, R, L, e0, rfl, (hDue.same sG).same sI, ?_⟩
        refine ⟨_, _, rfl, sm_opt _, fun HJ sJ => ⟨_, rfl, iteF ?_⟩⟩
        exact ⟨_, _, _, rfl, (sG.trans sI).trans sJ⟩
      · rintro σ HG ⟨u10, u11, u12, rfl, sG⟩
        exact k _ _ _ _ HG (TD.trans sG)
    refine seqL5 ?_
    intro R5_ R4_ R3_ R2_ R1_
    refine ⟨_, rfl, s, ns, rfl, hS, hl, fun d c H1 s1 D1 => ?_⟩
    refine ⟨_, rfl, d, c, rfl, D1, fun h M0 ds0 H2 b2 D2 n1 n24 bd hh0 hr' ⟨mo, M⟩ => ?_⟩
    have hh := his_of hh0 n1 bd
    have l60 : ds0.length ≤ 60 := by obtain ⟨_, _, _, _, _, l⟩ := hh0; exact l
    have hR := right_D n1 bd hr' M l60
    obtain ⟨N, eN⟩ : ∃ N, N = M0.toNat := ⟨_, rfl⟩
    rw [← eN] at hh hR
    have N1 : 1 ≤ N := by omega
    have N60 : N ≤ 60 := by omega
    generalize ds0.map toD = ds at hh hR
    clear hh0 bd hr' M l60 b2 eN n1 n24
    refine ⟨_, rfl, h, N, ds, rfl, hh, hR, fun l bs H3 s3 l0 BD hL => ?_⟩
    have D3 := D2.same s3
    have hh3 := hh.same s3
    refine ⟨_, rfl, _, rfl, d, c, h, N, ds, rfl, D3, hh3, hR, fun F es HE bE DE eF nFd nFc le pos => ?_⟩
    have hhE := hist_but hh3 bE D3
    have hLE := str_but hL l0 D2 bE D3
    refine ⟨_, rfl, _, rfl, d, c, h, N, ds, rfl, DE, hhE, hR, N1, N60, fun lp rs H4 b4 D4 el nl1 nl2 hp => ?_⟩
    have hh4 := hist_but hhE b4 DE
    have hL4 := str_but hLE l0 D2 b4 DE
    have eF4 := b4 _ _ eF nFd nFc
    clear hL hh3 D3 s3 hh b4 hLE hhE bE DE eF
    refine ⟨lp, rfl, ⟨_, SqL.of el⟩, for_listL (K := K) (a := lp) (xs := rs.map V.ref) (fun j σ H5 => ∃ (u5 u6 u7 u8 u9 u10 u11 u12 : Option V), σ = [some (.ref s), some (.ref d), some (.ref h), some (.ref l), some (.ref F), u5, u6, u7, u8, u9, u10, u11, u12] ∧ Same H4 H5) ⟨_, _, _, _, _, _, _, _, rfl, same_refl _⟩ (fun j σ H5 _ ⟨_, _, _, _, _, _, _, _, _, s⟩ => SqL.of (s _ _ el)) ?_ ?_⟩
    rotate_left
    · rintro σ H5 ⟨u5, u6, u7, u8, u9, u10, u11, u12, rfl, s5⟩
      exact k H5
    rintro j x σ H5 hx ⟨u5, u6, u7, u8, u9, u10, u11, u12, rfl, s5⟩
    intro E_
    obtain ⟨r, er, rfl⟩ := map_some hx
    obtain ⟨p, q, pN, qN, ep⟩ := hp r (List.mem_of_getElem? er)
    refine ⟨r, _, rfl, SqT.of (s5 _ _ ep), rfl, _, _, rfl, _, _, rfl, rfl, ?_⟩
    refine ⟨_, rfl, _, rfl, _, rfl, l, H2, N, ds, bs, p, q, rfl, hL4.same s5, BD, hR, N60, pN, qN, fun R H6 s6 hDue => ?_⟩
    refine ⟨_, rfl, small (by simp), fun e he => ?_⟩
    have s7 := same_new (o := .tup []) he
    have e7 := upd_same (H := H6) (a := e) (o := .tup [])
    generalize upd H6 e (.tup []) = H7 at s7 e7
    have hD7 := hDue.same s7
    obtain ⟨rs7, et7, hL7⟩ := id hD7
    refine ⟨R, e, _, rfl, rfl, SqT.of et7, SqT.of e7, _, rfl, ?_⟩
    have post : ∀ (u9 u10 u11 u12 : Option V) (H' : Hp), Same H7 H' → ∃ (v5 v6 v7 v8 v9 v10 v11 v12 : Option V), [some (.ref s), some (.ref d), some (.ref h), some (.ref l), some (.ref F), some (.int (p : Int)), some (.int (q : Int)), some (.ref R), some (oV (fstB (whF (jnF N ds p q) (strF ds) []))), u9, u10, u11, u12] = [some (V.ref s), some (V.ref d), some (V.ref h), some (V.ref l), some (V.ref F), v5, v6, v7, v8, v9, v10, v11, v12] ∧ Same H4 H' := fun _ _ _ _ H' s' => ⟨_, _, _, _, _, _, _, _, rfl, ((s5.trans s6).trans s7).trans s'⟩
    have S7 := (s5.trans s6).trans s7
    cases hW : whF (jnF N ds p q) (strF ds) [] with
    | nil =>
      rw [hW] at hL7
      have r0 : rs7 = [] := List.eq_nil_of_length_eq_zero hL7.1
      rw [show (!(rs7.map V.ref).isEmpty) = false by rw [r0]; rfl]
      refine iteF ⟨s, d, h, l, F, R, N, ds, es, p, q, _, _, _, _, by rw [hW]; rfl, hh4.same S7, hR, N60, pN, qN, hD7, S7 _ _ eF4, le, post⟩
    | cons y L =>
      rw [hW] at hL7
      obtain ⟨r0, hr0⟩ : ∃ r0, rs7[0]? = some r0 := ⟨_, List.getElem?_eq_getElem (by rw [hL7.1]; exact Nat.succ_pos _)⟩
      obtain ⟨y', hy, er⟩ := rws_get hL7 hr0
      cases hy
      rw [show (!(rs7.map V.ref).isEmpty) = true by cases rs7 with | nil => cases hr0 | cons _ _ => rfl]
      refine iteT ⟨_, rfl, R, _, 0, _, rfl, rfl, SqT.of et7, atI_nat (j := 0) (by rw [List.getElem?_map, hr0]; rfl), r0, _, 0, _, rfl, rfl, SqT.of er, atI_nat (j := 0) rfl, ?_⟩
      exact ⟨s, d, h, l, F, R, N, ds, es, p, q, _, _, _, _, by rw [hW]; rfl, hh4.same S7, hR, N60, pN, qN, hD7, S7 _ _ eF4, le, post⟩
end
end K68
set_option maxHeartbeats 4000000
namespace K68
open PySem L2 Wk
theorem us1 {fd : FuncData} {ps : List Str} (hp : ps.length = 1) (h : ∀ a0 : Value, bindArgs fd ⟨[a0], []⟩ = pure (ps.zip [a0])) : ∀ us : List Value, us.length = ps.length → bindArgs fd ⟨us, []⟩ = pure (ps.zip us) := fun us hl => match us, hl.trans hp with | [a0], _ => h a0
theorem us2 {fd : FuncData} {ps : List Str} (hp : ps.length = 2) (h : ∀ a0 a1 : Value, bindArgs fd ⟨[a0, a1], []⟩ = pure (ps.zip [a0, a1])) : ∀ us : List Value, us.length = ps.length → bindArgs fd ⟨us, []⟩ = pure (ps.zip us) := fun us hl => match us, hl.trans hp with | [a0, a1], _ => h a0 a1
theorem us3 {fd : FuncData} {ps : List Str} (hp : ps.length = 3) (h : ∀ a0 a1 a2 : Value, bindArgs fd ⟨[a0, a1, a2], []⟩ = pure (ps.zip [a0, a1, a2])) : ∀ us : List Value, us.length = ps.length → bindArgs fd ⟨us, []⟩ = pure (ps.zip us) := fun us hl => match us, hl.trans hp with | [a0, a1, a2], _ => h a0 a1 a2
theorem us4 {fd : FuncData} {ps : List Str} (hp : ps.length = 4) (h : ∀ a0 a1 a2 a3 : Value, bindArgs fd ⟨[a0, a1, a2, a3], []⟩ = pure (ps.zip [a0, a1, a2, a3])) : ∀ us : List Value, us.length = ps.length → bindArgs fd ⟨us, []⟩ = pure (ps.zip us) := fun us hl => match us, hl.trans hp with | [a0, a1, a2, a3], _ => h a0 a1 a2 a3
theorem all_mk {l : PySem.W.OpenLaw} {w : World} {K : PySem.W.Frag} {h : Heap} {mg : Str → Option Value} {fa f0 f1 f2 f3 f4 f5 f6 f7 f8 f9 f10 f11 f12 f13 f14 f15 f16 f17 f18 f19 f20 f21 f22 f23 f24 f25 f26 f27 f28 f29 f30 f31 f32 f33 : Addr} (X : K.In h) (G : h.Ns mainGlobals mg) (hfa : mg "law" = some (.ref fa))
    {od0 an0 od1 an1 od2 an2 od3 an3 od4 an4 od5 an5 od6 an6 od7 an7 od8 an8 od9 an9 od10 an10 od11 an11 od12 an12 od13 an13 od14 an14 od15 an15 od16 an16 od17 an17 od18 an18 od19 an19 od20 an20 od21 an21 od22 an22 od23 an23 od24 an24 od25 an25 od26 an26 od27 an27 od28 an28 od29 an29 od30 an30 od31 an31 od32 an32 od33 an33 : Option Addr} {sl0 sl1 sl2 sl3 sl4 sl5 sl6 sl7 sl8 sl9 sl10 sl11 sl12 sl13 sl14 sl15 sl16 sl17 sl18 sl19 sl20 sl21 sl22 sl23 sl24 sl25 sl26 sl27 sl28 sl29 sl30 sl31 sl32 sl33 : Array (Option Value)} {oc0 kV0 dc0 pm0 cd0 ct0 oc1 kV1 dc1 pm1 cd1 ct1 oc2 kV2 dc2 pm2 cd2 ct2 oc3 kV3 dc3 pm3 cd3 ct3 oc4 kV4 dc4 pm4 cd4 ct4 oc5 kV5 dc5 pm5 cd5 ct5 oc6 kV6 dc6 pm6 cd6 ct6 oc7 kV7 dc7 pm7 cd7 ct7 oc8 kV8 dc8 pm8 cd8 ct8 oc9 kV9 dc9 pm9 cd9 ct9 oc10 kV10 dc10 pm10 cd10 ct10 oc11 kV11 dc11 pm11 cd11 ct11 oc12 kV12 dc12 pm12 cd12 ct12 oc13 kV13 dc13 pm13 cd13 ct13 oc14 kV14 dc14 pm14 cd14 ct14 oc15 kV15 dc15 pm15 cd15 ct15 oc16 kV16 dc16 pm16 cd16 ct16 oc17 kV17 dc17 pm17 cd17 ct17 oc18 kV18 dc18 pm18 cd18 ct18 oc19 kV19 dc19 pm19 cd19 ct19 oc20 kV20 dc20 pm20 cd20 ct20 oc21 kV21 dc21 pm21 cd21 ct21 oc22 kV22 dc22 pm22 cd22 ct22 oc23 kV23 dc23 pm23 cd23 ct23 oc24 kV24 dc24 pm24 cd24 ct24 oc25 kV25 dc25 pm25 cd25 ct25 oc26 kV26 dc26 pm26 cd26 ct26 oc27 kV27 dc27 pm27 cd27 ct27 oc28 kV28 dc28 pm28 cd28 ct28 oc29 kV29 dc29 pm29 cd29 ct29 oc30 kV30 dc30 pm30 cd30 ct30 oc31 kV31 dc31 pm31 cd31 ct31 oc32 kV32 dc32 pm32 cd32 ct32 oc33 kV33 dc33 pm33 cd33 ct33 : Value}
    (a0 : PySem.W.nsIn K mainGlobals "lesser_end" = some (some (.ref f0))) (l0 : K.lookup f0 = some ⟨oc0, od0, .func (PySem.W.fnOf "lesser_end" "lesser_end" (defArgs sLesser) (defBody sLesser) (defScope sLesser) .none kV0 dc0 pm0 an0 cd0 ct0), sl0⟩) (c0 : PySem.W.codeIn K cd0 "lesser_end" = true) (k0 : PySem.W.keepIn K (.ref f0) = true)
    (a1 : PySem.W.nsIn K mainGlobals "common_spans" = some (some (.ref f1))) (l1 : K.lookup f1 = some ⟨oc1, od1, .func (PySem.W.fnOf "common_spans" "common_spans" (defArgs sCommon) (defBody sCommon) (defScope sCommon) .none kV1 dc1 pm1 an1 cd1 ct1), sl1⟩) (c1 : PySem.W.codeIn K cd1 "common_spans" = true) (k1 : PySem.W.keepIn K (.ref f1) = true)
    (a2 : PySem.W.nsIn K mainGlobals "other_spans" = some (some (.ref f2))) (l2 : K.lookup f2 = some ⟨oc2, od2, .func (PySem.W.fnOf "other_spans" "other_spans" (defArgs sOther) (defBody sOther) (defScope sOther) .none kV2 dc2 pm2 an2 cd2 ct2), sl2⟩) (c2 : PySem.W.codeIn K cd2 "other_spans" = true) (k2 : PySem.W.keepIn K (.ref f2) = true)
    (a3 : PySem.W.nsIn K mainGlobals "joint_spans" = some (some (.ref f3))) (l3 : K.lookup f3 = some ⟨oc3, od3, .func (PySem.W.fnOf "joint_spans" "joint_spans" (defArgs sJoint) (defBody sJoint) (defScope sJoint) .none kV3 dc3 pm3 an3 cd3 ct3), sl3⟩) (c3 : PySem.W.codeIn K cd3 "joint_spans" = true) (k3 : PySem.W.keepIn K (.ref f3) = true)
    (a4 : PySem.W.nsIn K mainGlobals "deeds_by" = some (some (.ref f4))) (l4 : K.lookup f4 = some ⟨oc4, od4, .func (PySem.W.fnOf "deeds_by" "deeds_by" (defArgs sDeedsBy) (defBody sDeedsBy) (defScope sDeedsBy) .none kV4 dc4 pm4 an4 cd4 ct4), sl4⟩) (c4 : PySem.W.codeIn K cd4 "deeds_by" = true) (k4 : PySem.W.keepIn K (.ref f4) = true)
    (a5 : PySem.W.nsIn K mainGlobals "stand_behind" = some (some (.ref f5))) (l5 : K.lookup f5 = some ⟨oc5, od5, .func (PySem.W.fnOf "stand_behind" "stand_behind" (defArgs sStandB) (defBody sStandB) (defScope sStandB) .none kV5 dc5 pm5 an5 cd5 ct5), sl5⟩) (c5 : PySem.W.codeIn K cd5 "stand_behind" = true) (k5 : PySem.W.keepIn K (.ref f5) = true)
    (a6 : PySem.W.nsIn K mainGlobals "stretches_of" = some (some (.ref f6))) (l6 : K.lookup f6 = some ⟨oc6, od6, .func (PySem.W.fnOf "stretches_of" "stretches_of" (defArgs sStretches) (defBody sStretches) (defScope sStretches) .none kV6 dc6 pm6 an6 cd6 ct6), sl6⟩) (c6 : PySem.W.codeIn K cd6 "stretches_of" = true) (k6 : PySem.W.keepIn K (.ref f6) = true)
    (a7 : PySem.W.nsIn K mainGlobals "spans_where" = some (some (.ref f7))) (l7 : K.lookup f7 = some ⟨oc7, od7, .func (PySem.W.fnOf "spans_where" "spans_where" (defArgs sWhere) (defBody sWhere) (defScope sWhere) .none kV7 dc7 pm7 an7 cd7 ct7), sl7⟩) (c7 : PySem.W.codeIn K cd7 "spans_where" = true) (k7 : PySem.W.keepIn K (.ref f7) = true)
    (a8 : PySem.W.nsIn K mainGlobals "beside_of" = some (some (.ref f8))) (l8 : K.lookup f8 = some ⟨oc8, od8, .func (PySem.W.fnOf "beside_of" "beside_of" (defArgs sBeside) (defBody sBeside) (defScope sBeside) .none kV8 dc8 pm8 an8 cd8 ct8), sl8⟩) (c8 : PySem.W.codeIn K cd8 "beside_of" = true) (k8 : PySem.W.keepIn K (.ref f8) = true)
    (a9 : PySem.W.nsIn K mainGlobals "ways_from" = some (some (.ref f9))) (l9 : K.lookup f9 = some ⟨oc9, od9, .func (PySem.W.fnOf "ways_from" "ways_from" (defArgs sWays) (defBody sWays) (defScope sWays) .none kV9 dc9 pm9 an9 cd9 ct9), sl9⟩) (c9 : PySem.W.codeIn K cd9 "ways_from" = true) (k9 : PySem.W.keepIn K (.ref f9) = true)
    (a10 : PySem.W.nsIn K mainGlobals "part_of" = some (some (.ref f10))) (l10 : K.lookup f10 = some ⟨oc10, od10, .func (PySem.W.fnOf "part_of" "part_of" (defArgs sPart) (defBody sPart) (defScope sPart) .none kV10 dc10 pm10 an10 cd10 ct10), sl10⟩) (c10 : PySem.W.codeIn K cd10 "part_of" = true) (k10 : PySem.W.keepIn K (.ref f10) = true)
    (a11 : PySem.W.nsIn K mainGlobals "are_joined" = some (some (.ref f11))) (l11 : K.lookup f11 = some ⟨oc11, od11, .func (PySem.W.fnOf "are_joined" "are_joined" (defArgs sJoined) (defBody sJoined) (defScope sJoined) .none kV11 dc11 pm11 an11 cd11 ct11), sl11⟩) (c11 : PySem.W.codeIn K cd11 "are_joined" = true) (k11 : PySem.W.keepIn K (.ref f11) = true)
    (a12 : PySem.W.nsIn K mainGlobals "joined_spans" = some (some (.ref f12))) (l12 : K.lookup f12 = some ⟨oc12, od12, .func (PySem.W.fnOf "joined_spans" "joined_spans" (defArgs sJoinedS) (defBody sJoinedS) (defScope sJoinedS) .none kV12 dc12 pm12 an12 cd12 ct12), sl12⟩) (c12 : PySem.W.codeIn K cd12 "joined_spans" = true) (k12 : PySem.W.keepIn K (.ref f12) = true)
    (a13 : PySem.W.nsIn K mainGlobals "first_joined" = some (some (.ref f13))) (l13 : K.lookup f13 = some ⟨oc13, od13, .func (PySem.W.fnOf "first_joined" "first_joined" (defArgs sFirst) (defBody sFirst) (defScope sFirst) .none kV13 dc13 pm13 an13 cd13 ct13), sl13⟩) (c13 : PySem.W.codeIn K cd13 "first_joined" = true) (k13 : PySem.W.keepIn K (.ref f13) = true)
    (a14 : PySem.W.nsIn K mainGlobals "last_joined" = some (some (.ref f14))) (l14 : K.lookup f14 = some ⟨oc14, od14, .func (PySem.W.fnOf "last_joined" "last_joined" (defArgs sLastJ) (defBody sLastJ) (defScope sLastJ) .none kV14 dc14 pm14 an14 cd14 ct14), sl14⟩) (c14 : PySem.W.codeIn K cd14 "last_joined" = true) (k14 : PySem.W.keepIn K (.ref f14) = true)
    (a15 : PySem.W.nsIn K mainGlobals "_law_deck" = some (some (.ref f15))) (l15 : K.lookup f15 = some ⟨oc15, od15, .func (PySem.W.fnOf "_law_deck" "_law_deck" (defArgs sDeck) (defBody sDeck) (defScope sDeck) .none kV15 dc15 pm15 an15 cd15 ct15), sl15⟩) (c15 : PySem.W.codeIn K cd15 "_law_deck" = true) (k15 : PySem.W.keepIn K (.ref f15) = true)
    (a16 : PySem.W.nsIn K mainGlobals "_law_mixed" = some (some (.ref f16))) (l16 : K.lookup f16 = some ⟨oc16, od16, .func (PySem.W.fnOf "_law_mixed" "_law_mixed" (defArgs sMixed) (defBody sMixed) (defScope sMixed) .none kV16 dc16 pm16 an16 cd16 ct16), sl16⟩) (c16 : PySem.W.codeIn K cd16 "_law_mixed" = true) (k16 : PySem.W.keepIn K (.ref f16) = true)
    (a17 : PySem.W.nsIn K mainGlobals "_law_draw" = some (some (.ref f17))) (l17 : K.lookup f17 = some ⟨oc17, od17, .func (PySem.W.fnOf "_law_draw" "_law_draw" (defArgs sDraw) (defBody sDraw) (defScope sDraw) .none kV17 dc17 pm17 an17 cd17 ct17), sl17⟩) (c17 : PySem.W.codeIn K cd17 "_law_draw" = true) (k17 : PySem.W.keepIn K (.ref f17) = true)
    (a18 : PySem.W.nsIn K mainGlobals "_law_word" = some (some (.ref f18))) (l18 : K.lookup f18 = some ⟨oc18, od18, .func (PySem.W.fnOf "_law_word" "_law_word" (defArgs sWord) (defBody sWord) (defScope sWord) .none kV18 dc18 pm18 an18 cd18 ct18), sl18⟩) (c18 : PySem.W.codeIn K cd18 "_law_word" = true) (k18 : PySem.W.keepIn K (.ref f18) = true)
    (a19 : PySem.W.nsIn K mainGlobals "_law_names" = some (some (.ref f19))) (l19 : K.lookup f19 = some ⟨oc19, od19, .func (PySem.W.fnOf "_law_names" "_law_names" (defArgs sNames) (defBody sNames) (defScope sNames) .none kV19 dc19 pm19 an19 cd19 ct19), sl19⟩) (c19 : PySem.W.codeIn K cd19 "_law_names" = true) (k19 : PySem.W.keepIn K (.ref f19) = true)
    (a20 : PySem.W.nsIn K mainGlobals "_law_moment" = some (some (.ref f20))) (l20 : K.lookup f20 = some ⟨oc20, od20, .func (PySem.W.fnOf "_law_moment" "_law_moment" (defArgs sMoment) (defBody sMoment) (defScope sMoment) .none kV20 dc20 pm20 an20 cd20 ct20), sl20⟩) (c20 : PySem.W.codeIn K cd20 "_law_moment" = true) (k20 : PySem.W.keepIn K (.ref f20) = true)
    (a21 : PySem.W.nsIn K mainGlobals "_law_ends" = some (some (.ref f21))) (l21 : K.lookup f21 = some ⟨oc21, od21, .func (PySem.W.fnOf "_law_ends" "_law_ends" (defArgs sEnds) (defBody sEnds) (defScope sEnds) .none kV21 dc21 pm21 an21 cd21 ct21), sl21⟩) (c21 : PySem.W.codeIn K cd21 "_law_ends" = true) (k21 : PySem.W.keepIn K (.ref f21) = true)
    (a22 : PySem.W.nsIn K mainGlobals "_law_weight" = some (some (.ref f22))) (l22 : K.lookup f22 = some ⟨oc22, od22, .func (PySem.W.fnOf "_law_weight" "_law_weight" (defArgs sWeight) (defBody sWeight) (defScope sWeight) .none kV22 dc22 pm22 an22 cd22 ct22), sl22⟩) (c22 : PySem.W.codeIn K cd22 "_law_weight" = true) (k22 : PySem.W.keepIn K (.ref f22) = true)
    (a23 : PySem.W.nsIn K mainGlobals "_law_history" = some (some (.ref f23))) (l23 : K.lookup f23 = some ⟨oc23, od23, .func (PySem.W.fnOf "_law_history" "_law_history" (defArgs sHistory) (defBody sHistory) (defScope sHistory) .none kV23 dc23 pm23 an23 cd23 ct23), sl23⟩) (c23 : PySem.W.codeIn K cd23 "_law_history" = true) (k23 : PySem.W.keepIn K (.ref f23) = true)
    (a24 : PySem.W.nsIn K mainGlobals "_law_same" = some (some (.ref f24))) (l24 : K.lookup f24 = some ⟨oc24, od24, .func (PySem.W.fnOf "_law_same" "_law_same" (defArgs sSame) (defBody sSame) (defScope sSame) .none kV24 dc24 pm24 an24 cd24 ct24), sl24⟩) (c24 : PySem.W.codeIn K cd24 "_law_same" = true) (k24 : PySem.W.keepIn K (.ref f24) = true)
    (a25 : PySem.W.nsIn K mainGlobals "_law_part" = some (some (.ref f25))) (l25 : K.lookup f25 = some ⟨oc25, od25, .func (PySem.W.fnOf "_law_part" "_law_part" (defArgs sLPart) (defBody sLPart) (defScope sLPart) .none kV25 dc25 pm25 an25 cd25 ct25), sl25⟩) (c25 : PySem.W.codeIn K cd25 "_law_part" = true) (k25 : PySem.W.keepIn K (.ref f25) = true)
    (a26 : PySem.W.nsIn K mainGlobals "_law_stand_at" = some (some (.ref f26))) (l26 : K.lookup f26 = some ⟨oc26, od26, .func (PySem.W.fnOf "_law_stand_at" "_law_stand_at" (defArgs sLStandAt) (defBody sLStandAt) (defScope sLStandAt) .none kV26 dc26 pm26 an26 cd26 ct26), sl26⟩) (c26 : PySem.W.codeIn K cd26 "_law_stand_at" = true) (k26 : PySem.W.keepIn K (.ref f26) = true)
    (a27 : PySem.W.nsIn K mainGlobals "_law_stretches" = some (some (.ref f27))) (l27 : K.lookup f27 = some ⟨oc27, od27, .func (PySem.W.fnOf "_law_stretches" "_law_stretches" (defArgs sLStr) (defBody sLStr) (defScope sLStr) .none kV27 dc27 pm27 an27 cd27 ct27), sl27⟩) (c27 : PySem.W.codeIn K cd27 "_law_stretches" = true) (k27 : PySem.W.keepIn K (.ref f27) = true)
    (a28 : PySem.W.nsIn K mainGlobals "_law_laid" = some (some (.ref f28))) (l28 : K.lookup f28 = some ⟨oc28, od28, .func (PySem.W.fnOf "_law_laid" "_law_laid" (defArgs sLaid) (defBody sLaid) (defScope sLaid) .none kV28 dc28 pm28 an28 cd28 ct28), sl28⟩) (c28 : PySem.W.codeIn K cd28 "_law_laid" = true) (k28 : PySem.W.keepIn K (.ref f28) = true)
    (a29 : PySem.W.nsIn K mainGlobals "_law_spans" = some (some (.ref f29))) (l29 : K.lookup f29 = some ⟨oc29, od29, .func (PySem.W.fnOf "_law_spans" "_law_spans" (defArgs sLSpans) (defBody sLSpans) (defScope sLSpans) .none kV29 dc29 pm29 an29 cd29 ct29), sl29⟩) (c29 : PySem.W.codeIn K cd29 "_law_spans" = true) (k29 : PySem.W.keepIn K (.ref f29) = true)
    (a30 : PySem.W.nsIn K mainGlobals "_law_pairs" = some (some (.ref f30))) (l30 : K.lookup f30 = some ⟨oc30, od30, .func (PySem.W.fnOf "_law_pairs" "_law_pairs" (defArgs sLPairs) (defBody sLPairs) (defScope sLPairs) .none kV30 dc30 pm30 an30 cd30 ct30), sl30⟩) (c30 : PySem.W.codeIn K cd30 "_law_pairs" = true) (k30 : PySem.W.keepIn K (.ref f30) = true)
    (a31 : PySem.W.nsIn K mainGlobals "_law_ends_of" = some (some (.ref f31))) (l31 : K.lookup f31 = some ⟨oc31, od31, .func (PySem.W.fnOf "_law_ends_of" "_law_ends_of" (defArgs sEndsOf) (defBody sEndsOf) (defScope sEndsOf) .none kV31 dc31 pm31 an31 cd31 ct31), sl31⟩) (c31 : PySem.W.codeIn K cd31 "_law_ends_of" = true) (k31 : PySem.W.keepIn K (.ref f31) = true)
    (a32 : PySem.W.nsIn K mainGlobals "_law_last" = some (some (.ref f32))) (l32 : K.lookup f32 = some ⟨oc32, od32, .func (PySem.W.fnOf "_law_last" "_law_last" (defArgs sLLast) (defBody sLLast) (defScope sLLast) .none kV32 dc32 pm32 an32 cd32 ct32), sl32⟩) (c32 : PySem.W.codeIn K cd32 "_law_last" = true) (k32 : PySem.W.keepIn K (.ref f32) = true)
    (a33 : PySem.W.nsIn K mainGlobals "law" = some (some (.ref f33))) (l33 : K.lookup f33 = some ⟨oc33, od33, .func (PySem.W.fnOf "law" "law" (defArgs sLaw) (defBody sLaw) (defScope sLaw) .none kV33 dc33 pm33 an33 cd33 ct33), sl33⟩) (c33 : PySem.W.codeIn K cd33 "law" = true) (k33 : PySem.W.keepIn K (.ref f33) = true)
    (z0 : PySem.W.nsIn K mainGlobals "isinstance" = some none) (z1 : PySem.W.nsIn K mainGlobals "int" = some none) (z2 : PySem.W.nsIn K mainGlobals "bool" = some none) (z3 : PySem.W.nsIn K mainGlobals "tuple" = some none) (z4 : PySem.W.nsIn K mainGlobals "len" = some none) (z5 : PySem.W.nsIn K mainGlobals "range" = some none) (z6 : PySem.W.nsIn K mainGlobals "sum" = some none) (z7 : PySem.W.nsIn K mainGlobals "str" = some none) (z8 : PySem.W.nsIn K mainGlobals "max" = some none) (z9 : PySem.W.nsIn K mainGlobals "min" = some none) (z10 : PySem.W.nsIn K mainGlobals "all" = some none) (z11 : PySem.W.nsIn K mainGlobals "zip" = some none) (z12 : PySem.W.nsIn K mainGlobals "sorted" = some none) (z13 : PySem.W.nsIn K mainGlobals "list" = some none) (z14 : PySem.W.nsIn K mainGlobals "set" = some none) :
    ∃ fd : FuncData, (∀ (s : Shared) (v : Value), BindsTo s fd ⟨[v], []⟩ [("_law_script", v)]) ∧ ∀ base : Heap, K.In base → base.Ns mainGlobals mg → FnOk l.prog w K mg base CX0 7 fa fd ["_law_script"] (spLaw K) := by
  have e := hfa.symm.trans (PySem.W.mg_of X G a33)
  cases e
  have T : Txt mg := ⟨PySem.W.mg_none_of X G z0, PySem.W.mg_none_of X G z1, PySem.W.mg_none_of X G z2, PySem.W.mg_none_of X G z3, PySem.W.mg_none_of X G z4, PySem.W.mg_none_of X G z5, PySem.W.mg_none_of X G z6, PySem.W.mg_none_of X G z7, PySem.W.mg_none_of X G z8, PySem.W.mg_none_of X G z9, PySem.W.mg_none_of X G z10, PySem.W.mg_none_of X G z11, PySem.W.mg_none_of X G z12, PySem.W.mg_none_of X G z13, PySem.W.mg_none_of X G z14⟩
  have F0 := fun_mk (st := sLesser) l0 c0 k0
  have b0 := F0.binds (ps := ["one", "other"]) fun _ _ _ _ _ _ => us2 rfl fun _ _ => rfl
  have m0 := PySem.W.mg_of X G a0
  have F1 := fun_mk (st := sCommon) l1 c1 k1
  have b1 := F1.binds (ps := ["one", "other"]) fun _ _ _ _ _ _ => us2 rfl fun _ _ => rfl
  have m1 := PySem.W.mg_of X G a1
  have F2 := fun_mk (st := sOther) l2 c2 k2
  have b2 := F2.binds (ps := ["spans"]) fun _ _ _ _ _ _ => us1 rfl fun _ => rfl
  have m2 := PySem.W.mg_of X G a2
  have F3 := fun_mk (st := sJoint) l3 c3 k3
  have b3 := F3.binds (ps := ["one", "other"]) fun _ _ _ _ _ _ => us2 rfl fun _ _ => rfl
  have m3 := PySem.W.mg_of X G a3
  have F4 := fun_mk (st := sDeedsBy) l4 c4 k4
  have b4 := F4.binds (ps := ["history", "moment"]) fun _ _ _ _ _ _ => us2 rfl fun _ _ => rfl
  have m4 := PySem.W.mg_of X G a4
  have F5 := fun_mk (st := sStandB) l5 c5 k5
  have b5 := F5.binds (ps := ["history", "n"]) fun _ _ _ _ _ _ => us2 rfl fun _ _ => rfl
  have m5 := PySem.W.mg_of X G a5
  have F6 := fun_mk (st := sStretches) l6 c6 k6
  have b6 := F6.binds (ps := ["history"]) fun _ _ _ _ _ _ => us1 rfl fun _ => rfl
  have m6 := PySem.W.mg_of X G a6
  have F7 := fun_mk (st := sWhere) l7 c7 k7
  have b7 := F7.binds (ps := ["history", "truths"]) fun _ _ _ _ _ _ => us2 rfl fun _ _ => rfl
  have m7 := PySem.W.mg_of X G a7
  have F8 := fun_mk (st := sBeside) l8 c8 k8
  have b8 := F8.binds (ps := ["many", "stand"]) fun _ _ _ _ _ _ => us2 rfl fun _ _ => rfl
  have m8 := PySem.W.mg_of X G a8
  have F9 := fun_mk (st := sWays) l9 c9 k9
  have b9 := F9.binds (ps := ["many", "stand", "place"]) fun _ _ _ _ _ _ => us3 rfl fun _ _ _ => rfl
  have m9 := PySem.W.mg_of X G a9
  have F10 := fun_mk (st := sPart) l10 c10 k10
  have b10 := F10.binds (ps := ["many", "stand", "place"]) fun _ _ _ _ _ _ => us3 rfl fun _ _ _ => rfl
  have m10 := PySem.W.mg_of X G a10
  have F11 := fun_mk (st := sJoined) l11 c11 k11
  have b11 := F11.binds (ps := ["many", "stand", "one", "other"]) fun _ _ _ _ _ _ => us4 rfl fun _ _ _ _ => rfl
  have m11 := PySem.W.mg_of X G a11
  have F12 := fun_mk (st := sJoinedS) l12 c12 k12
  have b12 := F12.binds (ps := ["history", "one", "other"]) fun _ _ _ _ _ _ => us3 rfl fun _ _ _ => rfl
  have m12 := PySem.W.mg_of X G a12
  have F13 := fun_mk (st := sFirst) l13 c13 k13
  have b13 := F13.binds (ps := ["history", "one", "other"]) fun _ _ _ _ _ _ => us3 rfl fun _ _ _ => rfl
  have m13 := PySem.W.mg_of X G a13
  have F14 := fun_mk (st := sLastJ) l14 c14 k14
  have b14 := F14.binds (ps := ["history", "one", "other", "end"]) fun _ _ _ _ _ _ => us4 rfl fun _ _ _ _ => rfl
  have m14 := PySem.W.mg_of X G a14
  have F15 := fun_mk (st := sDeck) l15 c15 k15
  have b15 := F15.binds (ps := ["_law_script"]) fun _ _ _ _ _ _ => us1 rfl fun _ => rfl
  have m15 := PySem.W.mg_of X G a15
  have F16 := fun_mk (st := sMixed) l16 c16 k16
  have b16 := F16.binds (ps := ["_law_cell", "_law_k"]) fun _ _ _ _ _ _ => us2 rfl fun _ _ => rfl
  have m16 := PySem.W.mg_of X G a16
  have F17 := fun_mk (st := sDraw) l17 c17 k17
  have b17 := F17.binds (ps := ["_law_deck_here", "_law_most"]) fun _ _ _ _ _ _ => us2 rfl fun _ _ => rfl
  have m17 := PySem.W.mg_of X G a17
  have F18 := fun_mk (st := sWord) l18 c18 k18
  have b18 := F18.binds (ps := ["_law_deck_here", "_law_size"]) fun _ _ _ _ _ _ => us2 rfl fun _ _ => rfl
  have m18 := PySem.W.mg_of X G a18
  have F19 := fun_mk (st := sNames) l19 c19 k19
  have b19 := F19.binds (ps := ["_law_deck_here", "_law_many"]) fun _ _ _ _ _ _ => us2 rfl fun _ _ => rfl
  have m19 := PySem.W.mg_of X G a19
  have F20 := fun_mk (st := sMoment) l20 c20 k20
  have b20 := F20.binds (ps := ["_law_deck_here", "_law_moment_here"]) fun _ _ _ _ _ _ => us2 rfl fun _ _ => rfl
  have m20 := PySem.W.mg_of X G a20
  have F21 := fun_mk (st := sEnds) l21 c21 k21
  have b21 := F21.binds (ps := ["_law_deck_here", "_law_many", "_law_ties"]) fun _ _ _ _ _ _ => us3 rfl fun _ _ _ => rfl
  have m21 := PySem.W.mg_of X G a21
  have F22 := fun_mk (st := sWeight) l22 c22 k22
  have b22 := F22.binds (ps := ["_law_deck_here", "_law_ties"]) fun _ _ _ _ _ _ => us2 rfl fun _ _ => rfl
  have m22 := PySem.W.mg_of X G a22
  have F23 := fun_mk (st := sHistory) l23 c23 k23
  have b23 := F23.binds (ps := ["_law_deck_here"]) fun _ _ _ _ _ _ => us1 rfl fun _ => rfl
  have m23 := PySem.W.mg_of X G a23
  have F24 := fun_mk (st := sSame) l24 c24 k24
  have b24 := F24.binds (ps := ["_law_found", "_law_due"]) fun _ _ _ _ _ _ => us2 rfl fun _ _ => rfl
  have m24 := PySem.W.mg_of X G a24
  have F25 := fun_mk (st := sLPart) l25 c25 k25
  have b25 := F25.binds (ps := ["_law_ties", "_law_place"]) fun _ _ _ _ _ _ => us2 rfl fun _ _ => rfl
  have m25 := PySem.W.mg_of X G a25
  have F26 := fun_mk (st := sLStandAt) l26 c26 k26
  have b26 := F26.binds (ps := ["_law_history_here", "_law_moment_here"]) fun _ _ _ _ _ _ => us2 rfl fun _ _ => rfl
  have m26 := PySem.W.mg_of X G a26
  have F27 := fun_mk (st := sLStr) l27 c27 k27
  have b27 := F27.binds (ps := ["_law_history_here"]) fun _ _ _ _ _ _ => us1 rfl fun _ => rfl
  have m27 := PySem.W.mg_of X G a27
  have F28 := fun_mk (st := sLaid) l28 c28 k28
  have b28 := F28.binds (ps := ["_law_pairs_here"]) fun _ _ _ _ _ _ => us1 rfl fun _ => rfl
  have m28 := PySem.W.mg_of X G a28
  have F29 := fun_mk (st := sLSpans) l29 c29 k29
  have b29 := F29.binds (ps := ["_law_stretches_here", "_law_one", "_law_other"]) fun _ _ _ _ _ _ => us3 rfl fun _ _ _ => rfl
  have m29 := PySem.W.mg_of X G a29
  have F30 := fun_mk (st := sLPairs) l30 c30 k30
  have b30 := F30.binds (ps := ["_law_deck_here", "_law_history_here"]) fun _ _ _ _ _ _ => us2 rfl fun _ _ => rfl
  have m30 := PySem.W.mg_of X G a30
  have F31 := fun_mk (st := sEndsOf) l31 c31 k31
  have b31 := F31.binds (ps := ["_law_deck_here", "_law_history_here"]) fun _ _ _ _ _ _ => us2 rfl fun _ _ => rfl
  have m31 := PySem.W.mg_of X G a31
  have F32 := fun_mk (st := sLLast) l32 c32 k32
  have b32 := F32.binds (ps := ["_law_spans_here", "_law_end"]) fun _ _ _ _ _ _ => us2 rfl fun _ _ => rfl
  have m32 := PySem.W.mg_of X G a32
  have F33 := fun_mk (st := sLaw) l33 c33 k33
  have b33 := F33.binds (ps := ["_law_script"]) fun _ _ _ _ _ _ => us1 rfl fun _ => rfl
  have m33 := PySem.W.mg_of X G a33
  refine ⟨PySem.W.fnOf "law" "law" (defArgs sLaw) (defBody sLaw) (defScope sLaw) .none kV33 dc33 pm33 an33 cd33 ct33, fun s v => .of_eq rfl, fun base _ _ => ?_⟩
  have Q0 : FnOk l.prog w K mg base CX0 1 f0 _ ["one", "other"] spLesser := ok_Lesser F0 T 
  have Q1 : FnOk l.prog w K mg base CX0 2 f1 _ ["one", "other"] spCommon := ok_Common F1 T k0 b0 m0 (Q0.mono (by decide))
  have Q2 : FnOk l.prog w K mg base CX0 1 f2 _ ["spans"] spOther := ok_Other F2 T 
  have Q3 : FnOk l.prog w K mg base CX0 3 f3 _ ["one", "other"] spJoint := ok_Joint F3 T k2 b2 m2 (Q2.mono (by decide)) k1 b1 m1 (Q1.mono (by decide))
  have Q4 : FnOk l.prog w K mg base CX0 1 f4 _ ["history", "moment"] spDeedsBy := ok_DeedsBy F4 T 
  have Q5 : FnOk l.prog w K mg base CX0 1 f5 _ ["history", "n"] spStandB := ok_StandB F5 T 
  have Q6 : FnOk l.prog w K mg base CX0 2 f6 _ ["history"] spStretches := ok_Stretches F6 T k4 b4 m4 (Q4.mono (by decide))
  have Q7 : FnOk l.prog w K mg base CX0 4 f7 _ ["history", "truths"] spWhere := ok_Where F7 T k6 b6 m6 (Q6.mono (by decide)) k3 b3 m3 (Q3.mono (by decide))
  have Q8 : FnOk l.prog w K mg base CX0 1 f8 _ ["many", "stand"] spBeside := ok_Beside F8 T 
  have Q9 : FnOk l.prog w K mg base CX0 2 f9 _ ["many", "stand", "place"] spWays := ok_Ways F9 T k8 b8 m8 (Q8.mono (by decide))
  have Q10 : FnOk l.prog w K mg base CX0 3 f10 _ ["many", "stand", "place"] spPart := ok_Part F10 T k9 b9 m9 (Q9.mono (by decide))
  have Q11 : FnOk l.prog w K mg base CX0 4 f11 _ ["many", "stand", "one", "other"] spJoined := ok_Joined F11 T k10 b10 m10 (Q10.mono (by decide))
  have Q12 : FnOk l.prog w K mg base CX0 5 f12 _ ["history", "one", "other"] spJoinedS := ok_JoinedS F12 T k11 b11 m11 (Q11.mono (by decide)) k5 b5 m5 (Q5.mono (by decide)) k7 b7 m7 (Q7.mono (by decide))
  have Q13 : FnOk l.prog w K mg base CX0 6 f13 _ ["history", "one", "other"] spFirst := ok_First F13 T k12 b12 m12 (Q12.mono (by decide))
  have Q14 : FnOk l.prog w K mg base CX0 6 f14 _ ["history", "one", "other", "end"] spLastJ := ok_LastJ F14 T k12 b12 m12 (Q12.mono (by decide)) k0 b0 m0 (Q0.mono (by decide))
  have Q15 : FnOk l.prog w K mg base CX0 1 f15 _ ["_law_script"] (spDeck K) := ok_Deck F15 T 
  have Q16 : FnOk l.prog w K mg base CX0 1 f16 _ ["_law_cell", "_law_k"] spMixed := ok_Mixed F16 T 
  have Q17 : FnOk l.prog w K mg base CX0 2 f17 _ ["_law_deck_here", "_law_most"] spDraw := ok_Draw F17 T k16 b16 m16 (Q16.mono (by decide))
  have Q18 : FnOk l.prog w K mg base CX0 3 f18 _ ["_law_deck_here", "_law_size"] spWord := ok_Word F18 T k17 b17 m17 (Q17.mono (by decide))
  have Q19 : FnOk l.prog w K mg base CX0 4 f19 _ ["_law_deck_here", "_law_many"] spNames := ok_Names F19 T k17 b17 m17 (Q17.mono (by decide)) k18 b18 m18 (Q18.mono (by decide))
  have Q20 : FnOk l.prog w K mg base CX0 3 f20 _ ["_law_deck_here", "_law_moment_here"] spMoment := ok_Moment F20 T k17 b17 m17 (Q17.mono (by decide))
  have Q21 : FnOk l.prog w K mg base CX0 3 f21 _ ["_law_deck_here", "_law_many", "_law_ties"] spEnds := ok_Ends F21 T k17 b17 m17 (Q17.mono (by decide))
  have Q22 : FnOk l.prog w K mg base CX0 3 f22 _ ["_law_deck_here", "_law_ties"] spWeight := ok_Weight F22 T k17 b17 m17 (Q17.mono (by decide))
  have Q23 : FnOk l.prog w K mg base CX0 5 f23 _ ["_law_deck_here"] spHistory := ok_History F23 T k17 b17 m17 (Q17.mono (by decide)) k19 b19 m19 (Q19.mono (by decide)) k20 b20 m20 (Q20.mono (by decide)) k21 b21 m21 (Q21.mono (by decide)) k22 b22 m22 (Q22.mono (by decide))
  have Q24 : FnOk l.prog w K mg base CX0 1 f24 _ ["_law_found", "_law_due"] (spSame 0) := ok_Same0 F24 T
  have Q25 : FnOk l.prog w K mg base CX0 1 f25 _ ["_law_ties", "_law_place"] spLPart := ok_LPart F25 T 
  have Q26 : FnOk l.prog w K mg base CX0 1 f26 _ ["_law_history_here", "_law_moment_here"] spLStandAt := ok_LStandAt F26 T 
  have Q27 : FnOk l.prog w K mg base CX0 2 f27 _ ["_law_history_here"] spLStr := ok_LStr F27 T k26 b26 m26 (Q26.mono (by decide))
  have Q28 : FnOk l.prog w K mg base CX0 1 f28 _ ["_law_pairs_here"] spLaid := ok_Laid F28 T 
  have Q29 : FnOk l.prog w K mg base CX0 2 f29 _ ["_law_stretches_here", "_law_one", "_law_other"] spLSpans := ok_LSpans F29 T k28 b28 m28 (Q28.mono (by decide)) k25 b25 m25 (Q25.mono (by decide))
  have Q30 : FnOk l.prog w K mg base CX0 3 f30 _ ["_law_deck_here", "_law_history_here"] spLPairs := ok_LPairs F30 T k17 b17 m17 (Q17.mono (by decide))
  have Q31 : FnOk l.prog w K mg base CX0 3 f31 _ ["_law_deck_here", "_law_history_here"] spEndsOf := ok_EndsOf F31 T k17 b17 m17 (Q17.mono (by decide))
  have Q32 : FnOk l.prog w K mg base CX0 1 f32 _ ["_law_spans_here", "_law_end"] spLLast := ok_LLast F32 T 
  exact ok_Law F33 T k15 b15 m15 (Q15.mono (by decide)) k23 b23 m23 (Q23.mono (by decide)) k27 b27 m27 (Q27.mono (by decide)) k31 b31 m31 (Q31.mono (by decide)) k30 b30 m30 (Q30.mono (by decide)) k29 b29 m29 (Q29.mono (by decide)) k24 b24 m24 (Q24.mono (by decide)) k13 b13 m13 (Q13.mono (by decide)) k14 b14 m14 (Q14.mono (by decide)) k32 b32 m32 (Q32.mono (by decide))
theorem walk {l : PySem.W.OpenLaw} {q : Program} {loose : List Str} {XP : (Str → Option Value) → Heap → Prop} {YP : World → Heap → Prop} {d : DefRec} {K : Params → PySem.W.Frag} (hn : l.most = some 63) (hdf : d.params.defaults = [])
    (hY : ∀ (w : World) (h : Heap), YP w h → (K w.params).In h)
    (F : ∀ (w : World) (mg : Str → Option Value) (fa : Addr) (h : Heap), (K w.params).In h → h.Ns mainGlobals mg → mg d.name = some (.ref fa) →
      ∃ fd : FuncData, (∀ (s : Shared) (u : Value), BindsTo s fd ⟨[u], []⟩ [("_law_script", u)]) ∧ ∀ base : Heap, (K w.params).In base → base.Ns mainGlobals mg → FnOk l.prog w (K w.params) mg base CX0 7 fa fd ["_law_script"] (spLaw (K w.params))) :
    PySem.W.WalkO q loose XP YP l.row.toRowW d [] (fun f vs => PySem.call f vs) :=
  L2.walk_of (n := 63) (k := 7) (x := "_law_script") (CX := fun _ => CX0) (sp := fun w => spLaw (K w.params)) hn (by decide) hdf ⟨rfl, by decide, by decide, rfl⟩ hY F (fun _ _ a ns hl _ hS => ⟨a, ns, rfl, hS, hl, fun _ => rfl⟩) fun _ _ _ _ _ z => z
end K68
open PySem PySem.W PyProof.Rows
set_option maxRecDepth 100000 in
set_option maxHeartbeats 0 in
theorem PySem.Challenge.cw_joinedever_k68_first_and_last_holds : PySem.Challenge.rw_joinedever_k68_first_and_last.Holds := by
  w_on; o_law; k_head; (case hw => w_witness2)
  k_fill
  refine K68.walk (l := PySem.Challenge.rw_joinedever_k68_first_and_last) rfl rfl (fun w h Y => PySem.W.kIn_of Y) ?F
  case F =>
    intro w mg fa h KX G hmg
    refine' K68.all_mk KX G hmg ?a0 ?l0 ?c0 ?k0 ?a1 ?l1 ?c1 ?k1 ?a2 ?l2 ?c2 ?k2 ?a3 ?l3 ?c3 ?k3 ?a4 ?l4 ?c4 ?k4 ?a5 ?l5 ?c5 ?k5 ?a6 ?l6 ?c6 ?k6 ?a7 ?l7 ?c7 ?k7 ?a8 ?l8 ?c8 ?k8 ?a9 ?l9 ?c9 ?k9 ?a10 ?l10 ?c10 ?k10 ?a11 ?l11 ?c11 ?k11 ?a12 ?l12 ?c12 ?k12 ?a13 ?l13 ?c13 ?k13 ?a14 ?l14 ?c14 ?k14 ?a15 ?l15 ?c15 ?k15 ?a16 ?l16 ?c16 ?k16 ?a17 ?l17 ?c17 ?k17 ?a18 ?l18 ?c18 ?k18 ?a19 ?l19 ?c19 ?k19 ?a20 ?l20 ?c20 ?k20 ?a21 ?l21 ?c21 ?k21 ?a22 ?l22 ?c22 ?k22 ?a23 ?l23 ?c23 ?k23 ?a24 ?l24 ?c24 ?k24 ?a25 ?l25 ?c25 ?k25 ?a26 ?l26 ?c26 ?k26 ?a27 ?l27 ?c27 ?k27 ?a28 ?l28 ?c28 ?k28 ?a29 ?l29 ?c29 ?k29 ?a30 ?l30 ?c30 ?k30 ?a31 ?l31 ?c31 ?k31 ?a32 ?l32 ?c32 ?k32 ?a33 ?l33 ?c33 ?k33 ?z0 ?z1 ?z2 ?z3 ?z4 ?z5 ?z6 ?z7 ?z8 ?z9 ?z10 ?z11 ?z12 ?z13 ?z14
    (case a0 => k_is)
    (case l0 => k_is)
    (case c0 => k_is)
    (case k0 => k_is)
    (case a1 => k_is)
    (case l1 => k_is)
    (case c1 => k_is)
    (case k1 => k_is)
    (case a2 => k_is)
    (case l2 => k_is)
    (case c2 => k_is)
    (case k2 => k_is)
    (case a3 => k_is)
    (case l3 => k_is)
    (case c3 => k_is)
    (case k3 => k_is)
    (case a4 => k_is)
    (case l4 => k_is)
    (case c4 => k_is)
    (case k4 => k_is)
    (case a5 => k_is)
    (case l5 => k_is)
    (case c5 => k_is)
    (case k5 => k_is)
    (case a6 => k_is)
    (case l6 => k_is)
    (case c6 => k_is)
    (case k6 => k_is)
    (case a7 => k_is)
    (case l7 => k_is)
    (case c7 => k_is)
    (case k7 => k_is)
    (case a8 => k_is)
    (case l8 => k_is)
    (case c8 => k_is)
    (case k8 => k_is)
    (case a9 => k_is)
    (case l9 => k_is)
    (case c9 => k_is)
    (case k9 => k_is)
    (case a10 => k_is)
    (case l10 => k_is)
    (case c10 => k_is)
    (case k10 => k_is)
    (case a11 => k_is)
    (case l11 => k_is)
    (case c11 => k_is)
    (case k11 => k_is)
    (case a12 => k_is)
    (case l12 => k_is)
    (case c12 => k_is)
    (case k12 => k_is)
    (case a13 => k_is)
    (case l13 => k_is)
    (case c13 => k_is)
    (case k13 => k_is)
    (case a14 => k_is)
    (case l14 => k_is)
    (case c14 => k_is)
    (case k14 => k_is)
    (case a15 => k_is)
    (case l15 => k_is)
    (case c15 => k_is)
    (case k15 => k_is)
    (case a16 => k_is)
    (case l16 => k_is)
    (case c16 => k_is)
    (case k16 => k_is)
    (case a17 => k_is)
    (case l17 => k_is)
    (case c17 => k_is)
    (case k17 => k_is)
    (case a18 => k_is)
    (case l18 => k_is)
    (case c18 => k_is)
    (case k18 => k_is)
    (case a19 => k_is)
    (case l19 => k_is)
    (case c19 => k_is)
    (case k19 => k_is)
    (case a20 => k_is)
    (case l20 => k_is)
    (case c20 => k_is)
    (case k20 => k_is)
    (case a21 => k_is)
    (case l21 => k_is)
    (case c21 => k_is)
    (case k21 => k_is)
    (case a22 => k_is)
    (case l22 => k_is)
    (case c22 => k_is)
    (case k22 => k_is)
    (case a23 => k_is)
    (case l23 => k_is)
    (case c23 => k_is)
    (case k23 => k_is)
    (case a24 => k_is)
    (case l24 => k_is)
    (case c24 => k_is)
    (case k24 => k_is)
    (case a25 => k_is)
    (case l25 => k_is)
    (case c25 => k_is)
    (case k25 => k_is)
    (case a26 => k_is)
    (case l26 => k_is)
    (case c26 => k_is)
    (case k26 => k_is)
    (case a27 => k_is)
    (case l27 => k_is)
    (case c27 => k_is)
    (case k27 => k_is)
    (case a28 => k_is)
    (case l28 => k_is)
    (case c28 => k_is)
    (case k28 => k_is)
    (case a29 => k_is)
    (case l29 => k_is)
    (case c29 => k_is)
    (case k29 => k_is)
    (case a30 => k_is)
    (case l30 => k_is)
    (case c30 => k_is)
    (case k30 => k_is)
    (case a31 => k_is)
    (case l31 => k_is)
    (case c31 => k_is)
    (case k31 => k_is)
    (case a32 => k_is)
    (case l32 => k_is)
    (case c32 => k_is)
    (case k32 => k_is)
    (case a33 => k_is)
    (case l33 => k_is)
    (case c33 => k_is)
    (case k33 => k_is)
    (case z0 => k_is)
    (case z1 => k_is)
    (case z2 => k_is)
    (case z3 => k_is)
    (case z4 => k_is)
    (case z5 => k_is)
    (case z6 => k_is)
    (case z7 => k_is)
    (case z8 => k_is)
    (case z9 => k_is)
    (case z10 => k_is)
    (case z11 => k_is)
    (case z12 => k_is)
    (case z13 => k_is)
    (case z14 => k_is)
