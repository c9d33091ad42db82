import PyProof.Rows.All
import Wide.All
import OpenK.AllK
import Wide.FinOn
import Lean
import PyProof.EqAt
import PyProof.EqKinds
import PyProof.TupleCall
import PySem.Challenge.RW_joinedever_k56_things_that_are_no_tellin
import PyProof.Draws
import PyProof.ZipIter
import PyProof.TupleIter
import PyProof.ListRange
import PyProof.CollectWalk
import KE.KSortTup
import KE.KDictSum
import PyProof.Rows.Range3
import KE.KEqDict
import KE.KRevIter
import PyProof.EnumStmt
import PyProof.CallStr
import PyProof.ReprLen
import PyProof.StrLawsRepr
import Flt.Len
set_option Elab.async false
set_option linter.all false
set_option maxRecDepth 100000
namespace L2
open PySem PySem.Spec PyProof.Rows
abbrev Key := Sum Int Str
def keyIs : Key → Value → Bool
  | .inl k, v => Value.isInt k v
  | .inr x, v => Value.isStrOf x v
def keyH (w : World) : Key → Int
  | .inl k => hashInt k
  | .inr x => hashStr w x
theorem keyIs_shape : ∀ {k : Key} {v : Value}, keyIs k v = true → (∃ i t, k = Sum.inl i ∧ v = Value.int i t) ∨ (∃ x t, k = Sum.inr x ∧ v = Value.str x t)
  | .inl i, v, h => by
    obtain ⟨t, e⟩ := Value.isInt_shape (k := i) (v := v) h
    exact .inl ⟨i, t, rfl, e⟩
  | .inr x, v, h => by
    obtain ⟨t, e⟩ := Value.isStrOf_shape (x := x) (v := v) h
    exact .inr ⟨x, t, rfl, e⟩
theorem keyIs_int (i : Int) (t : Tok) : keyIs (.inl i) (.int i t) = true := by simp [keyIs, Value.isInt]
theorem keyIs_str (x : Str) (t : Tok) : keyIs (.inr x) (.str x t) = true := by simp [keyIs, Value.isStrOf]
theorem key_ll (a b : Int) : decide ((Sum.inl a : Key) = Sum.inl b) = (a == b) := by
  by_cases e : a = b
  · subst e; simp
  · have h : ¬ (Sum.inl a : Key) = Sum.inl b := fun q => e (Sum.inl.inj q)
    rw [decide_eq_false h]
    exact (beq_eq_false_iff_ne.mpr e).symm
theorem key_rr (a b : Str) : decide ((Sum.inr a : Key) = Sum.inr b) = decide (a = b) := by
  by_cases e : a = b
  · subst e; simp
  · have h : ¬ (Sum.inr a : Key) = Sum.inr b := fun q => e (Sum.inr.inj q)
    rw [decide_eq_false h, decide_eq_false e]
theorem key_lr (a : Int) (b : Str) : decide ((Sum.inl a : Key) = Sum.inr b) = false := decide_eq_false (fun q => nomatch q)
theorem key_rl (a : Str) (b : Int) : decide ((Sum.inr a : Key) = Sum.inl b) = false := decide_eq_false (fun q => nomatch q)
def mixKind (prog : Program) (w : World) : PySem.KeyKind prog w Key where
  is := keyIs
  hash := keyH w
  inj := fun v a b ha hb => by
    rcases keyIs_shape ha with ⟨i, t, rfl, rfl⟩ | ⟨x, t, rfl, rfl⟩
    · rcases keyIs_shape hb with ⟨j, u, rfl, e⟩ | ⟨y, u, rfl, e⟩
      · injection e with e1 _; rw [e1]
      · exact nomatch e
    · rcases keyIs_shape hb with ⟨j, u, rfl, e⟩ | ⟨y, u, rfl, e⟩
      · exact nomatch e
      · injection e with e1 _; rw [e1]
  byValue := fun k v h => by
    rcases keyIs_shape h with ⟨i, t, rfl, rfl⟩ | ⟨x, t, rfl, rfl⟩ <;> rfl
  pyHash := fun hv h => by
    rcases keyIs_shape hv with ⟨i, t, rfl, rfl⟩ | ⟨x, t, rfl, rfl⟩
    · exact wpAny_pyHash_int h
    · exact wpAny_pyHash_str h
  eqBool := fun hu hv h => by
    rcases keyIs_shape hu with ⟨i, t, rfl, rfl⟩ | ⟨x, t, rfl, rfl⟩
    · rcases keyIs_shape hv with ⟨j, u, rfl, rfl⟩ | ⟨y, u, rfl, rfl⟩
      · rw [key_ll] at h; exact wpAny_eqBool_int h
      · rw [key_lr] at h; exact SeqAt.EqAt.int_str i t y u _ _ _ _ h
    · rcases keyIs_shape hv with ⟨j, u, rfl, rfl⟩ | ⟨y, u, rfl, rfl⟩
      · rw [key_rl] at h; exact SeqAt.EqAt.str_int x t j u _ _ _ _ h
      · rw [key_rr] at h; exact wpAny_eqBool_str h
  «strs» := fun k x t v h => by
    rcases keyIs_shape h with ⟨i, u, rfl, e⟩ | ⟨y, u, rfl, e⟩
    · exact nomatch e
    · injection e with e1 _
      subst e1
      cases v <;> rfl
theorem mixKind_int (prog : Program) (w : World) (i : Int) (t : Tok) : (mixKind prog w).is (.inl i) (.int i t) = true := keyIs_int i t
theorem mixKind_str (prog : Program) (w : World) (x : Str) (t : Tok) : (mixKind prog w).is (.inr x) (.str x t) = true := keyIs_str x t
end L2
namespace L2
open PySem PySem.Spec PyProof.Rows
inductive V where
  | non | bl (b : Bool) | int (i : Int) | str (x : Str) | byt (b : Array UInt8) | flt (b : UInt64) | ref (a : Addr) | ty (n : String)
  deriving DecidableEq
def RelV : V → Value → Prop
  | .non, u => u = Value.none
  | .bl b, u => u = Value.bool b
  | .int i, u => ∃ t, u = Value.int i t
  | .str x, u => ∃ t, u = Value.str x t
  | .byt b, u => ∃ t, u = Value.bytes b t
  | .flt b, u => ∃ t, u = Value.float b t
  | .ref a, u => u = Value.ref a
  | .ty n, u => u = Value.type n
abbrev Vals : List V → List Value → Prop := Paired RelV
theorem Vals.length {xs : List V} {us : List Value} (r : Vals xs us) : xs.length = us.length := Paired.length r
theorem Vals.get : ∀ {xs : List V} {us : List Value} {i : Nat} {x : V}, Vals xs us → xs[i]? = some x → ∃ u, us[i]? = some u ∧ RelV x u
  | _, _, _, _, .nil, e => by simp at e
  | _, _, 0, _, .cons r _, e => by simp at e; subst e; exact ⟨_, rfl, r⟩
  | _, _, i + 1, x, .cons _ t, e => by
    obtain ⟨u, h1, h2⟩ := Vals.get (i := i) (x := x) t (by simpa using e)
    exact ⟨u, by simpa using h1, h2⟩
theorem Vals.set {x : V} {u : Value} (r : RelV x u) : ∀ {xs : List V} {us : List Value} (i : Nat), Vals xs us → Vals (xs.set i x) (us.set i u)
  | _, _, _, .nil => .nil
  | _, _, 0, .cons _ t => .cons r t
  | _, _, i + 1, .cons q t => .cons q (Vals.set r i t)
theorem Vals.append : ∀ {xs ys : List V} {us ws : List Value}, Vals xs us → Vals ys ws → Vals (xs ++ ys) (us ++ ws)
  | _, _, _, _, .nil, s => s
  | _, _, _, _, .cons r t, s => .cons r (Vals.append t s)
theorem Vals.take : ∀ {xs : List V} {us : List Value} (n : Nat), Vals xs us → Vals (xs.take n) (us.take n)
  | _, _, 0, _ => .nil
  | _, _, _ + 1, .nil => .nil
  | _, _, n + 1, .cons r t => .cons r (Vals.take n t)
theorem Vals.drop : ∀ {xs : List V} {us : List Value} (n : Nat), Vals xs us → Vals (xs.drop n) (us.drop n)
  | _, _, 0, r => r
  | _, _, _ + 1, .nil => .nil
  | _, _, n + 1, .cons _ t => Vals.drop n t
def RelO : Option V → Option Value → Prop
  | some v, some u => RelV v u
  | none, none => True
  | _, _ => False
def KV {κ : Type} : List (κ × V) → List (κ × Value) → Prop := Paired fun (p : κ × V) (q : κ × Value) => p.1 = q.1 ∧ RelV p.2 q.2
def kV : Key → V
  | .inl i => .int i
  | .inr x => .str x
inductive HO where
  | lst (xs : List V)
  | tup (xs : List V)
  | dK (kvs : List (Key × V)) | dT (kvs : List (List Key × V))
  | set (S : Int → Bool) (n : Nat)
  | ins (C dx : Addr) (fs : List (Str × V))
  | own (x : Addr)
  | xd (fs : List (Str × V))
  | met (f x : Addr)
  | rng (lo hi : Int)
  | frz (o : Obj) (u : HO)
  | tbl (ps : Array Value)
  | ext (φ : Heap → Prop)
abbrev Hp := Addr → Option HO
def upd (H : Hp) (a : Addr) (o : HO) : Hp := fun b => if b = a then some o else H b
theorem upd_same {H : Hp} {a : Addr} {o : HO} : upd H a o a = some o := by unfold upd; rw [if_pos rfl]
theorem upd_ne {H : Hp} {a b : Addr} {o : HO} (h : b ≠ a) : upd H a o b = H b := by unfold upd; rw [if_neg h]
theorem upd_upd {H : Hp} {a : Addr} {o u : HO} : upd (upd H a o) a u = upd H a u := by
  funext b; unfold upd; split <;> rfl
theorem ne_of {H : Hp} {a b : Addr} {o u : HO} (h : H a = some o) (h' : H b = some u) (d : o ≠ u) : a ≠ b := by
  intro e; subst e; rw [h] at h'; exact d (Option.some.inj h')
theorem ne_of_none {H : Hp} {a b : Addr} {o : HO} (h : H a = some o) (h' : H b = none) : a ≠ b := by
  intro e; subst e; rw [h] at h'; cases h'
def IsTupN (h : Heap) (a : Addr) (items : Array Value) : Prop := ∃ o, h.get? a = some o ∧ o.cls = .type "tuple" ∧ o.dict = none ∧ ∃ n, o.data = .seq items n
theorem IsTupN.new (h : Heap) (items : Array Value) : IsTupN (h.push { cls := .type "tuple", data := .seq items }) h.objs.size items := ⟨_, Heap.get?_push_size _ rfl, rfl, rfl, _, rfl⟩
theorem IsTupN.tup {h : Heap} {a : Addr} {items : Array Value} (x : IsTupN h a items) : IsTup h a items := let ⟨o, e, c, _, n, d⟩ := x; ⟨o, e, c, n, d⟩
section
variable (P : Program) (w : World)
def ObjOk (H : Hp) (h : Heap) (a : Addr) : HO → Prop
  | .lst xs => xs.length ≤ sizeLine ∧ ∃ (its : List Value) (n : Nat), Vals xs its ∧ h.get? a = some { cls := .type "list", data := .seq its.toArray n }
  | .tup xs => xs.length ≤ sizeLine ∧ ∃ its : List Value, Vals xs its ∧ IsTupN h a its.toArray
  | .dK kvs => kvs.length ≤ sizeLine ∧ (a == sysModules) = false ∧ ∃ vs, KV kvs vs ∧ h.DictOf (mixKind P w) a vs
  | .dT kvs => kvs.length ≤ sizeLine ∧ (a == sysModules) = false ∧ ∃ xs : List (List Key × Addr × Value),
      Paired (fun (p : List Key × V) (q : List Key × Addr × Value) => p.1 = q.1 ∧ H q.2.1 = some (.tup (p.1.map kV)) ∧ RelV p.2 q.2.2) kvs xs ∧
      ∃ o es ep, h.get? a = some o ∧ o.ExactDict ∧ o.data = .dict es ep ∧ es.toList = xs.map (entryOfKey (tupleKind (mixKind P w))) ∧ (xs.map (·.1)).Nodup
  | .set S n => h.SetOf (intKind P w) a S n
  | .ins C dx fs => H dx = some (.own a) ∧ fs.length ≤ 1000 ∧ dx ≠ a ∧ h.get? a = some (PySem.W.instObj C dx) ∧
      ∃ mA, h.Ns1 dx mA ∧ (∀ f, RelO (fs.lookup f) (mA f)) ∧ PySem.Within mA (fs.map (·.1))
  | .own _ => ∃ o, h.get? a = some o
  | .xd fs => ∃ mA, h.Ns1 a mA ∧ ∀ f, RelO (fs.lookup f) (mA f)
  | .rng lo hi => ∃ t u v, h.get? a = some { cls := .type "range", data := .fields #[.int lo t, .int hi u, .int 1 v] }
  | .frz o u => h.get? a = some o ∧ ObjOk H h a u
  | .tbl ps => h.get? a = some { cls := .none, data := .fields ps }
  | .met f x => h.get? a = some (PySem.W.methodObj (.ref f) (.ref x))
  | .ext φ => φ h ∧ (∃ o, h.get? a = some o) ∧ ∀ h1 h2 : Heap, φ h1 → (∀ o, h1.get? a = some o → h2.get? a = some o) → φ h2
def HOk (H : Hp) (h : Heap) : Prop := ∀ a o, H a = some o → ObjOk P w H h a o
end
section
variable {P : Program} {w : World} {H H' : Hp} {h h' : Heap} {a : Addr} {o : HO}
theorem ObjOk.lt (x : ObjOk P w H h a o) : a < h.objs.size := by
  cases o with
  | lst xs => obtain ⟨_, _, _, _, e⟩ := x; exact Heap.lt_size e
  | tup xs => obtain ⟨_, _, _, p⟩ := x; exact p.tup.lt
  | dK kvs => obtain ⟨_, _, _, _, o, _, _, e, _⟩ := x; exact Heap.lt_size e
  | dT kvs => obtain ⟨_, _, _, _, o, _, _, e, _⟩ := x; exact Heap.lt_size e
  | set S n => obtain ⟨o, _, _, _, e, _⟩ := x; exact Heap.lt_size e
  | ins C dx fs => obtain ⟨_, _, _, e, _⟩ := x; exact Heap.lt_size e
  | own y => obtain ⟨_, e⟩ := x; exact Heap.lt_size e
  | xd fs => obtain ⟨_, ⟨_, _, _, e, _⟩, _⟩ := x; exact Heap.lt_size e
  | rng lo hi => obtain ⟨_, _, _, e⟩ := x; exact Heap.lt_size e
  | frz ob u => obtain ⟨e, _⟩ := x; exact Heap.lt_size e
  | tbl ps => exact Heap.lt_size (show h.get? a = some _ from x)
  | met f y => exact Heap.lt_size (show h.get? a = some _ from x)
  | ext φ => obtain ⟨_, ⟨_, e⟩, _⟩ := x; exact Heap.lt_size e
theorem Paired.mapP {α β : Type} {F G : α → β → Prop} : ∀ {l₁ : List α} {l₂ : List β}, Paired F l₁ l₂ → (∀ a b, F a b → G a b) → Paired G l₁ l₂
  | _, _, .nil, _ => .nil
  | _, _, .cons r t, f => .cons (f _ _ r) (Paired.mapP t f)
theorem ObjOk.stay (x : ObjOk P w H h a o) (k : ∀ b u, (b = a ∨ H b = some (.own a)) → h.get? b = some u → h'.get? b = some u)
    (ho : ∀ b, H b = some (.own a) → H' b = some (.own a)) (ht : ∀ b xs, H b = some (.tup xs) → H' b = some (.tup xs)) : ObjOk P w H' h' a o := by
  induction o with
  | lst xs => obtain ⟨z, its, n, r, e⟩ := x; exact ⟨z, its, n, r, k _ _ (.inl rfl) e⟩
  | tup xs => obtain ⟨z, its, r, ob, e, c⟩ := x; exact ⟨z, its, r, ob, k _ _ (.inl rfl) e, c⟩
  | dK kvs => obtain ⟨z, y, vs, r, ob, es, ep, e, c⟩ := x; exact ⟨z, y, vs, r, ob, es, ep, k _ _ (.inl rfl) e, c⟩
  | dT kvs =>
    obtain ⟨z, y, xs, r, ob, es, ep, e, c⟩ := x
    exact ⟨z, y, xs, Paired.mapP r fun p q z => ⟨z.1, ht _ _ z.2.1, z.2.2⟩, ob, es, ep, k _ _ (.inl rfl) e, c⟩
  | set S n => obtain ⟨ob, es, ep, t, e, c⟩ := x; exact ⟨ob, es, ep, t, k _ _ (.inl rfl) e, c⟩
  | ins C dx fs =>
    obtain ⟨d, z, ne, e, mA, ⟨od, es, ep, e2, c⟩, r⟩ := x
    exact ⟨ho _ d, z, ne, k _ _ (.inl rfl) e, mA, ⟨od, es, ep, k _ _ (.inr d) e2, c⟩, r⟩
  | own y => obtain ⟨ob, e⟩ := x; exact ⟨ob, k _ _ (.inl rfl) e⟩
  | xd fs => obtain ⟨mA, ⟨od, es, ep, e, c⟩, r⟩ := x; exact ⟨mA, ⟨od, es, ep, k _ _ (.inl rfl) e, c⟩, r⟩
  | rng lo hi => obtain ⟨t, u, v, e⟩ := x; exact ⟨t, u, v, k _ _ (.inl rfl) e⟩
  | frz ob u ih => obtain ⟨e, q⟩ := x; exact ⟨k _ _ (.inl rfl) e, ih q⟩
  | tbl ps =>
    have e : h.get? a = some { cls := .none, data := .fields ps } := x
    show h'.get? a = some { cls := .none, data := .fields ps }
    exact k a _ (.inl rfl) e
  | met f y =>
    have e : h.get? a = some (PySem.W.methodObj (.ref f) (.ref y)) := x
    show h'.get? a = some (PySem.W.methodObj (.ref f) (.ref y))
    exact k a _ (.inl rfl) e
  | ext φ => obtain ⟨p, ⟨o, e⟩, st⟩ := x; exact ⟨st _ _ p fun o q => k _ _ (.inl rfl) q, ⟨o, k _ _ (.inl rfl) e⟩, st⟩
theorem HOk.lt (x : HOk P w H h) (e : H a = some o) : a < h.objs.size := (x a o e).lt
theorem HOk.fresh (x : HOk P w H h) (e : h.objs.size ≤ a) : H a = none := by
  cases q : H a with
  | none => rfl
  | some u => exact absurd (Nat.lt_of_lt_of_le (x.lt q) e) (Nat.lt_irrefl _)
theorem HOk.kept (x : HOk P w H h) (k : ∀ b u, h.get? b = some u → h'.get? b = some u) : HOk P w H h' := fun a o e =>
  (x a o e).stay (fun b u _ q => k b u q) (fun _ q => q) fun _ _ q => q
theorem HOk.laid (x : HOk P w H h) (k : ∀ b u, h.get? b = some u → h'.get? b = some u) (hp : h.objs.size ≤ a) (new : ObjOk P w (upd H a o) h' a o) : HOk P w (upd H a o) h' := fun b u e => by
  have hn := x.fresh hp
  by_cases hb : b = a
  · subst hb; rw [upd_same] at e; cases e; exact new
  · rw [upd_ne hb] at e
    exact (x b u e).stay (fun c v _ q => k c v q) (fun c q => by rw [upd_ne (ne_of_none q hn)]; exact q) fun c xs q => by rw [upd_ne (ne_of_none q hn)]; exact q
end
def Rd (H : Hp) (a : Addr) (u : HO) : Prop := H a = some u ∨ ∃ o, H a = some (.frz o u)
theorem Rd.ok {P : Program} {w : World} {H : Hp} {h : Heap} {a : Addr} {u : HO} (r : Rd H a u) (x : HOk P w H h) : ObjOk P w H h a u := by
  rcases r with r | ⟨o, r⟩
  · exact x a u r
  · obtain ⟨_, q⟩ := x a _ r
    exact q
def Mut : Option HO → Prop
  | some (.lst _) => True
  | some (.dK _) => True
  | some (.dT _) => True
  | some (.set _ _) => True
  | some (.ins _ _ _) => True
  | some (.ext _) => True
  | _ => False
section
variable {P : Program} {w : World} {H : Hp} {h h' : Heap} {x e : Addr} {o' : HO}
theorem HOk.write (ok : HOk P w H h) (mu : Mut (H x)) (he : e = x ∨ H e = some (.own x)) (k : ∀ b u, b ≠ e → h.get? b = some u → h'.get? b = some u) (heo : ∃ u, h'.get? e = some u)
    (new : ObjOk P w (upd H x o') h' x o') : HOk P w (upd H x o') h' := fun b u q => by
  have nown : ∀ c y, H c = some (.own y) → c ≠ x := fun c y r z => by subst z; rw [r] at mu; exact mu
  have ntup : ∀ c xs, H c = some (.tup xs) → c ≠ x := fun c xs r z => by subst z; rw [r] at mu; exact mu
  by_cases hb : b = x
  · subst hb; rw [upd_same] at q; cases q; exact new
  · rw [upd_ne hb] at q
    by_cases hbe : b = e
    · have q' : H b = some (.own x) := by
        rcases he with z | z
        · exact absurd (hbe.trans z) hb
        · rw [hbe]; exact z
      rw [q] at q'; cases q'
      obtain ⟨v, hv⟩ := heo
      exact ⟨v, by rw [hbe]; exact hv⟩
    · refine (ok b u q).stay (fun c v hc r => k c v ?_ r) (fun c r => by rw [upd_ne (nown c b r)]; exact r) fun c xs r => by rw [upd_ne (ntup c xs r)]; exact r
      rcases hc with rfl | hc
      · exact hbe
      · rintro rfl
        rcases he with z | z
        · exact nown c b hc z
        · rw [hc] at z; cases z; exact hb rfl
end
structure Un (fs ex : List Addr) (H H' : Hp) (h h' : Heap) : Prop where
  keep : ∀ b o, h.get? b = some o → H b = none → b ∉ fs → b ∉ ex → h'.get? b = some o
  slot : ∀ b o, h.get? b = some o → H b = none → b ∈ fs → b ∉ ex → ∃ sl, h'.get? b = some { o with slots := sl }
  free : ∀ b o, h.get? b = some o → H b = none → b ∉ ex → H' b = none
  there : ∀ b o, h.get? b = some o → b ∉ ex → ∃ o', h'.get? b = some o'
  tups : ∀ b xs, H b = some (.tup xs) → H' b = some (.tup xs)
  frzs : ∀ b o u, H b = some (.frz o u) → H' b = some (.frz o u)
  tbls : ∀ b ps, H b = some (.tbl ps) → ∃ more, H' b = some (.tbl (ps ++ more))
section
variable {fs fs' ex ex' : List Addr} {H H1 H2 : Hp} {h h1 h2 h' : Heap} {a x e : Addr} {o : HO}
theorem Un.any (u : Un fs ex H H1 h h1) {b : Addr} {ob : Obj} (q : h.get? b = some ob) (n : H b = none) (hx : b ∉ ex) : ∃ sl, h1.get? b = some { ob with slots := sl } := by
  by_cases hb : b ∈ fs
  · exact u.slot b ob q n hb hx
  · exact ⟨ob.slots, u.keep b ob q n hb hx⟩
theorem Un.kept (k : ∀ b u, h.get? b = some u → h'.get? b = some u) : Un fs ex H H h h' :=
  ⟨fun b ob q _ _ _ => k b ob q, fun b ob q _ _ _ => ⟨ob.slots, k b ob q⟩, fun _ _ _ n _ => n, fun b ob q _ => ⟨ob, k b ob q⟩, fun _ _ q => q, fun _ _ _ q => q, fun _ ps q => ⟨#[], by rw [q]; simp⟩⟩
theorem Un.refl : Un fs ex H H h h := Un.kept fun _ _ q => q
theorem Un.laid (k : ∀ b u, h.get? b = some u → h'.get? b = some u) (hp : h.objs.size ≤ a) (hn : H a = none) : Un fs ex H (upd H a o) h h' where
  keep := fun b u q _ _ _ => k b u q
  slot := fun b u q _ _ _ => ⟨u.slots, k b u q⟩
  free := fun b u q n _ => by rw [upd_ne (Nat.ne_of_lt (Nat.lt_of_lt_of_le (Heap.lt_size q) hp))]; exact n
  there := fun b u q _ => ⟨u, k b u q⟩
  tups := fun b xs q => by rw [upd_ne (ne_of_none q hn)]; exact q
  frzs := fun b u xs q => by rw [upd_ne (ne_of_none q hn)]; exact q
  tbls := fun b ps q => ⟨#[], by rw [upd_ne (ne_of_none q hn), q]; simp⟩
theorem Un.write (mu : Mut (H x)) (he : e = x ∨ H e = some (.own x)) (k : ∀ b u, b ≠ e → h.get? b = some u → h'.get? b = some u) (heo : ∃ u, h'.get? e = some u) : Un fs ex H (upd H x o) h h' := by
  have hx : ∀ b, H b = none → b ≠ x := fun b n z => by subst z; rw [n] at mu; exact mu
  have hb : ∀ b, H b = none → b ≠ e := fun b n z => by
    subst z
    rcases he with r | r
    · exact hx b n r
    · rw [n] at r; cases r
  have hm : ∀ b u, H b = some u → ¬ Mut (some u) → b ≠ x := fun b u q nm z => by subst z; rw [q] at mu; exact nm mu
  refine ⟨fun b u q n _ _ => k b u (hb b n) q, fun b u q n _ _ => ⟨u.slots, k b u (hb b n) q⟩, fun b u q n _ => by rw [upd_ne (hx b n)]; exact n, fun b u q _ => ?_,
    fun b xs q => by rw [upd_ne (hm b _ q fun z => z)]; exact q, fun b u xs q => by rw [upd_ne (hm b _ q fun z => z)]; exact q, fun b ps q => ⟨#[], by rw [upd_ne (hm b _ q fun z => z), q]; simp⟩⟩
  by_cases hbe : b = e
  · subst hbe; exact heo
  · exact ⟨u, k b u hbe q⟩
end
def trk (h : Heap) (H : Hp) : List Addr := (List.range h.objs.size).filter fun a => (H a).isSome
def hidT (h : Heap) (H : Hp) : Heap := PySem.W.hideAll h (trk h H)
theorem hidT_size (h : Heap) (H : Hp) : (hidT h H).objs.size = h.objs.size := PySem.W.hideAll_size _ _
theorem hidT_get {h : Heap} {H : Hp} {b : Addr} {o : Obj} (e : h.get? b = some o) (n : H b = none) : (hidT h H).get? b = some o :=
  PySem.W.hideAll_get _ e fun hm => by
    have q : (H b).isSome = true := (List.mem_filter.mp hm).2
    rw [n] at q; simp at q
theorem of_hidT {h : Heap} {H : Hp} {b : Addr} {o : Obj} (e : (hidT h H).get? b = some o) : h.get? b = some o ∧ H b = none := by
  have e' : h.get? b = some o := PySem.W.of_hideAll (trk h H) e
  refine ⟨e', ?_⟩
  cases q : H b with
  | none => rfl
  | some x =>
    have hm : b ∈ trk h H := List.mem_filter.mpr ⟨List.mem_range.mpr (Heap.lt_size e'), by simp [q]⟩
    have z : (hidT h H).get? b = none := PySem.W.hideAll_none (trk h H) hm
    rw [z] at e; cases e
end L2
namespace L2
open PySem PySem.Spec PyProof.Rows
structure Mod (K : PySem.W.Frag) (mg : Str → Option Value) (base : Heap) : Prop where
  kin : K.In base
  glob : base.Ns mainGlobals mg
  blt : ∃ mb, base.Ns builtinsNs mb ∧ ∀ x : Str, x ≠ "__name__" → mb x = bootBuiltins x
  nolimit : base.NoLimit
structure Cx where
  prog : Program
  w : World
  K : PySem.W.Frag
  mg : Str → Option Value
  base : Heap
  A : Around
  N : List Str
  s₀ : Shared
  H₀ : Hp
  env : Env
  outer : List Env
  stack : List Env
  ex : List Addr
  fn : Str → Bool
  calm : Bool
  pn : List (Addr × Obj)
  xe : Value → Shared → Prop
def frs (l : List Env) : List Addr := l.filterMap (·.frame)
abbrev Cx.fs (X : Cx) : List Addr := frs X.outer
def Vis (sc : Scope) (x : Str) : Prop := sc.names.lookup x = some .local ∨ sc.names.lookup x = some .cell ∨ sc.names.lookup x = some .free
def Loc (sc : Scope) (x : Str) : Prop := sc.names.lookup x = some .local ∨ sc.names.lookup x = some .cell
def Look (env : Env) (h : Heap) (m : Str → Option Value) (x : Str) (u : Value) : Prop :=
  (env.kindOf x = some .local ∧ m x = some u) ∨ ((env.kindOf x = some .cell ∨ env.kindOf x = some .free) ∧ ∃ c, env.cells.lookup x = some c ∧ h.IsCell c (some u))
structure Cx.Ok (X : Cx) : Prop where
  mod : Mod X.K X.mg X.base
  kind : X.env.scope.kind = .function
  glob : X.env.globals = mainGlobals
  blt : X.env.builtins = builtinsNs
  above : X.s₀.heap.objs.size ≤ X.env.locals
  inj : ∀ x y c, X.env.cells.lookup x = some c → X.env.cells.lookup y = some c → x = y
  has : ∀ x, (X.env.kindOf x = some .cell ∨ X.env.kindOf x = some .free) → ∃ c, X.env.cells.lookup x = some c
  cab : ∀ x c, X.fn x = true → X.env.cells.lookup x = some c → X.s₀.heap.objs.size ≤ c
  hd : X.calm = true → X.A.handled = none
  frames : X.A.frames = some X.stack
  stk : X.stack = X.outer ∨ (X.stack = X.env :: X.outer ∧ X.env.frame = some X.env.locals)
  exf : ∀ b ∈ X.ex, b ≠ X.env.locals ∧ ∀ x c, X.env.cells.lookup x = some c → c ≠ b
  bs : ∀ b o, X.base.get? b = some o → X.s₀.heap.get? b = some o ∧ X.H₀ b = none
  bsz : X.base.objs.size ≤ X.s₀.heap.objs.size
  noex : ∀ b o, X.base.get? b = some o → b ∉ X.ex
  exfs : ∀ b ∈ X.ex, b ∉ X.fs
  funs : X.s₀.heap.FunFrames X.base X.outer
  frf : ∀ b ∈ X.fs, X.H₀ b = none
structure Inv (X : Cx) (pins : List (Addr × Obj)) (σ : List (Option V)) (H : Hp) (s : Shared) : Prop where
  ok : X.Ok
  os : s.os = X.s₀.os
  bare : AllBare s.gens
  base : Un X.fs X.ex X.H₀ H X.s₀.heap s.heap
  loc : ∃ m, s.heap.Ns X.env.locals m ∧ ∀ (i : Nat) (x : Str) (v : V), X.N[i]? = some x → σ[i]? = some (some v) → Vis X.env.scope x → ∃ u, RelV v u ∧ Look X.env s.heap m x u
  cell : ∀ x c, X.env.cells.lookup x = some c → ∃ v, s.heap.IsCell c v
  free : H X.env.locals = none
  freeC : ∀ x c, X.env.cells.lookup x = some c → H c = none
  pin : ∀ p ∈ X.pn ++ pins, s.heap.get? p.1 = some p.2 ∧ H p.1 = none ∧ p.1 ≠ X.env.locals ∧ p.1 ∉ X.fs ∧ ∀ v, p.2.data ≠ .cell v
  hok : HOk X.prog X.w H s.heap
  len : σ.length = X.N.length
section
variable {X : Cx} {pins : List (Addr × Obj)} {σ : List (Option V)} {H H' : Hp} {s : Shared} {h' : Heap}
theorem Cx.Ok.nofr (ok : X.Ok) {b : Addr} {o : Obj} (e : X.base.get? b = some o) : b ∉ X.fs := fun hb => by
  have := (ok.funs.mem hb).1
  rw [e] at this; cases this
theorem Inv.bs (I : Inv X pins σ H s) : ∀ b o, X.base.get? b = some o → s.heap.get? b = some o ∧ H b = none := fun b o e =>
  ⟨I.base.keep b o (I.ok.bs b o e).1 (I.ok.bs b o e).2 (I.ok.nofr e) (I.ok.noex b o e), I.base.free b o (I.ok.bs b o e).1 (I.ok.bs b o e).2 (I.ok.noex b o e)⟩
theorem Inv.bk (I : Inv X pins σ H s) : ∀ b o, X.base.get? b = some o → s.heap.get? b = some o := fun b o e => (I.bs b o e).1
theorem Inv.mod (I : Inv X pins σ H s) : Mod X.K X.mg X.base := I.ok.mod
theorem Inv.kIn (I : Inv X pins σ H s) : X.K.In s.heap := I.ok.mod.kin.keeps I.bk
theorem Inv.lt (I : Inv X pins σ H s) : X.env.locals < s.heap.objs.size := let ⟨_, hn, _⟩ := I.loc; hn.lt
theorem Inv.sz (I : Inv X pins σ H s) : X.s₀.heap.objs.size ≤ s.heap.objs.size := Nat.le_trans I.ok.above (Nat.le_of_lt I.lt)
theorem Inv.nofs (I : Inv X pins σ H s) {a : Addr} (h : s.heap.objs.size ≤ a) : a ∉ X.fs := fun hb => by
  obtain ⟨_, o, ho, _⟩ := I.ok.funs.mem hb
  exact absurd (Nat.lt_of_lt_of_le (Heap.lt_size ho) (Nat.le_trans I.sz h)) (Nat.lt_irrefl _)
theorem Inv.cne (I : Inv X pins σ H s) : ∀ x c, X.env.cells.lookup x = some c → c ≠ X.env.locals := fun x c e z => by
  obtain ⟨v, o, ho, hd⟩ := I.cell x c e
  obtain ⟨m, ⟨o', es, ep, ho', hd', _⟩, _⟩ := I.loc
  rw [z, ho'] at ho; cases ho; rw [hd'] at hd; cases hd
theorem Inv.funs (I : Inv X pins σ H s) : s.heap.FunFrames X.base X.outer := by
  have all : ∀ (l : List Env), (∀ b ∈ frs l, b ∈ X.fs) → X.s₀.heap.FunFrames X.base l → s.heap.FunFrames X.base l := by
    intro l
    induction l with
    | nil => intro _ _; trivial
    | cons env r ih =>
      intro hs hl
      obtain ⟨hk, ⟨L, o, hf, hn, ho, hd⟩, hr⟩ := hl
      have hL : L ∈ X.fs := hs L (by unfold frs; rw [List.filterMap_cons, hf]; exact List.mem_cons_self)
      obtain ⟨sl, e⟩ := I.base.slot L o ho (I.ok.frf L hL) hL fun z => I.ok.exfs L z hL
      exact ⟨hk, ⟨L, _, hf, hn, e, hd⟩, ih (fun b hb => hs b (by unfold frs; rw [List.filterMap_cons, hf]; exact List.mem_cons_of_mem _ hb)) hr⟩
  exact all X.outer (fun _ hb => hb) I.ok.funs
theorem Inv.stack (I : Inv X pins σ H s) : s.heap.FunFrames X.base X.stack := by
  rcases I.ok.stk with e | ⟨e, hf⟩
  · rw [e]; exact I.funs
  · rw [e]
    obtain ⟨m, hn, _⟩ := I.loc
    refine .cons (by rw [I.ok.kind]; decide) hf hn ?_ I.funs
    exact Heap.get?_none_of_le (Nat.le_trans I.ok.bsz I.ok.above)
theorem Inv.stkSub (I : Inv X pins σ H s) : ∀ b ∈ frs X.stack, b ∈ X.env.locals :: X.fs := fun b hb => by
  rcases I.ok.stk with e | ⟨e, hf⟩
  · rw [e] at hb; exact List.mem_cons_of_mem _ hb
  · rw [e] at hb
    unfold frs at hb
    rw [List.filterMap_cons, hf] at hb
    exact hb
theorem Inv.stkFree (I : Inv X pins σ H s) : ∀ b ∈ frs X.stack, H b = none := fun b hb => by
  rcases List.mem_cons.mp (I.stkSub b hb) with e | hb
  · rw [e]; exact I.free
  · obtain ⟨_, o, ho, _⟩ := I.ok.funs.mem hb
    exact I.base.free b o ho (I.ok.frf b hb) fun z => I.ok.exfs b z hb
theorem Inv.step {g' : Array GenState} {t' : Nat} {d' : Drawn} {ch : List Addr} (I : Inv X pins σ H s)
    (hch : ∀ b ∈ ch, (b ∈ X.ex ∨ X.s₀.heap.objs.size ≤ b) ∧ b ≠ X.env.locals ∧ (∀ x c, X.env.cells.lookup x = some c → c ≠ b) ∧ ∀ p ∈ X.pn ++ pins, p.1 ≠ b)
    (keep : ∀ b o, b ≠ X.env.locals → b ∉ X.fs → b ∉ ch → s.heap.get? b = some o → H b = none → h'.get? b = some o)
    (slot : ∀ b o, b ≠ X.env.locals → b ∈ X.fs → b ∉ ch → s.heap.get? b = some o → H b = none → ∃ sl, h'.get? b = some { o with slots := sl }) (free : ∀ b o, b ∉ ch → s.heap.get? b = some o → H b = none → H' b = none)
    (there : ∀ b o, b ∉ ch → s.heap.get? b = some o → ∃ o', h'.get? b = some o')
    (tups : ∀ b xs, H b = some (.tup xs) → H' b = some (.tup xs)) (frzs : ∀ b o u, H b = some (.frz o u) → H' b = some (.frz o u)) (tbls : ∀ b ps, H b = some (.tbl ps) → ∃ more, H' b = some (.tbl (ps ++ more)))
    (ns : ∀ m, s.heap.Ns X.env.locals m → h'.Ns X.env.locals m) (hok : HOk X.prog X.w H' h') (hg : AllBare g') :
    Inv X pins σ H' { s with heap := h', gens := g', drawn := d', toks := t' } := by
  have neL : ∀ b o, X.s₀.heap.get? b = some o → b ≠ X.env.locals := fun b o e => Nat.ne_of_lt (Nat.lt_of_lt_of_le (Heap.lt_size e) I.ok.above)
  have neC : ∀ b o, X.s₀.heap.get? b = some o → b ∉ X.ex → b ∉ ch := fun b o e hx hb => by
    rcases (hch b hb).1 with z | z
    · exact hx z
    · exact absurd (Nat.lt_of_lt_of_le (Heap.lt_size e) z) (Nat.lt_irrefl _)
  have cellK : ∀ x c, X.env.cells.lookup x = some c → ∀ v, s.heap.IsCell c v → h'.IsCell c v := fun x c e v ⟨o, ho, hd⟩ => by
    have nch : c ∉ ch := fun z => (hch c z).2.2.1 x c e rfl
    by_cases hc : c ∈ X.fs
    · obtain ⟨sl, q⟩ := slot c o (I.cne x c e) hc nch ho (I.freeC x c e)
      exact ⟨_, q, hd⟩
    · exact ⟨o, keep c o (I.cne x c e) hc nch ho (I.freeC x c e), hd⟩
  refine ⟨I.ok, I.os, hg, ⟨fun b o e n hb hx => ?_, fun b o e n hb hx => ?_, fun b o e n hx => ?_, fun b o e hx => ?_, fun b xs e => tups b xs (I.base.tups b xs e), fun b o xs e => frzs b o xs (I.base.frzs b o xs e), fun b ps e => ?_⟩, ?_, fun x c e => ?_, ?_, fun x c e => ?_, fun p hp => ?_, hok, I.len⟩
  · exact keep b o (neL b o e) hb (neC b o e hx) (I.base.keep b o e n hb hx) (I.base.free b o e n hx)
  · obtain ⟨sl, e1⟩ := I.base.slot b o e n hb hx
    obtain ⟨sl', e2⟩ := slot b _ (neL b o e) hb (neC b o e hx) e1 (I.base.free b o e n hx)
    exact ⟨sl', e2⟩
  · obtain ⟨o', e1⟩ := I.base.there b o e hx
    exact free b o' (neC b o e hx) e1 (I.base.free b o e n hx)
  · obtain ⟨o', e1⟩ := I.base.there b o e hx
    exact there b o' (neC b o e hx) e1
  · obtain ⟨m1, e1⟩ := I.base.tbls b ps e
    obtain ⟨m2, e2⟩ := tbls b _ e1
    exact ⟨m1 ++ m2, by rw [e2, Array.append_assoc]⟩
  · obtain ⟨m, hn, hl⟩ := I.loc
    refine ⟨m, ns m hn, fun i x v e1 e2 e3 => ?_⟩
    obtain ⟨u, r, l⟩ := hl i x v e1 e2 e3
    refine ⟨u, r, ?_⟩
    rcases l with l | ⟨k, c, e, z⟩
    · exact .inl l
    · exact .inr ⟨k, c, e, cellK x c e _ z⟩
  · obtain ⟨v, z⟩ := I.cell x c e
    exact ⟨v, cellK x c e v z⟩
  · obtain ⟨m, ⟨o, _, _, ho, _⟩, _⟩ := I.loc
    exact free _ o (fun z => (hch _ z).2.1 rfl) ho I.free
  · obtain ⟨v, o, ho, hd⟩ := I.cell x c e
    exact free c o (fun z => (hch c z).2.2.1 x c e rfl) ho (I.freeC x c e)
  · obtain ⟨e, n, ne, nf, d⟩ := I.pin p hp
    have nch : p.1 ∉ ch := fun z => (hch p.1 z).2.2.2 p hp rfl
    exact ⟨keep p.1 p.2 ne nf nch e n, free p.1 p.2 nch e n, ne, nf, d⟩
theorem Inv.un {t' : Nat} (I : Inv X pins σ H s) (u : Un X.fs [] H H' s.heap h') (hok : HOk X.prog X.w H' h') : Inv X pins σ H' { s with heap := h', toks := t' } := by
  obtain ⟨m, ⟨o, es, ep, ho, r⟩, _⟩ := id I.loc
  obtain ⟨sl, hL⟩ := u.any ho I.free (by simp)
  exact I.step (g' := s.gens) (d' := s.drawn) (ch := []) (fun _ z => nomatch z) (fun b o _ hb _ e n => u.keep b o e n hb (by simp)) (fun b o _ hb _ e n => u.slot b o e n hb (by simp)) (fun b o _ e n => u.free b o e n (by simp)) (fun b o _ e => u.there b o e (by simp)) u.tups u.frzs u.tbls (fun m' hm => by
    obtain ⟨o', es', ep', ho', r'⟩ := hm
    rw [ho] at ho'; cases ho'
    exact ⟨_, es', ep', hL, r'⟩) hok I.bare
theorem Inv.call {g' : Array GenState} {t' : Nat} {d' : Drawn} {ch : List Addr} (I : Inv X pins σ H s) (u : Un (frs X.stack) ch H H' s.heap h') (hok : HOk X.prog X.w H' h') (hg : AllBare g')
    (hch : ∀ b ∈ ch, (b ∈ X.ex ∨ X.s₀.heap.objs.size ≤ b) ∧ b ≠ X.env.locals ∧ (∀ x c, X.env.cells.lookup x = some c → c ≠ b) ∧ ∀ p ∈ X.pn ++ pins, p.1 ≠ b) :
    Inv X pins σ H' { s with heap := h', gens := g', drawn := d', toks := t' } := by
  obtain ⟨m, ⟨o, es, ep, ho, r⟩, _⟩ := id I.loc
  obtain ⟨sl, hL⟩ := u.any ho I.free fun z => (hch _ z).2.1 rfl
  exact I.step (ch := ch) hch (fun b o hL hb hc e n => u.keep b o e n (fun z => (List.mem_cons.mp (I.stkSub b z)).elim hL hb) hc) (fun b o _ _ hc e n => u.any e n hc) (fun b o hc e n => u.free b o e n hc) (fun b o hc e => u.there b o e hc) u.tups u.frzs u.tbls (fun m' hm => by
    obtain ⟨o', es', ep', ho', r'⟩ := hm
    rw [ho] at ho'; cases ho'
    exact ⟨_, es', ep', hL, r'⟩) hok hg
theorem Inv.turned {t' : Nat} {it : Addr} (I : Inv X pins σ H s) (k : ∀ b o, b ≠ it → s.heap.get? b = some o → h'.get? b = some o) (hn : H it = none) (hL : it ≠ X.env.locals)
    (h1 : it ∈ X.ex ∨ X.s₀.heap.objs.size ≤ it) (h2 : ∀ x c, X.env.cells.lookup x = some c → c ≠ it) (h3 : ∀ p ∈ X.pn ++ pins, p.1 ≠ it) : Inv X pins σ H { s with heap := h', toks := t' } := by
  have nit : ∀ b u, H b = some u → b ≠ it := fun b u e z => by rw [z, hn] at e; cases e
  refine I.step (g' := s.gens) (d' := s.drawn) (ch := [it]) (fun b hb => ?_) (fun b o _ _ hc e _ => k b o (fun z => hc (by simp [z])) e) (fun b o _ _ hc e _ => ⟨o.slots, k b o (fun z => hc (by simp [z])) e⟩) (fun _ _ _ _ n => n)
    (fun b o hc e => ⟨o, k b o (fun z => hc (by simp [z])) e⟩) (fun _ _ e => e) (fun _ _ _ e => e) (fun b ps e => ⟨#[], by rw [e]; simp⟩) (fun m hm => ?_) (fun b u e => ?_) I.bare
  · have e : b = it := by simpa using hb
    subst e
    exact ⟨h1, hL, h2, h3⟩
  · obtain ⟨o, es, ep, ho, r⟩ := hm
    exact ⟨o, es, ep, k _ o (Ne.symm hL) ho, r⟩
  · refine (I.hok b u e).stay (fun c v hc q => k c v ?_ q) (fun _ q => q) fun _ _ q => q
    rcases hc with z | z
    · rw [z]; exact nit b u e
    · exact nit c _ z
theorem Inv.tok (I : Inv X pins σ H s) (t : Nat) : Inv X pins σ H { s with toks := t } := I.un (h' := s.heap) (t' := t) Un.refl I.hok
theorem Inv.kept {t' : Nat} (I : Inv X pins σ H s) (k : ∀ b u, s.heap.get? b = some u → h'.get? b = some u) : Inv X pins σ H { s with heap := h', toks := t' } := I.un (Un.kept k) (I.hok.kept k)
theorem Inv.laid {a : Addr} {o : HO} {t' : Nat} (I : Inv X pins σ H s) (k : ∀ b u, s.heap.get? b = some u → h'.get? b = some u) (hp : s.heap.objs.size ≤ a) (new : ObjOk X.prog X.w (upd H a o) h' a o) :
    Inv X pins σ (upd H a o) { s with heap := h', toks := t' } := I.un (Un.laid k hp (I.hok.fresh hp)) (I.hok.laid k hp new)
theorem Inv.write {x e : Addr} {o : HO} {t' : Nat} (I : Inv X pins σ H s) (mu : Mut (H x)) (he : e = x ∨ H e = some (.own x)) (k : ∀ b u, b ≠ e → s.heap.get? b = some u → h'.get? b = some u) (heo : ∃ u, h'.get? e = some u)
    (new : ObjOk X.prog X.w (upd H x o) h' x o) : Inv X pins σ (upd H x o) { s with heap := h', toks := t' } := I.un (Un.write mu he k heo) (I.hok.write mu he k heo new)
theorem Inv.pins_of {pins' : List (Addr × Obj)} (I : Inv X pins σ H s) (h : ∀ p ∈ pins', s.heap.get? p.1 = some p.2 ∧ H p.1 = none ∧ p.1 ≠ X.env.locals ∧ p.1 ∉ X.fs ∧ ∀ v, p.2.data ≠ .cell v) : Inv X pins' σ H s :=
  ⟨I.ok, I.os, I.bare, I.base, I.loc, I.cell, I.free, I.freeC, fun p hp => (List.mem_append.mp hp).elim (fun z => I.pin p (List.mem_append_left _ z)) (h p), I.hok, I.len⟩
theorem nodup_ix {N : List Str} (hN : N.Nodup) {i j : Nat} {x : Str} (a : N[i]? = some x) (b : N[j]? = some x) : i = j := by
  obtain ⟨h1, e1⟩ := List.getElem?_eq_some_iff.mp a
  obtain ⟨h2, e2⟩ := List.getElem?_eq_some_iff.mp b
  exact (List.getElem_inj hN).mp (e1.trans e2.symm)
theorem store_ok2 {M : Model} {A : Around} {E : Value → Shared → Prop} {i : Nat} {x : Str} {v : V} {u : Value} {Q : Unit → Shared → Prop} (I : Inv X pins σ H s) (hN : X.N.Nodup) (hi : X.N[i]? = some x) (hx : Loc X.env.scope x) (r : RelV v u)
    (h : ∀ s', Inv X pins (σ.set i (some v)) H s' → (∃ a, Heap.SameBut a s.heap s'.heap ∧ (a = X.env.locals ∨ X.env.cells.lookup x = some a)) → Q () s') (hf : X.fn x = true ∨ X.env.scope.names.lookup x = some .local := by first | exact .inl rfl | exact .inr rfl | assumption) : wpAny M A (storeName X.env x u) Q E s := by
  obtain ⟨m, hn, hl⟩ := id I.loc
  have hcls : (X.env.scope.kind == .class || (X.env.scope.kind == .module && X.env.locals != X.env.globals)) = false := by rw [I.ok.kind]; rfl
  have hiσ : i < σ.length := by rw [I.len]; exact (List.getElem?_eq_some_iff.mp hi).1
  have cne := I.cne
  have tracked : ∀ {a : Addr} {h' : Heap}, (∃ o, s.heap.get? a = some o ∧ H a = none) → Heap.SameBut a s.heap h' → HOk X.prog X.w H h' := fun {a h'} ha hs b ob e => by
    obtain ⟨_, _, hfree⟩ := ha
    refine (I.hok b ob e).stay (fun c w' hc q => (hs.2 c ?_).trans q) (fun _ q => q) fun _ _ q => q
    rintro rfl
    rcases hc with rfl | hc
    · rw [hfree] at e; cases e
    · rw [hfree] at hc; cases hc
  rcases hx with hk | hk
  · refine wpAny_storeName_local hk hn (fun h' hn' hs => ?_) hcls
    obtain ⟨oL, _, _, hoL, _⟩ := id hn
    refine h _ ⟨I.ok, I.os, I.bare, ⟨fun b o e n hb hx => ?_, fun b o e n hb hx => ?_, I.base.free, fun b o e hx => ?_, I.base.tups, I.base.frzs, I.base.tbls⟩, ⟨_, hn', fun j y v' e1 e2 e3 => ?_⟩, fun y c e => ?_, I.free, I.freeC, fun p hp => ?_, tracked ⟨oL, hoL, I.free⟩ hs, by simpa using I.len⟩ ⟨_, hs, .inl rfl⟩
    · exact (hs.2 b (Nat.ne_of_lt (Nat.lt_of_lt_of_le (Heap.lt_size e) I.ok.above))).trans (I.base.keep b o e n hb hx)
    · obtain ⟨sl, e1⟩ := I.base.slot b o e n hb hx
      exact ⟨sl, (hs.2 b (Nat.ne_of_lt (Nat.lt_of_lt_of_le (Heap.lt_size e) I.ok.above))).trans e1⟩
    · obtain ⟨o', e1⟩ := I.base.there b o e hx
      exact ⟨o', (hs.2 b (Nat.ne_of_lt (Nat.lt_of_lt_of_le (Heap.lt_size e) I.ok.above))).trans e1⟩
    · by_cases hj : j = i
      · subst hj
        rw [hi] at e1; cases e1
        rw [List.getElem?_set_self hiσ] at e2
        cases e2
        exact ⟨u, r, .inl ⟨hk, by simp⟩⟩
      · rw [List.getElem?_set_ne (Ne.symm hj)] at e2
        obtain ⟨u', r', q⟩ := hl j y v' e1 e2 e3
        refine ⟨u', r', ?_⟩
        rcases q with ⟨k, e⟩ | ⟨k, c, e, z⟩
        · refine .inl ⟨k, ?_⟩
          have : y ≠ x := fun e => hj (nodup_ix hN e1 (e ▸ hi))
          simp [this, e]
        · exact .inr ⟨k, c, e, z.sameBut hs (cne y c e)⟩
    · obtain ⟨w', z⟩ := I.cell y c e
      exact ⟨w', z.sameBut hs (cne y c e)⟩
    · obtain ⟨e, n, ne, nf, d⟩ := I.pin p hp
      exact ⟨(hs.2 p.1 ne).trans e, n, ne, nf, d⟩
  · have hfn : X.fn x = true := by
      rcases hf with z | z
      · exact z
      · rw [z] at hk; cases hk
    obtain ⟨c, hc⟩ := I.ok.has x (.inl hk)
    obtain ⟨w', z⟩ := I.cell x c hc
    refine wpAny_storeName_cell I.ok.kind hk hc z (fun h' hc' hs => ?_)
    obtain ⟨oc, hoc, hocd⟩ := id z
    refine h { s with heap := h' } ⟨I.ok, I.os, I.bare, ⟨fun b o e n hb hx => ?_, fun b o e n hb hx => ?_, I.base.free, fun b o e hx => ?_, I.base.tups, I.base.frzs, I.base.tbls⟩, ⟨m, hn.sameBut hs (Ne.symm (cne x c hc)), fun j y v' e1 e2 e3 => ?_⟩, fun y c' e => ?_, I.free, I.freeC, fun p hp => ?_, tracked ⟨oc, hoc, I.freeC x c hc⟩ hs, by simpa using I.len⟩ ⟨c, hs, .inr hc⟩
    · exact (hs.2 b (Nat.ne_of_lt (Nat.lt_of_lt_of_le (Heap.lt_size e) (I.ok.cab x c hfn hc)))).trans (I.base.keep b o e n hb hx)
    · obtain ⟨sl, e1⟩ := I.base.slot b o e n hb hx
      exact ⟨sl, (hs.2 b (Nat.ne_of_lt (Nat.lt_of_lt_of_le (Heap.lt_size e) (I.ok.cab x c hfn hc)))).trans e1⟩
    · obtain ⟨o', e1⟩ := I.base.there b o e hx
      exact ⟨o', (hs.2 b (Nat.ne_of_lt (Nat.lt_of_lt_of_le (Heap.lt_size e) (I.ok.cab x c hfn hc)))).trans e1⟩
    · by_cases hj : j = i
      · subst hj
        rw [hi] at e1; cases e1
        rw [List.getElem?_set_self hiσ] at e2
        cases e2
        exact ⟨u, r, .inr ⟨.inl hk, c, hc, hc'⟩⟩
      · rw [List.getElem?_set_ne (Ne.symm hj)] at e2
        obtain ⟨u', r', q⟩ := hl j y v' e1 e2 e3
        refine ⟨u', r', ?_⟩
        rcases q with q | ⟨k, c', e, z'⟩
        · exact .inl q
        · refine .inr ⟨k, c', e, z'.sameBut hs ?_⟩
          rintro rfl
          exact hj (nodup_ix hN e1 (I.ok.inj _ _ _ e hc ▸ hi))
    · by_cases hcc : c' = c
      · subst hcc; exact ⟨_, hc'⟩
      · obtain ⟨w2, z2⟩ := I.cell y c' e
        exact ⟨w2, z2.sameBut hs hcc⟩
    · obtain ⟨e, n, ne, nf, d⟩ := I.pin p hp
      refine ⟨(hs.2 p.1 ?_).trans e, n, ne, nf, d⟩
      intro q
      rw [q, hoc] at e
      have q' : oc = p.2 := Option.some.inj e
      exact d w' (by rw [← q']; exact hocd)
theorem store_ok {M : Model} {A : Around} {E : Value → Shared → Prop} {i : Nat} {x : Str} {v : V} {u : Value} {Q : Unit → Shared → Prop} (I : Inv X pins σ H s) (hN : X.N.Nodup) (hi : X.N[i]? = some x) (hx : Loc X.env.scope x) (r : RelV v u)
    (h : ∀ s', Inv X pins (σ.set i (some v)) H s' → Q () s') (hf : X.fn x = true ∨ X.env.scope.names.lookup x = some .local := by first | exact .inl rfl | exact .inr rfl | assumption) : wpAny M A (storeName X.env x u) Q E s :=
  store_ok2 I hN hi hx r (fun s' I' _ => h s' I') hf
theorem Inv.call' {s' : Shared} {ch : List Addr} (I : Inv X pins σ H s) (ho : s'.os = s.os) (u : Un (frs X.stack) ch H H' s.heap s'.heap) (hok : HOk X.prog X.w H' s'.heap) (hg : AllBare s'.gens)
    (hch : ∀ b ∈ ch, (b ∈ X.ex ∨ X.s₀.heap.objs.size ≤ b) ∧ b ≠ X.env.locals ∧ (∀ x c, X.env.cells.lookup x = some c → c ≠ b) ∧ ∀ p ∈ X.pn ++ pins, p.1 ≠ b) : Inv X pins σ H' s' := by
  obtain ⟨h', g', d', t', o'⟩ := s'
  have e : o' = s.os := ho
  subst e
  exact I.call (g' := g') (t' := t') (d' := d') u hok hg hch
end
abbrev XK := Value → Option Addr → Hp → Prop
abbrev St := List (Option V)
abbrev VK := V → Hp → Prop
abbrev TE := St → Hp → VK → Prop
abbrev TT := St → Hp → (Bool → Hp → Prop) → Prop
abbrev TA := St → Hp → (List V → Hp → Prop) → Prop
structure Ends where
  nx : St → Hp → Prop
  rt : VK
  bk : St → Hp → Prop := fun _ _ => False
  ct : St → Hp → Prop := fun _ _ => False
abbrev TS := Ends → St → Hp → Prop
def EP (X : Cx) (pins : List (Addr × Obj)) (σ : St) (Q : VK) (u : Value) (s' : Shared) : Prop := ∃ v H', Inv X pins σ H' s' ∧ RelV v u ∧ Q v H'
def TP (X : Cx) (pins : List (Addr × Obj)) (σ : St) (Q : Bool → Hp → Prop) (b : Bool) (s' : Shared) : Prop := ∃ H', Inv X pins σ H' s' ∧ Q b H'
def AP (X : Cx) (pins : List (Addr × Obj)) (σ : St) (Q : List V → Hp → Prop) (us : List Value) (s' : Shared) : Prop := ∃ vs H', Inv X pins σ H' s' ∧ Vals vs us ∧ Q vs H'
def SP (X : Cx) (pins : List (Addr × Obj)) (D : Ends) (f : Flow) (s' : Shared) : Prop :=
  match f with
  | .next => ∃ σ' H', Inv X pins σ' H' s' ∧ D.nx σ' H'
  | .brk => ∃ σ' H', Inv X pins σ' H' s' ∧ D.bk σ' H'
  | .cont => ∃ σ' H', Inv X pins σ' H' s' ∧ D.ct σ' H'
  | .ret u => ∃ v σ' H', Inv X pins σ' H' s' ∧ RelV v u ∧ D.rt v H'
def PE (X : Cx) (e : Expr) (t : TE) : Prop :=
  ∀ (pins : List (Addr × Obj)) (s : Shared) (σ : St) (H : Hp) (Q : VK), Inv X pins σ H s → t σ H Q → wpAny (model X.prog X.w) X.A (eval e X.env) (EP X pins σ Q) X.xe s
def PT (X : Cx) (e : Expr) (t : TT) : Prop :=
  ∀ (pins : List (Addr × Obj)) (s : Shared) (σ : St) (H : Hp) (Q : Bool → Hp → Prop), Inv X pins σ H s → t σ H Q → wpAny (model X.prog X.w) X.A (isTrue e X.env (eval e X.env)) (TP X pins σ Q) X.xe s
def PW (X : Cx) (e : Expr) (t : TT) : Prop :=
  ∀ (whole : Sem Value) (pins : List (Addr × Obj)) (s : Shared) (σ : St) (H : Hp) (Q : Bool → Hp → Prop), Inv X pins σ H s → t σ H Q → wpAny (model X.prog X.w) X.A (isTrue e X.env whole) (TP X pins σ Q) X.xe s
theorem PW.pt {X : Cx} {e : Expr} {t : TT} (h : PW X e t) : PT X e t := h _
def PA (X : Cx) (es : List Expr) (t : TA) : Prop :=
  ∀ (pos : Pos) (pins : List (Addr × Obj)) (s : Shared) (σ : St) (H : Hp) (Q : List V → Hp → Prop), Inv X pins σ H s → t σ H Q → wpAny (model X.prog X.w) X.A (spliced (backTo pos (starEach es X.env))) (AP X pins σ Q) X.xe s
def PS (X : Cx) (st : Stmt) (t : TS) : Prop :=
  ∀ (pins : List (Addr × Obj)) (s : Shared) (σ : St) (H : Hp) (D : Ends), Inv X pins σ H s → t D σ H → wpAny (model X.prog X.w) X.A (exec st X.env) (SP X pins D) X.xe s
def PSs (X : Cx) (st : List Stmt) (t : TS) : Prop :=
  ∀ (pins : List (Addr × Obj)) (s : Shared) (σ : St) (H : Hp) (D : Ends), Inv X pins σ H s → t D σ H → wpAny (model X.prog X.w) X.A (execs st X.env) (SP X pins D) X.xe s
theorem thn {α : Type} {t : Sem α} {Q Q' : α → Shared → Prop} {M : Model} {A : Around} {E : Value → Shared → Prop} {s : Shared} (h : wpAny M A t Q E s) (hQ : ∀ a s, Q a s → Q' a s) : wpAny M A t Q' E s := wpAny_mono h hQ fun _ _ x => x
end L2
namespace L2
open PySem PySem.Spec PyProof.Rows
section
variable {X : Cx}
inductive TVarP (i : Nat) (σ : St) (H : Hp) (Q : VK) : Prop
  | mk (v : _) : (σ[i]? = some (some v)) → (Q v H) → TVarP i σ H Q
def tVar (i : Nat) : TE := fun σ H Q => TVarP i σ H Q
def tC (v : V) : TE := fun _ H Q => Q v H
theorem pe_var {i : Nat} {x : Str} {pos : Pos} (hN : X.N[i]? = some x) (hv : Vis X.env.scope x) (hd : (x == ("__debug__" : Str)) = false := by decide) (hcd : (x == ("__classdict__" : Str)) = false := by decide) : PE X (.Name x pos) (tVar i) := by
  intro pins s σ H Q I h
  obtain ⟨v, e, h⟩ := h
  obtain ⟨m, hn, hl⟩ := I.loc
  obtain ⟨u, r, l⟩ := hl i x v hN e hv
  have fin : EP X pins σ Q u s := ⟨v, H, I, r, h⟩
  rcases l with ⟨hk, hm⟩ | ⟨hk, c, hc, hcell⟩
  · exact wpAny_Name (wpAny_loadName_local I.ok.kind hk hn hm fin) hd
  · rcases hk with hk | hk
    · exact wpAny_Name (wpAny_loadName_cell I.ok.kind hk hc hcell fin) hd
    · exact wpAny_Name (wpAny_loadName_free I.ok.kind hk hc hcell fin hcd) hd
theorem pe_int {i j pos} : PE X (.Constant (.int i) j pos) (tC (.int i)) := fun _ _ _ H _ I h => wpAny_Constant_int ⟨.int i, H, I.tok _, ⟨_, rfl⟩, h⟩
theorem pe_bl {b j pos} : PE X (.Constant (.bool b) j pos) (tC (.bl b)) := fun _ _ _ H _ I h => Constant_bool ⟨.bl b, H, I, rfl, h⟩
theorem pe_non {j pos} : PE X (.Constant .none j pos) (tC .non) := fun _ _ _ H _ I h => Constant_none ⟨.non, H, I, rfl, h⟩
theorem pe_str {x j pos} : PE X (.Constant (.str x) j pos) (tC (.str x)) := fun _ _ _ H _ I h => Calls.Constant_str ⟨.str x, H, I.tok _, ⟨_, rfl⟩, h⟩
def Gl (X : Cx) (x : Str) : Prop := X.env.kindOf x = some .globalImplicit
theorem ld_glob {E : Value → Shared → Prop} {pins : List (Addr × Obj)} {s : Shared} {σ : St} {H : Hp} {x : Str} {u : Value} {pos : Pos} {Q : Value → Shared → Prop} (I : Inv X pins σ H s) (hg : Gl X x) (hm : X.mg x = some u) (h : Q u s)
    (hd : (x == ("__debug__" : Str)) = false := by decide) : wpAny (model X.prog X.w) X.A (eval (.Name x pos) X.env) Q E s :=
  Calls.Name_function_global I.ok.kind hg (Calls.loadGlobal_global (by rw [I.ok.glob]; exact I.mod.glob.keeps I.bk) hm h) hd
theorem ld_blt {E : Value → Shared → Prop} {pins : List (Addr × Obj)} {s : Shared} {σ : St} {H : Hp} {x : Str} {u : Value} {pos : Pos} {Q : Value → Shared → Prop} (I : Inv X pins σ H s) (hg : Gl X x) (hm : X.mg x = none) (hv : bootBuiltins x = some u) (h : Q u s)
    (hn : x ≠ "__name__" := by decide) (hd : (x == ("__debug__" : Str)) = false := by decide) : wpAny (model X.prog X.w) X.A (eval (.Name x pos) X.env) Q E s := by
  obtain ⟨mb, h1, h2⟩ := I.mod.blt
  exact Calls.Name_function_global I.ok.kind hg (Calls.loadGlobal_builtin (by rw [I.ok.glob]; exact I.mod.glob.keeps I.bk) hm (by rw [I.ok.blt]; exact h1.keeps I.bk) ((h2 x hn).trans hv) h) hd
variable {a b : Expr} {ta tb : TE} {pos : Pos}
def PC (X : Cx) (op : CmpOp) (a b : Expr) (t : TE) : Prop :=
  ∀ (pins : List (Addr × Obj)) (s : Shared) (σ : St) (H : Hp) (Q : VK), Inv X pins σ H s → t σ H Q →
    wpAny (model X.prog X.w) X.A (eval a X.env) (fun v s₁ => wpAny (model X.prog X.w) X.A (eval b X.env) (fun u s₂ => wpAny (model X.prog X.w) X.A (compareOp op v u) (EP X pins σ Q) X.xe s₂) X.xe s₁) X.xe s
inductive BlP (x : V) (H : Hp) (Q : Bool → Hp → Prop) : Prop
  | mk (c : Bool) : (x = .bl c) → (Q c H) → BlP x H Q
def tB (t : TE) : TT := fun σ H Q => t σ H fun x H1 => BlP x H1 Q
theorem pt_cmp {op : CmpOp} {t : TE} (h : PC X op a b t) (h1 : behindInMarks op b = false := by first | exact nobehind _ (by decide) (by decide) | rfl) : PT X (.Compare a [op] [b] pos) (tB t) := by
  intro pins s σ H Q I hw
  refine wpAny_isTrue_Compare1 (thn (h pins s σ H _ I hw) fun v s1 h1 => thn h1 fun u s2 h2 => thn h2 fun c s3 ⟨x, H1, I1, r1, q1⟩ => ?_) h1
  obtain ⟨d, rfl, q⟩ := q1
  cases r1
  exact wpAny_truthy_bool ⟨H1, I1, q⟩
theorem pt_val {e : Expr} {t : TE} (h : PE X e t) (he : ∀ whole, isTrue e X.env whole = (do let v ← whole; standAt e.pos; holding [v] (truthy v)) := by intro _; rfl) : PT X e (tB t) := by
  intro pins s σ H Q I hw
  refine isTrue_plain (thn (h pins s σ H _ I hw) fun v s1 ⟨x, H1, I1, r1, q1⟩ => ?_) (he _)
  obtain ⟨d, rfl, q⟩ := q1
  cases r1
  exact wpAny_truthy_bool ⟨H1, I1, q⟩
variable {tA tB' : TT} {rest : List Expr}
def tAnd (t u : TT) : TT := fun σ H Q => t σ H fun c H1 => if c = true then u σ H1 Q else Q false H1
def tOr (t u : TT) : TT := fun σ H Q => t σ H fun c H1 => if c = true then Q true H1 else u σ H1 Q
def tNot (t : TT) : TT := fun σ H Q => t σ H fun c H1 => Q (!c) H1
theorem pw_and1 (ha : PT X a tA) : PW X (.BoolOp .And [a] pos) tA := by
  intro wh pins s σ H Q I h
  refine isTrue_and (thn (ha pins s σ H Q I h) fun c s1 e => ?_)
  cases c with
  | true => exact isTrue_and_nil e
  | false => exact e
theorem pw_or1 (ha : PT X a tA) : PW X (.BoolOp .Or [a] pos) tA := by
  intro wh pins s σ H Q I h
  refine isTrue_or (thn (ha pins s σ H Q I h) fun c s1 e => ?_)
  cases c with
  | false => exact isTrue_or_nil e
  | true => exact e
theorem pw_and (ha : PT X a tA) (hb : PW X (.BoolOp .And (b :: rest) pos) tB') : PW X (.BoolOp .And (a :: b :: rest) pos) (tAnd tA tB') := by
  intro wh pins s σ H Q I h
  refine isTrue_and (thn (ha pins s σ H _ I h) fun c s1 ⟨H1, I1, q1⟩ => ?_)
  cases c with
  | true => exact hb wh pins s1 σ H1 Q I1 q1
  | false => exact ⟨H1, I1, q1⟩
theorem pw_or (ha : PT X a tA) (hb : PW X (.BoolOp .Or (b :: rest) pos) tB') : PW X (.BoolOp .Or (a :: b :: rest) pos) (tOr tA tB') := by
  intro wh pins s σ H Q I h
  refine isTrue_or (thn (ha pins s σ H _ I h) fun c s1 ⟨H1, I1, q1⟩ => ?_)
  cases c with
  | true => exact ⟨H1, I1, q1⟩
  | false => exact hb wh pins s1 σ H1 Q I1 q1
theorem pt_not (ha : PT X a tA) : PT X (.UnaryOp .Not a pos) (tNot tA) := by
  intro pins s σ H Q I h
  exact isTrue_not (ha pins s σ H (fun c H1 => Q (!c) H1) I h)
def tAndV (ta tb : TE) : TE := fun σ H Q => ta σ H fun x H1 => ∃ c, x = .bl c ∧ if c = true then tb σ H1 Q else Q (.bl false) H1
def tNotV (ta : TE) : TE := fun σ H Q => ta σ H fun x H1 => ∃ c, x = .bl c ∧ Q (.bl (!c)) H1
theorem pe_one {op} {t : TE} (h : PE X a t) : PE X (.BoolOp op [a] pos) t := fun pins s σ H Q I hw => BoolOp_one (h pins s σ H Q I hw)
theorem pe_and (ha : PE X a ta) (hb : PE X (.BoolOp .And (b :: rest) pos) tb) : PE X (.BoolOp .And (a :: b :: rest) pos) (tAndV ta tb) := by
  intro pins s σ H Q I h
  refine BoolOp_and (thn (ha pins s σ H _ I h) fun v s1 ⟨x, H1, I1, r1, q1⟩ => ?_)
  obtain ⟨c, rfl, q1⟩ := q1
  cases r1
  refine wpAny_truthy_bool ?_
  cases c with
  | true => exact hb pins s1 σ H1 Q I1 q1
  | false => exact ⟨.bl false, H1, I1, rfl, q1⟩
theorem pe_not (ha : PE X a ta) : PE X (.UnaryOp .Not a pos) (tNotV ta) := by
  intro pins s σ H Q I h
  refine UnaryOp_ (thn (ha pins s σ H _ I h) fun v s1 ⟨x, H1, I1, r1, q1⟩ => ?_)
  obtain ⟨c, rfl, q1⟩ := q1
  cases r1
  exact not_of (wpAny_truthy_bool ⟨.bl (!c), H1, I1, rfl, q1⟩)
end
end L2
namespace L2
open PySem PySem.Spec PyProof.Rows
def SqL (K : PySem.W.Frag) (H : Hp) (a : Addr) (xs : List V) : Prop :=
  Rd H a (.lst xs) ∨
    ∃ (o : Obj) (its : Array Value) (n : Nat), K.lookup a = some o ∧ o.cls = .type "list" ∧ o.dict = none ∧ o.data = .seq its n ∧ its.size ≤ sizeLine ∧ Vals xs its.toList
def SqT (K : PySem.W.Frag) (H : Hp) (a : Addr) (xs : List V) : Prop :=
  Rd H a (.tup xs) ∨
    ∃ (o : Obj) (its : Array Value) (n : Nat), K.lookup a = some o ∧ o.cls = .type "tuple" ∧ o.data = .seq its n ∧ its.size ≤ sizeLine ∧ Vals xs its.toList
def absV : Value → Option V
  | .none => some .non
  | .bool b => some (.bl b)
  | .int i _ => some (.int i)
  | .str x _ => some (.str x)
  | .bytes b _ => some (.byt b)
  | .float b _ => some (.flt b)
  | .ref a => some (.ref a)
  | .type n => some (.ty n)
  | _ => none
theorem RelV.abs {x : V} {u : Value} (r : RelV x u) : absV u = some x := by
  cases x with
  | non => cases r; rfl
  | bl _ => cases r; rfl
  | int _ => obtain ⟨t, rfl⟩ := r; rfl
  | str _ => obtain ⟨t, rfl⟩ := r; rfl
  | byt _ => obtain ⟨t, rfl⟩ := r; rfl
  | flt _ => obtain ⟨t, rfl⟩ := r; rfl
  | ref _ => cases r; rfl
  | ty _ => cases r; rfl
theorem RelV.inj {x y : V} {u : Value} (r : RelV x u) (q : RelV y u) : x = y := Option.some.inj (r.abs.symm.trans q.abs)
theorem Vals.inj : ∀ {xs ys : List V} {us : List Value}, Vals xs us → Vals ys us → xs = ys
  | _, _, _, .nil, .nil => rfl
  | _, _, _, .cons r t, .cons r' t' => by rw [r.inj r', Vals.inj t t']
section
variable {X : Cx} {pins : List (Addr × Obj)} {σ : St} {H : Hp} {s : Shared} {a : Addr} {xs ys : List V}
theorem SqL.of {K : PySem.W.Frag} (h : H a = some (.lst xs)) : SqL K H a xs := .inl (.inl h)
theorem SqT.of {K : PySem.W.Frag} (h : H a = some (.tup xs)) : SqT K H a xs := .inl (.inl h)
theorem Inv.list (I : Inv X pins σ H s) (h : SqL X.K H a xs) : ∃ its : List Value, Vals xs its ∧ PlainL s.heap a its.toArray ∧ xs.length ≤ sizeLine := by
  rcases h with h | ⟨o, its, n, hk, hc, hd, hs, hz, r⟩
  · obtain ⟨z, its, n, r, e⟩ := h.ok I.hok
    exact ⟨its, r, ⟨_, n, e, rfl, rfl, rfl⟩, z⟩
  · refine ⟨its.toList, r, ⟨o, n, I.kIn a o hk, hc, hd, by simpa using hs⟩, ?_⟩
    have e := r.length
    simp only [Array.length_toList] at e
    omega
theorem Inv.tuple (I : Inv X pins σ H s) (h : SqT X.K H a xs) : ∃ its : List Value, Vals xs its ∧ IsTup s.heap a its.toArray ∧ xs.length ≤ sizeLine := by
  rcases h with h | ⟨o, its, n, hk, hc, hs, hz, r⟩
  · obtain ⟨z, its, r, p⟩ := h.ok I.hok
    exact ⟨its, r, p.tup, z⟩
  · refine ⟨its.toList, r, ⟨o, I.kIn a o hk, hc, n, by simpa using hs⟩, ?_⟩
    have e := r.length
    simp only [Array.length_toList] at e
    omega
theorem Inv.list_inj (I : Inv X pins σ H s) (h : SqL X.K H a xs) (h' : SqL X.K H a ys) : xs = ys := by
  obtain ⟨its, r, ⟨o, n, e, _, _, d⟩, _⟩ := I.list h
  obtain ⟨its', r', ⟨o', n', e', _, _, d'⟩, _⟩ := I.list h'
  rw [e] at e'; cases e'
  rw [d] at d'
  injection d' with d1 _
  have : its = its' := by simpa using congrArg Array.toList d1
  subst this
  exact r.inj r'
theorem Inv.tuple_inj (I : Inv X pins σ H s) (h : SqT X.K H a xs) (h' : SqT X.K H a ys) : xs = ys := by
  obtain ⟨its, r, ⟨o, e, _, n, d⟩, _⟩ := I.tuple h
  obtain ⟨its', r', ⟨o', e', _, n', d'⟩, _⟩ := I.tuple h'
  rw [e] at e'; cases e'
  rw [d] at d'
  injection d' with d1 _
  have : its = its' := by simpa using congrArg Array.toList d1
  subst this
  exact r.inj r'
end
abbrev Cx.wish (X : Cx) (E : Value → Shared → Prop) : Cx := { X with xe := E }
abbrev Cx.nox (X : Cx) : Cx := X.wish fun _ _ => False
theorem Cx.Ok.wish {X : Cx} (ok : X.Ok) (E : Value → Shared → Prop) : (X.wish E).Ok :=
  ⟨ok.mod, ok.kind, ok.glob, ok.blt, ok.above, ok.inj, ok.has, ok.cab, ok.hd, ok.frames, ok.stk, ok.exf, ok.bs, ok.bsz, ok.noex, ok.exfs, ok.funs, ok.frf⟩
theorem Cx.Ok.unwish {X : Cx} {E : Value → Shared → Prop} (ok : (X.wish E).Ok) : X.Ok :=
  ⟨ok.mod, ok.kind, ok.glob, ok.blt, ok.above, ok.inj, ok.has, ok.cab, ok.hd, ok.frames, ok.stk, ok.exf, ok.bs, ok.bsz, ok.noex, ok.exfs, ok.funs, ok.frf⟩
section
variable {X : Cx} {pins : List (Addr × Obj)} {σ : St} {H : Hp} {s : Shared} {E : Value → Shared → Prop}
theorem Inv.wish (I : Inv X pins σ H s) (E : Value → Shared → Prop) : Inv (X.wish E) pins σ H s := ⟨I.ok.wish E, I.os, I.bare, I.base, I.loc, I.cell, I.free, I.freeC, I.pin, I.hok, I.len⟩
theorem Inv.unwish (I : Inv (X.wish E) pins σ H s) : Inv X pins σ H s := ⟨I.ok.unwish, I.os, I.bare, I.base, I.loc, I.cell, I.free, I.freeC, I.pin, I.hok, I.len⟩
theorem SP.unwish {D : Ends} {f : Flow} {s' : Shared} (h : SP (X.wish E) pins D f s') : SP X pins D f s' := by
  cases f with
  | next => obtain ⟨σ', H', I, q⟩ := h; exact ⟨σ', H', I.unwish, q⟩
  | brk => obtain ⟨σ', H', I, q⟩ := h; exact ⟨σ', H', I.unwish, q⟩
  | cont => obtain ⟨σ', H', I, q⟩ := h; exact ⟨σ', H', I.unwish, q⟩
  | ret u => obtain ⟨v, σ', H', I, r, q⟩ := h; exact ⟨v, σ', H', I.unwish, r, q⟩
theorem PSs.nox {st : List Stmt} {t : TS} (h : PSs X.nox st t) : PSs X st t := fun pins s σ H D I hw =>
  wpAny_mono (h pins s σ H D (I.wish _) hw) (fun _ _ q => q.unwish) fun _ _ z => False.elim z
end
section
variable {X : Cx} {st : Stmt} {rest : List Stmt} {t u : TS} {e : Expr} {te : TE} {pos : Pos}
def tNext : TS := fun D σ H => D.nx σ H
def tSeq (t u : TS) : TS := fun D σ H => t { D with nx := u D } σ H
theorem pss_nil : PSs X [] tNext := fun _ _ σ H _ I h => wpAny_execs_nil ⟨σ, H, I, h⟩
theorem pss_cons (h1 : PS X st t) (h2 : PSs X rest u) : PSs X (st :: rest) (tSeq t u) := by
  intro pins s σ H D I h
  refine wpAny_execs_cons (thn (h1 pins s σ H { D with nx := u D } I h) fun f s1 q => ?_)
  cases f with
  | next =>
    obtain ⟨σ', H', I', q⟩ := q
    exact h2 pins s1 σ' H' D I' q
  | ret v => exact q
  | brk => exact q
  | cont => exact q
theorem pss_one (h1 : PS X st t) : PSs X [st] t := by
  intro pins s σ H D I h
  refine wpAny_execs_cons (thn (h1 pins s σ H D I h) fun f s1 q => ?_)
  cases f with
  | next => exact wpAny_execs_nil q
  | ret v => exact q
  | brk => exact q
  | cont => exact q
theorem Inv.quiet {pins : List (Addr × Obj)} {σ : St} {H : Hp} {s : Shared} (I : Inv X pins σ H s) : interactive X.env = false := by simp [interactive, I.ok.kind]
def tDrop (te : TE) : TS := fun D σ H => te σ H fun _ H1 => D.nx σ H1
theorem ps_expr (he : PE X e te) (hs : swapsWith e none pos.line X.env = pure false := by rfl) : PS X (.Expr e pos) (tDrop te) := by
  intro pins s σ H D I h
  exact wpAny_Expr_any (thn (he pins s σ H _ I h) fun v s1 ⟨x, H1, I1, r1, q1⟩ => ⟨σ, H1, I1, q1⟩) I.quiet hs
def tRet (te : TE) : TS := fun D σ H => te σ H D.rt
theorem ps_ret (he : PE X e te) : PS X (.Return (some e) pos) (tRet te) := by
  intro pins s σ H D I h
  exact wpAny_Return_some (thn (he pins s σ H _ I h) fun v s1 ⟨x, H1, I1, r1, q1⟩ => ⟨x, σ, H1, I1, r1, q1⟩)
def tIfS (c : TT) (t u : TS) : TS := fun D σ H => c σ H fun b H1 => if b = true then t D σ H1 else u D σ H1
theorem ps_if {c : Expr} {a b : List Stmt} {tc : TT} (hc : PT X c tc) (ha : PSs X a t) (hb : PSs X b u) : PS X (.If c a b pos) (tIfS tc t u) := by
  intro pins s σ H D I h
  refine wpAny_If (thn (hc pins s σ H _ I h) fun d s1 ⟨H1, I1, q1⟩ => ?_)
  cases d with
  | true => exact ha pins s1 σ H1 D I1 q1
  | false => exact hb pins s1 σ H1 D I1 q1
end
abbrev TG := V → St → Hp → (St → Hp → Prop) → Prop
abbrev TGs := List V → St → Hp → (St → Hp → Prop) → Prop
def PG (X : Cx) (target : Expr) (t : TG) : Prop :=
  ∀ (pins : List (Addr × Obj)) (s : Shared) (σ : St) (H : Hp) (v : V) (u : Value) (Q : St → Hp → Prop), Inv X pins σ H s → RelV v u → t v σ H Q →
    wpAny (model X.prog X.w) X.A (assign target X.env u) (fun _ s' => ∃ σ' H', Inv X pins σ' H' s' ∧ Q σ' H') X.xe s
def PGs (X : Cx) (ts : List Expr) (t : TGs) : Prop :=
  ∀ (pins : List (Addr × Obj)) (s : Shared) (σ : St) (H : Hp) (vs : List V) (us : List Value) (Q : St → Hp → Prop), Inv X pins σ H s → Vals vs us → t vs σ H Q →
    wpAny (model X.prog X.w) X.A (assignInOrder ((assignEach ts X.env).map (·.2)) us) (fun _ s' => ∃ σ' H', Inv X pins σ' H' s' ∧ Q σ' H') X.xe s
abbrev TSet := V → V → V → Hp → (Hp → Prop) → Prop
def PSet (X : Cx) (t : TSet) : Prop :=
  ∀ (pins : List (Addr × Obj)) (s : Shared) (σ : St) (H : Hp) (o i v : V) (ov iv u : Value) (Q : Hp → Prop), Inv X pins σ H s → RelV o ov → RelV i iv → RelV v u → t o i v H Q →
    wpAny (model X.prog X.w) X.A (setItem ov iv u) (fun _ s' => ∃ H', Inv X pins σ H' s' ∧ Q H') X.xe s
section
variable {X : Cx} {pos : Pos}
def gName (i : Nat) : TG := fun v σ H Q => Q (σ.set i (some v)) H
theorem pg_name {i : Nat} {x : Str} (hN : X.N.Nodup) (hi : X.N[i]? = some x) (hx : Loc X.env.scope x) (hf : X.fn x = true ∨ X.env.scope.names.lookup x = some .local := by first | exact .inl rfl | exact .inr rfl | assumption) : PG X (.Name x pos) (gName i) := by
  intro pins s σ H v u Q I r h
  exact wpAny_assign_Name (store_ok I hN hi hx r (fun s' I' => ⟨_, H, I', h⟩) hf)
def gNil : TGs := fun vs σ H Q => vs = [] ∧ Q σ H
def gCons (t : TG) (u : TGs) : TGs := fun vs σ H Q => ∃ v r, vs = v :: r ∧ t v σ H fun σ' H' => u r σ' H' Q
theorem pgs_nil : PGs X [] gNil := by
  intro pins s σ H vs us Q I r h
  obtain ⟨e, h⟩ := h
  subst e
  cases r
  exact assignInOrder_nil ⟨σ, H, I, h⟩
theorem pgs_cons {e : Expr} {es : List Expr} {t : TG} {u : TGs} (h1 : PG X e t) (h2 : PGs X es u)
    (hs : (assignEach (e :: es) X.env).map (·.2) = assign e X.env :: (assignEach es X.env).map (·.2) := by rfl) : PGs X (e :: es) (gCons t u) := by
  intro pins s σ H vs us Q I r h
  obtain ⟨v, vr, e1, h⟩ := h
  subst e1
  cases r with
  | cons r rr =>
    rw [hs]
    refine assignInOrder_cons (thn (h1 pins s σ H _ _ _ I r h) fun _ s1 ⟨σ1, H1, I1, q1⟩ => ?_)
    exact h2 pins s1 σ1 H1 _ _ Q I1 rr q1
def gTup (K : PySem.W.Frag) (n : Nat) (t : TGs) : TG := fun v σ H Q => ∃ a xs, v = .ref a ∧ SqT K H a xs ∧ xs.length = n ∧ t xs σ H Q
theorem pg_tup {es : List Expr} {k : Nat} {t : TGs} {n : Nat} (hc : X.calm = true) (h : PGs X es t)
    (hn : (assignEach es X.env).length = n := by rfl) (hst : (assignEach es X.env).findIdx? (·.1) = none := by rfl) : PG X (.Tuple es k pos) (gTup X.K n t) := by
  intro pins s σ H v u Q I r hw
  obtain ⟨a, xs, e1, hq, hl, hw⟩ := hw
  subst e1
  cases r
  obtain ⟨its, rv, ht, hz⟩ := I.tuple hq
  refine assign_Tuple_tuple (I.ok.hd hc) ht (by simp [hn, ← hl, rv.length]) hst fun h' hx => ?_
  have I1 : Inv X pins σ H { s with heap := h' } := I.kept (t' := s.toks) fun b o e => hx b o (Nat.ne_of_lt (Heap.lt_size e)) e
  exact h pins _ σ H xs _ Q I1 (by simpa using rv) hw
def gSub (to ti : TE) (t : TSet) : TG := fun v σ H Q => to σ H fun o H1 => ti σ H1 fun i H2 => t o i v H2 fun H3 => Q σ H3
theorem pg_sub {o i : Expr} {to ti : TE} {t : TSet} (ho : PE X o to) (hi : PE X i ti) (hs : PSet X t)
    (ha : ∀ v, assign (.Subscript o i pos) X.env v = (do
      let ov ← holding [v] (eval o X.env)
      let iv ← holding [v, ov] (eval i X.env)
      standAt pos
      holding [v, ov, iv] (setItem ov iv v)
      release [v, ov, iv] []) := by intro _; rfl) : PG X (.Subscript o i pos) (gSub to ti t) := by
  intro pins s σ H v u Q I r h
  rw [ha]
  refine wpAny_bind (wpAny_holding (thn (ho pins s σ H _ I h) fun ov s1 ⟨x, H1, I1, r1, q1⟩ => ?_))
  refine wpAny_bind (wpAny_holding (thn (hi pins s1 σ H1 _ I1 q1) fun iv s2 ⟨y, H2, I2, r2, q2⟩ => ?_))
  refine wpAny_bind (wpAny_standAt (wpAny_bind (wpAny_holding (thn (hs pins s2 σ H2 x y v ov iv u _ I2 r1 r2 r q2) fun _ s3 ⟨H3, I3, q3⟩ => ?_))))
  exact wpAny_release ⟨σ, H3, I3, q3⟩
def tAsg (te : TE) (g : TG) : TS := fun D σ H => te σ H fun x H1 => g x σ H1 D.nx
theorem ps_asg {tg e : Expr} {te : TE} {g : TG} (he : PE X e te) (hg : PG X tg g) (hs : swapsWithSole [tg] e pos.line X.env = pure false := by rfl) (hw : swappedStores [tg] e X.env = pure none := by rfl)
    (h1 : (assignEach [tg] X.env).map (·.2) = [assign tg X.env] := by rfl) : PS X (.Assign [tg] e pos) (tAsg te g) := by
  intro pins s σ H D I h
  refine wpAny_Assign_stores (thn (he pins s σ H _ I h) fun v s1 ⟨x, H1, I1, r1, q1⟩ => ?_) hs hw
  rw [h1]
  exact thn (hg pins s1 σ H1 x v _ I1 r1 q1) fun _ s2 q => q
theorem ps_set {i : Nat} {x : Str} {e : Expr} {te : TE} {pos' : Pos} (hN : X.N.Nodup) (hi : X.N[i]? = some x) (hx : Loc X.env.scope x) (he : PE X e te) (hs : swapsWith e (some (.Name x pos')) pos.line X.env = pure false := by rfl) (hf : X.fn x = true ∨ X.env.scope.names.lookup x = some .local := by first | exact .inl rfl | exact .inr rfl | assumption) :
    PS X (.Assign [.Name x pos'] e pos) (tAsg te (gName i)) := by
  intro pins s σ H D I h
  refine wpAny_Assign_Name (thn (he pins s σ H _ I h) fun v s1 ⟨y, H1, I1, r1, q1⟩ => ?_) hs
  exact store_ok I1 hN hi hx r1 (fun s2 I2 => ⟨_, H1, I2, q1⟩) hf
end
section
variable {X : Cx} {pos : Pos}
def tWhile (c : TT) (tb : TS) : TS := fun D σ H => ∃ W : Nat → St → Hp → Prop, (∃ m, W m σ H) ∧ ∀ m σ H, W m σ H →
  c σ H fun b H1 => if b = true then ∃ N : St → Hp → Prop, (∀ σ' H', N σ' H' → ∃ m', m' < m ∧ W m' σ' H') ∧ tb { D with nx := N, ct := N, bk := D.nx } σ H1 else D.nx σ H1
theorem ps_while {c : Expr} {body : List Stmt} {tc : TT} {tb : TS} (hp : PassesOwn (model X.prog X.w) X.A X.env X.xe) (hc : PT X c tc) (hb : PSs X body tb) : PS X (.While c body [] pos) (tWhile tc tb) := by
  intro pins s σ H D I h
  obtain ⟨W, ⟨m0, w0⟩, turn⟩ := h
  refine wpAny_While (codeAny_whileLoop (fun n s' => ∃ σ' H', Inv X pins σ' H' s' ∧ W n σ' H') ?_ m0 ⟨σ, H, I, w0⟩)
  rintro n s1 ⟨σ1, H1, I1, w1⟩
  refine wpAny_passesOwn hp (thn (hc pins s1 σ1 H1 _ I1 (turn n σ1 H1 w1)) fun b s2 ⟨H2, I2, q2⟩ => ?_)
  cases b with
  | true =>
    obtain ⟨N, hN, q2⟩ := q2
    rw [if_pos rfl]
    refine wpAny_passesOwn hp (thn (hb pins s2 σ1 H2 _ I2 q2) fun f s3 q3 => ?_)
    cases f with
    | next =>
      obtain ⟨σ3, H3, I3, n3⟩ := q3
      obtain ⟨m', hm, w3⟩ := hN σ3 H3 n3
      exact ⟨m', hm, σ3, H3, I3, w3⟩
    | cont =>
      obtain ⟨σ3, H3, I3, n3⟩ := q3
      obtain ⟨m', hm, w3⟩ := hN σ3 H3 n3
      exact ⟨m', hm, σ3, H3, I3, w3⟩
    | brk => exact q3
    | ret v => exact q3
  | false =>
    rw [if_neg Bool.false_ne_true]
    exact wpAny_execs_nil ⟨σ1, H2, I2, q2⟩
end
structure It where
  go : Nat → Hp → Prop
  yld : Nat → Hp → V → Hp → Prop
  stop : Nat → Hp → Prop
def FpOk (X : Cx) (pins : List (Addr × Obj)) (H : Hp) (b : Addr) : Prop :=
  H b = none ∧ b ≠ X.env.locals ∧ b ∉ X.fs ∧ (b ∈ X.ex ∨ X.s₀.heap.objs.size ≤ b) ∧ (∀ x c, X.env.cells.lookup x = some c → c ≠ b) ∧ ∀ p ∈ X.pn ++ pins, p.1 ≠ b
theorem Inv.fpOk {X : Cx} {pins : List (Addr × Obj)} {σ : St} {H H' : Hp} {s : Shared} {b : Addr} (I : Inv X pins σ H s) (hb : s.heap.objs.size ≤ b) (hn : H' b = none) : FpOk X pins H' b := by
  refine ⟨hn, Nat.ne_of_gt (Nat.lt_of_lt_of_le I.lt hb), I.nofs hb, .inr (Nat.le_trans I.sz hb), fun x c e z => ?_, fun p hp z => ?_⟩
  · obtain ⟨v, q⟩ := I.cell x c e
    exact absurd (Nat.lt_of_lt_of_le q.lt (by rw [z]; exact hb)) (Nat.lt_irrefl _)
  · exact absurd (Nat.lt_of_lt_of_le (Heap.lt_size (I.pin p hp).1) (by rw [z]; exact hb)) (Nat.lt_irrefl _)
structure Turn (P : Program) (w : World) (K : PySem.W.Frag) (tg : Expr) (J : It) (fp : List Addr) (it : Addr) (tn : Nat → Heap → Prop) : Prop where
  mem : it ∈ fp
  obj : ∀ i h, tn i h → ∀ b ∈ fp, ∃ o, h.get? b = some o ∧ ∀ v, o.data ≠ .cell v
  keep : ∀ i h h', tn i h → (∀ b ∈ fp, ∀ o, h.get? b = some o → h'.get? b = some o) → tn i h'
  item : ∀ (X : Cx), X.prog = P → X.w = w → X.K = K → X.calm = true → ∀ (i : Nat) (pins : List (Addr × Obj)) (s : Shared) (σ : St) (H : Hp) (E : Value → Shared → Prop), Inv X pins σ H s → (∀ b ∈ fp, FpOk X pins H b) → tn i s.heap → J.go i H →
    wpAny (model P w) X.A (pyNext (.ref it)) (fun r s1 => ∃ u, r = some u ∧
      wpAny (model P w) X.A (letOwnedTupleGo tg (.ref it) u) (fun _ s2 => ∃ x H', Inv X pins σ H' s2 ∧ RelV x u ∧ J.yld i H x H' ∧ tn (i + 1) s2.heap ∧ ∀ b ∈ fp, H' b = none) E s1) E s
  done : ∀ (X : Cx), X.prog = P → X.w = w → X.K = K → X.calm = true → ∀ (i : Nat) (pins : List (Addr × Obj)) (s : Shared) (σ : St) (H : Hp) (E : Value → Shared → Prop), Inv X pins σ H s → (∀ b ∈ fp, FpOk X pins H b) → tn i s.heap → J.stop i H →
    wpAny (model P w) X.A (pyNext (.ref it)) (fun r s1 => r = none ∧ Inv X pins σ H s1) E s
  self : ∀ (A : Around) (i : Nat) (s : Shared) (Q : Value → Shared → Prop) (E : Value → Shared → Prop), tn i s.heap → Q (.ref it) s → wpAny (model P w) A (pyIter (.ref it)) Q E s
abbrev TI := St → Hp → (It → Hp → Prop) → Prop
def PIE (X : Cx) (pins : List (Addr × Obj)) (σ : St) (tg : Expr) (R : It → Hp → Prop) (itv : Value) (s2 : Shared) : Prop :=
  ∃ (it : Addr) (fp : List Addr) (tn : Nat → Heap → Prop) (J : It) (H' : Hp), itv = .ref it ∧ Inv X pins σ H' s2 ∧ Turn X.prog X.w X.K tg J fp it tn ∧ tn 0 s2.heap ∧ (∀ b ∈ fp, FpOk X pins H' b) ∧ R J H'
def PI (X : Cx) (tg iter : Expr) (wi : TI) : Prop :=
  ∀ (pins : List (Addr × Obj)) (s : Shared) (σ : St) (H : Hp) (R : It → Hp → Prop), Inv X pins σ H s → wi σ H R →
    wpAny (model X.prog X.w) X.A (eval iter X.env) (fun v s1 => wpAny (model X.prog X.w) X.A (pyIter v) (PIE X pins σ tg R) X.xe s1) X.xe s
theorem go_of {M : Model} {A : Around} {E : Value → Shared → Prop} {s : Shared} {tg : Expr} {it : Addr} {u : Value} {o : Obj} {n : String} {vs : Array Value} {Q : Unit → Shared → Prop} (ho : s.heap.get? it = some o) (hc : o.cls = .type n) (hd : o.data = .fields vs)
    (hn : ["enumerate", "zip", "dict_itemiterator", "dict_reverseitemiterator", "odict_iterator", "itertools.zip_longest", "itertools.pairwise"].contains n = false) (hQ : Q () s) : wpAny M A (letOwnedTupleGo tg (.ref it) u) Q E s := by
  unfold letOwnedTupleGo
  cases tg <;> first
    | exact wpAny_pure hQ
    | (cases u <;> first
        | exact wpAny_pure hQ
        | (refine wpAny_bind (wpAny_load ho ?_)
           rw [hc, hd]
           show wpAny M A (if (["enumerate", "zip", "dict_itemiterator", "dict_reverseitemiterator", "odict_iterator", "itertools.zip_longest", "itertools.pairwise"].contains n && vs[0]? == some (rawInt _)) = true then _ else _) Q E s
           rw [if_neg (by intro h; rw [hn, Bool.false_and] at h; cases h)]
           exact wpAny_pure hQ))
def Itl (K : PySem.W.Frag) (a : Addr) : It :=
  ⟨fun i H => ∃ xs x, SqL K H a xs ∧ xs[i]? = some x, fun i H x H' => H' = H ∧ ∀ xs, SqL K H a xs → xs[i]? = some x, fun i H => ∃ xs, SqL K H a xs ∧ xs.length ≤ i⟩
def Itt (K : PySem.W.Frag) (a : Addr) : It :=
  ⟨fun i H => ∃ xs x, SqT K H a xs ∧ xs[i]? = some x, fun i H x H' => H' = H ∧ ∀ xs, SqT K H a xs → xs[i]? = some x, fun i H => ∃ xs, SqT K H a xs ∧ xs.length ≤ i⟩
def Itr (lo : Int) (n : Nat) : It := ⟨fun i _ => i < n, fun i H x H' => H' = H ∧ x = .int (lo + i), fun i _ => n ≤ i⟩
theorem turn_list {P : Program} {w : World} {K : PySem.W.Frag} {tg : Expr} (a it : Addr) : Turn P w K tg (Itl K a) [it] it (fun i h => h.IsListIter it a i) where
  mem := by simp
  obj := fun i h st b hb => by
    have e : b = it := by simpa using hb
    subst e
    obtain ⟨o, e, c, d⟩ := st
    exact ⟨o, e, fun v z => by rw [d] at z; cases z⟩
  keep := fun i h h' st k => st.at fun o e => k it (by simp) o e
  item := by
    intro X hP hw hK hc i pins s σ H E I hf st hg
    subst hP hw hK
    obtain ⟨xs, x, hq, hx⟩ := hg
    obtain ⟨its, rv, p, hz⟩ := I.list hq
    obtain ⟨u, hu, ru⟩ := rv.get hx
    obtain ⟨f0, f1, f2, f3, f4, f5⟩ := hf it (by simp)
    refine wpAny_pyNext_list_item st p.isList (x := u) (by simpa using hu) fun h' st' sb => ?_
    have I1 : Inv X pins σ H { s with heap := h' } := I.turned (t' := s.toks) (fun b o hb e => (sb.2 b hb).trans e) f0 f1 f3 f4 f5
    obtain ⟨o, e, c, d⟩ := id st'
    exact ⟨u, rfl, go_of (s := { s with heap := h' }) e c d (by decide) ⟨x, H, I1, ru, ⟨rfl, fun ys hy => by rw [I.list_inj hy hq]; exact hx⟩, st', fun b hb => (hf b hb).1⟩⟩
  done := by
    intro X hP hw hK hc i pins s σ H E I hf st hg
    subst hP hw hK
    obtain ⟨xs, hq, hx⟩ := hg
    obtain ⟨its, rv, p, hz⟩ := I.list hq
    obtain ⟨f0, f1, f2, f3, f4, f5⟩ := hf it (by simp)
    have hl := rv.length
    exact wpAny_pyNext_list_end (I.ok.hd hc) st p.isList (by simp; omega) fun h' eb => ⟨rfl, I.turned (t' := s.toks) (fun b o hb e => eb b o hb e) f0 f1 f3 f4 f5⟩
  self := fun _ _ _ _ _ st h => wpAny_pyIter_listiter st h
theorem turn_tuple {P : Program} {w : World} {K : PySem.W.Frag} {tg : Expr} (a it : Addr) : Turn P w K tg (Itt K a) [it] it (fun i h => h.IsTupleIter it a i) where
  mem := by simp
  obj := fun i h st b hb => by
    have e : b = it := by simpa using hb
    subst e
    obtain ⟨o, e, c, d⟩ := st
    exact ⟨o, e, fun v z => by rw [d] at z; cases z⟩
  keep := fun i h h' st k => st.at fun o e => k it (by simp) o e
  item := by
    intro X hP hw hK hc i pins s σ H E I hf st hg
    subst hP hw hK
    obtain ⟨xs, x, hq, hx⟩ := hg
    obtain ⟨its, rv, p, hz⟩ := I.tuple hq
    obtain ⟨u, hu, ru⟩ := rv.get hx
    obtain ⟨f0, f1, f2, f3, f4, f5⟩ := hf it (by simp)
    refine wpAny_pyNext_tuple_item st (show s.heap.IsTuple a its.toArray from p) (x := u) (by simpa using hu) fun h' st' sb => ?_
    have I1 : Inv X pins σ H { s with heap := h' } := I.turned (t' := s.toks) (fun b o hb e => (sb.2 b hb).trans e) f0 f1 f3 f4 f5
    obtain ⟨o, e, c, d⟩ := id st'
    exact ⟨u, rfl, go_of (s := { s with heap := h' }) e c d (by decide) ⟨x, H, I1, ru, ⟨rfl, fun ys hy => by rw [I.tuple_inj hy hq]; exact hx⟩, st', fun b hb => (hf b hb).1⟩⟩
  done := by
    intro X hP hw hK hc i pins s σ H E I hf st hg
    subst hP hw hK
    obtain ⟨xs, hq, hx⟩ := hg
    obtain ⟨its, rv, p, hz⟩ := I.tuple hq
    obtain ⟨f0, f1, f2, f3, f4, f5⟩ := hf it (by simp)
    have hl := rv.length
    exact wpAny_pyNext_tuple_end (I.ok.hd hc) st (show s.heap.IsTuple a its.toArray from p) (by simp; omega) fun h' eb => ⟨rfl, I.turned (t' := s.toks) (fun b o hb e => eb b o hb e) f0 f1 f3 f4 f5⟩
  self := fun _ _ _ _ _ st h => wpAny_pyIter_tupleiter st h
theorem turn_range {P : Program} {w : World} {K : PySem.W.Frag} {tg : Expr} (it : Addr) (lo : Int) (n : Nat) : Turn P w K tg (Itr lo n) [it] it (fun i h => IsRangeIter h it (lo + (i : Nat) * 1) ((n : Int) - (i : Nat)) 1) where
  mem := by simp
  obj := fun i h st b hb => by
    have e : b = it := by simpa using hb
    subst e
    exact ⟨_, st, fun v z => by
      have z' : Data.fields _ = Data.cell v := z
      cases z'⟩
  keep := fun i h h' st k => k it (by simp) _ st
  item := by
    intro X hP hw hK hc i pins s σ H E I hf st hg
    subst hP hw hK
    obtain ⟨f0, f1, f2, f3, f4, f5⟩ := hf it (by simp)
    have W := Walks.range (prog := X.prog) (w := X.w) (I.ok.hd hc) it lo 1 n
    refine W.item i s _ _ hg st fun v h' tk hv st' kk => ?_
    obtain ⟨t, rfl⟩ := hv
    have I1 : Inv X pins σ H { s with heap := h', toks := tk } := I.turned (fun b o hb e => kk b o (by simpa using hb) e) f0 f1 f3 f4 f5
    refine ⟨_, rfl, go_of (s := { s with heap := h', toks := tk }) (n := "range_iterator") st' rfl rfl (by decide) ⟨.int (lo + i), H, I1, ⟨t, ?_⟩, ⟨rfl, rfl⟩, st', fun b hb => (hf b hb).1⟩⟩
    rw [Int.mul_one]
  done := by
    intro X hP hw hK hc i pins s σ H E I hf st hg
    subst hP hw hK
    obtain ⟨f0, f1, f2, f3, f4, f5⟩ := hf it (by simp)
    exact wpAny_pyNext_range_end (I.ok.hd hc) st (by have : n ≤ i := hg; omega) fun h' eb => ⟨rfl, I.turned (t' := s.toks) (fun b o hb e => eb b o hb e) f0 f1 f3 f4 f5⟩
  self := fun _ _ _ _ _ st h => wpAny_pyIter_rangeiter st h
end L2
namespace L2
open PySem PySem.Spec PyProof.Rows
section
variable {X : Cx} {tg : Expr}
def iList (K : PySem.W.Frag) (tl : TE) : TI := fun σ H R => tl σ H fun x H1 => ∃ a, x = .ref a ∧ (∃ xs, SqL K H1 a xs) ∧ R (Itl K a) H1
def iTup (K : PySem.W.Frag) (tl : TE) : TI := fun σ H R => tl σ H fun x H1 => ∃ a, x = .ref a ∧ (∃ xs, SqT K H1 a xs) ∧ R (Itt K a) H1
theorem pi_list {l : Expr} {tl : TE} (hl : PE X l tl) : PI X tg l (iList X.K tl) := by
  intro pins s σ H R I h
  refine thn (hl pins s σ H _ I h) fun v s1 ⟨x, H1, I1, r1, q1⟩ => ?_
  obtain ⟨a, e, ⟨xs, hq⟩, q⟩ := q1
  subst e
  cases r1
  obtain ⟨its, rv, p, hz⟩ := I1.list hq
  refine wpAny_pyIter_list p.isList ?_
  refine ⟨s1.heap.objs.size, [s1.heap.objs.size], _, _, H1, rfl, I1.kept (t' := s1.toks) fun b o e => Heap.get?_push_of_some _ e, turn_list a _, ⟨_, Heap.get?_push_size _ rfl, rfl, rfl⟩, fun b hb => ?_, q⟩
  have e : b = s1.heap.objs.size := by simpa using hb
  subst e
  exact I1.fpOk (Nat.le_refl _) (I1.hok.fresh (Nat.le_refl _))
theorem pi_tup {l : Expr} {tl : TE} (hl : PE X l tl) : PI X tg l (iTup X.K tl) := by
  intro pins s σ H R I h
  refine thn (hl pins s σ H _ I h) fun v s1 ⟨x, H1, I1, r1, q1⟩ => ?_
  obtain ⟨a, e, ⟨xs, hq⟩, q⟩ := q1
  subst e
  cases r1
  obtain ⟨its, rv, p, hz⟩ := I1.tuple hq
  refine wpAny_pyIter_tuple (show s1.heap.IsTuple a its.toArray from p) ?_
  refine ⟨s1.heap.objs.size, [s1.heap.objs.size], _, _, H1, rfl, I1.kept (t' := s1.toks) fun b o e => Heap.get?_push_of_some _ e, turn_tuple a _, ⟨_, Heap.get?_push_size _ rfl, rfl, rfl⟩, fun b hb => ?_, q⟩
  have e : b = s1.heap.objs.size := by simpa using hb
  subst e
  exact I1.fpOk (Nat.le_refl _) (I1.hok.fresh (Nat.le_refl _))
theorem range_it {pins : List (Addr × Obj)} {σ : St} {H : Hp} {s : Shared} {R : It → Hp → Prop} {E : Value → Shared → Prop} {lo hi : Int} {t u v : Tok} {tk : Nat} (I : Inv X pins σ H s) (h1 : -(2 ^ 62) ≤ lo) (h2 : lo < 2 ^ 62) (h3 : -(2 ^ 62) ≤ hi) (h4 : hi < 2 ^ 62)
    (q : R (Itr lo (hi - lo).toNat) H) : wpAny (model X.prog X.w) X.A (pyIter (.ref s.heap.objs.size)) (PIE X pins σ tg R) E { s with heap := s.heap.push { cls := .type "range", data := .fields #[.int lo t, .int hi u, .int 1 v] }, toks := tk } := by
  refine wpAny_pyIter_range (IsRange.new ..) (small_one h1 h2 h3 h4) ?_
  have I1 : Inv X pins σ H { s with heap := s.heap.push { cls := .type "range", data := .fields #[.int lo t, .int hi u, .int 1 v] }, toks := tk } := I.kept fun b o e => Heap.get?_push_of_some _ e
  refine ⟨(s.heap.push { cls := .type "range", data := .fields #[.int lo t, .int hi u, .int 1 v] }).objs.size, [(s.heap.push { cls := .type "range", data := .fields #[.int lo t, .int hi u, .int 1 v] }).objs.size], _, _, H, rfl,
    I1.kept (t' := tk) fun b o e => Heap.get?_push_of_some _ e, turn_range _ lo (hi - lo).toNat, ?_, fun b hb => ?_, q⟩
  · have e1 : lo + ((0 : Nat) : Int) * 1 = lo := by simp
    have e2 : (((hi - lo).toNat : Nat) : Int) - ((0 : Nat) : Int) = Builtin.Range.rangeSize lo hi 1 := by rw [rangeSize_one]; split <;> omega
    show IsRangeIter _ _ (lo + ((0 : Nat) : Int) * 1) ((((hi - lo).toNat : Nat) : Int) - ((0 : Nat) : Int)) 1
    rw [e1, e2]
    exact Heap.get?_push_size _ rfl
  · have e : b = (s.heap.push { cls := .type "range", data := .fields #[.int lo t, .int hi u, .int 1 v] }).objs.size := by simpa using hb
    subst e
    exact I1.fpOk (Nat.le_refl _) (I1.hok.fresh (Nat.le_refl _))
def iRng1 (ta : TA) : TI := fun σ H R => ta σ H fun vs H1 => ∃ j : Int, vs = [.int j] ∧ -(2 ^ 62) ≤ j ∧ j < 2 ^ 62 ∧ R (Itr 0 j.toNat) H1
theorem pi_range1 {a : Expr} {ta : TA} {p pos : Pos} (hg : Gl X "range") (hm : X.mg "range" = none) (ha : PA X [a] ta) (hs : starEach [a] X.env = [(false, eval a X.env)] := by rfl) : PI X tg (.Call (.Name "range" p) [a] [] pos) (iRng1 ta) := by
  intro pins s σ H R I h
  refine Call_ (ld_blt I hg hm boot_range (PyProof.Rows.callWith_type1 (thn (ha pos pins s σ H _ I h) fun us s1 ⟨vs, H1, I1, r1, q1⟩ => ?_) hs rfl))
  obtain ⟨j, e, q1, q2, q⟩ := q1
  subst e
  cases r1 with
  | cons r rr =>
    cases rr
    obtain ⟨t, rfl⟩ := r
    exact call_range_1 (range_it I1 (by decide) (by decide) q1 q2 (by simpa using q))
def tFor (wi : TI) (g : TG) (tb : TS) : TS := fun D σ H => wi σ H fun J H1 => ∃ W : Nat → Nat → St → Hp → Prop, (∃ m, W 0 m σ H1) ∧ ∀ i m σ H, W i m σ H →
  (J.stop i H ∧ D.nx σ H) ∨ (J.go i H ∧ ∃ N : St → Hp → Prop, (∀ σ' H', N σ' H' → ∃ m', m' < m ∧ W (i + 1) m' σ' H') ∧ ∀ x H', J.yld i H x H' → g x σ H' fun σ2 H2 => tb { D with nx := N, ct := N, bk := D.nx } σ2 H2)
def pinsAt (fp : List Addr) (h : Heap) : List (Addr × Obj) := fp.filterMap fun b => (h.get? b).map fun o => (b, o)
theorem mem_pinsAt {fp : List Addr} {h : Heap} {b : Addr} {o : Obj} (hb : b ∈ fp) (e : h.get? b = some o) : (b, o) ∈ pinsAt fp h := List.mem_filterMap.mpr ⟨b, hb, by rw [e]; rfl⟩
theorem of_pinsAt {fp : List Addr} {h : Heap} {p : Addr × Obj} (hp : p ∈ pinsAt fp h) : p.1 ∈ fp ∧ h.get? p.1 = some p.2 := by
  obtain ⟨b, hb, e⟩ := List.mem_filterMap.mp hp
  cases q : h.get? b with
  | none => rw [q] at e; cases e
  | some o =>
    rw [q] at e
    have e' : (b, o) = p := Option.some.inj e
    subst e'
    exact ⟨hb, q⟩
theorem Inv.pinned {pins : List (Addr × Obj)} {σ : St} {H : Hp} {s : Shared} {fp : List Addr} (I : Inv X pins σ H s) (hf : ∀ b ∈ fp, FpOk X pins H b) (ho : ∀ b ∈ fp, ∃ o, s.heap.get? b = some o ∧ ∀ v, o.data ≠ .cell v) : Inv X (pins ++ pinsAt fp s.heap) σ H s :=
  I.pins_of fun p hp => (List.mem_append.mp hp).elim (fun z => I.pin p (List.mem_append_right _ z)) fun z => by
    obtain ⟨hb, e⟩ := of_pinsAt z
    obtain ⟨f0, f1, f2, _⟩ := hf p.1 hb
    obtain ⟨o, e', d⟩ := ho p.1 hb
    rw [e] at e'; cases e'
    exact ⟨e, f0, f1, f2, d⟩
theorem Inv.unpinned {pins pl : List (Addr × Obj)} {σ : St} {H : Hp} {s : Shared} (I : Inv X (pins ++ pl) σ H s) : Inv X pins σ H s := I.pins_of fun p hp => I.pin p (List.mem_append_right _ (List.mem_append_left _ hp))
theorem ps_for {iter : Expr} {body : List Stmt} {wi : TI} {g : TG} {tb : TS} {pos : Pos} (hp : PassesOwn (model X.prog X.w) X.A X.env X.xe) (hc : X.calm = true) (hi : PI X tg iter wi) (hg : PG X tg g) (hb : PSs X body tb)
    (hs : ∀ x, foldedSetIterable iter X.env x = pure x := by intro _; rfl) : PS X (.For tg iter body [] pos) (tFor wi g tb) := by
  intro pins s σ H D I h
  refine wpAny_For (thn (hi pins s σ H _ I h) fun v s1 h1 => thn h1 fun itv s2 h2 => ?_) hs
  obtain ⟨it, fp, tn, J, H2, e, I2, T, st2, f2, W, ⟨m0, w0⟩, turn⟩ := h2
  subst e
  have stat : ∀ {H' : Hp}, (∀ b ∈ fp, H' b = none) → ∀ b ∈ fp, FpOk X pins H' b := fun hn b hb => ⟨hn b hb, (f2 b hb).2⟩
  refine codeAny_forLoop_any (fun n s' => ∃ i σ' H', Inv X pins σ' H' s' ∧ tn i s'.heap ∧ (∀ b ∈ fp, H' b = none) ∧ W i n σ' H') ?_ m0 ⟨0, σ, H2, I2, st2, fun b hb => (f2 b hb).1, w0⟩
  rintro n s3 ⟨i, σ3, H3, I3, st3, fr3, w3⟩
  rcases turn i n σ3 H3 w3 with ⟨stop, qn⟩ | ⟨go, N, hN, step⟩
  · refine wpAny_passesOwn hp (thn (T.done X rfl rfl rfl hc i pins s3 σ3 H3 X.xe I3 (stat fr3) st3 stop) fun r s4 ⟨hr, I4⟩ => ?_)
    subst hr
    exact wpAny_execs_nil ⟨σ3, H3, I4, qn⟩
  · refine wpAny_passesOwn hp (thn (T.item X rfl rfl rfl hc i pins s3 σ3 H3 X.xe I3 (stat fr3) st3 go) fun r s4 ⟨u, hr, h4⟩ => ?_)
    subst hr
    refine wpAny_passesOwn hp (thn h4 fun _ s5 ⟨x, H5, I5, r5, y5, st5, fr5⟩ => ?_)
    have I5' := I5.pinned (stat fr5) (T.obj _ _ st5)
    refine wpAny_passesOwn hp (thn (hg _ s5 σ3 H5 x u _ I5' r5 (step x H5 y5)) fun _ s6 ⟨σ6, H6, I6, q6⟩ => ?_)
    refine wpAny_passesOwn hp (thn (hb _ s6 σ6 H6 _ I6 q6) fun f s7 q7 => ?_)
    have again : ∀ {σ7 : St} {H7 : Hp}, Inv X (pins ++ pinsAt fp s5.heap) σ7 H7 s7 → N σ7 H7 → ∃ m, m < n ∧ ∃ i σ' H', Inv X pins σ' H' s7 ∧ tn i s7.heap ∧ (∀ b ∈ fp, H' b = none) ∧ W i m σ' H' := fun {σ7 H7} I7 n7 => by
      obtain ⟨m', hm, w7⟩ := hN σ7 H7 n7
      refine ⟨m', hm, i + 1, σ7, H7, I7.unpinned, T.keep _ _ _ st5 fun b hb o e => (I7.pin (b, o) (List.mem_append_right _ (List.mem_append_right _ (mem_pinsAt hb e)))).1, fun b hb => ?_, w7⟩
      obtain ⟨o, e, d⟩ := T.obj _ _ st5 b hb
      exact (I7.pin (b, o) (List.mem_append_right _ (List.mem_append_right _ (mem_pinsAt hb e)))).2.1
    cases f with
    | next => obtain ⟨σ7, H7, I7, n7⟩ := q7; exact again I7 n7
    | cont => obtain ⟨σ7, H7, I7, n7⟩ := q7; exact again I7 n7
    | brk => obtain ⟨σ7, H7, I7, q7⟩ := q7; exact ⟨σ7, H7, I7.unpinned, q7⟩
    | ret v => obtain ⟨x7, σ7, H7, I7, r7, q7⟩ := q7; exact ⟨x7, σ7, H7, I7.unpinned, r7, q7⟩
end
theorem for_list {K : PySem.W.Frag} {a : Addr} {xs : List V} {g : TG} {tb : TS} {D : Ends} {σ : St} {H : Hp} (Pv : Nat → St → Hp → Prop) (h0 : Pv 0 σ H) (hl : ∀ i σ H, i ≤ xs.length → Pv i σ H → SqL K H a xs)
    (hs : ∀ i x σ H, xs[i]? = some x → Pv i σ H → g x σ H fun σ2 H2 => tb { D with nx := Pv (i + 1), ct := Pv (i + 1), bk := D.nx } σ2 H2) (hd : ∀ σ H, Pv xs.length σ H → D.nx σ H) :
    ∃ W : Nat → Nat → St → Hp → Prop, (∃ m, W 0 m σ H) ∧ ∀ i m σ H, W i m σ H →
      ((Itl K a).stop i H ∧ D.nx σ H) ∨ ((Itl K a).go i H ∧ ∃ N : St → Hp → Prop, (∀ σ' H', N σ' H' → ∃ m', m' < m ∧ W (i + 1) m' σ' H') ∧ ∀ x H', (Itl K a).yld i H x H' → g x σ H' fun σ2 H2 => tb { D with nx := N, ct := N, bk := D.nx } σ2 H2) := by
  refine ⟨fun i m σ H => m = xs.length - i ∧ i ≤ xs.length ∧ Pv i σ H, ⟨xs.length, by simp, Nat.zero_le _, h0⟩, ?_⟩
  rintro i m σ H ⟨rfl, hi, p⟩
  have q := hl i σ H hi p
  by_cases hlt : i < xs.length
  · refine .inr ⟨⟨xs, xs[i], q, by simp [hlt]⟩, Pv (i + 1), fun σ' H' p' => ⟨xs.length - (i + 1), by omega, rfl, hlt, p'⟩, fun x H' y => ?_⟩
    obtain ⟨e, y⟩ := y
    subst e
    exact hs i x σ _ (y xs q) p
  · have e : i = xs.length := by omega
    subst e
    exact .inl ⟨⟨xs, q, Nat.le_refl _⟩, hd σ H p⟩
theorem for_tup {K : PySem.W.Frag} {a : Addr} {xs : List V} {g : TG} {tb : TS} {D : Ends} {σ : St} {H : Hp} (Pv : Nat → St → Hp → Prop) (h0 : Pv 0 σ H) (hl : ∀ i σ H, i ≤ xs.length → Pv i σ H → SqT K H a xs)
    (hs : ∀ i x σ H, xs[i]? = some x → Pv i σ H → g x σ H fun σ2 H2 => tb { D with nx := Pv (i + 1), ct := Pv (i + 1), bk := D.nx } σ2 H2) (hd : ∀ σ H, Pv xs.length σ H → D.nx σ H) :
    ∃ W : Nat → Nat → St → Hp → Prop, (∃ m, W 0 m σ H) ∧ ∀ i m σ H, W i m σ H →
      ((Itt K a).stop i H ∧ D.nx σ H) ∨ ((Itt K a).go i H ∧ ∃ N : St → Hp → Prop, (∀ σ' H', N σ' H' → ∃ m', m' < m ∧ W (i + 1) m' σ' H') ∧ ∀ x H', (Itt K a).yld i H x H' → g x σ H' fun σ2 H2 => tb { D with nx := N, ct := N, bk := D.nx } σ2 H2) := by
  refine ⟨fun i m σ H => m = xs.length - i ∧ i ≤ xs.length ∧ Pv i σ H, ⟨xs.length, by simp, Nat.zero_le _, h0⟩, ?_⟩
  rintro i m σ H ⟨rfl, hi, p⟩
  have q := hl i σ H hi p
  by_cases hlt : i < xs.length
  · refine .inr ⟨⟨xs, xs[i], q, by simp [hlt]⟩, Pv (i + 1), fun σ' H' p' => ⟨xs.length - (i + 1), by omega, rfl, hlt, p'⟩, fun x H' y => ?_⟩
    obtain ⟨e, y⟩ := y
    subst e
    exact hs i x σ _ (y xs q) p
  · have e : i = xs.length := by omega
    subst e
    exact .inl ⟨⟨xs, q, Nat.le_refl _⟩, hd σ H p⟩
theorem for_range {lo : Int} {n : Nat} {g : TG} {tb : TS} {D : Ends} {σ : St} {H : Hp} (Pv : Nat → St → Hp → Prop) (h0 : Pv 0 σ H)
    (hs : ∀ i σ H, i < n → Pv i σ H → g (.int (lo + i)) σ H fun σ2 H2 => tb { D with nx := Pv (i + 1), ct := Pv (i + 1), bk := D.nx } σ2 H2) (hd : ∀ σ H, Pv n σ H → D.nx σ H) :
    ∃ W : Nat → Nat → St → Hp → Prop, (∃ m, W 0 m σ H) ∧ ∀ i m σ H, W i m σ H →
      ((Itr lo n).stop i H ∧ D.nx σ H) ∨ ((Itr lo n).go i H ∧ ∃ N : St → Hp → Prop, (∀ σ' H', N σ' H' → ∃ m', m' < m ∧ W (i + 1) m' σ' H') ∧ ∀ x H', (Itr lo n).yld i H x H' → g x σ H' fun σ2 H2 => tb { D with nx := N, ct := N, bk := D.nx } σ2 H2) := by
  refine ⟨fun i m σ H => m = n - i ∧ i ≤ n ∧ Pv i σ H, ⟨n, by simp, Nat.zero_le _, h0⟩, ?_⟩
  rintro i m σ H ⟨rfl, hi, p⟩
  by_cases hlt : i < n
  · refine .inr ⟨hlt, Pv (i + 1), fun σ' H' p' => ⟨n - (i + 1), by omega, rfl, hlt, p'⟩, fun x H' y => ?_⟩
    obtain ⟨e, y⟩ := y
    subst e y
    exact hs i σ _ hlt p
  · have e : i = n := by omega
    subst e
    exact .inl ⟨Nat.le_refl _, hd σ H p⟩
end L2
namespace L2
open PySem PySem.Spec PyProof.Rows
abbrev R2 := V → V → Hp → VK → Prop
def OpR (X : Cx) (f : Value → Value → Sem Value) (r : R2) : Prop :=
  ∀ (pins : List (Addr × Obj)) (s : Shared) (σ : St) (H : Hp) (x y : V) (v u : Value) (Q : VK), Inv X pins σ H s → RelV x v → RelV y u → r x y H Q →
    wpAny (model X.prog X.w) X.A (f v u) (EP X pins σ Q) X.xe s
def UnR (X : Cx) (f : Value → Sem Value) (r : V → Hp → VK → Prop) : Prop :=
  ∀ (pins : List (Addr × Obj)) (s : Shared) (σ : St) (H : Hp) (x : V) (v : Value) (Q : VK), Inv X pins σ H s → RelV x v → r x H Q →
    wpAny (model X.prog X.w) X.A (f v) (EP X pins σ Q) X.xe s
def CallR (X : Cx) (f : Value) (r : List V → Hp → VK → Prop) : Prop :=
  ∀ (pins : List (Addr × Obj)) (s : Shared) (σ : St) (H : Hp) (xs : List V) (us : List Value) (Q : VK), Inv X pins σ H s → Vals xs us → r xs H Q →
    wpAny (model X.prog X.w) X.A (call f us) (EP X pins σ Q) X.xe s
def tOp (r : R2) (ta tb : TE) : TE := fun σ H Q => ta σ H fun x H1 => tb σ H1 fun y H2 => r x y H2 Q
def tUn (r : V → Hp → VK → Prop) (ta : TE) : TE := fun σ H Q => ta σ H fun x H1 => r x H1 Q
inductive RIP (C : Int → Int → Prop) (g : Int → Int → V) (x : V) (y : V) (H : Hp) (Q : VK) : Prop
  | mk (i j : _) : (x = .int i) → (y = .int j) → (C i j) → (Q (g i j) H) → RIP C g x y H Q
def rI (C : Int → Int → Prop) (g : Int → Int → V) : R2 := fun x y H Q => RIP C g x y H Q
inductive RI0P (g : Int → Int → V) (x : V) (y : V) (H : Hp) (Q : VK) : Prop
  | mk (i j : _) : (x = .int i) → (y = .int j) → (Q (g i j) H) → RI0P g x y H Q
def rI0 (g : Int → Int → V) : R2 := fun x y H Q => RI0P g x y H Q
inductive RUP (g : Int → V) (x : V) (H : Hp) (Q : VK) : Prop
  | mk (i : _) : (x = .int i) → (Q (g i) H) → RUP g x H Q
def rU (g : Int → V) : V → Hp → VK → Prop := fun x H Q => RUP g x H Q
section
variable {X : Cx} {a b c : Expr} {ta tb tc : TE} {pos : Pos}
theorem binT (ha : PE X a ta) (hb : PE X b tb) {pins : List (Addr × Obj)} {s : Shared} {σ : St} {H : Hp} {R : V → V → Hp → Prop} (I : Inv X pins σ H s)
    (h : ta σ H fun x H1 => tb σ H1 fun y H2 => R x y H2) {Q : Value → Shared → Prop} {f : Value → Value → Sem Value}
    (hf : ∀ v u s2 x y H2, Inv X pins σ H2 s2 → RelV x v → RelV y u → R x y H2 → wpAny (model X.prog X.w) X.A (f v u) Q X.xe s2) :
    wpAny (model X.prog X.w) X.A (eval a X.env) (fun v s₁ => wpAny (model X.prog X.w) X.A (eval b X.env) (fun u s₂ => wpAny (model X.prog X.w) X.A (f v u) Q X.xe s₂) X.xe s₁) X.xe s := by
  refine thn (ha pins s σ H _ I h) fun v s1 ⟨x, H1, I1, r1, q1⟩ => ?_
  refine thn (hb pins s1 σ H1 _ I1 q1) fun u s2 ⟨y, H2, I2, r2, q2⟩ => ?_
  exact hf v u s2 x y H2 I2 r1 r2 q2
theorem pe_op {op : Operator} {r : R2} (ho : OpR X (binaryOp op) r) (ha : PE X a ta) (hb : PE X b tb) : PE X (.BinOp a op b pos) (tOp r ta tb) := by
  intro pins s σ H Q I h
  exact wpAny_BinOp (binT ha hb I h fun v u s2 x y H2 I2 rx ry q => ho pins s2 σ H2 x y v u Q I2 rx ry q)
theorem pe_un {op : UnaryOp} {r : V → Hp → VK → Prop} (ho : UnR X (unaryOp op) r) (ha : PE X a ta) : PE X (.UnaryOp op a pos) (tUn r ta) := by
  intro pins s σ H Q I h
  exact UnaryOp_ (thn (ha pins s σ H _ I h) fun v s1 ⟨x, H1, I1, r1, q1⟩ => ho pins s1 σ H1 x v Q I1 r1 q1)
theorem opI {f : Value → Value → Sem Value} {C : Int → Int → Prop} {g : Int → Int → Int}
    (rule : ∀ (i j : Int) (t u : Tok) (s : Shared) (Q : Value → Shared → Prop) (E : Value → Shared → Prop), C i j → Q (.int (g i j) s.toks) { s with toks := s.toks + 1 } → wpAny (model X.prog X.w) X.A (f (.int i t) (.int j u)) Q E s) :
    OpR X f (rI C fun i j => .int (g i j)) := by
  intro pins s σ H x y v u Q I rx ry h
  obtain ⟨i, j, rfl, rfl, hc, q⟩ := h
  obtain ⟨t, rfl⟩ := rx
  obtain ⟨t', rfl⟩ := ry
  exact rule i j t t' s _ _ hc ⟨.int (g i j), H, I.tok _, ⟨_, rfl⟩, q⟩
theorem opI0 {f : Value → Value → Sem Value} {g : Int → Int → Int}
    (rule : ∀ (i j : Int) (t u : Tok) (s : Shared) (Q : Value → Shared → Prop) (E : Value → Shared → Prop), Q (.int (g i j) s.toks) { s with toks := s.toks + 1 } → wpAny (model X.prog X.w) X.A (f (.int i t) (.int j u)) Q E s) :
    OpR X f (rI0 fun i j => .int (g i j)) := by
  intro pins s σ H x y v u Q I rx ry h
  obtain ⟨i, j, rfl, rfl, q⟩ := h
  obtain ⟨t, rfl⟩ := rx
  obtain ⟨t', rfl⟩ := ry
  exact rule i j t t' s _ _ ⟨.int (g i j), H, I.tok _, ⟨_, rfl⟩, q⟩
theorem opB0 {f : Value → Value → Sem Value} {g : Int → Int → Bool}
    (rule : ∀ (i j : Int) (t u : Tok) (s : Shared) (Q : Value → Shared → Prop) (E : Value → Shared → Prop), Q (.bool (g i j)) s → wpAny (model X.prog X.w) X.A (f (.int i t) (.int j u)) Q E s) :
    OpR X f (rI0 fun i j => .bl (g i j)) := by
  intro pins s σ H x y v u Q I rx ry h
  obtain ⟨i, j, rfl, rfl, q⟩ := h
  obtain ⟨t, rfl⟩ := rx
  obtain ⟨t', rfl⟩ := ry
  exact rule i j t t' s _ _ ⟨.bl (g i j), H, I, rfl, q⟩
def CDiv (i j : Int) : Prop := 0 < j ∧ j < 1073741824
def CPow (i j : Int) : Prop := 0 ≤ j ∧ j ≤ 1000000 ∧ i.natAbs < 2 ^ 64
def CMul (i j : Int) : Prop := (-(2 ^ 64) < i ∧ i < 2 ^ 64) ∨ (-(2 ^ 64) < j ∧ j < 2 ^ 64)
theorem CMul.ok {i j : Int} (h : CMul i j) : IntMulOk i j := by
  rcases h with ⟨h1, h2⟩ | ⟨h1, h2⟩
  · exact .of_left (intBits_le_64 h1 h2)
  · exact .of_right (intBits_le_64 h1 h2)
theorem op_add : OpR X (binaryOp .Add) (rI0 fun i j => .int (i + j)) := opI0 fun _ _ _ _ _ _ _ q => add_int q
theorem op_sub : OpR X (binaryOp .Sub) (rI0 fun i j => .int (i - j)) := opI0 fun _ _ _ _ _ _ _ q => sub_int q
theorem op_mul : OpR X (binaryOp .Mult) (rI CMul fun i j => .int (i * j)) := opI fun _ _ _ _ _ _ _ hc q => mul_int q hc.ok
theorem op_fdiv : OpR X (binaryOp .FloorDiv) (rI CDiv fun i j => .int (i / j)) := opI fun i j _ _ _ _ _ hc q => by
  have h1 : (0 : Int) < j := hc.1
  have h2 : j < 1073741824 := hc.2
  exact floordiv_int (by omega) (by rw [Int.fdiv_eq_ediv_of_nonneg i (by omega)]; exact q) (.inl (PyProof.noPylong_small (by omega)))
theorem op_mod : OpR X (binaryOp .Mod) (rI (fun _ j => 0 < j) fun i j => .int (i % j)) := opI fun i j _ _ _ _ _ hc q => by
  have h1 : (0 : Int) < j := hc
  exact mod_int' (by omega) (by rw [Int.fmod_eq_emod_of_nonneg i (by omega)]; exact q)
theorem op_pow : OpR X (binaryOp .Pow) (rI CPow fun i j => .int (i ^ j.toNat)) := opI fun _ _ _ _ _ _ _ hc q => pow_int_small hc.1 hc.2.1 hc.2.2 q
theorem unI {f : Value → Sem Value} {g : Int → Int}
    (rule : ∀ (i : Int) (t : Tok) (s : Shared) (Q : Value → Shared → Prop) (E : Value → Shared → Prop), Q (.int (g i) s.toks) { s with toks := s.toks + 1 } → wpAny (model X.prog X.w) X.A (f (.int i t)) Q E s) :
    UnR X f (rU fun i => .int (g i)) := by
  intro pins s σ H x v Q I rx h
  obtain ⟨i, rfl, q⟩ := h
  obtain ⟨t, rfl⟩ := rx
  exact rule i t s _ _ ⟨.int (g i), H, I.tok _, ⟨_, rfl⟩, q⟩
theorem un_neg : UnR X (unaryOp .USub) (rU fun i => .int (-i)) := unI fun _ _ _ _ _ q => neg_int q
end
def scal : V → V → Bool
  | .non, .non => true | .non, .int _ => true | .int _, .non => true | .non, .bl _ => true | .bl _, .non => true | .non, .str _ => true | .str _, .non => true
  | .int _, .int _ => true | .bl _, .bl _ => true | .str _, .str _ => true | .byt _, .byt _ => true
  | .int _, .str _ => true | .str _, .int _ => true | .bl _, .str _ => true | .str _, .bl _ => true
  | _, _ => false
def rEq : R2 := fun x y H Q => scal x y = true ∧ Q (.bl (decide (x = y))) H
def rNe : R2 := fun x y H Q => scal x y = true ∧ Q (.bl (!decide (x = y))) H
theorem dec_int {i j : Int} : decide (V.int i = V.int j) = (i == j) := by
  rw [Bool.eq_iff_iff]
  simp
theorem dec_bl {i j : Bool} : decide (V.bl i = V.bl j) = (i == j) := by
  rw [Bool.eq_iff_iff]
  simp
theorem dec_str {i j : Str} : decide (V.str i = V.str j) = (i == j) := by
  rw [Bool.eq_iff_iff]
  simp
theorem dec_byt {i j : Array UInt8} : decide (V.byt i = V.byt j) = (i.toList == j.toList) := by
  rw [Bool.eq_iff_iff]
  cases i
  cases j
  simp
section
variable {X : Cx} {a b c : Expr} {ta tb tc : TE} {pos : Pos}
theorem fin_bl {pins : List (Addr × Obj)} {σ : St} {H : Hp} {s : Shared} {Q : VK} {k k' : Bool} (I : Inv X pins σ H s) (q : Q (.bl k) H) (e : k = k') : EP X pins σ Q (.bool k') s := by
  subst e
  exact ⟨.bl k, H, I, rfl, q⟩
theorem op_eq : OpR X (compareOp .Eq) rEq := by
  intro pins s σ H x y v u Q I rx ry h
  obtain ⟨hs, q⟩ := h
  cases x with
  | non =>
    cases rx
    cases y with
    | non => cases ry; exact PySem.EqNone.eq_none_none (fin_bl I q (by simp))
    | bl j => cases ry; exact PySem.EqNone.eq_none_bool (fin_bl I q (by simp))
    | int j => obtain ⟨t', rfl⟩ := ry; exact PySem.EqNone.eq_none_int (fin_bl I q (by simp))
    | str j => obtain ⟨t', rfl⟩ := ry; exact PySem.EqNone.eq_none_str (fin_bl I q (by simp))
    | _ => exact absurd (show false = true from hs) Bool.false_ne_true
  | bl i =>
    cases rx
    cases y with
    | non => cases ry; exact PySem.EqNone.eq_bool_none (fin_bl I q (by simp))
    | bl j => cases ry; exact eq_bool (fin_bl I q dec_bl)
    | str j => obtain ⟨t', rfl⟩ := ry; exact PySem.EqMixed.eq_bool_str (fin_bl I q (by simp))
    | _ => exact absurd (show false = true from hs) Bool.false_ne_true
  | int i =>
    obtain ⟨t, rfl⟩ := rx
    cases y with
    | non => cases ry; exact PySem.EqNone.eq_int_none (fin_bl I q (by simp))
    | int j => obtain ⟨t', rfl⟩ := ry; exact eq_int (fin_bl I q dec_int)
    | str j => obtain ⟨t', rfl⟩ := ry; exact PySem.EqMixed.eq_int_str (fin_bl I q (by simp))
    | _ => exact absurd (show false = true from hs) Bool.false_ne_true
  | str i =>
    obtain ⟨t, rfl⟩ := rx
    cases y with
    | non => cases ry; exact PySem.EqNone.eq_str_none (fin_bl I q (by simp))
    | bl j => cases ry; exact PySem.EqMixed.eq_str_bool (fin_bl I q (by simp))
    | int j => obtain ⟨t', rfl⟩ := ry; exact PySem.EqMixed.eq_str_int (fin_bl I q (by simp))
    | str j => obtain ⟨t', rfl⟩ := ry; exact eq_str (fin_bl I q dec_str)
    | _ => exact absurd (show false = true from hs) Bool.false_ne_true
  | byt i =>
    obtain ⟨t, rfl⟩ := rx
    cases y with
    | byt j => obtain ⟨t', rfl⟩ := ry; exact PySem.W.eq_bytes (fin_bl I q dec_byt)
    | _ => exact absurd (show false = true from hs) Bool.false_ne_true
  | _ => cases y <;> exact absurd (show false = true from hs) Bool.false_ne_true
theorem op_ne : OpR X (compareOp .NotEq) rNe := by
  intro pins s σ H x y v u Q I rx ry h
  obtain ⟨hs, q⟩ := h
  cases x with
  | non =>
    cases rx
    cases y with
    | non => cases ry; exact PySem.EqNone.ne_none_none (fin_bl I q (by simp))
    | bl j => cases ry; exact PySem.EqNone.ne_none_bool (fin_bl I q (by simp))
    | int j => obtain ⟨t', rfl⟩ := ry; exact PySem.EqNone.ne_none_int (fin_bl I q (by simp))
    | str j => obtain ⟨t', rfl⟩ := ry; exact PySem.EqNone.ne_none_str (fin_bl I q (by simp))
    | _ => exact absurd (show false = true from hs) Bool.false_ne_true
  | bl i =>
    cases rx
    cases y with
    | non => cases ry; exact PySem.EqNone.ne_bool_none (fin_bl I q (by simp))
    | bl j => cases ry; exact ne_bool (fin_bl I q (congrArg not dec_bl))
    | str j => obtain ⟨t', rfl⟩ := ry; exact PySem.EqMixed.ne_bool_str (fin_bl I q (by simp))
    | _ => exact absurd (show false = true from hs) Bool.false_ne_true
  | int i =>
    obtain ⟨t, rfl⟩ := rx
    cases y with
    | non => cases ry; exact PySem.EqNone.ne_int_none (fin_bl I q (by simp))
    | int j => obtain ⟨t', rfl⟩ := ry; exact ne_int (fin_bl I q (congrArg not dec_int))
    | str j => obtain ⟨t', rfl⟩ := ry; exact PySem.EqMixed.ne_int_str (fin_bl I q (by simp))
    | _ => exact absurd (show false = true from hs) Bool.false_ne_true
  | str i =>
    obtain ⟨t, rfl⟩ := rx
    cases y with
    | non => cases ry; exact PySem.EqNone.ne_str_none (fin_bl I q (by simp))
    | bl j => cases ry; exact PySem.EqMixed.ne_str_bool (fin_bl I q (by simp))
    | int j => obtain ⟨t', rfl⟩ := ry; exact PySem.EqMixed.ne_str_int (fin_bl I q (by simp))
    | str j => obtain ⟨t', rfl⟩ := ry; exact ne_str (fin_bl I q (congrArg not dec_str))
    | _ => exact absurd (show false = true from hs) Bool.false_ne_true
  | byt i =>
    obtain ⟨t, rfl⟩ := rx
    cases y with
    | byt j => obtain ⟨t', rfl⟩ := ry; exact PySem.W.ne_bytes (fin_bl I q (congrArg not dec_byt))
    | _ => exact absurd (show false = true from hs) Bool.false_ne_true
  | _ => cases y <;> exact absurd (show false = true from hs) Bool.false_ne_true
theorem op_lt : OpR X (compareOp .Lt) (rI0 fun i j => .bl (decide (i < j))) := opB0 fun _ _ _ _ _ _ _ q => lt_int q
theorem op_le : OpR X (compareOp .LtE) (rI0 fun i j => .bl (decide (i ≤ j))) := opB0 fun _ _ _ _ _ _ _ q => le_int q
theorem op_gt : OpR X (compareOp .Gt) (rI0 fun i j => .bl (decide (j < i))) := opB0 fun _ _ _ _ _ _ _ q => gt_int q
theorem op_ge : OpR X (compareOp .GtE) (rI0 fun i j => .bl (decide (j ≤ i))) := opB0 fun _ _ _ _ _ _ _ q => ge_int q
theorem op_isN : OpR X (compareOp .Is) (fun x y H Q => y = .non ∧ Q (.bl (decide (x = .non))) H) := by
  intro pins s σ H x y v u Q I rx ry h
  obtain ⟨rfl, q⟩ := h
  cases ry
  refine is_none_gen (fin_bl I q ?_)
  cases x <;> first
    | (cases rx; rfl)
    | (obtain ⟨t, rfl⟩ := rx; rfl)
theorem op_notN : OpR X (compareOp .IsNot) (fun x y H Q => y = .non ∧ Q (.bl (!decide (x = .non))) H) := by
  intro pins s σ H x y v u Q I rx ry h
  obtain ⟨rfl, q⟩ := h
  cases ry
  refine isnot_none_gen (fin_bl I q ?_)
  cases x <;> first
    | (cases rx; rfl)
    | (obtain ⟨t, rfl⟩ := rx; rfl)
theorem nomark (b : Expr) {op : CmpOp} (h : op ≠ .In := by decide) (h2 : op ≠ .NotIn := by decide) : behindInMarks op b = false := by
  have e1 : (op == CmpOp.In) = false := by cases op <;> first | rfl | exact absurd rfl h
  have e2 : (op == CmpOp.NotIn) = false := by cases op <;> first | rfl | exact absurd rfl h2
  cases b <;> simp [behindInMarks, e1, e2]
theorem pe_cmpR {op : CmpOp} {r : R2} (ho : OpR X (compareOp op) r) (ha : PE X a ta) (hb : PE X b tb) (hm : behindInMarks op b = false) : PE X (.Compare a [op] [b] pos) (tOp r ta tb) := by
  intro pins s σ H Q I h
  exact wpAny_Compare1 (binT ha hb I h fun v u s2 x y H2 I2 rx ry q => ho pins s2 σ H2 x y v u Q I2 rx ry q) hm
def tTest (t : TE) : TT := fun σ H Q => t σ H fun x H' => BlP x H' Q
theorem pt_cmpR {op : CmpOp} {r : R2} (ho : OpR X (compareOp op) r) (ha : PE X a ta) (hb : PE X b tb) (hm : behindInMarks op b = false) : PT X (.Compare a [op] [b] pos) (tTest (tOp r ta tb)) := by
  intro pins s σ H Q I h
  refine wpAny_isTrue_Compare1 (thn (ha pins s σ H _ I h) fun v s1 ⟨x, H1, I1, r1, q1⟩ => thn (hb pins s1 σ H1 _ I1 q1) fun u s2 ⟨y, H2, I2, r2, q2⟩ =>
    thn (ho pins s2 σ H2 x y v u _ I2 r1 r2 q2) fun c s3 ⟨z, H3, I3, r3, k, e, q3⟩ => ?_) hm
  subst e
  cases r3
  exact wpAny_truthy_bool ⟨H3, I3, q3⟩
def tChain (r r' : R2) (ta tb tc : TE) : TE := fun σ H Q => ta σ H fun x H1 => tb σ H1 fun y H2 => r x y H2 fun z H3 => ∃ k, z = .bl k ∧
  (if k = true then tc σ H3 fun w' H4 => r' y w' H4 Q else Q (.bl false) H3)
theorem pe_chain {op op' : CmpOp} {r r' : R2} (ho : OpR X (compareOp op) r) (ho' : OpR X (compareOp op') r') (ha : PE X a ta) (hb : PE X b tb) (hc : PE X c tc)
    (hm : lastMarks [op, op'] [b, c] = false := by with_unfolding_all rfl) : PE X (.Compare a [op, op'] [b, c] pos) (tChain r r' ta tb tc) := by
  intro pins s σ H Q I h
  refine Compare_chain (thn (ha pins s σ H _ I h) fun v s1 ⟨x, H1, I1, r1, q1⟩ => chain_link (thn (hb pins s1 σ H1 _ I1 q1) fun u s2 ⟨y, H2, I2, r2, q2⟩ =>
    thn (ho pins s2 σ H2 x y v u _ I2 r1 r2 q2) fun d s3 ⟨z, H3, I3, r3, k, e, q3⟩ => ?_)) hm
  subst e
  cases r3
  refine wpAny_truthy_bool ?_
  cases k with
  | false => exact ite_ff ⟨.bl false, H3, I3, rfl, q3⟩
  | true => exact ite_tt (chain_last (thn (hc pins s3 σ H3 _ I3 q3) fun w' s4 ⟨z', H4, I4, r4, q4⟩ => ho' pins s4 σ H4 y z' u w' Q I4 r2 r4 q4))
theorem line63 : (sizeLine : Nat) < 2 ^ 63 := by rw [sizeLine_eq]; decide
theorem op_add_str : OpR X (binaryOp .Add) (fun x y H Q => ∃ i j, x = .str i ∧ y = .str j ∧ i.length + j.length ≤ sizeLine ∧ Q (.str (i ++ j)) H) := by
  intro pins s σ H x y v u Q I rx ry h
  obtain ⟨i, j, rfl, rfl, hz, q⟩ := h
  obtain ⟨t, rfl⟩ := rx
  obtain ⟨t', rfl⟩ := ry
  exact add_str (fun t' tk => ⟨.str (i ++ j), H, I.tok _, ⟨_, rfl⟩, q⟩) hz
theorem vals1 {x : V} {us : List Value} (r : Vals [x] us) : ∃ u, us = [u] ∧ RelV x u := by
  cases r with
  | cons r1 r2 => cases r2; exact ⟨_, rfl, r1⟩
theorem vals2 {x y : V} {us : List Value} (r : Vals [x, y] us) : ∃ u w', us = [u, w'] ∧ RelV x u ∧ RelV y w' := by
  cases r with
  | cons r1 r2 =>
    cases r2 with
    | cons r3 r4 => cases r4; exact ⟨_, _, rfl, r1, r3⟩
theorem call_max2 (hc : X.calm = true) : CallR X (.builtin "max") (fun xs H Q => ∃ i j, xs = [.int i, .int j] ∧ Q (.int (if j > i then j else i)) H) := by
  intro pins s σ H xs us Q I r h
  obtain ⟨i, j, rfl, q⟩ := h
  obtain ⟨u, w', rfl, ⟨t, rfl⟩, ⟨t', rfl⟩⟩ := vals2 r
  refine max_two_ints (I.ok.hd hc) fun h' tk k => ⟨_, H, I.kept k, ?_, q⟩
  by_cases hj : j > i
  · rw [if_pos hj, if_pos hj]; exact ⟨_, rfl⟩
  · rw [if_neg hj, if_neg hj]; exact ⟨_, rfl⟩
theorem call_min2 (hc : X.calm = true) : CallR X (.builtin "min") (fun xs H Q => ∃ i j, xs = [.int i, .int j] ∧ Q (.int (if j < i then j else i)) H) := by
  intro pins s σ H xs us Q I r h
  obtain ⟨i, j, rfl, q⟩ := h
  obtain ⟨u, w', rfl, ⟨t, rfl⟩, ⟨t', rfl⟩⟩ := vals2 r
  refine min_two_ints (I.ok.hd hc) fun h' tk k => ⟨_, H, I.kept k, ?_, q⟩
  by_cases hj : j < i
  · rw [if_pos hj, if_pos hj]; exact ⟨_, rfl⟩
  · rw [if_neg hj, if_neg hj]; exact ⟨_, rfl⟩
theorem call_int1 : CallR X (.type "int") (fun xs H Q => (∃ i, xs = [.int i] ∧ Q (.int i) H) ∨ ∃ k, xs = [.bl k] ∧ Q (.int (if k then 1 else 0)) H) := by
  intro pins s σ H xs us Q I r h
  rcases h with ⟨i, rfl, q⟩ | ⟨k, rfl, q⟩
  · obtain ⟨u, rfl, t, rfl⟩ := vals1 r
    exact call_int_int ⟨.int i, H, I, ⟨_, rfl⟩, q⟩
  · obtain ⟨u, rfl, r1⟩ := vals1 r
    cases r1
    exact call_int_bool ⟨.int (if k then 1 else 0), H, I.tok _, ⟨_, rfl⟩, q⟩
end
end L2
namespace L2
open PySem PySem.Spec PyProof.Rows
structure ObjM (h : Heap) (x dx C : Addr) (mA : Str → Option Value) : Prop where
  obj : h.get? x = some (PySem.W.instObj C dx)
  ns : h.Ns1 dx mA
  ne : dx ≠ x
theorem lookIn_ns {h : Heap} {dx : Addr} {mA : Str → Option Value} (n : h.Ns1 dx mA) : ∃ od, h.get? dx = some od ∧ ∀ name, PySem.W.lookIn name od = some (mA name) := by
  obtain ⟨o, es, ep, ho, hd, hk, _, hm⟩ := n
  refine ⟨o, ho, fun name => ?_⟩
  have e := hm name
  unfold nsFind findBy at e
  rw [← Array.find?_toList] at e
  unfold PySem.W.lookIn
  rw [hd]
  dsimp only
  split
  · rename_i y q
    rw [q] at e
    exact congrArg some e
  · rename_i q
    rw [q] at e
    have a : es.toList.any (·.refKey) = false := by
      rw [List.any_eq_false]
      intro y hy
      obtain ⟨z, t, hkey⟩ := hk y (Array.mem_toList_iff.mp hy)
      simp [DictEntry.refKey, hkey]
    have a' : ¬ es.toList.any (·.refKey) = true := by rw [a]; exact Bool.false_ne_true
    rw [if_neg a']
    exact congrArg some e
theorem ObjM.look {h : Heap} {x dx C : Addr} {mA : Str → Option Value} (I : ObjM h x dx C mA) : ∃ od, PySem.W.InstAt h x (PySem.W.instObj C dx) C (some od) ∧ ∀ name, PySem.W.lookIn name od = some (mA name) :=
  let ⟨od, ho, hl⟩ := lookIn_ns I.ns
  ⟨od, ⟨I.obj, rfl, rfl, ho⟩, hl⟩
theorem RelO.some_of {v : V} {o : Option Value} (r : RelO (some v) o) : ∃ u, o = some u ∧ RelV v u := by
  cases o with
  | none => exact (show False from r).elim
  | some u => exact ⟨u, rfl, r⟩
section
variable {P : Program} {w : World} {H H' : Hp} {h h' : Heap} {a C dx : Addr} {fs fs' : List (Str × V)}
theorem ins_get (hok : HOk P w H h) (e : H a = some (.ins C dx fs)) : ∃ mA, ObjM h a dx C mA ∧ (∀ f, RelO (fs.lookup f) (mA f)) ∧ PySem.Within mA (fs.map (·.1)) ∧ fs.length ≤ 1000 ∧ H dx = some (.own a) := by
  obtain ⟨d, z, ne, ob, mA, n, r, q⟩ := (show ObjOk P w H h a (.ins C dx fs) from hok a _ e)
  exact ⟨mA, ⟨ob, n, ne⟩, r, q, z, d⟩
end
structure Cls (K : PySem.W.Frag) (C : Addr) : Prop where
  pg : PySem.W.plainGet K C Str.empty = true
  hd : PySem.W.hasDictIn K C = true
  po : PySem.W.plainOver K C = true
  sa : PySem.W.findIn K (.ref C) "__setattr__" = some (some (.builtin "object.__setattr__"))
theorem Cls.get {K : PySem.W.Frag} {C : Addr} (c : Cls K C) (f : Str) : PySem.W.plainGet K C f = true := c.pg
section
variable {X : Cx} {pins : List (Addr × Obj)} {σ : St} {H : Hp} {s : Shared} {A : Around} {E : Value → Shared → Prop} {Q : Value → Shared → Prop} {c : Value} {b : Bool}
inductive TyOf (K : PySem.W.Frag) (H : Hp) : V → Value → Prop where
  | non : TyOf K H .non (.type "NoneType")
  | bl (x : Bool) : TyOf K H (.bl x) (.type "bool")
  | int (i : Int) : TyOf K H (.int i) (.type "int")
  | str (x : Str) : TyOf K H (.str x) (.type "str")
  | flt (x : UInt64) : TyOf K H (.flt x) (.type "float")
  | lst {a : Addr} {xs : List V} (e : H a = some (.lst xs)) : TyOf K H (.ref a) (.type "list")
  | frz {a : Addr} {o : Obj} {xs : List V} (e : H a = some (.frz o (.lst xs))) : TyOf K H (.ref a) (.type "list")
  | tup {a : Addr} {xs : List V} (e : H a = some (.tup xs)) : TyOf K H (.ref a) (.type "tuple")
  | dK {a : Addr} {kvs : List (Key × V)} (e : H a = some (.dK kvs)) : TyOf K H (.ref a) (.type "dict")
  | dT {a : Addr} {kvs : List (List Key × V)} (e : H a = some (.dT kvs)) : TyOf K H (.ref a) (.type "dict")
  | ins {a C dx : Addr} {fs : List (Str × V)} (e : H a = some (.ins C dx fs)) (cl : Cls K C) (ha : PySem.W.findIn K (.ref C) "__class__" = some (some (.builtin "object.__class__")))
      (hn : PySem.W.specialIn K (.builtin "object.__class__") "__get__" = some (some (.builtin "getset_descriptor.__get__"))) (htk : PySem.W.takesIn K (.builtin "object.__class__") = some true)
      (hm : PySem.W.mroIn K C (.type "object") = some true) : TyOf K H (.ref a) (.ref C)
theorem isinst_ok {x : V} {u t : Value} (I : Inv X pins σ H s) (rx : RelV x u) (ty : TyOf X.K H x t) (e : PySem.W.kitOne X.K t c = some b) (h : ∀ tk, Q (.bool b) { s with toks := tk }) :
    wpAny (model X.prog X.w) A (call (.builtin "isinstance") [u, c]) Q E s := by
  cases ty with
  | non => cases (show u = Value.none from rx); exact PySem.W.kia_one PySem.W.kitx_none I.kIn True.intro e (fun z => nomatch z) h
  | bl y => cases (show u = Value.bool y from rx); exact PySem.W.kia_one PySem.W.kitx_bool I.kIn True.intro e (fun z => nomatch z) h
  | int i => obtain ⟨t, q⟩ := (show ∃ t, u = Value.int i t from rx); cases q; exact PySem.W.kia_one PySem.W.kitx_int I.kIn True.intro e (fun z => nomatch z) h
  | str y => obtain ⟨t, q⟩ := (show ∃ t, u = Value.str y t from rx); cases q; exact PySem.W.kia_one PySem.W.kitx_str I.kIn True.intro e (fun z => nomatch z) h
  | flt y => obtain ⟨t, q⟩ := (show ∃ t, u = Value.float y t from rx); cases q; exact PySem.W.kia_one PySem.W.kitx_float I.kIn True.intro e (fun z => nomatch z) h
  | @lst a xs ea =>
    cases (show u = Value.ref a from rx)
    obtain ⟨_, _, n, _, h1⟩ := (show ObjOk X.prog X.w H s.heap a (.lst xs) from I.hok a _ ea)
    exact PySem.W.kia_one PySem.W.kitx_list I.kIn ⟨_, h1, rfl⟩ e (fun z => nomatch z) h
  | @frz a ob xs ea =>
    cases (show u = Value.ref a from rx)
    obtain ⟨_, _, _, n, _, h1⟩ := (show ObjOk X.prog X.w H s.heap a (.frz ob (.lst xs)) from I.hok a _ ea)
    exact PySem.W.kia_one PySem.W.kitx_list I.kIn ⟨_, h1, rfl⟩ e (fun z => nomatch z) h
  | @tup a xs ea =>
    cases (show u = Value.ref a from rx)
    obtain ⟨_, _, _, p⟩ := (show ObjOk X.prog X.w H s.heap a (.tup xs) from I.hok a _ ea)
    obtain ⟨o, h1, h2, _⟩ := p
    exact PySem.W.kia_one PySem.W.kitx_tuple I.kIn ⟨o, h1, h2⟩ e (fun z => nomatch z) h
  | @dK a kvs ea =>
    cases (show u = Value.ref a from rx)
    obtain ⟨_, _, vs, _, p⟩ := (show ObjOk X.prog X.w H s.heap a (.dK kvs) from I.hok a _ ea)
    obtain ⟨o, es, ep, h1, h2, _⟩ := p
    exact PySem.W.kia_one PySem.W.kitx_dict I.kIn ⟨o, h1, h2.1⟩ e (fun z => nomatch z) h
  | @dT a kvs ea =>
    cases (show u = Value.ref a from rx)
    obtain ⟨_, _, xs, _, o, es, ep, h1, h2, _⟩ := (show ObjOk X.prog X.w H s.heap a (.dT kvs) from I.hok a _ ea)
    exact PySem.W.kia_one PySem.W.kitx_dict I.kIn ⟨o, h1, h2.1⟩ e (fun z => nomatch z) h
  | @ins a C dx fs ea cl ha hn htk hm =>
    cases (show u = Value.ref a from rx)
    obtain ⟨mA, O, _⟩ := ins_get I.hok ea
    obtain ⟨od, J, _⟩ := O.look
    exact PySem.W.kia_one (PySem.W.kitx_own (cl.get _) cl.hd ha hn htk hm) I.kIn J e (fun z => nomatch z) h
end
end L2
namespace L2
open PySem PySem.Spec PyProof.Rows
structure Room (k : Nat) (A : Around) : Prop where
  hd : A.handled = none
  dp : A.depth + 3 * k + 5 < recursionLimit
  un : A.units + 16 * k + 200 < cLine
  gd : A.guards = some []
theorem Room.mono {j k : Nat} {A : Around} (r : Room k A) (h : j ≤ k) : Room j A := ⟨r.hd, by have := r.dp; omega, by have := r.un; omega, r.gd⟩
theorem Room.deeper {k : Nat} {A : Around} (r : Room (k + 1) A) (env : Env) : Room k (A.deeper env) :=
  ⟨r.hd, by have := r.dp; show A.depth + 1 + 3 * k + 5 < _; omega, by have := r.un; show A.units + 3 + 16 * k + 200 < _; omega, by show pushGuards [] A.guards = some []; rw [r.gd]; rfl⟩
theorem Room.depth {k : Nat} {A : Around} (r : Room k A) : A.depth < recursionLimit := by have := r.dp; omega
theorem Room.units {k : Nat} {A : Around} (r : Room k A) : A.units + 64 < cLine := by have := r.un; omega
def tNil : TA := fun _ H Q => Q [] H
def tCons (ta : TE) (tr : TA) : TA := fun σ H Q => ta σ H fun x H1 => tr σ H1 fun xs H2 => Q (x :: xs) H2
section
variable {X : Cx} {e : Expr} {es : List Expr} {te : TE} {t : TA} {pos : Pos}
theorem pa_nil : PA X [] tNil := fun _ _ _ _ H Q I h => Calls.spliced_nil ⟨[], H, I, .nil, h⟩
theorem pa_cons (ha : PE X e te) (hr : PA X es t) (hs : starEach (e :: es) X.env = (false, eval e X.env) :: starEach es X.env := by rfl) : PA X (e :: es) (tCons te t) := by
  intro pos pins s σ H Q I h
  rw [hs]
  show wpAny _ _ (spliced ((false, eval e X.env) :: backTo pos (starEach es X.env))) _ _ s
  refine Calls.spliced_cons (thn (ha pins s σ H _ I h) fun u s1 ⟨x, H1, I1, r1, q1⟩ => ?_)
  exact thn (hr pos pins s1 σ H1 _ I1 q1) fun us s2 ⟨xs, H2, I2, r2, q2⟩ => ⟨x :: xs, H2, I2, .cons r1 r2, q2⟩
def tTup (t : TA) : TE := fun σ H Q => t σ H fun xs H1 => xs.length ≤ sizeLine ∧ ∀ p, H1 p = none → Q (.ref p) (upd H1 p (.tup xs))
def tLst (t : TA) : TE := fun σ H Q => t σ H fun xs H1 => xs.length ≤ sizeLine ∧ ∀ p, H1 p = none → Q (.ref p) (upd H1 p (.lst xs))
theorem pe_tup {x1} (h : PA X es t) : PE X (.Tuple es x1 pos) (tTup t) := by
  intro pins s σ H Q I hq
  refine wpAny_Tuple_spliced (thn (h pos pins s σ H _ I hq) fun us s1 ⟨xs, H1, I1, r, z, q⟩ => ⟨by rw [← r.length]; exact z, ?_⟩)
  have hf : H1 s1.heap.objs.size = none := I1.hok.fresh (Nat.le_refl _)
  refine ⟨.ref s1.heap.objs.size, upd H1 s1.heap.objs.size (.tup xs), I1.laid (t' := s1.toks) (fun b u e => Heap.get?_push_of_some _ e) (Nat.le_refl _) ?_, rfl, q _ hf⟩
  exact ⟨z, us, r, IsTupN.new _ _⟩
theorem pe_lst (h : PA X es t) : PE X (.List es pos) (tLst t) := by
  intro pins s σ H Q I hq
  refine wpAny_List_spliced (thn (h pos pins s σ H _ I hq) fun us s1 ⟨xs, H1, I1, r, z, q⟩ => ⟨by rw [← r.length]; exact z, ?_⟩)
  have hf : H1 s1.heap.objs.size = none := I1.hok.fresh (Nat.le_refl _)
  refine ⟨.ref s1.heap.objs.size, upd H1 s1.heap.objs.size (.lst xs), I1.laid (t' := s1.toks) (fun b u e => Heap.get?_push_of_some _ e) (Nat.le_refl _) ?_, rfl, q _ hf⟩
  exact ⟨z, us, 0, r, Heap.get?_push_size _ rfl⟩
end
abbrev Sp := List V → Hp → VK → XK → Prop
abbrev CXT := List Env → Hp → Shared → XK → Value → Shared → Prop
structure Env0 (P : Program) (w : World) (K : PySem.W.Frag) (mg : Str → Option Value) (base : Heap) (A : Around) (outer : List Env) (s : Shared) (H : Hp) : Prop where
  frames : A.frames = some outer
  mod : Mod K mg base
  bs : ∀ b o, base.get? b = some o → s.heap.get? b = some o ∧ H b = none
  bsz : base.objs.size ≤ s.heap.objs.size
  funs : s.heap.FunFrames base outer
  frf : ∀ b ∈ frs outer, H b = none
  hok : HOk P w H s.heap
  bare : AllBare s.gens
def CE (outer : List Env) (P : Program) (w : World) (H : Hp) (s : Shared) (Q : VK) (u : Value) (s' : Shared) : Prop :=
  ∃ v H', s'.os = s.os ∧ AllBare s'.gens ∧ Un (frs outer) [] H H' s.heap s'.heap ∧ HOk P w H' s'.heap ∧ RelV v u ∧ Q v H'
def CR (CX : CXT) (outer : List Env) (P : Program) (w : World) (H : Hp) (s : Shared) (Q : VK) (E : XK) (r : Result) (s' : Shared) : Prop :=
  match r with
  | .ok (.ret u) => CE outer P w H s Q u s'
  | .ok _ => False
  | .error e => CX outer H s E e s'
structure FnOk (P : Program) (w : World) (K : PySem.W.Frag) (mg : Str → Option Value) (base : Heap) (CX : CXT) (k : Nat) (f : Addr) (fd : FuncData) (ps : List Str) (sp : Sp) : Prop where
  len : ∀ vs H Q E, sp vs H Q E → vs.length = ps.length
  run : ∀ (A : Around) (outer : List Env) (s : Shared) (H : Hp) (args : Args) (us : List Value) (vs : List V) (Q : VK) (E : XK), Room k A → Env0 P w K mg base A outer s H → BindsTo s fd args (ps.zip us) → Vals vs us → sp vs H Q E →
    codeAny (model P w) A (.call (.ref f) args) (CR CX outer P w H s Q E) s
theorem FnOk.mono {P : Program} {w : World} {K : PySem.W.Frag} {mg : Str → Option Value} {base : Heap} {CX : CXT} {j k : Nat} {f : Addr} {fd : FuncData} {ps : List Str} {sp : Sp} (F : FnOk P w K mg base CX j f fd ps sp) (h : j ≤ k) :
    FnOk P w K mg base CX k f fd ps sp := ⟨F.len, fun A outer s H args us vs Q E hr => F.run A outer s H args us vs Q E (hr.mono h)⟩
section
variable {X : Cx} {pins : List (Addr × Obj)} {σ : St} {H : Hp} {s s' : Shared}
theorem Inv.env0 (I : Inv X pins σ H s) : Env0 X.prog X.w X.K X.mg X.base X.A X.stack s H :=
  ⟨I.ok.frames, I.ok.mod, I.bs, Nat.le_trans I.ok.bsz I.sz, I.stack, I.stkFree, I.hok, I.bare⟩
theorem Inv.after {Q : VK} {u : Value} (I : Inv X pins σ H s) (h : CE X.stack X.prog X.w H s Q u s') : EP X pins σ Q u s' := by
  obtain ⟨v, H', os, bare, un, hok, r, q⟩ := h
  obtain ⟨hh, g, d, t, os'⟩ := s'
  obtain rfl : os' = s.os := os
  exact ⟨v, H', I.call (h' := hh) (g' := g) (d' := d) (t' := t) (ch := []) un hok bare (fun b z => absurd z (by simp)), r, q⟩
end
def tCall (sp : Sp) (dvs : List V) (E : XK) (t : TA) : TE := fun σ H Q => t σ H fun vs H1 => sp (vs ++ dvs) H1 Q E
def Binds (K : PySem.W.Frag) (fd : FuncData) (ps : List Str) (ds : List Value) : Prop :=
  ∀ (s : Shared) (us : List Value), K.In s.heap → (us ++ ds).length = ps.length → BindsTo s fd ⟨us, []⟩ (ps.zip (us ++ ds))
theorem Binds.all {K : PySem.W.Frag} {fd : FuncData} {ps : List Str} (h : ∀ us : List Value, us.length = ps.length → bindArgs fd ⟨us, []⟩ = pure (ps.zip us)) : Binds K fd ps [] := fun s us _ hl => by
  rw [List.append_nil] at hl ⊢
  exact .of_eq (h us hl)
def Passes (CX : CXT) (X : Cx) (E : XK) : Prop := ∀ (pins : List (Addr × Obj)) (σ : St) (H : Hp) (s : Shared) (e : Value) (s' : Shared), Inv X pins σ H s → CX X.stack H s E e s' → X.xe e s'
section
variable {X : Cx} {CX : CXT} {k : Nat} {f C : Addr} {fd : FuncData} {ps : List Str} {sp : Sp} {dvs : List V} {ds : List Value} {E : XK} {x m : Str} {p pos apos : Pos} {e o : Expr} {es : List Expr} {ta : TE} {t : TA}
theorem run_fn {pins : List (Addr × Obj)} {σ : St} {H : Hp} {s : Shared} {Q : VK} {us : List Value} {vs : List V} (F : FnOk X.prog X.w X.K X.mg X.base CX k f fd ps sp) (hr : Room k X.A) (hb : Binds X.K fd ps ds) (hd : Vals dvs ds) (hx : Passes CX X E)
    (I : Inv X pins σ H s) (r : Vals vs us) (h : sp (vs ++ dvs) H Q E) : wpAny (model X.prog X.w) X.A (call (.ref f) us) (EP X pins σ Q) X.xe s := by
  have r2 : Vals (vs ++ dvs) (us ++ ds) := r.append hd
  have hl : (us ++ ds).length = ps.length := by rw [← r2.length]; exact F.len _ _ _ _ h
  refine wpAny_call (codeAny_mono (F.run X.A X.stack s H ⟨us, []⟩ (us ++ ds) (vs ++ dvs) Q E hr I.env0 (hb s us I.kIn hl) r2 h) fun r s' hq => ?_)
  cases r with
  | error e => exact hx pins σ H s e s' I hq
  | ok fl =>
    cases fl with
    | ret u => exact I.after hq
    | next => exact False.elim hq
    | brk => exact False.elim hq
    | cont => exact False.elim hq
theorem pe_call (F : FnOk X.prog X.w X.K X.mg X.base CX k f fd ps sp) (hr : Room k X.A) (hg : Gl X x) (hm : X.mg x = some (.ref f)) (hk : PySem.W.keepIn X.K (.ref f) = true) (hb : Binds X.K fd ps ds) (hd : Vals dvs ds) (hx : Passes CX X E)
    (ha : PA X (e :: es) t) (hdb : (x == ("__debug__" : Str)) = false := by decide) (he : starEach (e :: es) X.env = (false, eval e X.env) :: starEach es X.env := by rfl) (hpl : (backTo pos (starEach es X.env)).any (·.1) = false := by rfl) :
    PE X (.Call (.Name x p) (e :: es) [] pos) (tCall sp dvs E t) := by
  intro pins s σ H Q I h
  refine wpAny_Call_Name_kw (ld_glob I hg hm ?_ hdb)
  refine PySem.W.callWith_K (h₀ := X.base) I.ok.mod.kin hk (thn (ha pos pins s σ H _ I h) fun us s1 ⟨vs, H1, I1, r, q⟩ => ⟨I1.kIn, ?_⟩) he hpl
  exact run_fn F hr hb hd hx I1 r q
end
section
variable {X : Cx} {CX : CXT} {k : Nat} {f C : Addr} {fd : FuncData} {ps ks : List Str} {sp : Sp} {E : XK} {x m : Str} {p pos apos kpos : Pos} {e o : Expr} {es : List Expr} {kws : List Keyword} {te ta : TE} {t tk : TA} {nm : Option Str}
variable {g : List Value → List Value → List Value} {gV : List V → List V → List V}
end
structure FnScope (N P : List Str) (sc : Scope) : Prop where
  kind : sc.kind = .function
  co : sc.isCoroutine = false
  gen : sc.isGenerator = false
  nd : N.Nodup
  pre : N.take P.length = P
  par : ∀ x ∈ P, sc.names.lookup x = some .local ∨ sc.names.lookup x = some .cell
  nofree : ∀ y ∈ sc.names, y.2 ≠ .free
theorem bindL_out {kindOf : Str → Option NameKind} {x : Str} : ∀ {binds : List (Str × Value)} {m : Str → Option Value}, (∀ v, (x, v) ∉ binds) → bindL kindOf binds m x = m x
  | [], _, _ => rfl
  | (n, v) :: r, m, h => by
    unfold bindL
    rw [bindL_out fun w hw => h w (List.mem_cons_of_mem _ hw)]
    split
    · have : x ≠ n := by rintro rfl; exact h v List.mem_cons_self
      simp [this]
    · rfl
theorem bindC_out {kindOf : Str → Option NameKind} {x : Str} : ∀ {binds : List (Str × Value)} {m : Str → Option Value}, (∀ v, (x, v) ∉ binds) → bindC kindOf binds m x = m x
  | [], _, _ => rfl
  | (n, v) :: r, m, h => by
    unfold bindC
    rw [bindC_out fun w hw => h w (List.mem_cons_of_mem _ hw)]
    split
    · rfl
    · have : x ≠ n := by rintro rfl; exact h v List.mem_cons_self
      simp [this]
theorem bindL_get {kindOf : Str → Option NameKind} {x : Str} {v : Value} : ∀ {P : List Str} {vs : List Value} {i : Nat} {m : Str → Option Value}, P.Nodup → P[i]? = some x → vs[i]? = some v → kindOf x = some .local →
    bindL kindOf (P.zip vs) m x = some v
  | [], _, _, _, _, h, _, _ => by simp at h
  | _ :: _, [], _, _, _, _, h, _ => by simp at h
  | p :: P, w :: vs, 0, m, nd, h1, h2, hk => by
    simp at h1 h2; subst h1; subst h2
    show bindL kindOf ((p, w) :: P.zip vs) m p = _
    unfold bindL
    rw [bindL_out fun v hv => (List.nodup_cons.mp nd).1 (List.of_mem_zip hv).1, if_pos hk]
    simp
  | p :: P, w :: vs, i + 1, m, nd, h1, h2, hk => by
    show bindL kindOf ((p, w) :: P.zip vs) m x = _
    unfold bindL
    exact bindL_get (i := i) (List.nodup_cons.mp nd).2 (by simpa using h1) (by simpa using h2) hk
theorem bindC_get {kindOf : Str → Option NameKind} {x : Str} {v : Value} : ∀ {P : List Str} {vs : List Value} {i : Nat} {m : Str → Option Value}, P.Nodup → P[i]? = some x → vs[i]? = some v → kindOf x ≠ some .local →
    bindC kindOf (P.zip vs) m x = some v
  | [], _, _, _, _, h, _, _ => by simp at h
  | _ :: _, [], _, _, _, _, h, _ => by simp at h
  | p :: P, w :: vs, 0, m, nd, h1, h2, hk => by
    simp at h1 h2; subst h1; subst h2
    show bindC kindOf ((p, w) :: P.zip vs) m p = _
    unfold bindC
    rw [bindC_out fun v hv => (List.nodup_cons.mp nd).1 (List.of_mem_zip hv).1, if_neg hk]
    simp
  | p :: P, w :: vs, i + 1, m, nd, h1, h2, hk => by
    show bindC kindOf ((p, w) :: P.zip vs) m x = _
    unfold bindC
    exact bindC_get (i := i) (List.nodup_cons.mp nd).2 (by simpa using h1) (by simpa using h2) hk
def start (N : List Str) (vs : List V) : St := vs.map some ++ List.replicate (N.length - vs.length) none
def cxOf (CX : CXT) (P : Program) (w : World) (K : PySem.W.Frag) (mg : Str → Option Value) (base : Heap) (N : List Str) (qual : Str) (scope : Scope) (f : Addr) (cd : Value) (A : Around) (outer : List Env) (s : Shared) (H : Hp) (E : XK) : Cx where
  prog := P
  w := w
  K := K
  mg := mg
  base := base
  A := A.deeper (envOfC qual scope s.heap.objs.size f cd)
  N := N
  s₀ := s
  H₀ := H
  env := envOfC qual scope s.heap.objs.size f cd
  outer := outer
  stack := envOfC qual scope s.heap.objs.size f cd :: outer
  ex := []
  calm := true
  fn := fun _ => true
  pn := []
  xe := fun e s' => wpAny (model P w) (A.deeper (envOfC qual scope s.heap.objs.size f cd)) (leaving (envOfC qual scope s.heap.objs.size f cd) e) (fun _ s'' => CX outer H s E e s'') (fun e' s'' => CX outer H s E e' s'') s'
theorem cell_has {sc : Scope} {n : Nat} {x : Str} (h : sc.names.lookup x = some .cell) : ∃ c, (cellsFrom n sc.names []).lookup x = some c := by
  have q := PySem.W.cellsFrom_some sc.names n [] (.inl h)
  exact Option.isSome_iff_exists.mp q
theorem inv_start {CX : CXT} {P : Program} {w : World} {K : PySem.W.Frag} {mg : Str → Option Value} {base : Heap} {N ps : List Str} {qual : Str} {scope : Scope} {f : Addr} {cd : Value} {A : Around} {outer : List Env} {s s1 : Shared} {H : Hp} {E : XK} {us : List Value} {vs : List V}
    (S : FnScope N ps scope) (hd : A.handled = none) (e0 : Env0 P w K mg base A outer s H) (hl : vs.length = ps.length) (r : Vals vs us)
    (x : InCallC s s.heap.objs.size (bindL (envOfC qual scope s.heap.objs.size f cd).kindOf (ps.zip us) fun _ => none) (cellsFrom (s.heap.objs.size + 1) scope.names []) (bindC (envOfC qual scope s.heap.objs.size f cd).kindOf (ps.zip us) fun _ => none) s1) :
    Inv (cxOf CX P w K mg base N qual scope f cd A outer s H E) [] (start N vs) H s1 := by
  have hpl : ps.length ≤ N.length := by have := congrArg List.length S.pre; rw [List.length_take] at this; omega
  obtain ⟨h1, tk, rfl, hk⟩ := x.done
  have noA : ∀ b : Addr, b ∉ (cxOf CX P w K mg base N qual scope f cd A outer s H E).ex := fun b z => absurd (show b ∈ ([] : List Addr) from z) (by simp)
  refine ⟨⟨e0.mod, S.kind, rfl, rfl, Nat.le_refl _, fun y z c h1 h2 => ?_, fun y hy => ?_, fun y c _ h => ?_, fun _ => hd, Around.frames_deeper e0.frames, .inr ⟨rfl, rfl⟩, fun b z => absurd z (noA b), e0.bs, e0.bsz, fun b _ _ => noA b, fun b z => absurd z (noA b), e0.funs, e0.frf⟩,
    rfl, e0.bare, Un.kept hk, ⟨_, x.toInCall.ns, fun i y v h1 h2 h3 => ?_⟩, fun y c h => ⟨_, x.cell y c h⟩, e0.hok.fresh (Nat.le_refl _), fun y c h => ?_, fun p hp => absurd (show p ∈ ([] : List (Addr × Obj)) from hp) (by simp), e0.hok.kept hk, ?_⟩
  · exact name_of_addr x.apart (PySem.mem_of_lookup h1) (PySem.mem_of_lookup h2)
  · have hy : scope.names.lookup y = some .cell ∨ scope.names.lookup y = some .free := hy
    rcases hy with hy | hy
    · exact cell_has hy
    · exact absurd rfl (S.nofree _ (PySem.mem_of_lookup hy))
  · exact Nat.le_of_lt (x.above y c (PySem.mem_of_lookup h))
  · have hi : i < vs.length := by
      unfold start at h2
      by_cases hi : i < vs.length
      · exact hi
      · rw [List.getElem?_append_right (by simpa using hi)] at h2
        rw [List.getElem?_replicate] at h2
        split at h2 <;> cases h2
    have ha : vs[i]? = some v := by
      unfold start at h2
      rw [List.getElem?_append_left (by simpa using hi), List.getElem?_map] at h2
      cases e : vs[i]? with
      | none => rw [e] at h2; cases h2
      | some a => rw [e] at h2; cases h2; rfl
    obtain ⟨u, hu, rv⟩ := r.get ha
    have hp : ps[i]? = some y := by
      rw [← S.pre, List.getElem?_take_of_lt (by omega)]; exact h1
    have ndP : ps.Nodup := by rw [← S.pre]; exact S.nd.sublist (List.take_sublist _ _)
    refine ⟨u, rv, ?_⟩
    rcases S.par y (List.mem_of_getElem? hp) with k | k
    · exact .inl ⟨k, bindL_get ndP hp hu k⟩
    · obtain ⟨c, e⟩ := cell_has (n := s.heap.objs.size + 1) k
      refine .inr ⟨.inl k, c, e, ?_⟩
      have q := x.cell y c e
      rw [bindC_get ndP hp hu (by show scope.names.lookup y ≠ _; rw [k]; decide)] at q
      exact q
  · exact e0.hok.fresh (Nat.le_of_lt (x.above y c (PySem.mem_of_lookup h)))
  · unfold start
    show _ = N.length
    rw [List.length_append, List.length_map, List.length_replicate]
    omega
theorem fn_of {CX : CXT} {P : Program} {w : World} {K : PySem.W.Frag} {mg : Str → Option Value} {base : Heap} {k : Nat} {f : Addr} {name qual : Str} {params : Arguments} {body : List Stmt} {scope : Scope} {dV kV doc pm cdv ct oc : Value} {an od : Option Addr}
    {osl : Array (Option Value)} {N ps : List Str} {sp : Sp} (lk : K.lookup f = some ⟨oc, od, .func (PySem.W.fnOf name qual params body scope dV kV doc pm an cdv ct), osl⟩) (hcd : PySem.W.codeIn K cdv qual = true) (S : FnScope N ps scope)
    (len : ∀ vs H Q E, sp vs H Q E → vs.length = ps.length)
    (hbody : ∀ (A : Around) (outer : List Env) (s : Shared) (H : Hp) (vs : List V) (Q : VK) (E : XK), Room k (A.deeper (envOfC qual scope s.heap.objs.size f cdv)) → sp vs H Q E →
      ∃ t, PSs (cxOf CX P w K mg base N qual scope f cdv A outer s H E) body t ∧ t { nx := fun _ H' => Q .non H', rt := Q } (start N vs) H) :
    FnOk P w K mg base CX (k + 1) f (PySem.W.fnOf name qual params body scope dV kV doc pm an cdv ct) ps sp := by
  refine ⟨len, fun A outer s H args us vs Q E hr e0 hb r hsp => ?_⟩
  have hl := len _ _ _ _ hsp
  have KX : K.In s.heap := e0.mod.kin.keeps fun b o e => (e0.bs b o e).1
  have lim : s.heap.NoLimit := e0.mod.nolimit.keeps fun b o e => (e0.bs b o e).1
  have hkind : ∀ y ∈ ps.zip us, scope.names.lookup y.1 = some .local ∨ (scope.names.lookup y.1 = some .cell ∧ ((cellsFrom (s.heap.objs.size + 1) scope.names []).lookup y.1).isSome = true) := fun ⟨n, v⟩ hy => by
    rcases S.par n (List.of_mem_zip hy).1 with q | q
    · exact .inl q
    · exact .inr ⟨q, PySem.W.cellsFrom_some _ _ _ (.inl q)⟩
  refine codeAny_call_function hr.depth (KX _ _ lk) rfl S.co S.gen rfl (PySem.W.codeRec_of KX hcd) (hb _ _ _ _ ?_)
  refine wpAny_newFunctionEnv_cells S.kind hkind fun env he s1 x => ?_
  subst he
  refine ⟨lim.keeps x.toInCall.keep, codeAny_func ?_⟩
  obtain ⟨t, ht, hq⟩ := hbody A outer s H vs Q E (hr.deeper _) hsp
  have I : Inv (cxOf CX P w K mg base N qual scope f cdv A outer s H E) [] (start N vs) H s1 := inv_start S hr.hd e0 hl r x
  refine wpAny_mono (ht [] s1 (start N vs) H _ I hq) (fun fl s' hs => ?_) fun e s' hs => hs
  have fin : ∀ {σ' : St} {H' : Hp} {v : V} {u : Value}, Inv (cxOf CX P w K mg base N qual scope f cdv A outer s H E) [] σ' H' s' → RelV v u → Q v H' → CE outer P w H s Q u s' :=
    fun {σ' H' v u} J rv q => ⟨v, H', J.os, J.bare, J.base, J.hok, rv, q⟩
  cases fl with
  | ret u =>
    obtain ⟨v, σ', H', J, rv, q⟩ := hs
    exact fin J rv q
  | next =>
    obtain ⟨σ', H', J, q⟩ := hs
    exact fin (v := V.non) (u := Value.none) J rfl q
  | brk =>
    obtain ⟨_, _, _, q⟩ := hs
    exact False.elim q
  | cont =>
    obtain ⟨_, _, _, q⟩ := hs
    exact False.elim q
end L2
namespace L2
open PySem PySem.Spec PyProof.Rows
section
variable {X : Cx} {x : Str} {p pos : Pos} {e : Expr} {es : List Expr} {t : TA} {id T : String} {r : List V → Hp → VK → Prop}
def tCB (r : List V → Hp → VK → Prop) (t : TA) : TE := fun σ H Q => t σ H fun vs H1 => r vs H1 Q
theorem pe_callB (hc : CallR X (.builtin id) r) (hg : Gl X x) (hm : X.mg x = none) (hv : bootBuiltins x = some (.builtin id)) (ha : PA X (e :: es) t) (hn : x ≠ "__name__" := by decide) (hdb : (x == ("__debug__" : Str)) = false := by decide)
    (he : starEach (e :: es) X.env = (false, eval e X.env) :: starEach es X.env := by rfl) (hpl : (backTo pos (starEach es X.env)).any (·.1) = false := by rfl) : PE X (.Call (.Name x p) (e :: es) [] pos) (tCB r t) := by
  intro pins s σ H Q I h
  refine wpAny_Call_Name_kw (ld_blt I hg hm hv ?_ hn hdb)
  exact PyProof.Rows.callWith_builtin1 (thn (ha pos pins s σ H _ I h) fun us s1 ⟨vs, H1, I1, r1, q1⟩ => hc pins s1 σ H1 vs us Q I1 r1 q1) he hpl
theorem pe_callTy (hc : CallR X (.type T) r) (hg : Gl X x) (hm : X.mg x = none) (hv : bootBuiltins x = some (.type T)) (ha : PA X (e :: es) t) (hn : x ≠ "__name__" := by decide) (hdb : (x == ("__debug__" : Str)) = false := by decide)
    (he : starEach (e :: es) X.env = (false, eval e X.env) :: starEach es X.env := by rfl) (hpl : (backTo pos (starEach es X.env)).any (·.1) = false := by rfl) : PE X (.Call (.Name x p) (e :: es) [] pos) (tCB r t) := by
  intro pins s σ H Q I h
  refine wpAny_Call_Name_kw (ld_blt I hg hm hv ?_ hn hdb)
  exact PyProof.Rows.callWith_type1 (thn (ha pos pins s σ H _ I h) fun us s1 ⟨vs, H1, I1, r1, q1⟩ => hc pins s1 σ H1 vs us Q I1 r1 q1) he hpl
end
end L2
namespace HT
open PySem PyProof.Rows
section
open PySem.SeqAt
open PySem.AutoSeq1 (wpAny_loadPart')
open PySem.MeetsSeq PySem.MeetsSeq2 PySem.MeetsSeq3
end
section
variable {prog : Program} {w : World} {A : Around} {E : Value → Shared → Prop} {s : Shared}
theorem cat_tup {t b : Addr} {vs ws : List Value} {Q : Value → Shared → Prop} (ht : IsTup s.heap t vs.toArray) (hb : IsTup s.heap b ws.toArray) (hv : vs ≠ [])
    (h1 : ws = [] → Q (.ref t) s) (h2 : ws ≠ [] → Q (.ref s.heap.objs.size) { s with heap := s.heap.push { cls := .type "tuple", data := .seq (vs ++ ws).toArray } })
    (hsz : vs.length + ws.length ≤ sizeLine) : wpAny (model prog w) A (binaryOp .Add (.ref t) (.ref b)) Q E s := by
  obtain ⟨⟨cls, dd, data, sl⟩, ho, hc, n, hd⟩ := id ht
  obtain ⟨⟨cls2, dd2, data2, sl2⟩, ho2, hc2, n2, hd2⟩ := id hb
  simp only at hc hd hc2 hd2
  subst hc hd hc2 hd2
  have e : vs.toArray ++ ws.toArray = (vs ++ ws).toArray := by simp
  by_cases hw : ws = []
  · exact concat_meets ⟨_, ho, rfl⟩ ⟨_, ho2, rfl⟩ noFill_tuple_add seq_tuple_add PySem.F.slot_tuple_add PySem.F.entry_tuple_add (PySem.F.args_tuple_add_2 _ _)
      (tuple_addW1 t b vs.toArray ws.toArray n n2 dd dd2 sl sl2 (by simpa using hv) (by simp [hw])) ⟨ho, ho2, h1 hw⟩
  · refine concat_meets ⟨_, ho, rfl⟩ ⟨_, ho2, rfl⟩ noFill_tuple_add seq_tuple_add PySem.F.slot_tuple_add PySem.F.entry_tuple_add (PySem.F.args_tuple_add_2 _ _)
      (tuple_addW2 t b vs.toArray ws.toArray n n2 dd dd2 sl sl2 (by simpa using hv) (by simpa using hw) (by rw [List.size_toArray, List.size_toArray]; exact hsz)) ⟨ho, ho2, ?_⟩
    rw [e]
    exact h2 hw
def sIx (n d : Nat) : Option Int → Nat
  | none => d
  | some v => if v < 0 then (v + (n : Int)).toNat else min v.toNat n
theorem sIx_le (n d : Nat) (hd : d ≤ n) (o : Option Int) : sIx n d o ≤ n := by
  cases o with
  | none => exact hd
  | some v =>
    show (if v < 0 then (v + (n : Int)).toNat else min v.toNat n) ≤ n
    by_cases hv : v < 0
    · rw [if_pos hv]; omega
    · rw [if_neg hv]; exact Nat.min_le_right _ _
theorem clip_eq (v : Int) (n d : Nat) : (if v < 0 then max (v + (n : Int)) 0 else min v (n : Int)) = ((sIx n d (some v) : Nat) : Int) := by
  show (if v < 0 then max (v + (n : Int)) 0 else min v (n : Int)) = (((if v < 0 then (v + (n : Int)).toNat else min v.toNat n) : Nat) : Int)
  by_cases hv : v < 0
  · simp only [if_pos hv]; omega
  · simp only [if_neg hv]; omega
theorem adjust_gen (lo hi : Option Int) (n : Nat) : Builtin.Slice.sliceAdjust lo hi 1 (n : Int) = (((sIx n 0 lo : Nat) : Int), ((sIx n n hi : Nat) : Int)) := by
  have h1 : ¬ ((1 : Int) < 0) := by decide
  unfold Builtin.Slice.sliceAdjust
  simp only [h1, if_false]
  refine Prod.ext ?_ ?_
  · cases lo with
    | none => rfl
    | some v => exact clip_eq v n 0
  · cases hi with
    | none => rfl
    | some v => exact clip_eq v n n
theorem places_gen (i j : Nat) : Builtin.Slice.slicePlaces (i : Int) (j : Int) 1 = j - i := by
  unfold Builtin.Slice.slicePlaces
  have h1 : (1 : Int) > 0 := by decide
  simp only [h1, if_true, Int.ediv_one]
  split <;> omega
theorem slicePart_ {v : Value} {o : Option Int} {Q : Option Int → Shared → Prop} (p : IsPart v o) (h : Q o s) : wpAny (model prog w) A (Builtin.Slice.slicePartIndex v) Q E s := by
  cases p with
  | none => exact slicePart_none h
  | int i t => exact slicePart_int h
theorem sliceApplied_gen {sl : Addr} {vl vu : Value} {lo hi : Option Int} {n : Nat} {Q : Int × Int × Nat → Shared → Prop} (hs : s.heap.IsSliceOf sl vl vu .none) (pl : IsPart vl lo) (pu : IsPart vu hi)
    (h : Q (((sIx n 0 lo : Nat) : Int), 1, sIx n n hi - sIx n 0 lo) s) : wpAny (model prog w) A (Builtin.Slice.sliceApplied (.ref sl) (pure (n : Int))) Q E s := by
  obtain ⟨os, hos, hcs, hds⟩ := id hs
  unfold Builtin.Slice.sliceApplied Builtin.Slice.sliceFields
  refine wpAny_bind (wpAny_bind (wpAny_field hos hds (x := vl) rfl (wpAny_bind (wpAny_field hos hds (x := vu) rfl (wpAny_bind (wpAny_field hos hds (x := .none) rfl (wpAny_pure ?_)))))))
  refine wpAny_bind (slicePart_none ?_)
  show wpAny _ _ (if ((1 : Int) == 0) = true then _ else _) _ _ s
  rw [if_neg (by decide)]
  refine wpAny_bind (slicePart_ pl (wpAny_bind (slicePart_ pu (wpAny_bind (wpAny_pure ?_)))))
  show wpAny _ _ (match Builtin.Slice.sliceAdjust lo hi 1 (n : Int) with | (lo, hi) => pure (lo, (1 : Int), Builtin.Slice.slicePlaces lo hi 1)) _ _ s
  rw [adjust_gen lo hi n]
  show wpAny _ _ (pure (((sIx n 0 lo : Nat) : Int), (1 : Int), Builtin.Slice.slicePlaces ((sIx n 0 lo : Nat) : Int) ((sIx n n hi : Nat) : Int) 1)) _ _ s
  rw [places_gen]
  exact wpAny_pure h
theorem pick_gen (xs : Array Value) (i k : Nat) : ((List.range k).filterMap fun (m : Nat) => xs[((i : Int) + (m : Int) * 1).toNat]?).toArray = ((xs.toList.drop i).take k).toArray := by
  have e : (fun (m : Nat) => xs[((i : Int) + (m : Int) * 1).toNat]?) = fun m => xs[i + m]? := by
    funext m
    have : ((i : Int) + (m : Int) * 1).toNat = i + m := by omega
    rw [this]
  rw [e]
  have := pick_run xs i k
  rw [List.filterMap_map] at this
  have e2 : ((fun x => xs[x]?) ∘ fun x => i + x) = fun m => xs[i + m]? := rfl
  rw [e2] at this
  rw [this]
theorem getItem_tuple_cut {t sl : Addr} {items : Array Value} {vl vu : Value} {lo hi : Option Int} {Q : Value → Shared → Prop} (ht : IsTup s.heap t items) (hs : s.heap.IsSliceOf sl vl vu .none) (pl : IsPart vl lo) (pu : IsPart vu hi)
    (hw : ¬ (sIx items.size 0 lo = 0 ∧ sIx items.size items.size hi = items.size))
    (h : Q (.ref s.heap.objs.size) { s with heap := s.heap.push { cls := .type "tuple", data := .seq ((items.toList.drop (sIx items.size 0 lo)).take (sIx items.size items.size hi - sIx items.size 0 lo)).toArray } })
    (hsz : items.size ≤ sizeLine) : wpAny (model prog w) A (getItem (.ref t) (.ref sl)) Q E s := by
  have htake : sizeOk (.seq ((items.toList.drop (sIx items.size 0 lo)).take (sIx items.size items.size hi - sIx items.size 0 lo)).toArray) := by
    show ((items.toList.drop (sIx items.size 0 lo)).take (sIx items.size items.size hi - sIx items.size 0 lo)).toArray.size ≤ sizeLine
    rw [List.size_toArray, List.length_take, List.length_drop, Array.length_toList]
    omega
  have hj : sIx items.size items.size hi ≤ items.size := sIx_le _ _ (Nat.le_refl _) hi
  obtain ⟨os, hos, hcs, hds⟩ := id hs
  have hTs : s.TypeIs (.ref sl) "slice" := ⟨os, hos, hcs⟩
  unfold getItem
  try with_reducible refine wpAny_holding ?_
  first | refine wpAny_bind (wpAny_pure ?_) | skip
  refine wpAny_bind (wpAny_sequenceKey ht.typeIs (by decide) ?_)
  refine wpAny_bind (wpAny_callSpecial?_slot (name := Str.ofString "__getitem__") ht.typeIs PyProof.Rows.slot_tuple_getitem
    (wpAny_call_entry PyProof.Rows.slot_tuple_getitem ht.typeIs entry_tuple_getitem ?_ (args_tuple_getitem _ _)))
  show wpAny _ _ (Builtin.Tuple.tupleItemsOf (.ref t) >>= _) _ _ s
  refine wpAny_bind (tupleItemsOf_ ht ?_)
  refine wpAny_bind (wpAny_typeOf hTs ?_)
  rw [if_pos (by decide)]
  refine wpAny_bind (sliceApplied_gen hs pl pu ?_)
  have hno : ¬ ((((sIx items.size 0 lo : Nat) : Int) == 0 && (1 : Int) == 1 && (sIx items.size items.size hi - sIx items.size 0 lo) == items.size) = true) := by
    intro q
    rw [Bool.and_eq_true, Bool.and_eq_true] at q
    have q1 : ((sIx items.size 0 lo : Nat) : Int) = 0 := eq_of_beq q.1.1
    have q2 : sIx items.size items.size hi - sIx items.size 0 lo = items.size := eq_of_beq q.2
    exact hw ⟨by omega, by omega⟩
  show wpAny _ _ (if (((sIx items.size 0 lo : Nat) : Int) == 0 && (1 : Int) == 1 && (sIx items.size items.size hi - sIx items.size 0 lo) == items.size) = true then _ else _) _ _ s
  rw [if_neg hno, pick_gen]
  first
    | exact wpAny_bind (m := Builtin.Tuple.tupleExact _) (wpAny_newObj_type (wpAny_pure ⟨_, rfl, wpAny_pure h⟩) htake)
    | exact wpAny_bind (m := Builtin.Tuple.tupleExact _) (wpAny_newObj_type (wpAny_bind (wpAny_pure (wpAny_pure ⟨_, rfl, wpAny_pure h⟩))) htake)
    | exact wpAny_bind (wpAny_bind (m := Builtin.Tuple.tupleExact _) (wpAny_newObj_type (wpAny_pure (wpAny_pure ⟨_, rfl, wpAny_pure h⟩)) htake))
    | exact wpAny_bind (wpAny_bind (m := Builtin.Tuple.tupleExact _) (wpAny_newObj_type (wpAny_pure ⟨_, rfl, wpAny_pure h⟩) htake))
end
end HT
namespace L2
open PySem PySem.Spec PyProof.Rows
abbrev TO := St → Hp → (Option Int → Hp → Prop) → Prop
def PO (X : Cx) (e : Option Expr) (t : TO) : Prop :=
  ∀ (pins : List (Addr × Obj)) (s : Shared) (σ : St) (H : Hp) (Q : Option Int → Hp → Prop), Inv X pins σ H s → t σ H Q →
    wpAny (model X.prog X.w) X.A (evalPart e X.env) (fun u s' => ∃ o H', Inv X pins σ H' s' ∧ IsPart u o ∧ Q o H') X.xe s
def tNoPart : TO := fun _ H Q => Q none H
def tPart (t : TE) : TO := fun σ H Q => t σ H fun x H1 => ∃ i, x = .int i ∧ Q (some i) H1
theorem intsAre_of {ns : List Int} : ∀ {us : List Value}, Vals (ns.map V.int) us → IntsAre us ns := by
  induction ns with
  | nil => intro us r; rw [List.map_nil] at r; cases r; exact .nil
  | cons n ns ih =>
    intro us r
    rw [List.map_cons] at r
    cases r with
    | cons r1 r2 =>
      obtain ⟨t, e⟩ := r1
      subst e
      exact .cons n t (ih r2)
section
variable {X : Cx} {e : Expr} {te : TE} {lo hi : Option Expr} {tl th : TO} {pos p2 : Pos}
theorem po_none : PO X none tNoPart := by
  intro pins s σ H Q I h
  rw [evalPart_none]
  exact wpAny_pure ⟨none, H, I, .none, h⟩
theorem po_some (h : PE X e te) : PO X (some e) (tPart te) := by
  intro pins s σ H Q I hw
  rw [evalPart_some]
  refine thn (h pins s σ H _ I hw) fun u s1 ⟨x, H1, I1, r1, q1⟩ => ?_
  obtain ⟨i, rfl, q⟩ := q1
  obtain ⟨t, rfl⟩ := r1
  exact ⟨some i, H1, I1, .int i t, q⟩
def SlR (X : Cx) (r : V → Option Int → Option Int → Hp → VK → Prop) : Prop :=
  ∀ (pins : List (Addr × Obj)) (s : Shared) (σ : St) (H : Hp) (x : V) (v vl vu : Value) (lo hi : Option Int) (sl : Addr) (Q : VK), Inv X pins σ H s → RelV x v → s.heap.IsSliceOf sl vl vu .none → IsPart vl lo → IsPart vu hi → r x lo hi H Q →
    ∃ T id, typeLookup (.type T) "__getitem__" = pure (some (.builtin id)) ∧ s.TypeIs v T ∧ wpAny (model X.prog X.w) X.A (getItem v (.ref sl)) (EP X pins σ Q) X.xe s
def tSl (r : V → Option Int → Option Int → Hp → VK → Prop) (te : TE) (tl th : TO) : TE := fun σ H Q => te σ H fun x H1 => tl σ H1 fun l H2 => th σ H2 fun u H3 => r x l u H3 Q
theorem pe_slice {r : V → Option Int → Option Int → Hp → VK → Prop} (hr : SlR X r) (he : PE X e te) (hl : PO X lo tl) (hu : PO X hi th) : PE X (.Subscript e (.Slice lo hi none p2) pos) (tSl r te tl th) := by
  intro pins s σ H Q I h
  refine Subscript_ (thn (he pins s σ H _ I h) fun v s1 ⟨x, H1, I1, r1, q1⟩ => ?_)
  refine wpAny_Slice (thn (hl pins s1 σ H1 _ I1 q1) fun vl s2 ⟨l, H2, I2, pl, q2⟩ => thn (hu pins s2 σ H2 _ I2 q2) fun vu s3 ⟨u, H3, I3, pu, q3⟩ => ?_)
  rw [evalPart_none]
  refine wpAny_pure ?_
  have I4 : Inv X pins σ H3 { s3 with heap := s3.heap.push { cls := .type "slice", data := .fields #[vl, vu, .none] } } := I3.kept (t' := s3.toks) fun b ob q => Heap.get?_push_of_some _ q
  obtain ⟨T, id, hT, ht, hg⟩ := hr pins { s3 with heap := s3.heap.push { cls := .type "slice", data := .fields #[vl, vu, .none] } } σ H3 x v vl vu l u s3.heap.objs.size Q I4 r1 (Heap.IsSliceOf.new ..) pl pu q3
  show wpAny (model X.prog X.w) X.A (subscriptTail e (.Slice lo hi none p2) v (.ref s3.heap.objs.size)) (EP X pins σ Q) X.xe { s3 with heap := s3.heap.push { cls := .type "slice", data := .fields #[vl, vu, .none] } }
  exact tail_any (ops := [.ref s3.heap.objs.size, v]) ht hT hg (by with_unfolding_all rfl)
def cutV (xs : List V) (lo hi : Option Int) : List V := (xs.drop (HT.sIx xs.length 0 lo)).take (HT.sIx xs.length xs.length hi - HT.sIx xs.length 0 lo)
theorem cutV_length (xs : List V) (lo hi : Option Int) : (cutV xs lo hi).length ≤ xs.length := by
  unfold cutV
  rw [List.length_take, List.length_drop]
  omega
inductive RSlTP (K : PySem.W.Frag) (x : V) (lo : Option Int) (hi : Option Int) (H : Hp) (Q : VK) : Prop
  | mk (a xs : _) : (x = .ref a) → (SqT K H a xs) → (¬ (HT.sIx xs.length 0 lo = 0 ∧ HT.sIx xs.length xs.length hi = xs.length)) → (∀ p, H p = none → Q (.ref p) (upd H p (.tup (cutV xs lo hi)))) → RSlTP K x lo hi H Q
def rSlT (K : PySem.W.Frag) : V → Option Int → Option Int → Hp → VK → Prop := fun x lo hi H Q => RSlTP K x lo hi H Q
theorem sl_tup : SlR X (rSlT X.K) := by
  intro pins s σ H x v vl vu lo hi sl Q I rx hs pl pu h
  obtain ⟨a, xs, rfl, hx, hw, q⟩ := h
  cases rx
  obtain ⟨its, r, ht, hz⟩ := I.tuple hx
  have hlen : its.toArray.size = xs.length := by rw [List.size_toArray]; exact r.length.symm
  refine ⟨"tuple", _, PyProof.Rows.slot_tuple_getitem.lookup, ht.typeIs, ?_⟩
  refine HT.getItem_tuple_cut ht hs pl pu (by rw [hlen]; exact hw) ?_ (by rw [hlen]; exact hz)
  rw [hlen]
  refine ⟨.ref s.heap.objs.size, _, I.laid (t' := s.toks) (o := .tup (cutV xs lo hi)) (fun b ob q => Heap.get?_push_of_some _ q) (Nat.le_refl _) ?_, rfl, q _ (I.hok.fresh (Nat.le_refl _))⟩
  exact ⟨Nat.le_trans (cutV_length xs lo hi) hz, _, (r.drop (HT.sIx xs.length 0 lo)).take (HT.sIx xs.length xs.length hi - HT.sIx xs.length 0 lo), IsTupN.new _ _⟩
theorem Vals.nil_iff {xs : List V} {us : List Value} (r : Vals xs us) : us = [] ↔ xs = [] := by
  cases r with
  | nil => simp
  | cons _ _ => simp
end
end L2
namespace L2
open PySem PySem.Spec PyProof.Rows
def ixN (n : Nat) (i : Int) : Option Nat := if 0 ≤ i then (if i < n then some i.toNat else none) else if -(n : Int) ≤ i then some (i + n).toNat else none
def atI {α : Type} (xs : List α) (i : Int) : Option α := (ixN xs.length i).bind fun j => xs[j]?
theorem ixN_seq {n : Nat} {i : Int} {j : Nat} (h : ixN n i = some j) : seqIndex? i n = some j ∧ j < n ∧ -(n : Int) ≤ i ∧ i < n := by
  unfold ixN at h
  by_cases h0 : 0 ≤ i
  · rw [if_pos h0] at h
    by_cases h1 : i < n
    · rw [if_pos h1] at h
      have e : i.toNat = j := Option.some.inj h
      exact ⟨by rw [seqIndex_of h0 h1, e], by omega, by omega, h1⟩
    · rw [if_neg h1] at h; cases h
  · rw [if_neg h0] at h
    by_cases h1 : -(n : Int) ≤ i
    · rw [if_pos h1] at h
      have e : (i + n).toNat = j := Option.some.inj h
      exact ⟨by rw [seqIndex_neg (by omega) h1, e], by omega, h1, by omega⟩
    · rw [if_neg h1] at h; cases h
theorem atI_get {α : Type} {xs : List α} {i : Int} {v : α} (h : atI xs i = some v) : ∃ j, seqIndex? i xs.length = some j ∧ xs[j]? = some v ∧ j < xs.length ∧ -(xs.length : Int) ≤ i ∧ i < xs.length := by
  unfold atI at h
  cases e : ixN xs.length i with
  | none => rw [e] at h; cases h
  | some j =>
    rw [e] at h
    obtain ⟨h1, h2, h3, h4⟩ := ixN_seq e
    exact ⟨j, h1, h, h2, h3, h4⟩
theorem atI_nat {α : Type} {xs : List α} {j : Nat} {v : α} (h : xs[j]? = some v) : atI xs (j : Int) = some v := by
  have hj : j < xs.length := (List.getElem?_eq_some_iff.mp h).1
  have e : ixN xs.length (j : Int) = some j := by
    unfold ixN
    rw [if_pos (by exact Int.natCast_nonneg _), if_pos (by omega)]; simp
  unfold atI; rw [e]; exact h
def PlainIx (b : Expr) : Prop := ∀ o i, subscripted b false o i = operate [o, i] (getItem o i)
def IxR (X : Cx) (r : R2) : Prop :=
  ∀ (value slice : Expr) (pins : List (Addr × Obj)) (s : Shared) (σ : St) (H : Hp) (x y : V) (v u : Value) (Q : VK), Inv X pins σ H s → RelV x v → RelV y u → r x y H Q →
    subscripted slice false v u = operate [v, u] (getItem v u) → wpAny (model X.prog X.w) X.A (subscriptTail value slice v u) (EP X pins σ Q) X.xe s
def MtR (X : Cx) (id : String) (r : V → List V → Hp → VK → Prop) : Prop :=
  ∀ (pins : List (Addr × Obj)) (s : Shared) (σ : St) (H : Hp) (x : V) (xs : List V) (v : Value) (us : List Value) (Q : VK), Inv X pins σ H s → RelV x v → Vals xs us → r x xs H Q →
    wpAny (model X.prog X.w) X.A (call (.builtin id) (v :: us)) (EP X pins σ Q) X.xe s
section
variable {X : Cx} {a b : Expr} {ta tb : TE} {pos : Pos}
theorem pe_ix {r : R2} (hr : IxR X r) (ha : PE X a ta) (hb : PE X b tb) (hs : PlainIx b) : PE X (.Subscript a b pos) (tOp r ta tb) := by
  intro pins s σ H Q I h
  exact Subscript_ (binT ha hb I h fun v u s2 x y H2 I2 rx ry q => hr a b pins s2 σ H2 x y v u Q I2 rx ry q (hs _ _))
inductive RIxLP (K : PySem.W.Frag) (x : V) (y : V) (H : Hp) (Q : VK) : Prop
  | mk (p xs i v : _) : (x = .ref p) → (y = .int i) → (SqL K H p xs) → (atI xs i = some v) → (Q v H) → RIxLP K x y H Q
def rIxL (K : PySem.W.Frag) : R2 := fun x y H Q => RIxLP K x y H Q
inductive RIxTP (K : PySem.W.Frag) (x : V) (y : V) (H : Hp) (Q : VK) : Prop
  | mk (p xs i v : _) : (x = .ref p) → (y = .int i) → (SqT K H p xs) → (atI xs i = some v) → (Q v H) → RIxTP K x y H Q
def rIxT (K : PySem.W.Frag) : R2 := fun x y H Q => RIxTP K x y H Q
inductive RIxSP (x : V) (y : V) (H : Hp) (Q : VK) : Prop
  | mk (z i c : _) : (x = .str z) → (y = .int i) → (z.length ≤ sizeLine) → (atI z.cps.toList i = some c) → (Q (.str ⟨#[c]⟩) H) → RIxSP x y H Q
def rIxS : R2 := fun x y H Q => RIxSP x y H Q
theorem ix_list : IxR X (rIxL X.K) := by
  intro value slice pins s σ H x y v u Q I rx ry h hs
  obtain ⟨p, xs, i, z, rfl, rfl, hq, he, q⟩ := h
  cases rx
  obtain ⟨t, rfl⟩ := ry
  obtain ⟨its, r, pl, hz⟩ := I.list hq
  obtain ⟨j, h1, h2, h3, h4, h5⟩ := atI_get he
  obtain ⟨w, ew, rw'⟩ := r.get h2
  have hl := r.length
  have hn := line63
  have fin : EP X pins σ Q w s := ⟨z, H, I, rw', q⟩
  by_cases h0 : 0 ≤ i
  · have hj : i.toNat = j := by
      rw [seqIndex_of h0 h5] at h1
      exact Option.some.inj h1
    exact item_listR pl.isList h0 (by omega) (by rw [hj]; simpa using ew) fin hs
  · have hj : (i + (its.toArray.size : Int)).toNat = j := by
      rw [seqIndex_neg (by omega) h4] at h1
      rw [List.size_toArray, ← hl]
      exact Option.some.inj h1
    exact subscriptTail_builtinR (x := w) pl.isList.typeIs slot_list_getitem.lookup
      (wpAny_getItem_list_neg (Q := fun r s' => r = w ∧ EP X pins σ Q r s') pl.isList (by omega) (by rw [List.size_toArray] <;> omega) (by omega) (by rw [hj]; simpa using ew) ⟨rfl, fin⟩) hs
theorem ix_tup : IxR X (rIxT X.K) := by
  intro value slice pins s σ H x y v u Q I rx ry h hs
  obtain ⟨p, xs, i, z, rfl, rfl, hq, he, q⟩ := h
  cases rx
  obtain ⟨t, rfl⟩ := ry
  obtain ⟨its, r, pl, hz⟩ := I.tuple hq
  obtain ⟨j, h1, h2, h3, h4, h5⟩ := atI_get he
  obtain ⟨w, ew, rw'⟩ := r.get h2
  have hl := r.length
  have hn := line63
  have fin : EP X pins σ Q w s := ⟨z, H, I, rw', q⟩
  exact subscriptTail_builtinR (x := w) pl.typeIs slot_tuple_getitem.lookup
    (getItem_tuple (j := j) (Q := fun r s' => r = w ∧ EP X pins σ Q r s') pl (by omega) (by omega) (by rw [List.size_toArray, ← hl]; exact h1) (by simpa using ew) ⟨rfl, fin⟩) hs
theorem ix_str : IxR X rIxS := by
  intro value slice pins s σ H x y v u Q I rx ry h hs
  obtain ⟨z, i, c, rfl, rfl, hz, he, q⟩ := h
  obtain ⟨t, rfl⟩ := rx
  obtain ⟨t', rfl⟩ := ry
  obtain ⟨j, h1, h2, h3, h4, h5⟩ := atI_get he
  have hl : z.cps.toList.length = z.length := by simp [Str.length]
  rw [hl] at h1 h4 h5
  have hn := line63
  exact tail_any (typeIs_str s z t) slot_str_getitem.lookup (getItem_str (c := c) (by
    have e1 : decide (i < -(2 ^ 63 : Int)) = false := decide_eq_false (by omega)
    have e2 : decide (i ≥ 2 ^ 63) = false := decide_eq_false (by omega)
    rw [e1, e2, Bool.or_false]) (by rw [h1]; simpa using h2) ⟨.str ⟨#[c]⟩, H, I.tok _, ⟨_, rfl⟩, q⟩) hs
theorem mapSeq_set (its : List Value) (n j : Nat) (u : Value) : Obj.mapSeq (·.setIfInBounds j u) { cls := .type "list", data := .seq its.toArray n } = { cls := .type "list", data := .seq (its.set j u).toArray n } := by
  simp [Obj.mapSeq]
theorem Inv.lst {pins : List (Addr × Obj)} {σ : St} {H : Hp} {s : Shared} {p : Addr} {xs : List V} (I : Inv X pins σ H s) (h : H p = some (.lst xs)) :
    ∃ (its : List Value) (n : Nat), Vals xs its ∧ s.heap.get? p = some { cls := .type "list", data := .seq its.toArray n } ∧ xs.length ≤ sizeLine := by
  obtain ⟨z, its, n, r, e⟩ := I.hok p _ h
  exact ⟨its, n, r, e, z⟩
theorem Inv.lstUpd {pins : List (Addr × Obj)} {σ : St} {H : Hp} {s : Shared} {p : Addr} {xs ys : List V} {its its' : List Value} {n n' : Nat} {f : Obj → Obj} (I : Inv X pins σ H s) (h : H p = some (.lst xs))
    (ho : s.heap.get? p = some { cls := .type "list", data := .seq its.toArray n }) (hf : f { cls := .type "list", data := .seq its.toArray n } = { cls := .type "list", data := .seq its'.toArray n' }) (r : Vals ys its') (hz : ys.length ≤ sizeLine) (t : Nat) :
    Inv X pins σ (upd H p (.lst ys)) { s with heap := s.heap.update p f, toks := t } := by
  have e : (s.heap.update p f).get? p = some { cls := .type "list", data := .seq its'.toArray n' } := by
    rw [Heap.get?_update_self f ho (by rw [hf] <;> rfl), hf]
  refine I.write (x := p) (e := p) (by rw [h]; trivial) (.inl rfl) (fun b u hb q => (Heap.get?_update_other _ _ (Ne.symm hb)).trans q) ⟨_, e⟩ ?_
  exact ⟨hz, its', n', r, e⟩
inductive RSetLP (o : V) (i : V) (v : V) (H : Hp) (Q : (Hp → Prop)) : Prop
  | mk (p xs k j : _) : (o = .ref p) → (i = .int k) → (H p = some (.lst xs)) → (ixN xs.length k = some j) → (Q (upd H p (.lst (xs.set j v)))) → RSetLP o i v H Q
def rSetL : V → V → V → Hp → (Hp → Prop) → Prop := fun o i v H Q => RSetLP o i v H Q
theorem set_list : PSet X rSetL := by
  intro pins s σ H o i v ov iv u Q I ro ri rv h
  obtain ⟨p, xs, k, j, rfl, rfl, hp, hj, q⟩ := h
  cases ro
  obtain ⟨t, rfl⟩ := ri
  obtain ⟨its, n, r, ho, hz⟩ := I.lst hp
  obtain ⟨h1, h2, h3, h4⟩ := ixN_seq hj
  have hl := r.length
  have hn := line63
  have I' : Inv X pins σ (upd H p (.lst (xs.set j v))) { s with heap := s.heap.update p (Obj.mapSeq (·.setIfInBounds j u)) } :=
    I.lstUpd hp ho (mapSeq_set its n j u) (r.set rv j) (by rw [List.length_set]; exact hz) s.toks
  by_cases h0 : 0 ≤ k
  · have hk : k.toNat = j := by
      rw [seqIndex_of h0 h4] at h1
      exact Option.some.inj h1
    exact PySem.W.ki_setAt ho h0 (by omega) (by rw [List.size_toArray, ← hl]; exact h4) (by rw [hk]; exact ⟨_, I', q⟩)
  · have hk : (k + (its.toArray.size : Int)).toNat = j := by
      rw [seqIndex_neg (by omega) h3] at h1
      rw [List.size_toArray, ← hl]
      exact Option.some.inj h1
    exact PySem.W.ki_setBack ho (by omega) (by rw [List.size_toArray, ← hl]; exact h3) (by omega) (by rw [hk]; exact ⟨_, I', q⟩)
def flatV : V → Bool
  | .non => true
  | .bl _ => true
  | .int _ => true
  | .str _ => true
  | _ => false
def eqV : V → V → Bool
  | .non, .non => true
  | .bl a, .bl b => a == b
  | .bl a, .int b => (if a then 1 else 0) == b
  | .int a, .bl b => a == (if b then 1 else 0)
  | .int a, .int b => a == b
  | .str a, .str b => a == b
  | _, _ => false
theorem eqAt_V {A : Around} {s : Shared} {y x : V} {u v : Value} (ry : RelV y u) (rx : RelV x v) (fy : flatV y = true) (fx : flatV x = true) : SeqAt.EqAt A s u v (eqV y x) := by
  cases y with
  | non =>
    cases ry
    cases x with
    | non => cases rx; exact SeqAt.EqAt.same _
    | bl b => cases rx; exact SeqAt.EqAt.none_bool b
    | int b => obtain ⟨t, rfl⟩ := rx; exact SeqAt.EqAt.none_int b t
    | str b => obtain ⟨t, rfl⟩ := rx; exact SeqAt.EqAt.none_str b t
    | _ => exact absurd (show false = true from fx) Bool.false_ne_true
  | bl a =>
    cases ry
    cases x with
    | non => cases rx; exact SeqAt.EqAt.bool_none a
    | bl b => cases rx; exact SeqAt.EqAt.bool_bool a b
    | int b => obtain ⟨t, rfl⟩ := rx; exact SeqAt.EqAt.bool_int a b t
    | str b => obtain ⟨t, rfl⟩ := rx; exact SeqAt.EqAt.bool_str a b t
    | _ => exact absurd (show false = true from fx) Bool.false_ne_true
  | int a =>
    obtain ⟨t', rfl⟩ := ry
    cases x with
    | non => cases rx; exact SeqAt.EqAt.int_none a t'
    | bl b => cases rx; exact SeqAt.EqAt.int_bool a t' b
    | int b => obtain ⟨t, rfl⟩ := rx; exact SeqAt.EqAt.int_int a t' b t
    | str b => obtain ⟨t, rfl⟩ := rx; exact SeqAt.EqAt.int_str a t' b t
    | _ => exact absurd (show false = true from fx) Bool.false_ne_true
  | str a =>
    obtain ⟨t', rfl⟩ := ry
    cases x with
    | non => cases rx; exact SeqAt.EqAt.str_none a t'
    | bl b => cases rx; exact SeqAt.EqAt.str_bool a t' b
    | int b => obtain ⟨t, rfl⟩ := rx; exact SeqAt.EqAt.str_int a t' b t
    | str b => obtain ⟨t, rfl⟩ := rx; exact SeqAt.EqAt.str_str a t' b t
    | _ => exact absurd (show false = true from fx) Bool.false_ne_true
  | _ => exact absurd (show false = true from fy) Bool.false_ne_true
def eqU (x : V) (u : Value) : Bool := match u with
  | .none => eqV .non x
  | .bool b => eqV (.bl b) x
  | .int i _ => eqV (.int i) x
  | .str z _ => eqV (.str z) x
  | _ => false
theorem eqU_of {x y : V} {u : Value} (r : RelV y u) (f : flatV y = true) : eqU x u = eqV y x := by
  cases y with
  | non => cases r; rfl
  | bl b => cases r; rfl
  | int i => obtain ⟨t, rfl⟩ := r; rfl
  | str z => obtain ⟨t, rfl⟩ := r; rfl
  | _ => exact absurd (show false = true from f) Bool.false_ne_true
theorem any_eqU {x : V} : ∀ {xs : List V} {us : List Value}, Vals xs us → xs.all flatV = true → us.any (eqU x) = xs.any fun y => eqV y x
  | _, _, .nil, _ => rfl
  | y :: xs, u :: us, .cons r t, f => by
    rw [List.all_cons, Bool.and_eq_true] at f
    rw [List.any_cons, List.any_cons, eqU_of r f.1, any_eqU t f.2]
theorem mem_eqAt {A : Around} {s : Shared} {x : V} {v : Value} (rx : RelV x v) (fx : flatV x = true) : ∀ {xs : List V} {us : List Value}, Vals xs us → xs.all flatV = true → ∀ u ∈ us, SeqAt.EqAt A s u v (eqU x u)
  | _, _, .nil, _ => fun u hu => by cases hu
  | y :: xs, u :: us, .cons r t, f => fun u' hu => by
    rw [List.all_cons, Bool.and_eq_true] at f
    rcases List.mem_cons.mp hu with rfl | hu
    · rw [eqU_of r f.1]; exact eqAt_V r rx f.1 fx
    · exact mem_eqAt rx fx t f.2 u' hu
def inV (x : V) (xs : List V) : Bool := xs.any fun y => eqV y x
inductive RInP (K : PySem.W.Frag) (neg : Bool) (x : V) (y : V) (H : Hp) (Q : VK) : Prop
  | mk (p xs : _) : (y = .ref p) → ((SqL K H p xs ∨ SqT K H p xs)) → (flatV x = true) → (xs.all flatV = true) → (Q (.bl (if neg then !inV x xs else inV x xs)) H) → RInP K neg x y H Q
def rIn (K : PySem.W.Frag) (neg : Bool) : R2 := fun x y H Q => RInP K neg x y H Q
theorem op_in_seq : OpR X (compareOp .In) (rIn X.K false) := by
  intro pins s σ H x y v u Q I rx ry h
  obtain ⟨p, xs, rfl, hq, fx, fs, q⟩ := h
  cases ry
  rcases hq with hq | hq
  · obtain ⟨its, r, pl, hz⟩ := I.list hq
    refine SeqAt.in_listAt (eqU x) pl.isList (fun w hw => mem_eqAt rx fx r fs w (by simpa using hw)) ⟨.bl _, H, I, rfl, ?_⟩
    rw [show its.toArray.any (eqU x) = its.any (eqU x) by simp, any_eqU r fs]
    exact q
  · obtain ⟨its, r, pl, hz⟩ := I.tuple hq
    refine SeqAt.in_tupleAt (eqU x) pl (fun w hw => mem_eqAt rx fx r fs w (by simpa using hw)) ⟨.bl _, H, I, rfl, ?_⟩
    rw [show its.toArray.any (eqU x) = its.any (eqU x) by simp, any_eqU r fs]
    exact q
theorem op_notIn_seq : OpR X (compareOp .NotIn) (rIn X.K true) := by
  intro pins s σ H x y v u Q I rx ry h
  obtain ⟨p, xs, rfl, hq, fx, fs, q⟩ := h
  cases ry
  rcases hq with hq | hq
  · obtain ⟨its, r, pl, hz⟩ := I.list hq
    refine SeqAt.notIn_listAt (eqU x) pl.isList (fun w hw => mem_eqAt rx fx r fs w (by simpa using hw)) ⟨.bl _, H, I, rfl, ?_⟩
    rw [show its.toArray.any (eqU x) = its.any (eqU x) by simp, any_eqU r fs]
    exact q
  · obtain ⟨its, r, pl, hz⟩ := I.tuple hq
    refine SeqAt.notIn_tupleAt (eqU x) pl (fun w hw => mem_eqAt rx fx r fs w (by simpa using hw)) ⟨.bl _, H, I, rfl, ?_⟩
    rw [show its.toArray.any (eqU x) = its.any (eqU x) by simp, any_eqU r fs]
    exact q
theorem call_len_seq : CallR X (.builtin "len") (fun xs H Q => ∃ p ys, xs = [.ref p] ∧ (SqL X.K H p ys ∨ SqT X.K H p ys) ∧ Q (.int ys.length) H) := by
  intro pins s σ H xs us Q I r h
  obtain ⟨p, ys, rfl, hq, q⟩ := h
  obtain ⟨u, rfl, rx⟩ := vals1 r
  cases rx
  have hn := line63
  rcases hq with hq | hq
  · obtain ⟨its, r', pl, hz⟩ := I.list hq
    have hlen := r'.length
    exact Calls.call_len_list pl.isList (by simp only [List.size_toArray] <;> omega) ⟨.int ys.length, H, I.tok _, ⟨s.toks + 1, by rw [List.size_toArray, hlen]⟩, q⟩
  · obtain ⟨its, r', pl, hz⟩ := I.tuple hq
    have hlen := r'.length
    exact len_tuple pl (by simp only [List.size_toArray] <;> omega) ⟨.int ys.length, H, I.tok _, ⟨s.toks + 1, by rw [List.size_toArray, hlen]⟩, q⟩
theorem call_list_of : CallR X (.type "list") (fun xs H Q => ∃ p ys, xs = [.ref p] ∧ (SqL X.K H p ys ∨ SqT X.K H p ys) ∧ ∀ l, H l = none → Q (.ref l) (upd H l (.lst ys))) := by
  intro pins s σ H xs us Q I r h
  obtain ⟨p, ys, rfl, hq, q⟩ := h
  obtain ⟨u, rfl, rx⟩ := vals1 r
  cases rx
  have fin : ∀ (its : List Value), Vals ys its → ys.length ≤ sizeLine → ∀ (h' : Heap) (c' : Nat), (∀ b o', s.heap.get? b = some o' → h'.get? b = some o') →
      h'.get? s.heap.objs.size = some { cls := .type "list", dict := none, data := .seq its.toArray c', slots := #[] } → EP X pins σ Q (.ref s.heap.objs.size) { s with heap := h' } := fun its r' hz h' c' kp e =>
    ⟨.ref s.heap.objs.size, _, I.laid (t' := s.toks) kp (Nat.le_refl _) (show ObjOk X.prog X.w _ h' _ (.lst ys) from ⟨hz, its, c', r', e⟩), rfl, q _ (I.hok.fresh (Nat.le_refl _))⟩
  rcases hq with hq | hq
  · obtain ⟨its, r', pl, hz⟩ := I.list hq
    have hlen := r'.length
    obtain ⟨o, ho, hc, n, hd⟩ := pl.isList
    exact call_list_seq p (.inl rfl) ho hc hd (fun h' c' kp e => fin its r' hz h' c' kp e) (by simp only [List.size_toArray] <;> omega)
  · obtain ⟨its, r', pl, hz⟩ := I.tuple hq
    have hlen := r'.length
    obtain ⟨o, ho, hc, n, hd⟩ := pl
    exact call_list_seq p (.inr rfl) ho hc hd (fun h' c' kp e => fin its r' hz h' c' kp e) (by simp only [List.size_toArray] <;> omega)
theorem call_tuple_of : CallR X (.type "tuple") (fun xs H Q => ∃ p ys, xs = [.ref p] ∧ ((SqL X.K H p ys ∧ ∀ l, H l = none → Q (.ref l) (upd H l (.tup ys))) ∨ (SqT X.K H p ys ∧ Q (.ref p) H))) := by
  intro pins s σ H xs us Q I r h
  obtain ⟨p, ys, rfl, h⟩ := h
  obtain ⟨u, rfl, rx⟩ := vals1 r
  cases rx
  rcases h with ⟨hq, q⟩ | ⟨hq, q⟩
  · obtain ⟨its, r', pl, hz⟩ := I.list hq
    have hlen := r'.length
    refine call_tuple_list pl.isList (fun h' kp => ?_) (by simp only [List.size_toArray] <;> omega)
    have I1 : Inv X pins σ H { s with heap := h' } := I.kept (t' := s.toks) kp
    have I2 : Inv X pins σ (upd H h'.objs.size (.tup ys)) { s with heap := h'.push { cls := .type "tuple", data := .seq its.toArray } } :=
      I1.laid (t' := s.toks) (fun b o e => Heap.get?_push_of_some _ e) (Nat.le_refl _) (show ObjOk X.prog X.w _ _ _ (.tup ys) from ⟨hz, its, r', IsTupN.new _ _⟩)
    exact ⟨.ref h'.objs.size, _, I2, rfl, q _ (I1.hok.fresh (Nat.le_refl _))⟩
  · obtain ⟨its, r', pl, hz⟩ := I.tuple hq
    exact call_tuple_same pl ⟨.ref p, H, I, rfl, q⟩
def tyV (K : PySem.W.Frag) (T : String) (x : V) (H : Hp) : Prop := match x with
  | .str _ => T = "str"
  | .int _ => T = "int"
  | .ref p => (T = "list" ∧ ∃ xs, SqL K H p xs) ∨ (T = "tuple" ∧ ((∃ o, K.lookup p = some o ∧ o.cls = .type "tuple" ∧ o.dict = none) ∨ ∃ xs, H p = some (.tup xs))) ∨
      (T = "dict" ∧ ((∃ kvs, H p = some (.dK kvs)) ∨ ∃ kvs, H p = some (.dT kvs))) ∨ (T = "set" ∧ ∃ S n, H p = some (.set S n))
  | _ => False
theorem tyV_is {pins : List (Addr × Obj)} {σ : St} {H : Hp} {s : Shared} {T : String} {x : V} {v : Value} (I : Inv X pins σ H s) (r : RelV x v) (ty : tyV X.K T x H) :
    s.TypeIs v T ∧ ∀ a, v = .ref a → ∃ ob, s.heap.get? a = some ob ∧ ob.dict = none := by
  cases x with
  | str z =>
    obtain ⟨t, rfl⟩ := r
    cases (show T = "str" from ty)
    exact ⟨typeIs_str s z t, fun _ e => nomatch e⟩
  | int i =>
    obtain ⟨t, rfl⟩ := r
    cases (show T = "int" from ty)
    exact ⟨typeIs_int s i t, fun _ e => nomatch e⟩
  | ref p =>
    cases r
    rcases ty with ⟨rfl, xs, hq⟩ | ⟨rfl, ⟨o, hk, hc, hd⟩ | ⟨xs, hx⟩⟩ | ⟨rfl, hk⟩ | ⟨rfl, S, n, hk⟩
    · obtain ⟨its, _, pl, _⟩ := I.list hq
      refine ⟨pl.isList.typeIs, fun a e => ?_⟩
      cases e
      obtain ⟨o, n, e, c, hd, _⟩ := pl
      exact ⟨o, e, hd⟩
    · refine ⟨⟨o, I.kIn p o hk, hc⟩, fun a e => ?_⟩
      cases e
      exact ⟨o, I.kIn _ o hk, hd⟩
    · obtain ⟨_, _, _, o, e, c, d, _⟩ := (show ObjOk X.prog X.w H s.heap p (.tup xs) from I.hok p _ hx)
      refine ⟨⟨o, e, c⟩, fun a e2 => ?_⟩
      cases e2
      exact ⟨o, e, d⟩
    · have z : ∃ o, s.heap.get? p = some o ∧ o.ExactDict := by
        rcases hk with ⟨kvs, hk⟩ | ⟨kvs, hk⟩
        · obtain ⟨_, _, _, _, o, _, _, e, ex, _⟩ := I.hok p _ hk
          exact ⟨o, e, ex⟩
        · obtain ⟨_, _, _, _, o, _, _, e, ex, _⟩ := I.hok p _ hk
          exact ⟨o, e, ex⟩
      obtain ⟨o, e, ex⟩ := z
      refine ⟨⟨o, e, ex.1⟩, fun a e2 => ?_⟩
      cases e2
      exact ⟨o, e, ex.2.1⟩
    · obtain ⟨o, _, _, _, e, ex, _⟩ := I.hok p _ hk
      refine ⟨⟨o, e, ex.1⟩, fun a e2 => ?_⟩
      cases e2
      exact ⟨o, e, ex.2.1⟩
  | _ => exact False.elim ty
def tBM0 (K : PySem.W.Frag) (T : String) (r : V → List V → Hp → VK → Prop) (to : TE) : TE := fun σ H Q => to σ H fun x H1 => tyV K T x H1 ∧ r x [] H1 Q
def tBM (K : PySem.W.Frag) (T : String) (r : V → List V → Hp → VK → Prop) (to : TE) (t : TA) : TE := fun σ H Q => to σ H fun x H1 => tyV K T x H1 ∧ t σ H1 fun xs H2 => r x xs H2 Q
variable {o e : Expr} {es : List Expr} {to : TE} {t : TA} {name : Str} {apos cpos : Pos} {T id : String} {r : V → List V → Hp → VK → Prop}
theorem pe_bm0 (pa : PlainAttrs T) (slot : Slot T name id) (hty : typeOf (.builtin id) = pure (.type "method_descriptor")) (hm : MtR X id r) (ho : PE X o to)
    (hbase : attributeBase o name X.env (eval o X.env) = eval o X.env := by rfl) (hline : (apos.endLine == cpos.line) = true := by rfl) : PE X (.Call (.Attribute o name apos) [] [] cpos) (tBM0 X.K T r to) := by
  intro pins s σ H Q I h
  refine wpAny_Call_method0_late hbase hline (thn (ho pins s σ H _ I h) fun v s1 ⟨x, H1, I1, r1, ty, q1⟩ => ?_)
  obtain ⟨h1, h2⟩ := tyV_is I1 r1 ty
  exact ⟨T, id, pa, slot, hty, h1, h2, Calls.callWith_builtin rfl (PySem.evalArgs_none (hm pins s1 σ H1 x [] v [] Q I1 r1 .nil q1))⟩
theorem pe_bm (pa : PlainAttrs T) (slot : Slot T name id) (hty : typeOf (.builtin id) = pure (.type "method_descriptor")) (hm : MtR X id r) (ho : PE X o to) (ha : PA X (e :: es) t)
    (hbase : attributeBase o name X.env (eval o X.env) = eval o X.env := by rfl)
    (hfew : ((backTo cpos (starEach (e :: es) X.env)).all (fun x => !x.1) && (backToKw cpos (keywordEach [] X.env)).all (fun x => x.1.isSome)
      && decide ((e :: es).length + ([] : List Keyword).length + (if ([] : List Keyword).isEmpty then 0 else 1) < 30)) = true := by rfl)
    (hline : (apos.endLine == cpos.line) = true := by rfl) (hs : starEach (e :: es) X.env = (false, eval e X.env) :: starEach es X.env := by rfl) (hplain : (backTo cpos (starEach es X.env)).any (·.1) = false := by rfl) :
    PE X (.Call (.Attribute o name apos) (e :: es) [] cpos) (tBM X.K T r to t) := by
  intro pins s σ H Q I h
  refine wpAny_Call_method_late hbase hfew hline rfl (thn (ho pins s σ H _ I h) fun v s1 ⟨x, H1, I1, r1, ty, q1⟩ => ?_)
  obtain ⟨h1, h2⟩ := tyV_is I1 r1 ty
  refine ⟨T, id, pa, slot, hty, h1, h2, ?_⟩
  have hA := ha cpos pins s1 σ H1 _ I1 q1
  rw [hs] at hA ⊢
  refine Calls.callWith_builtin (by show (false || (backTo cpos (starEach es X.env)).any (·.1)) = false; rw [hplain] <;> rfl) (Calls.evalArgs_plain ?_)
  exact thn hA fun us s2 ⟨vs, H2, I2, r2, q2⟩ => hm pins s2 σ H2 x vs v us Q I2 r1 r2 q2
end
end L2
namespace L2
open PySem PySem.Spec PyProof.Rows
def MtM (X : Cx) (id : String) (r : V → List V → Hp → VK → Prop) : Prop :=
  ∀ (pins : List (Addr × Obj)) (s : Shared) (σ : St) (H : Hp) (x : V) (xs : List V) (v : Value) (us : List Value) (Q : VK), Inv X pins σ H s → RelV x v → Vals xs us → r x xs H Q →
    wpAny (model X.prog X.w) X.A (call (.builtin id) (v :: us)) (EP X pins σ Q) X.xe s
theorem Vals.one : ∀ {x : V} {us : List Value}, Vals [x] us → ∃ u, us = [u] ∧ RelV x u
  | _, _, .cons r .nil => ⟨_, rfl, r⟩
theorem Vals.zero : ∀ {us : List Value}, Vals [] us → us = []
  | _, .nil => rfl
theorem Vals.dropLast {xs : List V} {us : List Value} (h : Vals xs us) : Vals xs.dropLast us.dropLast := by
  induction h with
  | nil => exact .nil
  | cons r t ih =>
    cases t with
    | nil => exact .nil
    | cons q t' => exact .cons r ih
theorem Vals.eraseIdx : ∀ {xs : List V} {us : List Value} (i : Nat), Vals xs us → Vals (xs.eraseIdx i) (us.eraseIdx i)
  | _, _, _, .nil => .nil
  | _, _, 0, .cons _ t => t
  | _, _, i + 1, .cons r t => .cons r (Vals.eraseIdx i t)
theorem Vals.reverse {xs : List V} {us : List Value} (h : Vals xs us) : Vals xs.reverse us.reverse := by
  induction h with
  | nil => exact .nil
  | cons r t ih => rw [List.reverse_cons, List.reverse_cons]; exact Vals.append ih (.cons r .nil)
theorem erase_last {α : Type} (l : List α) : l.eraseIdx (l.length - 1) = l.dropLast := by
  induction l with
  | nil => rfl
  | cons a r ih =>
    cases r with
    | nil => rfl
    | cons b r =>
      have e : (a :: b :: r).length - 1 = ((b :: r).length - 1) + 1 := by
        have h1 : (a :: b :: r).length = r.length + 2 := rfl
        have h2 : (b :: r).length = r.length + 1 := rfl
        assumption
      rw [e, List.eraseIdx_cons_succ, ih]
      all_goals rfl
theorem len_erase {α : Type} : ∀ (l : List α) (i : Nat), (l.eraseIdx i).length ≤ l.length
  | [], _ => Nat.le_refl _
  | _ :: _, 0 => Nat.le_succ _
  | _ :: r, i + 1 => Nat.succ_le_succ (len_erase r i)
section
variable {X : Cx} {pins : List (Addr × Obj)} {σ : St} {H : Hp} {s : Shared} {l b : Addr} {xs ys zs : List V}
theorem Inv.lset {its its' : List Value} {n : Nat} {f : Array Value → Array Value} {t' : Nat} (I : Inv X pins σ H s) (hH : H l = some (.lst xs))
    (e : s.heap.get? l = some { cls := .type "list", data := .seq its.toArray n }) (hf : f its.toArray = its'.toArray) (hv : Vals ys its') (hz : ys.length ≤ sizeLine) :
    Inv X pins σ (upd H l (.lst ys)) { s with heap := s.heap.update l (Obj.mapSeq f), toks := t' } := by
  have q := PySem.IsL.update e f
  rw [hf] at q
  refine I.write (x := l) (e := l) (by rw [hH]; exact trivial) (.inl rfl) (fun b' u hb hu => (Heap.get?_update_other s.heap (Obj.mapSeq f) (Ne.symm hb)).trans hu) ⟨_, q⟩ ?_
  exact ⟨hz, its', _, hv, q⟩
theorem Inv.lnew {its : List Value} {t' : Nat} (I : Inv X pins σ H s) (hv : Vals ys its) (hz : ys.length ≤ sizeLine) :
    Inv X pins σ (upd H s.heap.objs.size (.lst ys)) { s with heap := s.heap.push { cls := .type "list", data := .seq its.toArray }, toks := t' } :=
  I.laid (fun _ _ q => Heap.get?_push_of_some _ q) (Nat.le_refl _) ⟨hz, its, 0, hv, Heap.get?_push_size _ rfl⟩
theorem Inv.fresh (I : Inv X pins σ H s) : H s.heap.objs.size = none := I.hok.fresh (Nat.le_refl _)
theorem Inv.lstM (I : Inv X pins σ H s) (hH : H l = some (.lst xs)) : xs.length ≤ sizeLine ∧ ∃ (its : List Value) (n : Nat), Vals xs its ∧ xs.length = its.length ∧ s.heap.get? l = some { cls := .type "list", data := .seq its.toArray n } := by
  obtain ⟨z, its, n, r, e⟩ := I.hok l _ hH
  exact ⟨z, its, n, r, r.length, e⟩
end
section
variable {X : Cx}
inductive RAppendP (x : V) (vs : List V) (H : Hp) (Q : VK) : Prop
  | mk (l xs y : _) : (x = .ref l) → (vs = [y]) → (H l = some (.lst xs)) → (xs.length < sizeLine) → (Q .non (upd H l (.lst (xs ++ [y])))) → RAppendP x vs H Q
def rAppend : V → List V → Hp → VK → Prop := fun x vs H Q => RAppendP x vs H Q
theorem mt_append : MtM X "list.append" rAppend := by
  intro pins s σ H x vs v us Q I rx rv h
  obtain ⟨l, xs, y, rfl, rfl, hH, hz, q⟩ := h
  cases rx
  obtain ⟨u, rfl, ru⟩ := rv.one
  obtain ⟨z, its, n, r, hl, e⟩ := I.lstM hH
  refine call_meets F.slot_list_append ⟨_, e, rfl⟩ F.entry_list_append (F.args_list_append_2 _ _) (PySem.list_append l its.toArray n u (by rw [List.size_toArray]; omega)) ⟨e, ?_⟩
  refine ⟨.non, _, I.lset (its' := its ++ [u]) hH e (by simp) (r.append (.cons ru .nil)) ?_, rfl, q⟩
  rw [List.length_append, List.length_singleton]
  assumption
inductive RPopP (x : V) (vs : List V) (H : Hp) (Q : VK) : Prop
  | mk (l xs y : _) : (x = .ref l) → (vs = []) → (H l = some (.lst xs)) → (xs[xs.length - 1]? = some y) → (Q y (upd H l (.lst xs.dropLast))) → RPopP x vs H Q
def rPop : V → List V → Hp → VK → Prop := fun x vs H Q => RPopP x vs H Q
theorem mt_pop : MtM X "list.pop" rPop := by
  intro pins s σ H x vs v us Q I rx rv h
  obtain ⟨l, xs, y, rfl, rfl, hH, hy, q⟩ := h
  cases rx
  have hus := rv.zero
  subst hus
  obtain ⟨z, its, n, r, hl, e⟩ := I.lstM hH
  obtain ⟨u, hu, ru⟩ := r.get hy
  have hy' : its.toArray[its.toArray.size - 1]? = some u := by
    show its.toArray[its.length - 1]? = some u
    rw [← Array.getElem?_toList, ← hl]
    exact hu
  refine call_meets F.slot_list_pop ⟨_, e, rfl⟩ F.entry_list_pop (F.args_list_pop_1 _) (MeetsSeq.list_pop_last l its.toArray n u hy' (by rw [List.size_toArray]; omega)) ⟨e, ?_⟩
  refine ⟨y, _, I.lset (its' := its.dropLast) hH e ?_ r.dropLast ?_, ru, q⟩
  · show its.toArray.eraseIdxIfInBounds (its.toArray.size - 1) = its.dropLast.toArray
    rw [List.size_toArray, List.eraseIdxIfInBounds_toArray, erase_last]
  · rw [List.length_dropLast]
    omega
inductive RPopAtP (x : V) (vs : List V) (H : Hp) (Q : VK) : Prop
  | mk (l xs i k y : _) : (x = .ref l) → (vs = [.int i]) → (H l = some (.lst xs)) → (-(2 ^ 63) ≤ i) → (i < 2 ^ 63) → (seqIndex? i xs.length = some k) → (xs[k]? = some y) → (Q y (upd H l (.lst (xs.eraseIdx k)))) → RPopAtP x vs H Q
def rPopAt : V → List V → Hp → VK → Prop := fun x vs H Q => RPopAtP x vs H Q
theorem mt_popAt : MtM X "list.pop" rPopAt := by
  intro pins s σ H x vs v us Q I rx rv h
  obtain ⟨l, xs, i, k, y, rfl, rfl, hH, h1, h2, hk, hy, q⟩ := h
  cases rx
  obtain ⟨u, rfl, ru⟩ := rv.one
  obtain ⟨t, rfl⟩ := ru
  obtain ⟨z, its, n, r, hl, e⟩ := I.lstM hH
  obtain ⟨w, hw, rw'⟩ := r.get hy
  refine call_meets F.slot_list_pop ⟨_, e, rfl⟩ F.entry_list_pop (F.args_list_pop_2 _ _)
    (MeetsSeq.list_pop_at l its.toArray n i t k w (fitsIndex_both h1 h2) (by rw [List.size_toArray, ← hl]; exact hk) (by rw [← Array.getElem?_toList]; exact hw) (by rw [List.size_toArray]; omega)) ⟨e, ?_⟩
  refine ⟨y, _, I.lset (its' := its.eraseIdx k) hH e ?_ (r.eraseIdx k) ?_, rw', q⟩
  · show its.toArray.eraseIdxIfInBounds k = (its.eraseIdx k).toArray
    rw [List.eraseIdxIfInBounds_toArray]
  · have := len_erase xs k
    exact Nat.le_trans (by assumption) (by assumption)
inductive RCatP (x : V) (y : V) (H : Hp) (Q : VK) : Prop
  | mk (l b xs zs : _) : (x = .ref l) → (y = .ref b) → (H l = some (.lst xs)) → (H b = some (.lst zs)) → (xs.length + zs.length ≤ sizeLine) → (∀ p, H p = none → Q (.ref p) (upd H p (.lst (xs ++ zs)))) → RCatP x y H Q
def rCat : R2 := fun x y H Q => RCatP x y H Q
theorem op_cat : OpR X (binaryOp .Add) rCat := by
  intro pins s σ H x y v u Q I rx ry h
  obtain ⟨l, b, xs, zs, rfl, rfl, hH, hB, hz, q⟩ := h
  cases rx
  cases ry
  obtain ⟨z, its, n, r, hl, e⟩ := I.lstM hH
  obtain ⟨z2, its2, n2, r2, hl2, e2⟩ := I.lstM hB
  refine PySem.P.add_list e e2 ?_ (by rw [List.size_toArray, List.size_toArray]; omega)
  have ea : its.toArray ++ its2.toArray = (its ++ its2).toArray := by simp
  rw [ea]
  exact ⟨.ref _, _, I.lnew (t' := s.toks) (r.append r2) (by rw [List.length_append]; assumption), rfl, q _ I.fresh⟩
end
end L2
namespace L2
open PySem PySem.Spec PyProof.Rows
section
variable {κ : Type} [DecidableEq κ]
def valV (kvs : List (κ × V)) (k : κ) : Option V := (kvs.find? fun kv => decide (kv.1 = k)).map (·.2)
def putK (kvs : List (κ × V)) (k : κ) (v : V) : List (κ × V) :=
  if (kvs.any fun kv => decide (kv.1 = k)) = true then kvs.map (fun kv => if kv.1 = k then (kv.1, v) else kv) else kvs ++ [(k, v)]
theorem valV_pos {p : κ × V} {r : List (κ × V)} {k : κ} (e : p.1 = k) : valV (p :: r) k = some p.2 := by simp [valV, List.find?_cons, e]
theorem valV_neg {p : κ × V} {r : List (κ × V)} {k : κ} (e : ¬ p.1 = k) : valV (p :: r) k = valV r k := by simp [valV, List.find?_cons, e]
theorem valV_any (k : κ) : ∀ kvs : List (κ × V), (kvs.any fun kv => decide (kv.1 = k)) = (valV kvs k).isSome
  | [] => rfl
  | p :: r => by
    rw [List.any_cons]
    by_cases e : p.1 = k
    · simp only [valV_pos e, decide_eq_true e, Bool.true_or, Option.isSome_some]
    · rw [valV_neg e, decide_eq_false e, Bool.false_or]; exact valV_any k r
theorem length_putK (kvs : List (κ × V)) (k : κ) (v : V) : (putK kvs k v).length ≤ kvs.length + 1 := by
  unfold putK
  split
  · rw [List.length_map]; exact Nat.le_add_right _ _
  · rw [List.length_append, List.length_cons, List.length_nil]; exact Nat.add_le_add_left (by decide) _
theorem putK_new {kvs : List (κ × V)} {k : κ} (v : V) (h : valV kvs k = none) : putK kvs k v = kvs ++ [(k, v)] := by
  unfold putK
  rw [valV_any, h]
  exact if_neg (by decide)
theorem RelO.isSome_eq {o : Option V} {u : Option Value} (r : RelO o u) : o.isSome = u.isSome := by
  cases o with
  | none => cases u with
    | none => rfl
    | some _ => exact (show False from r).elim
  | some _ => cases u with
    | none => exact (show False from r).elim
    | some _ => rfl
theorem RelO.getD {o : Option V} {u : Option Value} {d : V} {d' : Value} (r : RelO o u) (rd : RelV d d') : RelV (o.getD d) (u.getD d') := by
  cases o with
  | none => cases u with
    | none => exact rd
    | some _ => exact (show False from r).elim
  | some _ => cases u with
    | none => exact (show False from r).elim
    | some _ => exact r
theorem KV.val {kvs : List (κ × V)} {vs : List (κ × Value)} (r : KV kvs vs) (k : κ) : RelO (valV kvs k) (valueAt vs k) := by
  unfold KV at r
  induction r with
  | nil => exact True.intro
  | @cons p q ps qs h t ih =>
    obtain ⟨h1, h2⟩ := h
    by_cases e : p.1 = k
    · have e' : q.1 = k := h1.symm.trans e
      have b : valueAt (q :: qs) k = some q.2 := by simp [valueAt, List.find?_cons, e']
      rw [valV_pos e, b]; exact h2
    · have e' : ¬ q.1 = k := fun z => e (h1.trans z)
      have b : valueAt (q :: qs) k = valueAt qs k := by simp [valueAt, List.find?_cons, e']
      rw [valV_neg e, b]; exact ih
theorem KV.any {kvs : List (κ × V)} {vs : List (κ × Value)} (r : KV kvs vs) (k : κ) : (kvs.any fun kv => decide (kv.1 = k)) = vs.any fun kv => decide (kv.1 = k) := by
  unfold KV at r
  induction r with
  | nil => rfl
  | cons h t ih => rw [List.any_cons, List.any_cons, ih, h.1]
theorem KV.repl {kvs : List (κ × V)} {vs : List (κ × Value)} (r : KV kvs vs) (k : κ) {y : V} {u : Value} (ry : RelV y u) :
    KV (kvs.map fun kv => if kv.1 = k then (kv.1, y) else kv) (vs.map fun kv => if kv.1 = k then (kv.1, u) else kv) := by
  unfold KV at r ⊢
  induction r with
  | nil => exact .nil
  | @cons p q ps qs h t ih =>
    rw [List.map_cons, List.map_cons]
    refine .cons ?_ ih
    obtain ⟨h1, h2⟩ := h
    by_cases e : p.1 = k
    · rw [if_pos e, if_pos (h1.symm.trans e)]; exact ⟨h1, ry⟩
    · rw [if_neg e, if_neg (fun z => e (h1.trans z))]; exact ⟨h1, h2⟩
theorem KV.put {kvs : List (κ × V)} {vs : List (κ × Value)} (r : KV kvs vs) (k : κ) {y : V} {u : Value} (ry : RelV y u) : KV (putK kvs k y) (stored vs k u) := by
  unfold putK stored
  rw [r.any k]
  by_cases e : (vs.any fun kv => decide (kv.1 = k)) = true
  · rw [if_pos e, if_pos e]; exact r.repl k ry
  · rw [if_neg e, if_neg e]; exact Paired.snoc r ⟨rfl, ry⟩
theorem KV.keys {kvs : List (κ × V)} {vs : List (κ × Value)} (r : KV kvs vs) : kvs.map (·.1) = vs.map (·.1) := by
  unfold KV at r
  induction r with
  | nil => rfl
  | cons h t ih => rw [List.map_cons, List.map_cons, ih, h.1]
theorem KV.length {kvs : List (κ × V)} {vs : List (κ × Value)} (r : KV kvs vs) : kvs.length = vs.length := Paired.length r
end
theorem kV_is {P : Program} {w : World} {k : Key} {u : Value} (r : RelV (kV k) u) : (mixKind P w).is k u = true := by
  cases k with
  | inl i => obtain ⟨t, e⟩ := (show ∃ t, u = Value.int i t from r); subst e; exact mixKind_int P w i t
  | inr x => obtain ⟨t, e⟩ := (show ∃ t, u = Value.str x t from r); subst e; exact mixKind_str P w x t
theorem items_are {P : Program} {w : World} : ∀ {ks : List Key} {us : List Value}, Vals (ks.map kV) us → ItemsAre (mixKind P w) ks us
  | [], _, r => by rw [List.map_nil] at r; cases r; exact .nil
  | k :: ks, _, r => by
    rw [List.map_cons] at r
    cases r with
    | cons h t => exact .cons (kV_is h) (items_are t)
abbrev KT (H : Hp) : List (List Key × V) → List (List Key × Addr × Value) → Prop := Paired fun p q => p.1 = q.1 ∧ H q.2.1 = some (.tup (p.1.map kV)) ∧ RelV p.2 q.2.2
theorem KT.val {H : Hp} {kvs : List (List Key × V)} {xs : List (List Key × Addr × Value)} (r : KT H kvs xs) (k : List Key) : RelO (valV kvs k) ((atKey xs k).map (·.2)) := by
  induction r with
  | nil => exact True.intro
  | @cons p q ps qs h t ih =>
    obtain ⟨h1, _, h2⟩ := h
    by_cases e : p.1 = k
    · have e' : q.1 = k := h1.symm.trans e
      have b : atKey (q :: qs) k = some q.2 := by simp [atKey, List.find?_cons, e']
      rw [valV_pos e, b]; exact h2
    · have e' : ¬ q.1 = k := fun z => e (h1.trans z)
      have b : atKey (q :: qs) k = atKey qs k := by simp [atKey, List.find?_cons, e']
      rw [valV_neg e, b]; exact ih
theorem KT.repl {H : Hp} {kvs : List (List Key × V)} {xs : List (List Key × Addr × Value)} (r : KT H kvs xs) (k : List Key) {y : V} {u : Value} (ry : RelV y u) :
    KT H (kvs.map fun kv => if kv.1 = k then (kv.1, y) else kv) (xs.map (putAt k u)) := by
  induction r with
  | nil => exact .nil
  | @cons p q ps qs h t ih =>
    rw [List.map_cons, List.map_cons]
    refine .cons ?_ ih
    obtain ⟨h1, h2, h3⟩ := h
    unfold putAt
    by_cases e : p.1 = k
    · rw [if_pos e, if_pos (h1.symm.trans e)]; exact ⟨h1, h2, ry⟩
    · rw [if_neg e, if_neg (fun z => e (h1.trans z))]; exact ⟨h1, h2, h3⟩
theorem KT.put {H : Hp} {kvs : List (List Key × V)} {xs : List (List Key × Addr × Value)} (r : KT H kvs xs) (k : List Key) {b : Addr} {y : V} {u : Value} (hb : H b = some (.tup (k.map kV))) (ry : RelV y u) :
    KT H (putK kvs k y) (storedH xs k b u) := by
  have e : (kvs.any fun kv => decide (kv.1 = k)) = (atKey xs k).isSome := by
    rw [valV_any, (r.val k).isSome_eq, Option.isSome_map]
  unfold putK storedH
  rw [e]
  by_cases q : (atKey xs k).isSome = true
  · rw [if_pos q, if_pos q]; exact r.repl k ry
  · rw [if_neg q, if_neg q]; exact Paired.snoc r ⟨rfl, hb, ry⟩
theorem KT.keeps {H H' : Hp} {kvs : List (List Key × V)} {xs : List (List Key × Addr × Value)} (r : KT H kvs xs) (ht : ∀ b ys, H b = some (.tup ys) → H' b = some (.tup ys)) : KT H' kvs xs :=
  Paired.mapP r fun _ _ z => ⟨z.1, ht _ _ z.2.1, z.2.2⟩
section
variable {P : Program} {w : World} {H : Hp} {h : Heap} {a : Addr}
theorem rd_of {u : HO} (ok : HOk P w H h) (e : Rd H a u) : ObjOk P w H h a u := e.ok ok
theorem dk_rd {kvs : List (Key × V)} (ok : HOk P w H h) (e : Rd H a (.dK kvs)) : kvs.length ≤ sizeLine ∧ (a == sysModules) = false ∧ ∃ vs, KV kvs vs ∧ h.DictOf (mixKind P w) a vs :=
  show ObjOk P w H h a (.dK kvs) from rd_of ok e
theorem dk_of {kvs : List (Key × V)} (ok : HOk P w H h) (e : H a = some (.dK kvs)) : kvs.length ≤ sizeLine ∧ (a == sysModules) = false ∧ ∃ vs, KV kvs vs ∧ h.DictOf (mixKind P w) a vs := dk_rd ok (.inl e)
theorem key_of {ks : List Key} (ok : HOk P w H h) (e : H a = some (.tup (ks.map kV))) : (tupleKind (mixKind P w)).is h ks a := by
  obtain ⟨_, its, r, o, h1, h2, _, n, h3⟩ := (show ObjOk P w H h a (.tup (ks.map kV)) from ok a _ e)
  exact ⟨o, its.toArray, n, h1, h2, h3, by simpa using items_are r⟩
theorem dt_rd {kvs : List (List Key × V)} (ok : HOk P w H h) (e : Rd H a (.dT kvs)) : kvs.length ≤ sizeLine ∧ (a == sysModules) = false ∧
    ∃ xs, KT H kvs xs ∧ h.DictOfH (tupleKind (mixKind P w)) a xs := by
  obtain ⟨z, y, xs, r, o, es, ep, h1, h2, h3, h4, h5⟩ := (show ObjOk P w H h a (.dT kvs) from rd_of ok e)
  refine ⟨z, y, xs, r, o, es, ep, h1, h2, h3, h4, fun x hx => ?_, h5⟩
  have all : ∀ {l : List (List Key × V)} {m : List (List Key × Addr × Value)}, KT H l m → ∀ x ∈ m, (tupleKind (mixKind P w)).is h x.1 x.2.1 := by
    intro l m q
    induction q with
    | nil => intro x hx; exact nomatch hx
    | @cons p q ps qs hq t ih =>
      intro x hx
      rcases List.mem_cons.mp hx with e | hx
      · subst e
        exact key_of ok (by rw [← hq.1]; exact hq.2.1)
      · exact ih x hx
  exact all r x hx
theorem dt_of {kvs : List (List Key × V)} (ok : HOk P w H h) (e : H a = some (.dT kvs)) : kvs.length ≤ sizeLine ∧ (a == sysModules) = false ∧
    ∃ xs, KT H kvs xs ∧ h.DictOfH (tupleKind (mixKind P w)) a xs := dt_rd ok (.inl e)
end
def DGet (H : Hp) (a : Addr) (y : V) (r : Option V) : Prop :=
  (∃ kvs k, Rd H a (.dK kvs) ∧ y = kV k ∧ r = valV kvs k) ∨ ∃ kvs k b, Rd H a (.dT kvs) ∧ y = .ref b ∧ H b = some (.tup (k.map kV)) ∧ r = valV kvs k
def DPut (H : Hp) (a : Addr) (y v : V) (H' : Hp) : Prop :=
  (∃ kvs k, H a = some (.dK kvs) ∧ y = kV k ∧ kvs.length < sizeLine ∧ H' = upd H a (.dK (putK kvs k v))) ∨
  ∃ kvs k b, H a = some (.dT kvs) ∧ y = .ref b ∧ H b = some (.tup (k.map kV)) ∧ kvs.length < sizeLine ∧ H' = upd H a (.dT (putK kvs k v))
theorem DGet.k {H : Hp} {a : Addr} {kvs : List (Key × V)} {k : Key} (e : H a = some (.dK kvs)) : DGet H a (kV k) (valV kvs k) := .inl ⟨kvs, k, .inl e, rfl, rfl⟩
theorem DPut.k {H : Hp} {a : Addr} {kvs : List (Key × V)} {k : Key} {v : V} (e : H a = some (.dK kvs)) (hl : kvs.length < sizeLine) : DPut H a (kV k) v (upd H a (.dK (putK kvs k v))) := .inl ⟨kvs, k, e, rfl, hl, rfl⟩
section
variable {X : Cx} {pins : List (Addr × Obj)} {σ : St} {H : Hp} {s : Shared} {a : Addr} {y v : V} {u r : Value} {o : Option V} {A : Around} {E : Value → Shared → Prop}
theorem Inv.big (I : Inv X pins σ H s) : sysModules < s.heap.objs.size := by
  have h : mainGlobals < s.heap.objs.size := (I.mod.glob.keeps I.bk).lt
  exact Nat.lt_trans (by decide) h
theorem d_getItem {Q : Value → Shared → Prop} (hu : A.units + 1 < cLine) (I : Inv X pins σ H s) (g : DGet H a y (some v)) (ry : RelV y u) (h : ∀ w' s', Inv X pins σ H s' → RelV v w' → Q w' s') :
    wpAny (model X.prog X.w) A (getItem (.ref a) u) Q E s := by
  rcases g with ⟨kvs, k, e, ey, l⟩ | ⟨kvs, k, b, e, ey, eb, l⟩
  · subst ey
    obtain ⟨z, hd, vs, rel, dd⟩ := dk_rd I.hok e
    obtain ⟨w', hw, rw'⟩ := RelO.some_of (v := v) (o := valueAt vs k) (by rw [l]; exact rel.val k)
    exact wpAny_getItem_of (kV_is ry) dd.mapOf hw (h w' _ (I.tok _) rw')
  · subst ey
    cases (show u = Value.ref b from ry)
    obtain ⟨z, hd, xs, rel, dd⟩ := dt_rd I.hok e
    obtain ⟨w', hw, rw'⟩ := RelO.some_of (v := v) (o := (atKey xs k).map (·.2)) (by rw [l]; exact rel.val k)
    obtain ⟨p, hp, hp2⟩ := Option.map_eq_some_iff.mp hw
    refine wpAny_getItem_heap (tupleKind_room_in1 hu) (key_of I.hok eb) dd hp ?_
    rw [hp2]
    exact h w' _ (I.tok _) rw'
theorem d_in {Q : Value → Shared → Prop} (hu : A.units + 1 < cLine) (I : Inv X pins σ H s) (g : DGet H a y o) (ry : RelV y u) (h : ∀ s', Inv X pins σ H s' → Q (.bool o.isSome) s') :
    wpAny (model X.prog X.w) A (compareOp .In u (.ref a)) Q E s := by
  rcases g with ⟨kvs, k, e, ey, l⟩ | ⟨kvs, k, b, e, ey, eb, l⟩
  · subst ey
    obtain ⟨z, hd, vs, rel, dd⟩ := dk_rd I.hok e
    refine wpAny_in_of (kV_is ry) hd dd.mapOf ?_
    rw [← (rel.val k).isSome_eq, ← l]
    exact h _ (I.tok _)
  · subst ey
    cases (show u = Value.ref b from ry)
    obtain ⟨z, hd, xs, rel, dd⟩ := dt_rd I.hok e
    refine wpAny_in_heap (tupleKind_room_in1 hu) (key_of I.hok eb) hd dd ?_
    have q := (rel.val k).isSome_eq
    rw [Option.isSome_map] at q
    rw [← q, ← l]
    exact h _ (I.tok _)
theorem d_notIn {Q : Value → Shared → Prop} (hu : A.units + 1 < cLine) (I : Inv X pins σ H s) (g : DGet H a y o) (ry : RelV y u) (h : ∀ s', Inv X pins σ H s' → Q (.bool (!o.isSome)) s') :
    wpAny (model X.prog X.w) A (compareOp .NotIn u (.ref a)) Q E s := by
  rcases g with ⟨kvs, k, e, ey, l⟩ | ⟨kvs, k, b, e, ey, eb, l⟩
  · subst ey
    obtain ⟨z, hd, vs, rel, dd⟩ := dk_rd I.hok e
    refine wpAny_notIn_of (kV_is ry) hd dd.mapOf ?_
    rw [← (rel.val k).isSome_eq, ← l]
    exact h _ (I.tok _)
  · subst ey
    cases (show u = Value.ref b from ry)
    obtain ⟨z, hd, xs, rel, dd⟩ := dt_rd I.hok e
    refine wpAny_notIn_heap (tupleKind_room_in1 hu) (key_of I.hok eb) hd dd ?_
    have q := (rel.val k).isSome_eq
    rw [Option.isSome_map] at q
    rw [← q, ← l]
    exact h _ (I.tok _)
theorem d_write {h' : Heap} {t' : Nat} {ob : HO} (I : Inv X pins σ H s) (mu : Mut (H a)) (hs : Heap.SameBut a s.heap h') (he : ∃ q, h'.get? a = some q) (new : ObjOk X.prog X.w (upd H a ob) h' a ob) :
    Inv X pins σ (upd H a ob) { s with heap := h', toks := t' } :=
  I.write (x := a) (e := a) mu (.inl rfl) (fun b q hb z => (hs.2 b hb).trans z) he new
theorem dk_new {P : Program} {w : World} {H' : Hp} {h' : Heap} {kvs : List (Key × V)} {vs : List (Key × Value)} (z : kvs.length ≤ sizeLine) (hd : (a == sysModules) = false) (rel : KV kvs vs) (dd : h'.DictOf (mixKind P w) a vs) :
    ObjOk P w H' h' a (.dK kvs) := ⟨z, hd, vs, rel, dd⟩
theorem d_setItem {H' : Hp} {Q : Unit → Shared → Prop} (hu : A.units + 1 < cLine) (I : Inv X pins σ H s) (g : DPut H a y v H') (ry : RelV y u) (rv : RelV v r) (h : ∀ s', Inv X pins σ H' s' → Q () s') :
    wpAny (model X.prog X.w) A (setItem (.ref a) u r) Q E s := by
  rcases g with ⟨kvs, k, e, ey, l, eH⟩ | ⟨kvs, k, b, e, ey, eb, l, eH⟩
  · subst ey eH
    obtain ⟨z, hd, vs, rel, dd⟩ := dk_of I.hok e
    have hz : vs.length ≤ sizeLine := by rw [← rel.length]; exact z
    have hl : (putK kvs k v).length ≤ sizeLine := by have := length_putK kvs k v; exact Nat.le_trans (by assumption) (by assumption)
    refine wpAny_setItem_pairs (hsz := hz) (kV_is ry) dd fun h' dd' hs => h _ ?_
    have he : ∃ q, h'.get? a = some q := let ⟨q, _, _, hq, _⟩ := dd'; ⟨q, hq⟩
    exact d_write I (by rw [e]; exact True.intro) hs he (dk_new hl hd (rel.put k rv) dd')
  · subst ey eH
    cases (show u = Value.ref b from ry)
    obtain ⟨z, hd, xs, rel, dd⟩ := dt_of I.hok e
    have hz : xs.length ≤ sizeLine := by rw [← Paired.length rel]; exact z
    have hl : (putK kvs k v).length ≤ sizeLine := by have := length_putK kvs k v; exact Nat.le_trans (by assumption) (by assumption)
    refine wpAny_setItem_heap (hsz := hz) (tupleKind_room_in1 hu) (key_of I.hok eb) dd fun h' dd' hs => h _ ?_
    obtain ⟨q, es, ep, hq, h2, h3, h4, _, h5⟩ := dd'
    refine d_write I (by rw [e]; exact True.intro) hs ⟨q, hq⟩ ⟨hl, hd, _, (rel.put k eb rv).keeps fun c ys ec => ?_, q, es, ep, hq, h2, h3, h4, h5⟩
    rw [upd_ne (ne_of ec e (fun z => nomatch z))]
    exact ec
end
def NoSl (i : Expr) : Prop := ∀ ov iv, subscripted i false ov iv = operate [ov, iv] (getItem ov iv)
theorem subD_of {prog : Program} {w : World} {A : Around} {E : Value → Shared → Prop} {s : Shared} {env : Env} {value slice : Expr} {pos : Pos} {T id : String} {Q : Value → Shared → Prop}
    (hl : typeLookup (.type T) "__getitem__" = pure (some (.builtin id))) (hs : NoSl slice)
    (h : wpAny (model prog w) A (eval value env) (fun o s₁ => wpAny (model prog w) A (eval slice env) (fun i s₂ => s₂.TypeIs o T ∧ wpAny (model prog w) A (getItem o i) Q E s₂) E s₁) E s) :
    wpAny (model prog w) A (eval (.Subscript value slice pos) env) Q E s := by
  refine Subscript_ (wpAny_mono h (fun o s₁ h₁ => wpAny_mono h₁ (fun i s₂ h₂ => ?_) fun _ _ x => x) fun _ _ x => x)
  obtain ⟨hT, h₂⟩ := h₂
  unfold subscriptTail
  refine wpAny_bind ?_
  rw [getitemInPython_of_ne hT.not_modules]
  refine wpAny_bind (wpAny_specialOf hT hl ?_)
  have fin : wpAny (model prog w) A (subscripted slice false o i) (fun r s₃ => wpAny (model prog w) A (letTemporaryGo value o r >>= fun _ => pure r) Q E s₃) E s₂ := by
    rw [hs o i]
    exact wpAny_operating (wpAny_mono h₂ (fun r s₃ h₃ => wpAny_bind (wpAny_letTemporaryGo (wpAny_pure h₃))) fun _ _ x => x)
  first
    | exact wpAny_pure (wpAny_bind fin)
    | exact wpAny_bind (wpAny_pure (wpAny_bind fin))
    | exact wpAny_bind fin
theorem dict_typeIs {X : Cx} {pins : List (Addr × Obj)} {σ : St} {H : Hp} {s : Shared} {a : Addr} {y : V} {o : Option V} (I : Inv X pins σ H s) (g : DGet H a y o) : s.TypeIs (.ref a) "dict" := by
  rcases g with ⟨kvs, k, e, _, _⟩ | ⟨kvs, k, b, e, _, _, _⟩
  · obtain ⟨_, _, vs, _, dd⟩ := dk_rd I.hok e
    exact dd.typeIs
  · obtain ⟨_, _, xs, _, dd⟩ := dt_rd I.hok e
    exact dd.typeIs
def tDGet (td ty : TE) : TE := fun σ H Q => td σ H fun x H1 => ty σ H1 fun y H2 => ∃ a v, x = .ref a ∧ DGet H2 a y (some v) ∧ Q v H2
def tDIn (ty td : TE) : TE := fun σ H Q => ty σ H fun y H1 => td σ H1 fun x H2 => ∃ a o, x = .ref a ∧ DGet H2 a y o ∧ Q (.bl o.isSome) H2
def tDNotIn (ty td : TE) : TE := fun σ H Q => ty σ H fun y H1 => td σ H1 fun x H2 => ∃ a o, x = .ref a ∧ DGet H2 a y o ∧ Q (.bl (!o.isSome)) H2
def sDPut (td ty tv : TE) : TS := fun D σ H => tv σ H fun v H1 => td σ H1 fun x H2 => ty σ H2 fun y H3 => ∃ a H4, x = .ref a ∧ DPut H3 a y v H4 ∧ D.nx σ H4
section
variable {X : Cx} {o i e value : Expr} {pos pos' tpos : Pos} {td ty tv : TE}
theorem pe_dget (hu : X.A.units + 1 < cLine) (ho : PE X o td) (hi : PE X i ty) (hs : NoSl i) : PE X (.Subscript o i pos) (tDGet td ty) := by
  intro pins s σ H Q I h
  refine subD_of PySem.F.slot_dict_getitem.lookup hs (thn (ho pins s σ H _ I h) fun u s1 ⟨x, H1, I1, rx, q1⟩ => thn (hi pins s1 σ H1 _ I1 q1) fun iv s2 ⟨y, H2, I2, ry, a, v, ex, g, q2⟩ => ?_)
  subst ex
  obtain rfl : u = Value.ref a := rx
  exact ⟨dict_typeIs I2 g, d_getItem hu I2 g ry fun w' s3 I3 rw' => ⟨v, H2, I3, rw', q2⟩⟩
theorem pc_din (hu : X.A.units + 1 < cLine) (hi : PE X i ty) (ho : PE X o td) : PC X .In i o (tDIn ty td) := by
  intro pins s σ H Q I h
  refine thn (hi pins s σ H _ I h) fun iv s1 ⟨y, H1, I1, ry, q1⟩ => thn (ho pins s1 σ H1 _ I1 q1) fun u s2 ⟨x, H2, I2, rx, a, ov, ex, g, q2⟩ => ?_
  subst ex
  obtain rfl : u = Value.ref a := rx
  exact d_in hu I2 g ry fun s3 I3 => ⟨.bl ov.isSome, H2, I3, rfl, q2⟩
theorem pc_dnotin (hu : X.A.units + 1 < cLine) (hi : PE X i ty) (ho : PE X o td) : PC X .NotIn i o (tDNotIn ty td) := by
  intro pins s σ H Q I h
  refine thn (hi pins s σ H _ I h) fun iv s1 ⟨y, H1, I1, ry, q1⟩ => thn (ho pins s1 σ H1 _ I1 q1) fun u s2 ⟨x, H2, I2, rx, a, ov, ex, g, q2⟩ => ?_
  subst ex
  obtain rfl : u = Value.ref a := rx
  exact d_notIn hu I2 g ry fun s3 I3 => ⟨.bl (!ov.isSome), H2, I3, rfl, q2⟩
theorem ps_dput (hu : X.A.units + 1 < cLine) (ho : PE X o td) (hi : PE X i ty) (hv : PE X value tv) (hs : swapsWith value (some (.Subscript o i pos')) pos.line X.env = pure false) :
    PS X (.Assign [.Subscript o i pos'] value pos) (sDPut td ty tv) := by
  intro pins s σ H D I h
  refine wpAny_Assign_Subscript (thn (hv pins s σ H _ I h) fun r s1 ⟨v, H1, I1, rv, q1⟩ => thn (ho pins s1 σ H1 _ I1 q1) fun u s2 ⟨x, H2, I2, rx, q2⟩ => thn (hi pins s2 σ H2 _ I2 q2) fun iv s3 ⟨y, H3, I3, ry, a, H4, ex, g, q3⟩ => ?_) hs
  subst ex
  obtain rfl : u = Value.ref a := rx
  exact d_setItem hu I3 g ry rv fun s4 I4 => ⟨σ, H4, I4, q3⟩
end
theorem dk_empty {P : Program} {w : World} {H : Hp} (h : Heap) (hb : sysModules < h.objs.size) : ObjOk P w H (h.push { cls := .type "dict", data := .dict #[] }) h.objs.size (.dK []) :=
  ⟨Nat.zero_le _, beq_eq_false_iff_ne.mpr (Ne.symm (Nat.ne_of_lt hb)), [], .nil, Heap.DictOf.new h⟩
def tDNewK : TE := fun _ H Q => ∀ p, H p = none → Q (.ref p) (upd H p (.dK []))
section
variable {X : Cx} {pos : Pos}
theorem pe_dnewK : PE X (.Dict [] [] pos) tDNewK := fun pins s σ H Q I h =>
  wpAny_Dict_empty ⟨.ref s.heap.objs.size, _, I.laid (a := s.heap.objs.size) (o := .dK []) (t' := s.toks) (fun _ _ q => Heap.get?_push_of_some _ q) (Nat.le_refl _) (dk_empty s.heap I.big), rfl, h _ (I.hok.fresh (Nat.le_refl _))⟩
end
def tPairs : List (TE × TE) → St → Hp → (List (V × V) → Hp → Prop) → Prop
  | [], _, H, Q => Q [] H
  | (tk, tv) :: r, σ, H, Q => tk σ H fun x H1 => tv σ H1 fun y H2 => tPairs r σ H2 fun ps H3 => Q ((x, y) :: ps) H3
abbrev VV : List (V × V) → List (Value × Value) → Prop := Paired fun p q => RelV p.1 q.1 ∧ RelV p.2 q.2
def PPs (X : Cx) (pos : Pos) (keys : List (Option Expr)) (values : List Expr) (trs : List (TE × TE)) : Prop :=
  ∀ (pins : List (Addr × Obj)) (s : Shared) (σ : St) (H : Hp) (Q : List (V × V) → Hp → Prop), Inv X pins σ H s → tPairs trs σ H Q →
    wpAny (model X.prog X.w) X.A (evalPairs (pairTrees keys values X.env pos)) (fun vs s' => ∃ ps H', Inv X pins σ H' s' ∧ VV ps vs ∧ Q ps H') X.xe s
theorem pps_nil {X : Cx} {pos : Pos} : PPs X pos [] [] [] := fun pins s σ H Q I h => pairTrees_nil_walk ⟨[], H, I, .nil, h⟩
theorem pps_cons {X : Cx} {pos : Pos} {k v : Expr} {ks : List (Option Expr)} {vs : List Expr} {tk tv : TE} {trs : List (TE × TE)} (hk : PE X k tk) (hv : PE X v tv) (hr : PPs X pos ks vs trs) :
    PPs X pos (some k :: ks) (v :: vs) ((tk, tv) :: trs) := fun pins s σ H Q I h =>
  pairTrees_cons_walk (thn (hk pins s σ H _ I h) fun u s1 ⟨x, H1, I1, rx, q1⟩ => thn (hv pins s1 σ H1 _ I1 q1) fun w2 s2 ⟨y, H2, I2, ry, q2⟩ =>
    thn (hr pins s2 σ H2 _ I2 q2) fun ws s3 ⟨ps, H3, I3, rel, q3⟩ => ⟨(x, y) :: ps, H3, I3, .cons ⟨rx, ry⟩ rel, q3⟩)
def mergeK (kvs more : List (Key × V)) : List (Key × V) := more.foldl (fun acc kv => putK acc kv.1 kv.2) kvs
theorem KV.merge : ∀ {more : List (Key × V)} {rs : List (Key × Value)} {kvs : List (Key × V)} {vs : List (Key × Value)}, KV more rs → KV kvs vs → KV (mergeK kvs more) (merged vs rs) := by
  intro more rs kvs vs r
  unfold KV at r
  induction r generalizing kvs vs with
  | nil => intro q; exact q
  | @cons p q ps qs h t ih =>
    intro r0
    have e : KV (putK kvs p.1 p.2) (stored vs q.1 q.2) := by
      have := r0.put p.1 h.2
      rw [← h.1]; exact this
    exact ih e
theorem length_mergeK : ∀ (more kvs : List (Key × V)), (mergeK kvs more).length ≤ kvs.length + more.length
  | [], kvs => by show kvs.length ≤ kvs.length + 0; exact Nat.le_add_right _ _
  | p :: r, kvs => by
    have h1 := length_mergeK r (putK kvs p.1 p.2)
    have h2 := length_putK kvs p.1 p.2
    show (mergeK (putK kvs p.1 p.2) r).length ≤ _
    rw [List.length_cons]; omega
theorem carries_of {P : Program} {w : World} : ∀ {kvs : List (Key × V)} {ws : List (Value × Value)}, VV (kvs.map fun kv => (kV kv.1, kv.2)) ws → ∃ rs, Carries (mixKind P w) ws rs ∧ KV kvs rs
  | [], _, r => by rw [List.map_nil] at r; cases r; exact ⟨[], True.intro, .nil⟩
  | p :: kvs, _, r => by
    rw [List.map_cons] at r
    cases r with
    | @cons a b as bs h t =>
      obtain ⟨rs, c, q⟩ := carries_of (P := P) (w := w) t
      obtain ⟨b1, b2⟩ := b
      exact ⟨(p.1, b2) :: rs, ⟨kV_is h.1, rfl, c⟩, .cons ⟨rfl, h.2⟩ q⟩
def tDisp (trs : List (TE × TE)) : TE := fun σ H Q => ∀ p, H p = none → tPairs trs σ (upd H p (.dK [])) fun ps H2 => H2 p = some (.dK []) ∧ ∃ kvs : List (Key × V), ps = kvs.map (fun kv => (kV kv.1, kv.2)) ∧ kvs.length ≤ 15 ∧ Q (.ref p) (upd H2 p (.dK (mergeK [] kvs)))
theorem pe_disp {X : Cx} {pos : Pos} {keys : List (Option Expr)} {values : List Expr} {trs : List (TE × TE)} (h : PPs X pos keys values trs) (hall : keys.all (·.isSome) = true) (hl : keys.length = values.length) (h0 : keys ≠ [])
    (h15 : keys.length ≤ 15) : PE X (.Dict keys values pos) (tDisp trs) := by
  intro pins s σ H Q I q
  have hn := I.hok.fresh (Nat.le_refl s.heap.objs.size)
  have I1 := I.laid (a := s.heap.objs.size) (o := .dK []) (h' := s.heap.push { cls := .type "dict", data := .dict #[] }) (t' := s.toks) (fun _ _ q => Heap.get?_push_of_some _ q) (Nat.le_refl _) (dk_empty s.heap I.big)
  refine wpAny_Dict_walk (knd := mixKind X.prog X.w) hall hl h0 h15 (thn (h pins _ σ _ _ I1 (q _ hn)) fun ws s2 ⟨ps, H2, I2, rel, e, kvs, ep, lk, q2⟩ => ?_)
  subst ep
  obtain ⟨rs, c, rk⟩ := carries_of (P := X.prog) (w := X.w) rel
  obtain ⟨z, hd, vs0, r0, dd⟩ := dk_of I2.hok e
  cases r0
  refine ⟨rs, c, dd, fun h' dd' hs => ⟨.ref s.heap.objs.size, _, ?_, rfl, q2⟩⟩
  have hz : (mergeK [] kvs).length ≤ sizeLine := by
    have h1 := length_mergeK kvs []
    rw [List.length_nil] at h1
    rw [sizeLine_eq]; omega
  have he : ∃ q, h'.get? s.heap.objs.size = some q := let ⟨q, _, _, hq, _⟩ := dd'; ⟨q, hq⟩
  exact d_write I2 (by rw [e]; exact True.intro) hs he (dk_new hz hd (rk.merge .nil) dd')
structure M2 (X : Cx) (o : Expr) (m : Str) (apos : Pos) (e f : Expr) (cpos : Pos) : Prop where
  base : attributeBase o m X.env (eval o X.env) = eval o X.env
  few : ((backTo cpos (starEach [e, f] X.env)).all (fun x => !x.1) && (backToKw cpos (keywordEach [] X.env)).all (fun x => x.1.isSome)
    && decide (([e, f] : List Expr).length + ([] : List Keyword).length + (if ([] : List Keyword).isEmpty then 0 else 1) < 30)) = true
  line : (apos.endLine == cpos.line) = true
  trees : backTo cpos (starEach [e, f] X.env) = [(false, eval e X.env), (false, eval f X.env)]
def IsD (H : Hp) (a : Addr) : Prop := (∃ kvs, Rd H a (.dK kvs)) ∨ ∃ kvs, Rd H a (.dT kvs)
theorem isD_at {X : Cx} {pins : List (Addr × Obj)} {σ : St} {H : Hp} {s : Shared} {a : Addr} (I : Inv X pins σ H s) (d : IsD H a) :
    s.TypeIs (.ref a) "dict" ∧ (∀ b, Value.ref a = .ref b → ∃ ob, s.heap.get? b = some ob ∧ ob.dict = none) ∧ (a == sysModules) = false := by
  rcases d with ⟨kvs, e⟩ | ⟨kvs, e⟩
  · obtain ⟨_, hd, vs, _, dd⟩ := dk_rd I.hok e
    refine ⟨dd.typeIs, fun b q => ?_, hd⟩
    cases q
    obtain ⟨ob, _, _, h1, h2, _⟩ := dd
    exact ⟨ob, h1, h2.2.1⟩
  · obtain ⟨_, hd, xs, _, dd⟩ := dt_rd I.hok e
    refine ⟨dd.typeIs, fun b q => ?_, hd⟩
    cases q
    obtain ⟨ob, _, _, h1, h2, _⟩ := dd
    exact ⟨ob, h1, h2.2.1⟩
section
variable {X : Cx} {pins : List (Addr × Obj)} {σ : St} {H : Hp} {s : Shared} {a : Addr} {y d : V} {u r : Value} {o : Option V} {A : Around} {E : Value → Shared → Prop}
theorem d_get2 {Q : Value → Shared → Prop} (hu : A.units + 1 < cLine) (I : Inv X pins σ H s) (g : DGet H a y o) (ry : RelV y u) (rd : RelV d r) (h : ∀ w' s', Inv X pins σ H s' → RelV (o.getD d) w' → Q w' s') :
    wpAny (model X.prog X.w) A (call (.builtin "dict.get") [.ref a, u, r]) Q E s := by
  rcases g with ⟨kvs, k, e, ey, l⟩ | ⟨kvs, k, b, e, ey, eb, l⟩
  · subst ey
    obtain ⟨z, hd, vs, rel, dd⟩ := dk_rd I.hok e
    refine call_meetsIn PySem.F.slot_dict_get dd.typeIs PySem.F.entry_dict_get (PySem.F.args_dict_get_3 _ _ _) (meets_dict_get_default (mixKind X.prog X.w) a (kV_is ry) hd r) ⟨_, dd.mapOf, h _ _ (I.tok _) ?_⟩
    rw [l]
    exact (rel.val k).getD rd
  · subst ey
    cases (show u = Value.ref b from ry)
    obtain ⟨z, hd, xs, rel, dd⟩ := dt_rd I.hok e
    refine call_meetsIn PySem.F.slot_dict_get dd.typeIs PySem.F.entry_dict_get (PySem.F.args_dict_get_3 _ _ _) (meetsH_dict_get_default (tupleKind (mixKind X.prog X.w)) a b hd r) ⟨tupleKind_room_in1 hu, k, xs, key_of I.hok eb, dd, h _ _ (I.tok _) ?_⟩
    rw [l]
    exact (rel.val k).getD rd
end
def tDGet2 (td ty tx : TE) : TE := fun σ H Q => td σ H fun x H1 => ∃ a, x = .ref a ∧ IsD H1 a ∧ ty σ H1 fun y H2 => tx σ H2 fun z H3 => ∃ o, DGet H3 a y o ∧ Q (o.getD z) H3
section
variable {X : Cx} {o e f : Expr} {apos cpos : Pos} {td ty tx : TE}
theorem pe_dget2 (hu : X.A.units + 1 < cLine) (ho : PE X o td) (he : PE X e ty) (hf : PE X f tx) (m : M2 X o "get" apos e f cpos) : PE X (.Call (.Attribute o "get" apos) [e, f] [] cpos) (tDGet2 td ty tx) := by
  intro pins s σ H Q I h
  refine wpAny_Call_method m.base m.few m.line PySem.F.plainAttrs_dict PySem.F.slot_dict_get PySem.F.type_dict_get (thn (ho pins s σ H _ I h) fun u s1 ⟨x, H1, I1, rx, a, ex, d, q1⟩ => ?_)
  subst ex
  obtain rfl : u = Value.ref a := rx
  obtain ⟨t1, t2, _⟩ := isD_at I1 d
  refine ⟨t1, t2, ?_⟩
  rw [m.trees]
  refine Calls.callWith_builtin rfl (Calls.evalArgs_plain (Calls.spliced_cons (thn (he pins s1 σ H1 _ I1 q1) fun iv s2 ⟨y, H2, I2, ry, q2⟩ =>
    Calls.spliced_cons (thn (hf pins s2 σ H2 _ I2 q2) fun fv s3 ⟨z, H3, I3, rz, ov, g, q3⟩ => Calls.spliced_nil ?_))))
  exact d_get2 hu I3 g ry rz fun w' s4 I4 rw' => ⟨_, H3, I4, rw', q3⟩
end
end L2
namespace Att
open PySem PySem.W PySem.Calls PyProof.Rows
theorem ints_of_wellAll {P : Params} {h : Heap} : ∀ (ns : List Int) (vs : List Value), WellAll P h vs (ns.map WData.int) → IntsAre vs ns := by
  intro ns
  induction ns with
  | nil =>
    intro vs w
    rw [List.map_nil] at w
    cases w
    exact .nil
  | cons n ns ih =>
    intro vs w
    rw [List.map_cons] at w
    cases w with
    | cons a b =>
      cases a
      exact .cons _ _ (ih _ b)
theorem script_of {l : OpenLaw} {n : Nat} (hn : l.most = some n) {P : Params} {h : Heap} {args : List WData} {vals : List Value}
    (hpre : l.row.toRowW.claim.pre args = true) (hwl : WellAll P h vals args) :
    ∃ a vs ns, vals = [Value.ref a] ∧ args = [WData.list (ns.map WData.int)] ∧ h.get? a = some { cls := .type "list", data := .seq vs.toArray } ∧ IntsAre vs ns ∧ ns.length ≤ n := by
  have hsh : WShape.hasAll [] args [.list .int] = true := (pre_splitW hpre).1
  have hc : l.pre.holds [] { args := args } = true := (pre_splitW hpre).2
  obtain ⟨d, r, rfl, h1, h2⟩ := hasAllW_cons hsh
  obtain rfl := hasAllW_nil h2
  obtain ⟨xs, rfl, h3⟩ := hasW_list h1
  obtain ⟨ns, rfl⟩ := items_int h3
  have hlen : ns.length ≤ n := by
    unfold OpenLaw.pre at hc
    have h4 : (WTm.not (.lt (.lit (.int (n : Int))) (.len (.arg 0)))).holds [] { args := [.list (ns.map .int)] } = true := by
      have h4 := (holds_andW hc).1
      rw [hn] at h4
      exact h4
    have h5 := condW_of h4 (w_not (w_lt w_lit (w_len_list (w_arg rfl))))
    rw [List.length_map] at h5
    refine Nat.le_of_not_lt fun q => ?_
    have q' : (n : Int) < ((ns.length : Nat) : Int) := by omega
    first
      | (rw [decide_eq_true q'] at h5; exact absurd h5 (by decide))
      | (simp at h5; omega)
  cases hwl with
  | cons w1 w2 =>
    cases w2
    cases w1 with
    | list ho hall => exact ⟨_, _, ns, rfl, rfl, ho, ints_of_wellAll ns _ hall, hlen⟩
theorem post_true (l : OpenLaw) (args : List WData) : l.row.toRowW.claim.post args (.bool true) args = true :=
  postW_of (r := l.row.toRowW) (X := (true == true))
    (show WShape.has [] (.bool true) .bool = true by first | rfl | decide | simp [WShape.has, WShape.arms, WShape.armsAll])
    (show (WTm.eq .res (.lit (.bool true))).value [] { args := args, res := some (.bool true), after := args } = some (.bool (true == true)) from w_eq_bool (w_res rfl) w_lit) rfl
theorem attach_call {l : OpenLaw} {n : Nat} {q : Program} {loose : List Str} {XP : (Str → Option Value) → Heap → Prop} {YP : World → Heap → Prop} {d : DefRec}
    (hn : l.most = some n) (hdf : d.params.defaults = [])
    (call : ∀ (w : World) (s₀ s₁ : Shared) (mg mb : Str → Option Value) (fa : Addr) (o : Obj) (pm cd doc : Value) (a : Addr) (vs : List Value) (ns : List Int),
      Ground q loose [] XP w s₀ mg mb s₁.heap → YP w s₁.heap →
      s₁.heap.get? fa = some o → o.data = .func (docDef d.name d.params d.body d.scope pm cd doc) → s₁.heap.CodeRec cd d.name → mg d.name = some (.ref fa) →
      s₁.heap.get? a = some { cls := .type "list", data := .seq vs.toArray } → IntsAre vs ns → ns.length ≤ n → s₁.gens = #[] →
      codeAny (model l.prog w) callerA (.call (.ref fa) ⟨[.ref a], []⟩) (fun r s' => r = .ok (.ret (.bool true)) ∧ OldK s₁.heap s'.heap ∧ s'.os = s₁.os ∧ AllBare s'.gens) s₁) :
    WalkO q loose XP YP l.row.toRowW d [] (fun f vs => PySem.call f vs) := by
  intro w s₀ s₁ mg mb G Y fa o pm cd doc dV kV ho hd hcd hD hmg hg args vals as hpre hlay hrd hwl hlo
  obtain rfl : dV = .none := Dflts.none hD hdf
  obtain rfl : kV = .none := Dflts.noKw hD
  obtain ⟨a, vs, ns, rfl, rfl, hobj, hints, hlen⟩ := script_of hn hpre hwl
  refine enter_call (codeAny_mono (call w s₀ s₁ mg mb fa o pm cd doc a vs ns G Y ho (fd_plain hd) hcd hmg hobj hints hlen hg) fun r s' hq => ?_)
  obtain ⟨rfl, h2, h3, h4⟩ := hq
  exact ⟨.inl ⟨.bool true, .bool true, [], rfl, fun _ => rfl, .bool true, post_true l _, fun _ => ⟨List.Pairwise.nil, fun _ hm => (nomatch hm)⟩⟩, h2, h3, h4⟩
end Att
namespace L2
open PySem PySem.Spec PyProof.Rows
theorem vals_ints : ∀ {vs : List Value} {ns : List Int}, IntsAre vs ns → Vals (ns.map V.int) vs
  | _, _, .nil => .nil
  | _, _, .cons n t h => .cons ⟨t, rfl⟩ (vals_ints h)
def Only (H : Hp) : Prop := ∀ b, H b = none ∨ ∃ o xs, H b = some (.frz o (.lst xs))
theorem law_call {P : Program} {w : World} {K : PySem.W.Frag} {mg mb : Str → Option Value} {CX : CXT} {k : Nat} {fa a : Addr} {fd : FuncData} {x : Str} {sp : Sp} {s₁ : Shared} {vs : List Value} {ns : List Int}
    (KX : K.In s₁.heap) (hns : s₁.heap.Ns mainGlobals mg) (hb : s₁.heap.Ns builtinsNs mb) (hbb : ∀ x : Str, x ≠ "__name__" → mb x = bootBuiltins x) (hlim : s₁.heap.NoLimit) (hg : s₁.gens = #[])
    (ha : s₁.heap.get? a = some { cls := .type "list", data := .seq vs.toArray }) (hi : IntsAre vs ns) (hl : ns.length ≤ sizeLine) (hr : Room k callerA)
    (F : ∀ base : Heap, K.In base → base.Ns mainGlobals mg → FnOk P w K mg base CX k fa fd [x] sp) (hbind : ∀ (s : Shared) (u : Value), BindsTo s fd ⟨[u], []⟩ [(x, u)])
    (hsp : ∀ H : Hp, Only H → SqL K H a (ns.map V.int) → sp [.ref a] H (fun v _ => v = .bl true) fun _ _ _ => False)
    (hCX : ∀ H e s', CX [] H s₁ (fun _ _ _ => False) e s' → False) :
    codeAny (model P w) callerA (.call (.ref fa) ⟨[.ref a], []⟩) (fun r s' => r = .ok (.ret (.bool true)) ∧ OldK s₁.heap s'.heap ∧ s'.os = s₁.os ∧ AllBare s'.gens) s₁ := by
  have rv := vals_ints hi
  have lenV := hi.length
  have core : ∀ H : Hp, Only H → SqL K H a (ns.map V.int) → HOk P w H s₁.heap → (∀ b, H b ≠ none → b = a) → (H a ≠ none → K.lookup a = none) →
      codeAny (model P w) callerA (.call (.ref fa) ⟨[.ref a], []⟩) (fun r s' => r = .ok (.ret (.bool true)) ∧ OldK s₁.heap s'.heap ∧ s'.os = s₁.os ∧ AllBare s'.gens) s₁ := by
    intro H hO hS hok hA hK
    have base_of : ∀ {b : Addr} {o : Obj}, s₁.heap.get? b = some o → H b = none → (hidT s₁.heap H).get? b = some o := fun e n => hidT_get e n
    have noA : ∀ {b : Addr} {o : Obj} {es : Array DictEntry} {ep : Nat}, s₁.heap.get? b = some o → o.data = .dict es ep → H b = none := fun {b o es ep} e d => by
      cases q : H b with
      | none => rfl
      | some u =>
        have e' : b = a := hA b (by rw [q]; simp)
        subst e'
        rw [ha] at e; cases e
        have d' : Data.seq vs.toArray _ = Data.dict es ep := d
        cases d'
    have nsK : ∀ {b : Addr} {m : Str → Option Value}, s₁.heap.Ns b m → (hidT s₁.heap H).Ns b m := fun {b m} ⟨o, es, ep, e, d, r⟩ => ⟨o, es, ep, base_of e (noA e d), d, r⟩
    have hKb : K.In (hidT s₁.heap H) := fun b o e => base_of (KX b o e) (by
      cases q : H b with
      | none => rfl
      | some u =>
        have e' : b = a := hA b (by rw [q]; simp)
        subst e'
        rw [hK (by rw [q]; simp)] at e; cases e)
    have hM : Mod K mg (hidT s₁.heap H) := ⟨hKb, nsK hns, ⟨mb, nsK hb, hbb⟩, let ⟨mc, h1, h2⟩ := hlim; ⟨mc, nsK h1, h2⟩⟩
    have e0 : Env0 P w K mg (hidT s₁.heap H) callerA [] s₁ H := ⟨rfl, hM, fun b o e => of_hidT e, Nat.le_of_eq (hidT_size _ _), trivial, fun b hb => absurd (show b ∈ ([] : List Addr) from hb) (by simp), hok, .of_eq hg⟩
    refine codeAny_mono ((F _ hKb (nsK hns)).run callerA [] s₁ H ⟨[.ref a], []⟩ [.ref a] [.ref a] _ _ hr e0 (hbind s₁ (.ref a)) (.cons rfl .nil) (hsp H hO hS)) fun r s' h => ?_
    cases r with
    | error e => exact (hCX H e s' h).elim
    | ok fl =>
      cases fl with
      | next => exact False.elim h
      | brk => exact False.elim h
      | cont => exact False.elim h
      | ret u =>
        obtain ⟨v, H', os, bare, un, hok', r', q⟩ := h
        have q' : v = .bl true := q
        subst q'
        obtain rfl : u = Value.bool true := r'
        refine ⟨rfl, OldK.of_keep fun b o e => ?_, os, bare⟩
        cases q : H b with
        | none => exact un.keep b o e q (by intro z; exact absurd (show b ∈ ([] : List Addr) from z) (by simp)) (by simp)
        | some u =>
          rcases hO b with z | ⟨ob, xs, z⟩
          · rw [q] at z; cases z
          · have z2 := un.frzs b ob _ z
            obtain ⟨e1, _⟩ := hok b _ z
            obtain ⟨e2, _⟩ := hok' b _ z2
            rw [e] at e1; cases e1
            exact e2
  cases hk : K.lookup a with
  | some o =>
    have e := KX a o hk
    rw [ha] at e
    cases e
    refine core (fun _ => none) (fun _ => .inl rfl) (.inr ⟨_, vs.toArray, _, hk, rfl, rfl, rfl, by rw [List.size_toArray, lenV]; exact hl, by simpa using rv⟩) (fun b u z => by have z' : (none : Option HO) = some u := z; cases z') (fun b z => absurd rfl z) fun z => absurd rfl z
  | none =>
    refine core (fun b => if b = a then some (.frz { cls := .type "list", data := .seq vs.toArray } (.lst (ns.map V.int))) else none) (fun b => ?_) (.inl (.inr ⟨{ cls := .type "list", data := .seq vs.toArray }, if_pos rfl⟩)) (fun b u z => ?_) (fun b z => ?_) fun _ => hk
    · by_cases hb : b = a
      · exact .inr ⟨_, _, if_pos hb⟩
      · exact .inl (if_neg hb)
    · by_cases hb : b = a
      · have z' := (if_pos hb).symm.trans z
        cases z'
        subst hb
        exact ⟨ha, by rw [List.length_map]; exact hl, vs, _, rv, ha⟩
      · have z' := (if_neg hb).symm.trans z
        cases z'
    · by_cases hb : b = a
      · exact hb
      · exact absurd (if_neg hb) z
end L2
namespace L2
open PySem PySem.Spec PyProof.Rows
theorem walk_of {l : PySem.W.OpenLaw} {n k : Nat} {q : Program} {loose : List Str} {XP : (Str → Option Value) → Heap → Prop} {YP : World → Heap → Prop} {d : DefRec} {K : Params → PySem.W.Frag} {CX : World → CXT} {sp : World → Sp} {x : Str}
    (hn : l.most = some n) (hn2 : n ≤ sizeLine) (hdf : d.params.defaults = []) (hr : Room k callerA)
    (hY : ∀ (w : World) (h : Heap), YP w h → (K w.params).In h)
    (F : ∀ (w : World) (mg : Str → Option Value) (fa : Addr) (h : Heap), (K w.params).In h → h.Ns mainGlobals mg → mg d.name = some (.ref fa) →
      ∃ fd : FuncData, (∀ (s : Shared) (u : Value), BindsTo s fd ⟨[u], []⟩ [(x, u)]) ∧
        ∀ base : Heap, (K w.params).In base → base.Ns mainGlobals mg → FnOk l.prog w (K w.params) mg base (CX w) k fa fd [x] (sp w))
    (hsp : ∀ (w : World) (H : Hp) (a : Addr) (ns : List Int), ns.length ≤ n → Only H → SqL (K w.params) H a (ns.map V.int) → sp w [.ref a] H (fun v _ => v = .bl true) fun _ _ _ => False)
    (hCX : ∀ (w : World) (H : Hp) (s : Shared) (e : Value) (s' : Shared), CX w [] H s (fun _ _ _ => False) e s' → False) :
    PySem.W.WalkO q loose XP YP l.row.toRowW d [] (fun f vs => PySem.call f vs) := by
  refine Att.attach_call hn hdf fun w s₀ s₁ mg mb fa o pm cd doc a vs ns G Y ho hd hcd hmg hobj hints hlen hg => ?_
  have KX := hY w _ Y
  obtain ⟨fd, hb, hF⟩ := F w mg fa _ KX G.T.g hmg
  exact law_call KX G.T.g G.T.b G.T.builtins G.T.nolimit hg hobj hints (Nat.le_trans hlen hn2) hr hF hb (fun H hO hS => hsp w H a ns hlen hO hS) fun H e s' => hCX w H s₁ e s'
end L2
/- THE LAST THEOREM (shape; LID, My.* are yours):
   My.Adr: a structure of the addresses that your layer names (classes, functions); My.Txt K t: a structure (Prop) of the equations over K;
   My.txt_mk : {K} {implicit addresses ..} (e1 : nsIn K mainGlobals "law" = some (some (.ref f))) (e2 : K.lookup f = some ⟨oc, od, .func (fnOf "law" "law" params body scope dV kV doc pm an cdv ct), sl⟩) (e3 : codeIn K cdv "law" = true) .. : ∃ t, My.Txt K t
set_option maxRecDepth 100000 in
set_option maxHeartbeats 0 in
theorem PySem.Challenge.cw_LID_holds : PySem.Challenge.rw_LID.Holds := by
  w_on; o_law; k_head; (case hw => w_witness2)
  k_fill
  refine L2.walk_of (l := PySem.Challenge.rw_LID) (n := 63) (k := 40) (x := "script") (CX := fun w => ..) (sp := fun _ => My.sp_law) rfl (by decide) rfl ⟨rfl, by decide, by decide⟩ (fun w h Y => PySem.W.kIn_of Y) ?F ?S ?C
  case F =>
    intro w mg fa h KX G hmg
    have T : ∃ t, My.Txt (L2.KOf KX) t := by
      dsimp only [L2.KOf]                          -- K must stand as «<heap const> w.params» for k_is
      refine' My.txt_mk ?e1 ?e2 ?e3 ..
      (case e1 => PySem.W.k_is)                    -- in the order: a name -> its address -> its object -> its parts
      (case e2 => PySem.W.k_is)
      ..
    obtain ⟨t, T⟩ := T
    have e0 := hmg.symm.trans (PySem.W.mg_of KX G T.law)
    cases e0                                       -- fa is the law's own address
    exact ⟨_, fun s u => .of_eq rfl, fun base kb nb => My.law_fn T kb nb⟩     -- if «.of_eq rfl» comes too early: refine' ⟨_, ?b, fun base kb nb => My.law_fn T kb nb⟩; exact fun s u => .of_eq rfl
  case S => exact fun w H a ns hl hO hS => ..
  case C => exact ..
(the tactic k_is has no namespace: write k_is) -/
namespace L2
open PySem PySem.Spec PyProof.Rows
def defArgs (s : Stmt) : Arguments := match s with
  | .FunctionDef _ a _ _ _ _ _ _ _ _ => a
  | _ => { posonlyargs := [], args := [], vararg := none, kwonlyargs := [], kw_defaults := [], kwarg := none, defaults := [] }
def defBody (s : Stmt) : List Stmt := match s with
  | .FunctionDef _ _ b _ _ _ _ _ _ _ => b
  | _ => []
def defScope (s : Stmt) : Scope := match s with
  | .FunctionDef _ _ _ _ _ _ sc _ _ _ => sc
  | _ => { kind := .function, names := [], isGenerator := false, isCoroutine := false }
abbrev CX0 : CXT := fun _ _ _ _ _ _ => False
abbrev E0 : XK := fun _ _ _ => False
theorem pass0 {X : Cx} : Passes CX0 X E0 := fun _ _ _ _ _ _ _ h => h.elim
structure Fun (K : PySem.W.Frag) (x qual : Str) (st : Stmt) (f : Addr) (fd : FuncData) : Prop where
  ex : ∃ (oc : Value) (od : Option Addr) (kV doc pm : Value) (an : Option Addr) (cdv ct : Value) (osl : Array (Option Value)),
    fd = PySem.W.fnOf x qual (defArgs st) (defBody st) (defScope st) .none kV doc pm an cdv ct ∧ K.lookup f = some ⟨oc, od, .func fd, osl⟩ ∧ PySem.W.codeIn K cdv qual = true
  kp : PySem.W.keepIn K (.ref f) = true
section
variable {P : Program} {w : World} {K : PySem.W.Frag} {mg : Str → Option Value} {base : Heap}
theorem Fun.ok {x qual : Str} {st : Stmt} {f : Addr} {fd : FuncData} {N ps : List Str} {k : Nat} {sp : Sp} (F : Fun K x qual st f fd) (S : FnScope N ps (defScope st)) (len : ∀ vs H Q E, sp vs H Q E → vs.length = ps.length)
    (hbody : ∀ (cdv : Value) (A : Around) (outer : List Env) (s : Shared) (H : Hp) (vs : List V) (Q : VK) (E : XK), Room k (A.deeper (envOfC qual (defScope st) s.heap.objs.size f cdv)) → sp vs H Q E →
      ∃ t, PSs (cxOf CX0 P w K mg base N qual (defScope st) f cdv A outer s H E).nox (defBody st) t ∧ t { nx := fun _ H' => Q .non H', rt := Q } (start N vs) H) : FnOk P w K mg base CX0 (k + 1) f fd ps sp := by
  obtain ⟨oc, od, kV, doc, pm, an, cdv, ct, osl, rfl, lk, hcd⟩ := F.ex
  refine fn_of lk hcd S len fun A outer s H vs Q E hr hsp => ?_
  obtain ⟨t, h, q⟩ := hbody cdv A outer s H vs Q E hr hsp
  exact ⟨t, h.nox, q⟩
theorem Fun.binds {x qual : Str} {st : Stmt} {f : Addr} {fd : FuncData} {ps : List Str} (F : Fun K x qual st f fd)
    (h : ∀ (kV doc pm : Value) (an : Option Addr) (cdv ct : Value) (us : List Value), us.length = ps.length → bindArgs (PySem.W.fnOf x qual (defArgs st) (defBody st) (defScope st) .none kV doc pm an cdv ct) ⟨us, []⟩ = pure (ps.zip us)) : Binds K fd ps [] := by
  obtain ⟨oc, od, kV, doc, pm, an, cdv, ct, osl, rfl, lk, hcd⟩ := F.ex
  exact .all (h kV doc pm an cdv ct)
theorem fun_mk {x qual : Str} {st : Stmt} {f : Addr} {oc : Value} {od an : Option Addr} {osl : Array (Option Value)} {kV doc pm cdv ct : Value} (l : K.lookup f = some ⟨oc, od, .func (PySem.W.fnOf x qual (defArgs st) (defBody st) (defScope st) .none kV doc pm an cdv ct), osl⟩)
    (c : PySem.W.codeIn K cdv qual = true) (k : PySem.W.keepIn K (.ref f) = true) : Fun K x qual st f (PySem.W.fnOf x qual (defArgs st) (defBody st) (defScope st) .none kV doc pm an cdv ct) := ⟨⟨oc, od, kV, doc, pm, an, cdv, ct, osl, rfl, l, c⟩, k⟩
end
theorem hu_of {A : Around} {k : Nat} (hr : Room k A) : A.units + 1 < cLine := Nat.lt_of_le_of_lt (Nat.add_le_add_left (by decide : 1 ≤ 64) _) hr.units
theorem small1000 {n : Nat} (h : n ≤ 1000) : n < sizeLine := Nat.lt_of_le_of_lt h (by decide)
section
variable {X : Cx}
theorem pv (i : Nat) {x : Str} {pos : Pos} (hN : X.N[i]? = some x := by rfl) (hv : Vis X.env.scope x := by first | exact Or.inl rfl | exact Or.inr (Or.inl rfl) | exact Or.inr (Or.inr rfl)) (hd : (x == ("__debug__" : Str)) = false := by decide)
    (hcd : (x == ("__classdict__" : Str)) = false := by decide) : PE X (.Name x pos) (tVar i) := pe_var hN hv hd hcd
end
theorem iteF {A B : Prop} (h : B) : if false = true then A else B := by
  rw [if_neg Bool.false_ne_true]
  exact h
theorem iteT {A B : Prop} (h : A) : if true = true then A else B := by
  rw [if_pos rfl]
  exact h
theorem ite2 {c A B : Prop} [Decidable c] (h1 : c → A) (h2 : ¬ c → B) : if c then A else B := by
  by_cases h : c
  · rw [if_pos h]
    exact h1 h
  · rw [if_neg h]
    exact h2 h
def Same (H H' : Hp) : Prop := ∀ b o, H b = some o → H' b = some o
theorem Same.trans {H H1 H2 : Hp} (a : Same H H1) (b : Same H1 H2) : Same H H2 := fun c o h => b c o (a c o h)
end L2
set_option maxHeartbeats 4000000
namespace L2
open PySem PySem.Spec PyProof.Rows
def closes (env : Env) : List (Str × NameKind) → List (Str × Addr) → List (Str × Addr)
  | [], cs => cs
  | (n, k) :: r, cs => closes env r (if k = .free then (n, (env.cells.lookup n).getD 0) :: cs else cs)
theorem closes_ok {env : Env} : ∀ (ns : List (Str × NameKind)) (cs : List (Str × Addr)), (∀ p ∈ ns, p.2 = .free → (env.cells.lookup p.1).isSome = true) →
    (forIn ns cs fun (x : Str × NameKind) r => (do
      let mut cs := r
      if x.2 == .free then cs := (x.1, ← cellOf env x.1) :: cs
      pure (ForInStep.yield cs) : Sem (ForInStep (List (Str × Addr))))) = pure (closes env ns cs)
  | [], cs, _ => rfl
  | (n, k) :: r, cs, h => by
    have ih := fun cs => closes_ok (env := env) r cs fun p hp => h p (List.mem_cons_of_mem _ hp)
    rw [List.forIn_cons]
    by_cases hk : k = .free
    · subst hk
      have q := h (n, .free) List.mem_cons_self rfl
      obtain ⟨c, hc⟩ := Option.isSome_iff_exists.mp q
      have e : cellOf env n = pure c := by unfold cellOf; rw [hc]
      simp only [e]
      simp [closes, hc, ih]
      have := ih ((n, c) :: cs)
      simpa using this
    · have hb : (k == NameKind.free) = false := by simpa using hk
      simp [closes, hk]
      have := ih cs
      simpa using this
theorem closureFor_closes {scope : Scope} {env : Env} (h : ∀ p ∈ scope.names, p.2 = .free → (env.cells.lookup p.1).isSome = true) : closureFor scope env = pure (closes env scope.names []) := by
  have q := closes_ok (env := env) scope.names [] h
  unfold closureFor
  simp at q ⊢
  exact q
theorem closes_sub {env : Env} : ∀ (ns : List (Str × NameKind)) (cs : List (Str × Addr)), (∀ p ∈ ns, p.2 = .free → (env.cells.lookup p.1).isSome = true) → (∀ y c, cs.lookup y = some c → env.cells.lookup y = some c) →
    ∀ y c, (closes env ns cs).lookup y = some c → env.cells.lookup y = some c
  | [], cs, _, h, y, c, e => h y c e
  | (n, k) :: r, cs, h, hc, y, c, e => by
    unfold closes at e
    refine closes_sub r _ (fun p hp => h p (List.mem_cons_of_mem _ hp)) ?_ y c e
    intro y c e
    by_cases hk : k = .free
    · subst hk
      rw [if_pos rfl] at e
      obtain ⟨d, hd⟩ := Option.isSome_iff_exists.mp (h (n, .free) List.mem_cons_self rfl)
      rw [List.lookup_cons] at e
      cases q : y == n with
      | true =>
        rw [q] at e
        have : y = n := by simpa using q
        subst this
        rw [hd] at e ⊢
        exact e
      | false =>
        rw [q] at e
        exact hc y c e
    · rw [if_neg hk] at e
      exact hc y c e
theorem closes_keep {env : Env} {y : Str} : ∀ (ns : List (Str × NameKind)) (cs : List (Str × Addr)), (cs.lookup y).isSome = true → ((closes env ns cs).lookup y).isSome = true
  | [], cs, h => h
  | (n, k) :: r, cs, h => by
    unfold closes
    refine closes_keep r _ ?_
    split
    · rw [List.lookup_cons]
      split
      · rfl
      · exact h
    · exact h
theorem closes_has {env : Env} {y : Str} : ∀ (ns : List (Str × NameKind)) (cs : List (Str × Addr)), (y, NameKind.free) ∈ ns → ((closes env ns cs).lookup y).isSome = true
  | (n, k) :: r, cs, h => by
    unfold closes
    rcases List.mem_cons.mp h with e | e
    · cases e
      refine closes_keep r _ ?_
      rw [if_pos rfl, List.lookup_cons]
      simp
    · exact closes_has r _ e
def compCx (X : Cx) (scope : Scope) (N : List Str) (C : Addr) (s : Shared) (H : Hp) (ex : List Addr) (pins : List (Addr × Obj)) : Cx where
  prog := X.prog
  w := X.w
  K := X.K
  mg := X.mg
  base := X.base
  A := X.A
  N := N
  s₀ := s
  H₀ := H
  env := compEnvC scope (closes X.env scope.names []) C X.env
  outer := X.stack
  stack := X.stack
  ex := ex
  fn := fun _ => false
  calm := X.calm
  pn := X.pn ++ pins
  xe := fun _ _ => False
def cst (nT : Nat) (js : List Nat) (σ : St) : St := List.replicate nT none ++ js.map fun j => (σ[j]?).join
structure CScope (X : Cx) (scope : Scope) (T F : List Str) (js : List Nat) : Prop where
  kind : scope.kind = .function
  nocell : ∀ y ∈ scope.names, y.2 ≠ .cell
  names : ∀ x ∈ scope.names, x.2 = .local → scope.names.lookup x.1 = some .local
  free : ∀ x ∈ scope.names, x.2 = .free → X.env.kindOf x.1 = some .cell
  loc : ∀ y ∈ T, (relabel scope X.env).names.lookup y = some .local
  cel : ∀ y ∈ F, (relabel scope X.env).names.lookup y = some .cell ∧ X.env.kindOf y = some .cell ∧ (y, NameKind.free) ∈ scope.names
  all : ∀ x ∈ (relabel scope X.env).names, (x.2 = .cell ∨ x.2 = .free) → (x.1, NameKind.free) ∈ scope.names
  js : js.map (fun j => X.N[j]?) = F.map some
section
variable {X : Cx} {scope : Scope} {T F : List Str} {js : List Nat}
theorem comp_inv {pins : List (Addr × Obj)} {σ : St} {H : Hp} {s : Shared} {h1 : Heap} {tk : Nat} {fp : List Addr} {m : Str → Option Value} (S : CScope X scope T F js) (I : Inv X pins σ H s)
    (hn : h1.Ns s.heap.objs.size m) (kk : ∀ b o, s.heap.get? b = some o → h1.get? b = some o) (hf : ∀ b ∈ fp, FpOk X pins H b ∧ ∃ o, s.heap.get? b = some o ∧ ∀ v, o.data ≠ .cell v) :
    Inv (compCx X scope (T ++ F) s.heap.objs.size s H fp pins) [] (cst T.length js σ) H { s with heap := h1, toks := tk } := by
  have sub := closes_sub (env := X.env) scope.names [] (fun p hp hk => by
    obtain ⟨c, e⟩ := I.ok.has p.1 (.inl (S.free p hp hk))
    rw [e]; rfl) (fun y c e => by simp at e)
  have ltC : ∀ y c, X.env.cells.lookup y = some c → c < s.heap.objs.size := fun y c e => by
    obtain ⟨v, z⟩ := I.cell y c e
    exact z.lt
  refine ⟨⟨I.ok.mod, ?_, I.ok.glob, I.ok.blt, Nat.le_refl _, fun x y c e1 e2 => I.ok.inj x y c (sub x c e1) (sub y c e2), fun x hx => ?_, fun x c hx => absurd hx Bool.false_ne_true, I.ok.hd, I.ok.frames, .inl rfl, fun b hb => ?_, I.bs, ?_, fun b o e hb => ?_, fun b hb hs => ?_, I.stack, I.stkFree⟩,
    rfl, I.bare, Un.kept kk, ⟨m, hn, fun i x v e1 e2 e3 => ?_⟩, fun x c e => ?_, I.hok.fresh (Nat.le_refl _), fun x c e => I.freeC x c (sub x c e), fun p hp => ?_, I.hok.kept kk, ?_⟩
  · show (relabel scope X.env).kind = .function
    exact S.kind
  · have hx : (relabel scope X.env).names.lookup x = some .cell ∨ (relabel scope X.env).names.lookup x = some .free := hx
    have hm : (x, NameKind.free) ∈ scope.names := by
      rcases hx with h | h
      · exact S.all _ (PySem.mem_of_lookup h) (.inl rfl)
      · exact S.all _ (PySem.mem_of_lookup h) (.inr rfl)
    exact Option.isSome_iff_exists.mp (closes_has scope.names [] hm)
  · obtain ⟨⟨f0, f1, f2, f3, f4, f5⟩, o, ho, _⟩ := hf b hb
    exact ⟨Nat.ne_of_lt (Heap.lt_size ho), fun x c e => f4 x c (sub x c e)⟩
  · exact Nat.le_trans I.ok.bsz I.sz
  · obtain ⟨⟨f0, f1, f2, f3, f4, f5⟩, _⟩ := hf b hb
    rcases f3 with z | z
    · exact I.ok.noex b o e z
    · exact absurd (Nat.lt_of_lt_of_le (Heap.lt_size e) (Nat.le_trans I.ok.bsz z)) (Nat.lt_irrefl _)
  · obtain ⟨⟨f0, f1, f2, f3, f4, f5⟩, _⟩ := hf b hb
    rcases List.mem_cons.mp (I.stkSub b hs) with z | z
    · exact f1 z
    · exact f2 z
  · -- a name's value
    have hi : T.length ≤ i := by
      by_cases hi : i < T.length
      · unfold cst at e2
        rw [List.getElem?_append_left (by simpa using hi), List.getElem?_replicate] at e2
        split at e2 <;> cases e2
      · exact Nat.not_lt.mp (by assumption)
    obtain ⟨k, rfl⟩ : ∃ k, i = T.length + k := ⟨i - T.length, by omega⟩
    have e1 : (T ++ F)[T.length + k]? = some x := e1
    rw [List.getElem?_append_right (by assumption)] at e1
    have e1 : F[k]? = some x := by simpa using e1
    unfold cst at e2
    rw [List.getElem?_append_right (by simp)] at e2
    have e2 : (js.map fun j => (σ[j]?).join)[k]? = some (some v) := by simpa using e2
    rw [List.getElem?_map] at e2
    cases ej : js[k]? with
    | none => rw [ej] at e2; cases e2
    | some j =>
      rw [ej] at e2
      have e2 : (σ[j]?).join = some v := by simpa using e2
      have e3' : σ[j]? = some (some v) := by
        cases q : σ[j]? with
        | none => rw [q] at e2; cases e2
        | some z => rw [q] at e2; cases z with
          | none => cases e2
          | some z => simp at e2; rw [e2]
      have eN : X.N[j]? = some x := by
        have q := congrArg (fun l => l[k]?) S.js
        simp only [List.getElem?_map, ej, e1] at q
        simpa using q
      obtain ⟨c1, c2, c3⟩ := S.cel x (List.mem_of_getElem? e1)
      obtain ⟨m0, hn0, hl⟩ := I.loc
      obtain ⟨u, ru, lk⟩ := hl j x v eN e3' (.inr (.inl c2))
      refine ⟨u, ru, ?_⟩
      rcases lk with ⟨z, _⟩ | ⟨_, c, ec, hc⟩
      · rw [c2] at z; cases z
      · obtain ⟨c', ec'⟩ := Option.isSome_iff_exists.mp (closes_has (env := X.env) scope.names [] c3)
        have := sub x c' ec'
        rw [ec] at this; cases this
        refine .inr ⟨.inl c1, c, ec', ?_⟩
        obtain ⟨o, ho, hd⟩ := hc
        exact ⟨o, kk _ _ ho, hd⟩
  · obtain ⟨v, o, ho, hd⟩ := I.cell x c (sub x c e)
    exact ⟨v, o, kk _ _ ho, hd⟩
  · have hp : p ∈ (X.pn ++ pins) ++ [] := hp
    rw [List.append_nil] at hp
    obtain ⟨e, n, ne, nf, d⟩ := I.pin p hp
    refine ⟨kk _ _ e, n, Nat.ne_of_lt (Heap.lt_size e), fun z => ?_, d⟩
    rcases List.mem_cons.mp (I.stkSub p.1 z) with q | q
    · exact ne q
    · exact nf q
  · unfold cst
    show _ = (T ++ F).length
    have q := congrArg List.length S.js
    simp at q
    simp [q]
def PIf (X : Cx) (ifs : List Expr) (t : TT) : Prop :=
  ∀ (pins : List (Addr × Obj)) (s : Shared) (σ : St) (H : Hp) (Q : Bool → Hp → Prop), Inv X pins σ H s → t σ H Q →
    wpAny (model X.prog X.w) X.A (forIn ifs true fun c r => if r = true then do let ok ← isTrue c X.env (eval c X.env); pure (ForInStep.yield ok) else pure (ForInStep.yield r)) (TP X pins σ Q) X.xe s
def tYes : TT := fun _ H Q => Q true H
theorem pif_nil : PIf X [] tYes := fun pins s σ H Q I h => wpAny_tests_nil ⟨H, I, h⟩
theorem pif_one {c : Expr} {t : TT} (h : PT X c t) : PIf X [c] t := fun pins s σ H Q I hw => wpAny_tests_one (h pins s σ H Q I hw)
def cturn (g : TG) (ti : TT) (te : TE) (D : Addr) (x : V) (σ : St) (ys : List V) (H : Hp) (N : St → List V → Hp → Prop) : Prop :=
  g x σ H fun σ2 H2 => ti σ2 H2 fun b H3 => if b = true then te σ2 H3 fun y H4 => H4 D = some (.lst ys) ∧ ys.length < sizeLine ∧ N σ2 (ys ++ [y]) (upd H4 D (.lst (ys ++ [y]))) else N σ2 ys H3
def cgo (J : It) (g : TG) (ti : TT) (te : TE) (D : Addr) (σ : St) (H : Hp) (Q : VK) : Prop :=
  ∃ W : Nat → Nat → St → List V → Hp → Prop, (∃ m, W 0 m σ [] (upd H D (.lst []))) ∧ ∀ i m σ ys H, W i m σ ys H → H D = some (.lst ys) ∧
    ((J.stop i H ∧ Q (.ref D) H) ∨ (J.go i H ∧ ∃ N : St → List V → Hp → Prop, (∀ σ' ys' H', N σ' ys' H' → ∃ m', m' < m ∧ W (i + 1) m' σ' ys' H') ∧ ∀ x H', J.yld i H x H' → cturn g ti te D x σ ys H' N))
def tComp (wi : TI) (g : TG) (ti : TT) (te : TE) (nT : Nat) (js : List Nat) : TE := fun σ H Q => wi σ H fun J H1 => ∀ D, H1 D = none → cgo J g ti te D (cst nT js σ) H1 Q
theorem comp_out {pins : List (Addr × Obj)} {σ σ' : St} {H H' : Hp} {s s' : Shared} {h' : Heap} {N : List Str} {fp : List Addr} (I : Inv X pins σ H s) (hf : ∀ b ∈ fp, FpOk X pins H b)
    (J : Inv (compCx X scope N s.heap.objs.size s H fp pins) [] σ' H' s') (sb : Heap.SameBut s.heap.objs.size s'.heap h') : Inv X pins σ H' { s' with heap := h' } := by
  have ne : ∀ b o, s.heap.get? b = some o → b ≠ s.heap.objs.size := fun b o e => Nat.ne_of_lt (Heap.lt_size e)
  have u := J.base
  have u' : Un (frs X.stack) fp H H' s.heap h' :=
    ⟨fun b o e n h1 h2 => sb.extBut b o (ne b o e) (u.keep b o e n h1 h2), fun b o e n h1 h2 => by
      obtain ⟨sl, q⟩ := u.slot b o e n h1 h2
      exact ⟨sl, sb.extBut b _ (ne b o e) q⟩, u.free, fun b o e h => by
      obtain ⟨o', q⟩ := u.there b o e h
      exact ⟨o', sb.extBut b _ (ne b o e) q⟩, u.tups, u.frzs, u.tbls⟩
  have nC : H' s.heap.objs.size = none := J.free
  have hok : HOk X.prog X.w H' h' := fun b o e => by
    refine (J.hok b o e).stay (fun c v hc q => sb.extBut c v ?_ q) (fun _ q => q) fun _ _ q => q
    rcases hc with z | z
    · rw [z]; intro z'; rw [z', nC] at e; cases e
    · intro z'; rw [z', nC] at z; cases z
  exact I.call' (s' := { s' with heap := h' }) J.os u' hok J.bare fun b hb => by
    obtain ⟨f0, f1, f2, f3, f4, f5⟩ := hf b hb
    exact ⟨f3, f1, f4, f5⟩
theorem comp_go {tg elt iter : Expr} {ifs : List Expr} {pos : Pos} {g : TG} {ti : TT} {te : TE} {wi : TI} {pins : List (Addr × Obj)} {σ : St} {H : Hp} {s : Shared} {use : Option (Value → Sem Unit)} {QQ : Value → Shared → Prop} {Q : VK} (S : CScope X scope T F js) (hc : X.calm = true)
    (hi : PI X tg iter wi) (hg : ∀ C s H ex pins, PG (compCx X scope (T ++ F) C s H ex pins) tg g) (hif : ∀ C s H ex pins, PIf (compCx X scope (T ++ F) C s H ex pins) ifs ti) (he : ∀ C s H ex pins, PE (compCx X scope (T ++ F) C s H ex pins) elt te)
    (I : Inv X pins σ H s) (h : tComp wi g ti te T.length js σ H Q)
    (fin : ∀ (D C : Addr) (s' : Shared) (H' : Hp) (m : Str → Option Value), s'.heap.Ns C m → Q (.ref D) H' → FpOk X pins H' C → (∀ h', Heap.SameBut C s'.heap h' → Inv X pins σ H' { s' with heap := h' }) →
      compPost (model X.prog X.w) X.A X.xe use QQ (.ref D) C (.ok .next) s')
    (hs : ∀ x, foldedSetIterable iter X.env x = pure x) :
    wpAny (model X.prog X.w) X.A (comprehension (.ListComp elt [⟨tg, iter, ifs, 0⟩] scope pos) scope X.env (firstIterPos [⟨tg, iter, ifs, 0⟩] pos) (newList []) false (eval iter X.env) use) QQ X.xe s := by
  refine wpAny_comprehension_free (use := use) rfl hs (closureFor_closes fun p hp hk => ?_) S.kind S.names (thn (hi pins s σ H _ I h) fun v s1 h1 => thn h1 fun itv s2 h2 => ?_)
  · obtain ⟨c, e⟩ := I.ok.has p.1 (.inl (S.free p hp hk))
    rw [e]; rfl
  obtain ⟨it, fp, tn, J, H2, rfl, I2, Tn, st2, f2, h2⟩ := h2
  obtain ⟨W, ⟨m0, w0⟩, turn⟩ := h2 s2.heap.objs.size I2.fresh
  refine wpAny_newObj_type (wpAny_newFunctionEnv S.nocell (by intro y hy; simp at hy) (fun h₁ hns₁ hsb₁ => ?_) S.kind)
  have I3 := I2.lnew (t' := s2.toks) (ys := []) (its := []) Paired.nil (Nat.zero_le _)
  generalize hs3 : ({ s2 with heap := s2.heap.push { cls := .type "list", data := .seq ([] : List Value).toArray }, toks := s2.toks } : Shared) = s3 at I3
  have hf3 : ∀ b ∈ fp, FpOk X pins (upd H2 s2.heap.objs.size (.lst [])) b ∧ ∃ o, s3.heap.get? b = some o ∧ ∀ v, o.data ≠ .cell v := fun b hb => by
    obtain ⟨f0, fr⟩ := f2 b hb
    obtain ⟨o, e, d⟩ := Tn.obj _ _ st2 b hb
    refine ⟨⟨by rw [upd_ne (Nat.ne_of_lt (Heap.lt_size e))]; exact f0, fr⟩, o, ?_, d⟩
    rw [← hs3]
    exact Heap.get?_push_of_some _ e
  have e3 : s3.heap = s2.heap.push { cls := .type "list", data := .seq ([] : List Value).toArray } := by rw [← hs3]
  have kk : ∀ b o, s3.heap.get? b = some o → h₁.get? b = some o := fun b o e => by
    rw [e3] at e
    exact hsb₁.extBut b o (Nat.ne_of_lt (Heap.lt_size e)) (Heap.get?_push_of_some _ e)
  have hns : h₁.Ns s3.heap.objs.size (fun x => ([] : List (Str × Value)).reverse.lookup x) := by rw [e3]; exact hns₁
  have I4 := comp_inv (tk := s3.toks + ([] : List (Str × Value)).length) S I3 hns kk hf3
  have stat : ∀ {H' : Hp} {pl : List (Addr × Obj)}, (∀ p ∈ pl, ∀ b ∈ fp, p.1 ≠ b) → (∀ b ∈ fp, H' b = none) → ∀ b ∈ fp, FpOk (compCx X scope (T ++ F) s3.heap.objs.size s3 (upd H2 s2.heap.objs.size (.lst [])) fp pins) pl H' b := fun {H' pl} hp hn b hb => by
    obtain ⟨⟨f0, f1, f2, f3, f4, f5⟩, o, e, d⟩ := hf3 b hb
    obtain ⟨x1, x2⟩ := I4.ok.exf b hb
    refine ⟨hn b hb, x1, I4.ok.exfs b hb, .inl hb, x2, fun p hq => ?_⟩
    rcases List.mem_append.mp hq with z | z
    · exact f5 p z
    · exact hp p z b hb
  have loop : codeAny (model X.prog X.w) X.A (.compLoop (.ListComp elt [⟨tg, iter, ifs, 0⟩] scope pos) 0 (.ref it) (.ref s2.heap.objs.size) (compEnvC scope (closes X.env scope.names []) s3.heap.objs.size X.env))
      (compPost (model X.prog X.w) X.A X.xe use QQ (.ref s2.heap.objs.size) s3.heap.objs.size) { s3 with heap := h₁, toks := s3.toks + ([] : List (Str × Value)).length } := by
    refine codeAny_loop rfl (fun n s' => ∃ i σ' ys H', Inv (compCx X scope (T ++ F) s3.heap.objs.size s3 (upd H2 s2.heap.objs.size (.lst [])) fp pins) [] σ' H' s' ∧ tn i s'.heap ∧ (∀ b ∈ fp, H' b = none) ∧ W i n σ' ys H') ?_ m0 ⟨0, _, [], _, I4, ?_, fun b hb => (hf3 b hb).1.1, w0⟩
    · rintro n s5 ⟨i, σ5, ys, H5, I5, st5, fr5, w5⟩
      show wpAny _ X.A ((compTurn (.ListComp elt [⟨tg, iter, ifs, 0⟩] scope pos) 0 (.ref it) (.ref s2.heap.objs.size) (compEnvC scope (closes X.env scope.names []) s3.heap.objs.size X.env)).onRaise (fun x => do noteFrame x _; theTreesLotGoes x)) _ _ s5
      refine wpAny_noted ?_
      rw [compTurn_list]
      refine wpAny_bind (wpAny_standAt (wpAny_bind ?_))
      obtain ⟨hD, tu⟩ := turn i n σ5 ys H5 w5
      rcases tu with ⟨stop, qq⟩ | ⟨go, NN, hNN, step⟩
      · refine thn (Tn.done (compCx X scope (T ++ F) s3.heap.objs.size s3 (upd H2 s2.heap.objs.size (.lst [])) fp pins) rfl rfl rfl hc i [] s5 σ5 H5 _ I5 (stat (pl := []) (fun _ hp => absurd hp List.not_mem_nil) fr5) st5 stop) fun r s6 ⟨hr, I6⟩ => ?_
        subst hr
        refine wpAny_pure ?_
        obtain ⟨m6, hn6, _⟩ := I6.loc
        have lC : s.heap.objs.size ≤ s.heap.objs.size := Nat.le_refl _
        exact fin _ _ s6 H5 m6 hn6 qq (I3.fpOk (Nat.le_refl _) I6.free) fun h' sb => comp_out I3 (fun b hb => (hf3 b hb).1) I6 sb
      · refine thn (Tn.item (compCx X scope (T ++ F) s3.heap.objs.size s3 (upd H2 s2.heap.objs.size (.lst [])) fp pins) rfl rfl rfl hc i [] s5 σ5 H5 _ I5 (stat (pl := []) (fun _ hp => absurd hp List.not_mem_nil) fr5) st5 go) fun r s6 ⟨u, hr, h6⟩ => ?_
        subst hr
        refine wpAny_bind (thn h6 fun _ s7 ⟨x, H7, I7, r7, y7, st7, fr7⟩ => ?_)
        have I7' := I7.pinned (stat (pl := []) (fun _ hp => absurd hp List.not_mem_nil) fr7) (Tn.obj _ _ st7)
        have back : ∀ {σ8 : St} {H8 : Hp} {s8 : Shared} {ys8 : List V} {m' : Nat}, Inv (compCx X scope (T ++ F) s3.heap.objs.size s3 (upd H2 s2.heap.objs.size (.lst [])) fp pins) ([] ++ pinsAt fp s7.heap) σ8 H8 s8 → m' < n → W (i + 1) m' σ8 ys8 H8 →
            ∃ m, m < n ∧ ∃ i σ' ys H', Inv (compCx X scope (T ++ F) s3.heap.objs.size s3 (upd H2 s2.heap.objs.size (.lst [])) fp pins) [] σ' H' s8 ∧ tn i s8.heap ∧ (∀ b ∈ fp, H' b = none) ∧ W i m σ' ys H' := fun {σ8 H8 s8 ys8 m'} I8 hm w8 => by
          refine ⟨m', hm, i + 1, σ8, ys8, H8, I8.unpinned, Tn.keep _ _ _ st7 fun b hb o e => (I8.pin (b, o) (List.mem_append_right _ (List.mem_append_right _ (mem_pinsAt hb e)))).1, fun b hb => ?_, w8⟩
          obtain ⟨o, e, d⟩ := Tn.obj _ _ st7 b hb
          exact (I8.pin (b, o) (List.mem_append_right _ (List.mem_append_right _ (mem_pinsAt hb e)))).2.1
        refine wpAny_bind (wpAny_mono (hg _ _ _ _ _ _ s7 σ5 H7 x u _ I7' r7 (step x H7 y7)) (fun _ s8 ⟨σ8, H8, I8, q8⟩ => ?_) fun _ _ z => z.elim)
        refine wpAny_bind (wpAny_mono (hif _ _ _ _ _ _ s8 σ8 H8 _ I8 q8) (fun ok s9 ⟨H9, I9, q9⟩ => ?_) fun _ _ z => z.elim)
        cases ok with
        | false =>
          rw [if_neg Bool.false_ne_true] at q9
          obtain ⟨m', hm, w9⟩ := hNN _ _ _ q9
          exact wpAny_pure ⟨rfl, back I9 hm w9⟩
        | true =>
          rw [if_pos rfl] at q9
          refine wpAny_bind (wpAny_bind (wpAny_mono (he _ _ _ _ _ _ s9 σ8 H9 _ I9 q9) (fun yv s10 ⟨y, H10, I10, r10, d10, l10, q10⟩ => ?_) fun _ _ z => z.elim))
          obtain ⟨m', hm, w10⟩ := hNN _ _ _ q10
          obtain ⟨z10, its, n10, rv, el, eo⟩ := I10.lstM d10
          refine wpAny_bind (wpAny_list_append_plain (items := its.toArray) ⟨n10, eo⟩ (fun h' hl' sb' => ?_) (by simp; omega))
          obtain ⟨n11, eo'⟩ := hl'
          have I11 := I10.write (x := s2.heap.objs.size) (e := s2.heap.objs.size) (o := .lst (ys ++ [y])) (t' := s10.toks) (by rw [d10]; exact trivial) (.inl rfl) (fun b o hb e => sb'.extBut b o hb e) ⟨_, eo'⟩ ⟨by simp; assumption, its ++ [yv], n11, rv.append (.cons r10 .nil), by simpa using eo'⟩
          exact wpAny_pure (wpAny_pure ⟨rfl, back I11 hm w10⟩)
    · refine Tn.keep _ _ _ st2 fun b hb o e => kk b o ?_
      rw [e3]
      exact Heap.get?_push_of_some _ e
  have st1 : tn 0 h₁ := Tn.keep _ _ _ st2 fun b hb o e => kk b o (by rw [e3]; exact Heap.get?_push_of_some _ e)
  exact codeAny_compStart_list loop (Tn.self _ 0 _ _ _ st1 loop)
theorem pe_comp {tg elt iter : Expr} {ifs : List Expr} {pos : Pos} {g : TG} {ti : TT} {te : TE} {wi : TI} (S : CScope X scope T F js) (hc : X.calm = true)
    (hi : PI X tg iter wi) (hg : ∀ C s H ex pins, PG (compCx X scope (T ++ F) C s H ex pins) tg g) (hif : ∀ C s H ex pins, PIf (compCx X scope (T ++ F) C s H ex pins) ifs ti) (he : ∀ C s H ex pins, PE (compCx X scope (T ++ F) C s H ex pins) elt te)
    (hs : ∀ x, foldedSetIterable iter X.env x = pure x := by intro _; rfl) : PE X (.ListComp elt [⟨tg, iter, ifs, 0⟩] scope pos) (tComp wi g ti te T.length js) := by
  intro pins s σ H Q I h
  rw [eval_ListComp]
  exact comp_go (use := none) S hc hi hg hif he I h (fun D C s' H' m hn q _ hinv => ⟨m, hn, fun h' sb => ⟨.ref D, H', hinv h' sb, rfl, q⟩⟩) hs
theorem ps_comp {i : Nat} {x : Str} {pos' spos : Pos} {tg elt iter : Expr} {ifs : List Expr} {pos : Pos} {g : TG} {ti : TT} {te : TE} {wi : TI} (hN : X.N.Nodup) (hx1 : X.N[i]? = some x) (hx2 : Loc X.env.scope x) (S : CScope X scope T F js) (hc : X.calm = true)
    (hi : PI X tg iter wi) (hg : ∀ C s H ex pins, PG (compCx X scope (T ++ F) C s H ex pins) tg g) (hif : ∀ C s H ex pins, PIf (compCx X scope (T ++ F) C s H ex pins) ifs ti) (he : ∀ C s H ex pins, PE (compCx X scope (T ++ F) C s H ex pins) elt te)
    (hsw : swapsWith (.ListComp elt [⟨tg, iter, ifs, 0⟩] scope pos) (some (.Name x pos')) spos.line X.env = pure true := by rfl)
    (hf : X.fn x = true ∨ X.env.scope.names.lookup x = some .local := by first | exact .inl rfl | exact .inr rfl | assumption)
    (hs : ∀ x, foldedSetIterable iter X.env x = pure x := by intro _; rfl) : PS X (.Assign [.Name x pos'] (.ListComp elt [⟨tg, iter, ifs, 0⟩] scope pos) spos) (tAsg (tComp wi g ti te T.length js) (gName i)) := by
  intro pins s σ H D I h
  rw [exec_Assign_Name_used _ _ _ _ hsw]
  refine wpAny_bind (wpAny_standAt (wpAny_bind ?_))
  show wpAny _ X.A (do let _ ← comprehension (.ListComp elt [⟨tg, iter, ifs, 0⟩] scope pos) scope X.env _ (newList []) false (eval iter X.env) (some (assign (.Name x pos') X.env))) _ _ s
  refine wpAny_bind (wpAny_mono (comp_go (use := some (assign (.Name x pos') X.env)) (QQ := fun _ s' => SP X pins D .next s') S hc hi hg hif he I h (fun d C s' H' m hn q fC hinv => ?_) hs) (fun _ s' hq => wpAny_pure (wpAny_pure hq)) fun _ _ e => e)
  have I1 : Inv X pins σ H' s' := hinv s'.heap (Heap.SameBut.refl ..)
  obtain ⟨oC, es, ep, ho, hd, hr⟩ := id hn
  obtain ⟨f0, f1, f2, f3, f4, f5⟩ := fC
  have I2 : Inv X (pins ++ [(C, oC)]) σ H' s' := I1.pins_of fun p hp => (List.mem_append.mp hp).elim (fun z => I1.pin p (List.mem_append_right _ z)) fun z => by
    have e := List.mem_singleton.mp z
    subst e
    exact ⟨ho, f0, f1, f2, fun v z => by rw [hd] at z; cases z⟩
  show wpAny _ X.A (assign (.Name x pos') X.env (.ref d)) _ _ _
  refine wpAny_assign_Name (store_ok (v := .ref d) I2 hN hx1 hx2 rfl (fun s'' I'' => ?_) hf)
  have e2 := (I''.pin (C, oC) (List.mem_append_right _ (List.mem_append_right _ (List.mem_singleton.mpr rfl)))).1
  refine ⟨m, ⟨oC, es, ep, e2, hd, hr⟩, fun h' sb => ?_⟩
  exact ⟨_, H', I''.unpinned.turned (t' := s''.toks) (it := C) (fun b o hb e => sb.extBut b o hb e) f0 f1 f3 f4 f5, q⟩
end
section
variable {g : TG} {ti : TT} {te : TE} {Q : VK} {D : Addr} {σ : St} {H : Hp}
theorem comp_list {K : PySem.W.Frag} {a : Addr} {xs : List V} (Pv : Nat → St → List V → Hp → Prop) (h0 : Pv 0 σ [] (upd H D (.lst []))) (hl : ∀ i σ ys H, i ≤ xs.length → Pv i σ ys H → SqL K H a xs ∧ H D = some (.lst ys))
    (hs : ∀ i x σ ys H, xs[i]? = some x → Pv i σ ys H → cturn g ti te D x σ ys H (Pv (i + 1))) (hd : ∀ σ ys H, Pv xs.length σ ys H → Q (.ref D) H) :
    cgo (Itl K a) g ti te D σ H Q := by
  refine ⟨fun i m σ ys H => m = xs.length - i ∧ i ≤ xs.length ∧ Pv i σ ys H, ⟨xs.length, by simp, Nat.zero_le _, h0⟩, ?_⟩
  rintro i m σ ys H ⟨rfl, hi, p⟩
  obtain ⟨q, hD⟩ := hl i σ ys H hi p
  refine ⟨hD, ?_⟩
  by_cases hlt : i < xs.length
  · refine .inr ⟨⟨xs, xs[i], q, by simp [hlt]⟩, Pv (i + 1), fun σ' ys' H' p' => ⟨xs.length - (i + 1), by omega, rfl, hlt, p'⟩, fun x H' y => ?_⟩
    obtain ⟨e, y⟩ := y
    subst e
    exact (hs i x σ ys _ (y xs q) p)
  · have e : i = xs.length := by omega
    subst e
    exact .inl ⟨⟨xs, q, Nat.le_refl _⟩, hd σ ys H p⟩
theorem comp_tup {K : PySem.W.Frag} {a : Addr} {xs : List V} (Pv : Nat → St → List V → Hp → Prop) (h0 : Pv 0 σ [] (upd H D (.lst []))) (hl : ∀ i σ ys H, i ≤ xs.length → Pv i σ ys H → SqT K H a xs ∧ H D = some (.lst ys))
    (hs : ∀ i x σ ys H, xs[i]? = some x → Pv i σ ys H → cturn g ti te D x σ ys H (Pv (i + 1))) (hd : ∀ σ ys H, Pv xs.length σ ys H → Q (.ref D) H) :
    cgo (Itt K a) g ti te D σ H Q := by
  refine ⟨fun i m σ ys H => m = xs.length - i ∧ i ≤ xs.length ∧ Pv i σ ys H, ⟨xs.length, by simp, Nat.zero_le _, h0⟩, ?_⟩
  rintro i m σ ys H ⟨rfl, hi, p⟩
  obtain ⟨q, hD⟩ := hl i σ ys H hi p
  refine ⟨hD, ?_⟩
  by_cases hlt : i < xs.length
  · refine .inr ⟨⟨xs, xs[i], q, by simp [hlt]⟩, Pv (i + 1), fun σ' ys' H' p' => ⟨xs.length - (i + 1), by omega, rfl, hlt, p'⟩, fun x H' y => ?_⟩
    obtain ⟨e, y⟩ := y
    subst e
    exact (hs i x σ ys _ (y xs q) p)
  · have e : i = xs.length := by omega
    subst e
    exact .inl ⟨⟨xs, q, Nat.le_refl _⟩, hd σ ys H p⟩
theorem comp_range {lo : Int} {n : Nat} (Pv : Nat → St → List V → Hp → Prop) (h0 : Pv 0 σ [] (upd H D (.lst []))) (hl : ∀ i σ ys H, i ≤ n → Pv i σ ys H → H D = some (.lst ys))
    (hs : ∀ i σ ys H, i < n → Pv i σ ys H → cturn g ti te D (.int (lo + i)) σ ys H (Pv (i + 1))) (hd : ∀ σ ys H, Pv n σ ys H → Q (.ref D) H) :
    cgo (Itr lo n) g ti te D σ H Q := by
  refine ⟨fun i m σ ys H => m = n - i ∧ i ≤ n ∧ Pv i σ ys H, ⟨n, by simp, Nat.zero_le _, h0⟩, ?_⟩
  rintro i m σ ys H ⟨rfl, hi, p⟩
  have hD := hl i σ ys H hi p
  refine ⟨hD, ?_⟩
  by_cases hlt : i < n
  · refine .inr ⟨hlt, Pv (i + 1), fun σ' ys' H' p' => ⟨n - (i + 1), by omega, rfl, hlt, p'⟩, fun x H' y => ?_⟩
    obtain ⟨e, y⟩ := y
    subst e y
    exact (hs i σ ys _ hlt p)
  · have e : i = n := by omega
    subst e
    exact .inl ⟨Nat.le_refl _, hd σ ys H p⟩
end
end L2
set_option maxHeartbeats 4000000
namespace L2
open PySem PySem.Spec PyProof.Rows
mutual
inductive Rep (K : PySem.W.Frag) (H : Hp) : V → PyData → Prop
  | non : Rep K H .non .none
  | bl (b : Bool) : Rep K H (.bl b) (.bool b)
  | int (i : Int) : Rep K H (.int i) (.int i)
  | str (x : Str) : Rep K H (.str x) (.str x)
  | lst {a : Addr} {xs : List V} {ds : List PyData} : SqL K H a xs → RepAll K H xs ds → Rep K H (.ref a) (.list ds)
  | tup {a : Addr} {xs : List V} {ds : List PyData} : SqT K H a xs → RepAll K H xs ds → Rep K H (.ref a) (.tuple ds)
inductive RepAll (K : PySem.W.Frag) (H : Hp) : List V → List PyData → Prop
  | nil : RepAll K H [] []
  | cons {x : V} {xs : List V} {d : PyData} {ds : List PyData} : Rep K H x d → RepAll K H xs ds → RepAll K H (x :: xs) (d :: ds)
end
mutual
theorem Rep.reads {X : Cx} {pins : List (Addr × Obj)} {σ : St} {H : Hp} {s : Shared} (I : Inv X pins σ H s) : ∀ {v : V} {d : PyData} {u : Value}, Rep X.K H v d → RelV v u → ∃ as, Reads s.heap u d as
  | _, _, _, .non, r => by cases r; exact ⟨_, .none⟩
  | _, _, _, .bl b, r => by cases r; exact ⟨_, .bool b⟩
  | _, _, _, .int i, r => by obtain ⟨t, rfl⟩ := r; exact ⟨_, .int i t⟩
  | _, _, _, .str x, r => by obtain ⟨t, rfl⟩ := r; exact ⟨_, .str x t⟩
  | _, _, _, .lst hq hx, r => by
    cases r
    obtain ⟨its, rv, hl, hz⟩ := I.list hq
    obtain ⟨as, ra⟩ := RepAll.reads I hx rv
    obtain ⟨o, ho, hc, n, hd⟩ := hl.isList
    exact ⟨_, .list ho hc hd ra⟩
  | _, _, _, .tup hq hx, r => by
    cases r
    obtain ⟨its, rv, hl, hz⟩ := I.tuple hq
    obtain ⟨as, ra⟩ := RepAll.reads I hx rv
    obtain ⟨o, ho, hc, n, hd⟩ := hl
    exact ⟨_, .tuple ho hc hd ra⟩
theorem RepAll.reads {X : Cx} {pins : List (Addr × Obj)} {σ : St} {H : Hp} {s : Shared} (I : Inv X pins σ H s) : ∀ {xs : List V} {ds : List PyData} {us : List Value}, RepAll X.K H xs ds → Vals xs us → ∃ as, ReadsAll s.heap us ds as
  | _, _, _, .nil, .nil => ⟨_, .nil⟩
  | _, _, _, .cons h t, .cons r rs => by
    obtain ⟨a, ra⟩ := Rep.reads I h r
    obtain ⟨b, rb⟩ := RepAll.reads I t rs
    exact ⟨_, .cons ra rb⟩
end
section
variable {X : Cx} {a b c e : Expr} {ta tb tc te : TE} {pos p2 : Pos}
inductive RNeDP (K : PySem.W.Frag) (x : V) (y : V) (H : Hp) (Q : VK) : Prop
  | mk (da db : _) : (Rep K H x da) → (Rep K H y db) → (da.canLay0 = true) → (db.canLay0 = true) → (da.depth ≤ 20) → (Q (.bl (!PyData.eqv da db)) H) → RNeDP K x y H Q
def rNeD (K : PySem.W.Frag) : R2 := fun x y H Q => RNeDP K x y H Q
theorem op_neD (hu : X.A.units + 64 < cLine) : OpR X (compareOp .NotEq) (rNeD X.K) := by
  intro pins s σ H x y u v Q I rx ry h
  obtain ⟨da, db, h1, h2, h3, h4, h5, q⟩ := h
  obtain ⟨as, r1⟩ := h1.reads I rx
  obtain ⟨bs, r2⟩ := h2.reads I ry
  exact SeqAt.compareNe_reads r1 r2 h3 h4 (by omega) ⟨.bl _, H, I, rfl, q⟩
theorem call_isi : CallR X (.builtin "isinstance") (fun xs H Q => ∃ (x : V) (t : Value) (c : String) (b : Bool), xs = [x, .ty c] ∧ TyOf X.K H x t ∧ PySem.W.kitOne X.K t (.type c) = some b ∧ Q (.bl b) H) := by
  intro pins s σ H xs us Q I r h
  obtain ⟨x, t, c, b, rfl, ty, e, q⟩ := h
  obtain ⟨u, v, rfl, rx, ry⟩ := vals2 r
  cases ry
  exact isinst_ok I rx ty e fun tk => ⟨.bl b, H, I.tok tk, rfl, q⟩
theorem pe_ty {x : Str} {T : String} (hg : Gl X x) (hm : X.mg x = none) (hv : bootBuiltins x = some (.type T)) (hn : x ≠ "__name__" := by decide) (hd : (x == ("__debug__" : Str)) = false := by decide) : PE X (.Name x pos) (tC (.ty T)) :=
  fun pins s σ H Q I h => ld_blt I hg hm hv ⟨.ty T, H, I, rfl, h⟩ hn hd
inductive RCatTTP (K : PySem.W.Frag) (x : V) (y : V) (H : Hp) (Q : VK) : Prop
  | mk (a b : Addr) (xs ys : List V) : (x = .ref a) → (y = .ref b) → (SqT K H a xs) → (SqT K H b ys) → (xs.length + ys.length ≤ sizeLine) → ((xs = [] → Q (.ref b) H)) → ((xs ≠ [] → ys = [] → Q (.ref a) H)) → ((xs ≠ [] → ys ≠ [] → ∀ p, H p = none → Q (.ref p) (upd H p (.tup (xs ++ ys))))) → RCatTTP K x y H Q
def rCatTT (K : PySem.W.Frag) : R2 := fun x y H Q => RCatTTP K x y H Q
theorem op_catTT : OpR X (binaryOp .Add) (rCatTT X.K) := by
  intro pins s σ H x y u v Q I rx ry h
  obtain ⟨p, q, xs, ys, rfl, rfl, hx, hy, hz, h1, h2, h3⟩ := h
  cases rx; cases ry
  obtain ⟨its, r1, t1, z1⟩ := I.tuple hx
  obtain ⟨its2, r2, t2, z2⟩ := I.tuple hy
  have l1 := r1.length
  have l2 := r2.length
  by_cases e : xs = []
  · subst e
    have ei : its = [] := by cases its with | nil => rfl | cons _ _ => cases l1
    subst ei
    obtain ⟨⟨cls, dd, data, sl⟩, ho, hc, n, hd⟩ := id t1
    obtain ⟨⟨cls2, dd2, data2, sl2⟩, ho2, hc2, n2, hd2⟩ := id t2
    simp only at hc hd hc2 hd2
    subst hc hd hc2 hd2
    exact PySem.concat_meets ⟨_, ho, rfl⟩ ⟨_, ho2, rfl⟩ noFill_tuple_add seq_tuple_add PySem.F.slot_tuple_add PySem.F.entry_tuple_add (PySem.F.args_tuple_add_2 _ _)
      (tuple_addW0 p q _ _ n n2 dd dd2 sl sl2 (by rfl)) ⟨ho, ho2, ⟨.ref q, H, I, rfl, h1 rfl⟩⟩
  · refine HT.cat_tup t1 t2 (fun z => e ((Vals.nil_iff r1).mp z)) (fun z => ⟨.ref p, H, I, rfl, h2 e ((Vals.nil_iff r2).mp z)⟩) (fun z => ?_) (by omega)
    exact ⟨.ref s.heap.objs.size, _, I.laid (t' := s.toks) (o := .tup (xs ++ ys)) (fun b ob q => Heap.get?_push_of_some _ q) (Nat.le_refl _) ⟨by simpa using hz, its ++ its2, r1.append r2, IsTupN.new _ _⟩, rfl, h3 e (fun z' => z ((Vals.nil_iff r2).mpr z')) _ I.fresh⟩
end
section
variable {prog : Program} {w : World} {A : Around} {E : Value → Shared → Prop}
variable {s : Shared}
end
end L2
set_option maxHeartbeats 4000000
namespace L2
open PySem PySem.Spec PyProof.Rows
section
variable {X : Cx} {a b c e : Expr} {ta tb tc te : TE} {pos p2 : Pos}
theorem strsAre_of : ∀ {ys : List Str} {us : List Value}, Vals (ys.map V.str) us → StrsAre us ys
  | [], _, .nil => .nil
  | y :: ys, _, .cons h t => by
    obtain ⟨u, rfl⟩ := h
    exact .cons y u (strsAre_of t)
inductive RJoinP (K : PySem.W.Frag) (x : V) (vs : List V) (H : Hp) (Q : VK) : Prop
  | mk (z : Str) (l : Addr) (ys : List Str) : (x = .str z) → (vs = [.ref l]) → (SqL K H l (ys.map V.str)) → ((ys.map (·.length)).sum + ys.length * z.length ≤ 16777216) → (Q (.str (Txt.join z ys)) H) → RJoinP K x vs H Q
def rJoin (K : PySem.W.Frag) : V → List V → Hp → VK → Prop := fun x vs H Q => RJoinP K x vs H Q
theorem mt_join : MtM X "str.join" (rJoin X.K) := by
  intro pins s σ H x xs v us Q I rx r h
  obtain ⟨z, l, ys, rfl, rfl, hl, hz, q⟩ := h
  obtain ⟨t, rfl⟩ := rx
  obtain ⟨u, rfl, ru⟩ := vals1 r
  cases ru
  obtain ⟨its, rv, hp, _⟩ := I.list hl
  exact join_list hp.isList (strsAre_of rv) hz fun t' k => ⟨.str _, H, I.tok k, ⟨t', rfl⟩, q⟩
theorem call_all (hc : X.calm = true) : CallR X (.builtin "all") (fun xs H Q => ∃ (p : Addr) (bs : List Bool), xs = [.ref p] ∧ SqL X.K H p (bs.map V.bl) ∧ Q (.bl (bs.all id)) H) := by
  intro pins s σ H xs us Q I r h
  obtain ⟨p, bs, rfl, hq, q⟩ := h
  obtain ⟨u, rfl, rx⟩ := vals1 r
  cases rx
  obtain ⟨its, rv, hl, hz⟩ := I.list hq
  have hlen := rv.length
  rw [List.length_map] at hlen
  refine call_all_walk (wpAny_pyIter_list hl.isList ?_)
  have hne : p ≠ s.heap.objs.size := by obtain ⟨o, ho, _⟩ := hl.isList; exact Nat.ne_of_lt (Heap.lt_size ho)
  refine ⟨_, _, _, _, _, _, fun i => bs.getD i true, rfl, Walks.list (A := X.A.in1) (I.ok.hd hc) _ p hne its.toArray, ⟨⟨_, Heap.get?_push_size _ rfl, rfl, rfl⟩, hl.isList.push _⟩, ?_, fun h' tk hk => ?_⟩
  · intro i v s' Q' E' hP hQ
    have hi : its[i]? = some v := by simpa using hP
    have hb : ∃ b, bs[i]? = some b ∧ v = .bool b := by
      have hil : i < bs.length := by rw [hlen]; exact (List.getElem?_eq_some_iff.mp hi).1
      obtain ⟨u, e1, e2⟩ := rv.get (i := i) (x := .bl bs[i]) (by simp [hil])
      rw [hi] at e1; cases e1
      exact ⟨bs[i], by simp [hil], e2⟩
    obtain ⟨b, e1, rfl⟩ := hb
    have : bs.getD i true = b := by simp [List.getD, e1]
    dsimp only at hQ
    rw [this] at hQ
    exact wpAny_truthy_bool hQ
  · have e : (List.range its.toArray.size).all (fun i => bs.getD i true) = bs.all id := by
      rw [List.size_toArray, ← hlen]
      have key : ∀ (bs : List Bool), (List.range bs.length).all (fun i => bs.getD i true) = bs.all id := by
        intro bs
        rw [Bool.eq_iff_iff, List.all_eq_true, List.all_eq_true]
        constructor
        · intro h b hb
          obtain ⟨i, hi, e⟩ := List.getElem_of_mem hb
          have := h i (List.mem_range.mpr hi)
          simpa [List.getD, hi, e] using this
        · intro h i hi
          have hi := List.mem_range.mp hi
          have := h bs[i] (List.getElem_mem hi)
          simpa [List.getD, hi] using this
      exact key bs
    rw [e]
    exact ⟨.bl (bs.all id), H, I.kept (fun b o eo => hk b o (by
      intro z
      have z := List.mem_singleton.mp z
      exact absurd (Heap.lt_size eo) (by rw [z]; exact Nat.lt_irrefl _)) (Heap.get?_push_of_some _ eo)), rfl, q⟩
end
def relab (scope osc : Scope) : Scope := { scope with names := scope.names.map fun (n, k) => if (k == .free && osc.kind == .function && osc.names.lookup n == some .cell) then (n, .cell) else (n, k) }
structure CS (osc scope : Scope) (T F : List Str) : Prop where
  kind : scope.kind = .function
  nocell : ∀ y ∈ scope.names, y.2 ≠ .cell
  names : ∀ x ∈ scope.names, x.2 = .local → scope.names.lookup x.1 = some .local
  free : ∀ x ∈ scope.names, x.2 = .free → osc.names.lookup x.1 = some .cell
  loc : ∀ y ∈ T, (relab scope osc).names.lookup y = some .local
  cel : ∀ y ∈ F, (relab scope osc).names.lookup y = some .cell ∧ osc.names.lookup y = some .cell ∧ (y, NameKind.free) ∈ scope.names
  all : ∀ x ∈ (relab scope osc).names, (x.2 = .cell ∨ x.2 = .free) → (x.1, NameKind.free) ∈ scope.names
theorem CS.to {X : Cx} {scope osc : Scope} {T F : List Str} {js : List Nat} (h : CS osc scope T F) (hj : js.map (fun j => X.N[j]?) = F.map some) (ho : X.env.scope = osc) : CScope X scope T F js := by
  subst ho
  exact ⟨h.kind, h.nocell, h.names, h.free, h.loc, h.cel, h.all, hj⟩
theorem PSs.imp' {X : Cx} {st : List PySem.Stmt} {t t' : TS} (h : PSs X st t) (f : ∀ D σ H, t' D σ H → t D σ H) : PSs X st t' := fun pins s σ H D I h' => h pins s σ H D I (f D σ H h')
end L2
set_option maxHeartbeats 4000000
namespace L2
open PySem PySem.Spec PyProof.Rows
end L2
set_option maxHeartbeats 4000000
namespace PySem
open Builtin
end PySem
namespace PySem
open Builtin
end PySem
namespace PySem
open Builtin
end PySem
namespace L2
open PySem PySem.Spec PyProof.Rows
end L2
set_option maxHeartbeats 4000000
namespace HT
open PySem PyProof.Rows
section
variable {prog : Program} {w : World} {A : Around} {E : Value → Shared → Prop} {s : Shared}
theorem getItem_tuple_self {t sl : Addr} {items : Array Value} {vl vu : Value} {lo hi : Option Int} {Q : Value → Shared → Prop} (ht : IsTup s.heap t items) (hs : s.heap.IsSliceOf sl vl vu .none) (pl : IsPart vl lo) (pu : IsPart vu hi)
    (hw : sIx items.size 0 lo = 0 ∧ sIx items.size items.size hi = items.size) (h : Q (.ref t) s) : wpAny (model prog w) A (getItem (.ref t) (.ref sl)) Q E s := by
  obtain ⟨os, hos, hcs, hds⟩ := id hs
  have tsl : s.TypeIs (.ref sl) "slice" := ⟨os, hos, hcs⟩
  unfold getItem
  try with_reducible refine wpAny_holding ?_
  first | refine wpAny_bind (wpAny_pure ?_) | skip
  refine wpAny_bind (wpAny_sequenceKey ht.typeIs (by decide) (wpAny_bind (wpAny_callSpecial?_slot (name := Str.ofString "__getitem__") ht.typeIs PyProof.Rows.slot_tuple_getitem (wpAny_call_entry PyProof.Rows.slot_tuple_getitem ht.typeIs entry_tuple_getitem ?_ (args_tuple_getitem _ _)))))
  show wpAny _ _ (Builtin.Tuple.tupleItemsOf (.ref t) >>= fun _ => _) _ _ s
  refine wpAny_bind (tupleItemsOf_ ht (wpAny_bind (wpAny_typeOf tsl ?_)))
  rw [if_pos (by decide)]
  refine wpAny_bind (sliceApplied_gen hs pl pu ?_)
  have yes : (((sIx items.size 0 lo : Nat) : Int) == 0 && (1 : Int) == 1 && (sIx items.size items.size hi - sIx items.size 0 lo) == items.size) = true := by rw [hw.1, hw.2]; simp
  show wpAny _ _ (ite ((((sIx items.size 0 lo : Nat) : Int) == 0 && (1 : Int) == 1 && (sIx items.size items.size hi - sIx items.size 0 lo) == items.size) = true) _ _) _ _ s
  rw [if_pos yes]
  refine wpAny_bind (m := Builtin.Tuple.tupleIsExact (.ref t)) ?_
  unfold Builtin.Tuple.tupleIsExact
  refine wpAny_bind (wpAny_typeOf ht.typeIs (wpAny_pure ?_))
  rw [if_pos (by decide)]
  exact wpAny_bind (wpAny_rule (wpAny_pure ⟨_, rfl, wpAny_pure h⟩))
end
end HT
namespace L2
open PySem PySem.Spec PyProof.Rows
section
variable {X : Cx}
inductive RSlTAP (K : PySem.W.Frag) (x : V) (lo : Option Int) (hi : Option Int) (H : Hp) (Q : VK) : Prop
  | mk (a xs : _) : (x = .ref a) → (SqT K H a xs) → (((HT.sIx xs.length 0 lo = 0 ∧ HT.sIx xs.length xs.length hi = xs.length) → Q (.ref a) H)) → ((¬ (HT.sIx xs.length 0 lo = 0 ∧ HT.sIx xs.length xs.length hi = xs.length) → ∀ p, H p = none → Q (.ref p) (upd H p (.tup (cutV xs lo hi))))) → RSlTAP K x lo hi H Q
def rSlTA (K : PySem.W.Frag) : V → Option Int → Option Int → Hp → VK → Prop := fun x lo hi H Q => RSlTAP K x lo hi H Q
theorem sl_tupA : SlR X (rSlTA X.K) := by
  intro pins s σ H x v vl vu lo hi sl Q I rx hs pl pu h
  obtain ⟨a, xs, rfl, hx, q1, q2⟩ := h
  by_cases hw : HT.sIx xs.length 0 lo = 0 ∧ HT.sIx xs.length xs.length hi = xs.length
  · cases rx
    obtain ⟨its, r, ht, hz⟩ := I.tuple hx
    have hlen : its.toArray.size = xs.length := by rw [List.size_toArray]; exact r.length.symm
    exact ⟨"tuple", _, PyProof.Rows.slot_tuple_getitem.lookup, ht.typeIs, HT.getItem_tuple_self ht hs pl pu (by rw [hlen]; exact hw) ⟨.ref a, H, I, rfl, q1 hw⟩⟩
  · exact sl_tup pins s σ H _ v vl vu lo hi sl Q I rx hs pl pu ⟨a, xs, rfl, hx, hw, q2 hw⟩
theorem op_isnotB : OpR X (compareOp .IsNot) (fun x y H Q => ∃ c d, x = .bl c ∧ y = .bl d ∧ Q (.bl (c != d)) H) := by
  intro pins s σ H x y v u Q I rx ry h
  obtain ⟨c, d, rfl, rfl, q⟩ := h
  cases rx
  cases ry
  exact isnot_bool ⟨.bl _, H, I, rfl, q⟩
end
theorem op_eqNil {X : Cx} (hu : X.A.units + 64 < cLine) : OpR X (compareOp .Eq) (fun x y H Q => ∃ (a b : Addr) (xs : List V), x = .ref a ∧ y = .ref b ∧ SqL X.K H a xs ∧ SqL X.K H b [] ∧ Q (.bl xs.isEmpty) H) := by
  intro pins s σ H x y u v Q I rx ry h
  obtain ⟨a, b, xs, rfl, rfl, ha, hb, q⟩ := h
  cases rx
  cases ry
  cases xs with
  | nil =>
    obtain ⟨as, r1⟩ := Rep.reads (u := .ref a) I (Rep.lst ha .nil) rfl
    obtain ⟨bs, r2⟩ := Rep.reads (u := .ref b) I (Rep.lst hb .nil) rfl
    exact SeqAt.compareEq_reads r1 r2 rfl rfl (by simp only [PyData.depth, PyData.depthAll]; omega) ⟨.bl _, H, I, rfl, q⟩
  | cons x xs =>
    obtain ⟨its, r1, h1, _⟩ := I.list ha
    obtain ⟨its2, r2, h2, _⟩ := I.list hb
    have l1 := r1.length
    have l2 := r2.length
    refine SeqAt.eq_list_lengthsAt h1.isList h2.isList (by simp at l1 l2 ⊢; omega) (by omega) ⟨.bl _, H, I, rfl, q⟩
theorem pe_gint {X : Cx} {x : Str} {i : Int} {t : Tok} {pos : Pos} (hg : Gl X x) (hm : X.mg x = some (.int i t)) (hd : (x == ("__debug__" : Str)) = false := by decide) : PE X (.Name x pos) (tC (.int i)) := fun pins s σ H Q I h => ld_glob I hg hm ⟨.int i, H, I, ⟨t, rfl⟩, h⟩ hd
theorem same_new {H : Hp} {p : Addr} {o : HO} (h : H p = none) : Same H (upd H p o) := fun b u e => by rw [upd_ne (ne_of_none e h)]; exact e
theorem same_refl (H : Hp) : Same H H := fun _ _ e => e
theorem small {n : Nat} (h : n ≤ 10000) : n ≤ sizeLine := by rw [sizeLine_eq]; exact Nat.le_trans (by assumption) (by decide)
theorem sqL_same {K : PySem.W.Frag} {H H' : Hp} {a : Addr} {xs : List V} (h : SqL K H a xs) (s : Same H H') : SqL K H' a xs := by
  rcases h with (e | ⟨o, e⟩) | e
  · exact .inl (.inl (s _ _ e))
  · exact .inl (.inr ⟨o, s _ _ e⟩)
  · exact .inr e
theorem none_of {H H' : Hp} {a : Addr} (s : Same H H') (h : H' a = none) : H a = none := by
  cases e : H a with
  | none => rfl
  | some o => rw [s _ _ e] at h; cases h
end L2
set_option maxHeartbeats 4000000
namespace PySem
open Builtin
end PySem
namespace PySem
open Builtin
end PySem
namespace L2
open PySem PySem.Spec PyProof.Rows
end L2
set_option maxHeartbeats 4000000
namespace PySem
open Builtin
theorem noFill_tup_mul : fillsNumberSlot (.type "tuple") "mul" = pure false := fillsNumberSlot_seq (id := "tuple.__mul__") (r := some (.builtin "tuple.__rmul__")) F.slot_tuple_mul.lookup (by decide +kernel) F.slot_tuple_rmul.lookup (by decide +kernel)
theorem repeat_tup : seqRepeat? (.type "tuple") = pure (some (.builtin "tuple.__mul__")) := by
  unfold seqRepeat?
  rw [seqSlot_of (T := "tuple") (name := "__mul__") (id := "tuple.__mul__") F.slot_tuple_mul.lookup (by decide +kernel), seqSlot_of (T := "tuple") (name := "__rmul__") (id := "tuple.__rmul__") F.slot_tuple_rmul.lookup (by decide +kernel)]
  rfl
theorem int_rmul_tup (a : Int) (t : Tok) (l : Addr) (items : Array Value) (n : Nat) (dd : Option Addr) (sl : Array (Option Value)) :
    Meets (Builtin.«int.__rmul__» ⟨[.int a t, .ref l], []⟩) (fun _ R s => s.heap.get? l = some { cls := .type "tuple", dict := dd, data := .seq items n, slots := sl } ∧ R (.ok (.ret Value.notImplemented)) s) :=
  .of_wp fun prog w A R s h => by
    obtain ⟨hp, g, d, tk, os⟩ := s
    obtain ⟨hl, h⟩ := h
    wp_walk
    exact ⟨_, rfl, h⟩
theorem tup_mul (l : Addr) (items : Array Value) (n : Nat) (dd : Option Addr) (sl : Array (Option Value)) (k : Int) (t : Tok) (hk : 1 ≤ k) (hk2 : k ≤ 1000) (h1 : items.size = 1) :
    Meets (Builtin.«tuple.__mul__» ⟨[.ref l, .int k t], []⟩) (fun _ R s => s.heap.get? l = some { cls := .type "tuple", dict := dd, data := .seq items n, slots := sl } ∧ (k = 1 → R (.ok (.ret (.ref l))) s) ∧
      (k ≠ 1 → R (.ok (.ret (.ref s.heap.objs.size))) { s with heap := s.heap.push { cls := .type "tuple", data := .seq ((List.replicate k.toNat items).foldl (· ++ ·) #[]) } })) :=
  .of_wp fun prog w A R s h => by
    obtain ⟨hp, g, d, tk, os⟩ := s
    obtain ⟨hl, q1, q2⟩ := h
    have f1 := AutoSeq1.idx_int
    have b1 : (decide (k < -(2 ^ 63)) || decide (k ≥ 2 ^ 63)) = false := by rw [decide_eq_false (by omega), decide_eq_false (by omega)]; rfl
    have b2 : items.isEmpty = false := by rw [Array.isEmpty]; simp [h1]
    have hT : Shared.TypeIs ⟨hp, g, d, tk, os⟩ (.ref l) "tuple" := ⟨_, hl, rfl⟩
    by_cases hk1 : k = 1
    · subst hk1
      have z := q1 rfl
      wp_walk using AutoSeq1.wpAny_loadPart' hl, wpAny_typeOf hT
      exact ⟨_, rfl, z⟩
    · have z := q2 hk1
      have c1 : (items.isEmpty || k == 1) = false := by rw [b2]; simpa using hk1
      have c2 : (decide (k ≤ 0) || items.isEmpty) = false := by rw [b2, decide_eq_false (by omega)]; rfl
      have c3 : ¬ ((items.size : Int) * k > (2 ^ 63 - 1) / 8) := by rw [h1]; omega
      have c4 : Builtin.Tuple.tupleTooMany ((items.size : Int) * k) = false := by unfold Builtin.Tuple.tupleTooMany; rw [h1, sizeLine_eq]; exact decide_eq_false (by omega)
      wp_walk using AutoSeq1.wpAny_loadPart' hl, wpAny_typeOf hT
      rw [if_neg (by rw [b1]; decide)]
      wp_walk using AutoSeq1.wpAny_loadPart' hl, wpAny_typeOf hT
      rw [if_neg (by rw [c2]; decide)]
      wp_walk using AutoSeq1.wpAny_loadPart' hl, wpAny_typeOf hT
      rw [if_neg c3]
      wp_walk using AutoSeq1.wpAny_loadPart' hl, wpAny_typeOf hT
      rw [if_neg (by rw [c4]; decide)]
      have len : ((List.replicate k.toNat items).foldl (· ++ ·) #[]).size ≤ sizeLine := by
        have key : ∀ (m : Nat) (acc : Array Value), ((List.replicate m items).foldl (· ++ ·) acc).size = acc.size + m := by
          intro m
          induction m with
          | zero => intro acc; rfl
          | succ m ih => intro acc; rw [List.replicate_succ, List.foldl_cons, ih, Array.size_append, h1]; omega
        rw [key, sizeLine_eq]
        simp
        omega
      refine wpAny_bind (m := Builtin.Tuple.tupleExact _) ?_
      unfold Builtin.Tuple.tupleExact
      exact wpAny_newObj_type (wpAny_pure ⟨_, rfl, z⟩) len
end PySem
namespace L2
open PySem PySem.Spec PyProof.Rows
section
variable {X : Cx}
theorem foldl_one (u : Value) : ∀ (m : Nat) (acc : Array Value), (List.replicate m (#[u] : Array Value)).foldl (· ++ ·) acc = (acc.toList ++ List.replicate m u).toArray := by
  intro m
  induction m with
  | zero => intro acc; simp
  | succ m ih => intro acc; rw [List.replicate_succ, List.foldl_cons, ih, List.replicate_succ]; simp
theorem vals_rep {x : V} {u : Value} (r : RelV x u) : ∀ m : Nat, Vals (List.replicate m x) (List.replicate m u)
  | 0 => .nil
  | m + 1 => by rw [List.replicate_succ, List.replicate_succ]; exact .cons r (vals_rep r m)
theorem op_repT1 : OpR X (binaryOp .Mult) (fun x y H Q => ∃ (a : Addr) (z : V) (k : Int), x = .ref a ∧ y = .int k ∧ SqT X.K H a [z] ∧ 1 ≤ k ∧ k ≤ 1000 ∧ (k = 1 → Q (.ref a) H) ∧ (k ≠ 1 → ∀ p, H p = none → Q (.ref p) (upd H p (.tup (List.replicate k.toNat z))))) := by
  intro pins s σ H x y v u Q I rx ry h
  obtain ⟨a, z, k, rfl, rfl, ha, k1, k2, q1, q2⟩ := h
  cases rx
  obtain ⟨t, rfl⟩ := ry
  obtain ⟨its, rv, p, hz⟩ := I.tuple ha
  obtain ⟨u0, rfl, ru⟩ := vals1 rv
  obtain ⟨⟨cls, dd, data, sl⟩, ho, hc, n, hd⟩ := id p
  simp only at hc hd
  subst hc hd
  refine wpAny_binaryOp_repeat_ref (T := "tuple") (U := "int") (by decide) ⟨_, ho, rfl⟩ (fun s' => typeIs_int s' k t) noFill_tup_mul PySem.F.fills_int_mul PySem.F.slot_int_rmul repeat_tup PySem.F.slot_int_index.lookup
    (call_meets PySem.F.slot_int_rmul (typeIs_int s k t) PySem.F.entry_int_rmul (PySem.F.args_int_rmul_2 _ _) (int_rmul_tup k t a _ n dd sl)
      ⟨ho, rfl, ⟨_, ho, rfl⟩, call_meets PySem.F.slot_tuple_mul ⟨_, ho, rfl⟩ PySem.F.entry_tuple_mul (PySem.F.args_tuple_mul_2 _ _) (tup_mul a _ n dd sl k t k1 k2 (by simp)) ⟨ho, fun e => ?_, fun e => ?_⟩⟩)
  · exact ⟨.ref a, H, I, rfl, q1 e⟩
  · refine ⟨.ref s.heap.objs.size, _, I.laid (o := .tup (List.replicate k.toNat z)) (fun b ob q => Heap.get?_push_of_some _ q) (Nat.le_refl _) ⟨by simp [sizeLine_eq]; omega, List.replicate k.toNat u0, vals_rep ru _, ?_⟩, rfl, q2 e _ I.fresh⟩
    have e := foldl_one u0 k.toNat #[]
    rw [show ([u0].toArray : Array Value) = #[u0] from rfl, e]
    simp only [List.nil_append]
    exact IsTupN.new _ _
end
section
variable {X : Cx}
theorem op_repT2 : OpR X (binaryOp .Mult) (fun x y H Q => ∃ (a : Addr) (z : V) (k : Int), x = .ref a ∧ y = .int k ∧ H a = some (.tup [z]) ∧ 1 ≤ k ∧ k ≤ 1000 ∧ ∀ p H', Same H H' → H' p = some (.tup (List.replicate k.toNat z)) → Q (.ref p) H') := by
  intro pins s σ H x y v u Q I rx ry h
  obtain ⟨a, z, k, hx, hy, ha, k1, k2, q⟩ := h
  exact op_repT1 pins s σ H x y v u Q I rx ry ⟨a, z, k, hx, hy, SqT.of ha, k1, k2, fun e => q a H (same_refl H) (by rw [ha, e]; rfl), fun _ p hp => q p _ (same_new hp) upd_same⟩
end
end L2
namespace PySem
open Builtin
end PySem
namespace L2
open PySem PySem.Spec PyProof.Rows
end L2
set_option maxHeartbeats 1000000
namespace Srt
open PySem PySem.W PyProof.Rows
structure Ord (lt : Nat → Nat → Bool) : Prop where
  asym : ∀ a b, lt a b = true → lt b a = false
  ntr : ∀ a b c, lt a b = false → lt b c = false → lt a c = false
def ev {α : Type} (lt : Nat → Nat → Bool) : KasT α → α
  | .ret a => a
  | .ask i j k => ev lt (k (lt i j))
theorem ev_bind {α β : Type} (lt : Nat → Nat → Bool) (f : α → KasT β) : ∀ t : KasT α, ev lt (t.bind f) = ev lt (f (ev lt t))
  | .ret _ => rfl
  | .ask i j k => ev_bind lt f (k (lt i j))
def AsksP {α : Type} (n : Nat) (P : α → Prop) : KasT α → Prop
  | .ret a => P a
  | .ask i j k => i < n ∧ j < n ∧ ∀ b, AsksP n P (k b)
theorem AsksP.bind {α β : Type} {n : Nat} {P : α → Prop} {R : β → Prop} {f : α → KasT β} (hf : ∀ a, P a → AsksP n R (f a)) : ∀ {t : KasT α}, AsksP n P t → AsksP n R (t.bind f)
  | .ret a, h => hf a h
  | .ask i j k, h => ⟨h.1, h.2.1, fun b => AsksP.bind hf (h.2.2 b)⟩
theorem AsksP.ev {α : Type} {n : Nat} {P : α → Prop} (lt : Nat → Nat → Bool) : ∀ {t : KasT α}, AsksP n P t → P (Srt.ev lt t)
  | .ret _, h => h
  | .ask i j k, h => AsksP.ev (n := n) (P := P) lt (t := k (lt i j)) (h.2.2 (lt i j))
theorem AsksP.wp {α : Type} {n : Nat} {P : α → Prop} {cmp : Nat → Nat → (Bool → Shared → Prop) → Shared → Prop} {lt : Nat → Nat → Bool} {s : Shared} (hc : ∀ i j (C : Bool → Shared → Prop), i < n → j < n → C (lt i j) s → cmp i j C s) {Q : α → Shared → Prop} : ∀ {t : KasT α}, AsksP n P t → Q (Srt.ev lt t) s → t.kasWp cmp Q s
  | .ret _, _, q => q
  | .ask i j k, h, q => hc i j _ h.1 h.2.1 (AsksP.wp hc (h.2.2 (lt i j)) q)
abbrev g (p : Array Nat) (k : Nat) : Nat := p.getD k 0
theorem g_eq (p : Array Nat) (k : Nat) : g p k = (p[k]?).getD 0 := by
  show p.getD k 0 = _
  simp [Array.getD_eq_getD_getElem?]
theorem g_rev {p : Array Nat} {i j : Nat} (hj : j ≤ p.size) (k : Nat) : g (kas_rev p i j) k = if i ≤ k ∧ k < j then g p (i + j - 1 - k) else g p k := by
  rw [g_eq]
  unfold kas_rev
  rw [getElem?_mirror_all hj]
  split <;> rw [g_eq]
theorem g_bub {p : Array Nat} {src d : Nat} (hs : src < p.size) (hd : d ≤ src) (k : Nat) : g (bubble p src d) k = if k = src - d then g p src else if src - d < k ∧ k ≤ src then g p (k - 1) else g p k := by
  rw [g_eq, getElem?_bubble hs d hd, g_eq, g_eq, g_eq]
  split
  · rfl
  · split <;> rfl
theorem rev_size (p : Array Nat) (i j : Nat) : (kas_rev p i j).size = p.size := mirror_size _ _ _ _
theorem rev_perm (p : Array Nat) (i j : Nat) : (kas_rev p i j).Perm p := mirror_perm _ _ _ _
def Pm (n : Nat) (p : Array Nat) : Prop := p.Perm (List.range n).toArray
theorem Pm.size {n : Nat} {p : Array Nat} (h : Pm n p) : p.size = n := by
  have := Array.Perm.size_eq h
  simpa using this
theorem Pm.lt {n : Nat} {p : Array Nat} (h : Pm n p) (h0 : 0 < n) (k : Nat) : g p k < n := by
  rw [g_eq]
  cases e : p[k]? with
  | none => exact h0
  | some x =>
    have hx : x ∈ p := Array.mem_of_getElem? e
    have := (Array.Perm.mem_iff h).mp hx
    simpa using this
section
variable {n : Nat} (h0 : 0 < n)
include h0
theorem asks_asc {p : Array Nat} (h : Pm n p) : ∀ f m, AsksP n (fun _ => True) (kas_asc p f m)
  | 0, _ => trivial
  | f + 1, m => ⟨h.lt h0 _, h.lt h0 _, fun b => by cases b <;> first | exact trivial | exact asks_asc h f (m + 1)⟩
theorem asks_desc : ∀ f {p : Array Nat} (m q : Nat), Pm n p → AsksP n (fun r => Pm n r.1) (kas_desc f p m q)
  | 0, _, _, _, h => h
  | f + 1, p, m, q, h => by
    refine ⟨h.lt h0 _, h.lt h0 _, fun b => ?_⟩
    cases b with
    | true =>
      show AsksP n _ (if q > 0 then _ else _)
      by_cases hq : q > 0
      · rw [if_pos hq]; exact asks_desc f _ _ ((rev_perm _ _ _).trans h)
      · rw [if_neg hq]; exact asks_desc f _ _ h
    | false =>
      refine ⟨h.lt h0 _, h.lt h0 _, fun d => ?_⟩
      cases d with
      | true => exact h
      | false => exact asks_desc f _ _ h
theorem asks_tail3 {p : Array Nat} (m nrem : Nat) (h : Pm n p) : AsksP n (fun r => Pm n r.2) (kas_tail3 m nrem p) := by
  have hr : Pm n (kas_rev p 0 m) := (rev_perm _ _ _).trans h
  refine AsksP.bind (n := n) (P := fun _ => True) (R := fun r : Nat × Array Nat => Pm n r.2) (fun k _ => ?_) (asks_asc h0 hr _ _)
  exact hr
theorem asks_descPart {p : Array Nat} (m nrem : Nat) (h : Pm n p) : AsksP n (fun r => Pm n r.2) (kas_descPart m nrem p) :=
  (asks_desc h0 _ _ _ h).bind fun r hr => by
    by_cases hq : r.2.2 > 0
    · rw [if_pos hq]; exact asks_tail3 h0 _ _ ((rev_perm _ _ _).trans hr)
    · rw [if_neg hq]; exact asks_tail3 h0 _ _ hr
theorem asks_count {p : Array Nat} (nrem : Nat) (h : Pm n p) : AsksP n (fun r => Pm n r.2) (kas_count nrem p) :=
  (asks_asc h0 h _ _).bind fun m _ => by
    by_cases h1 : (m == nrem) = true
    · rw [if_pos h1]; exact h
    · rw [if_neg h1]
      by_cases h2 : m > 1
      · rw [if_pos h2]
        refine ⟨h.lt h0 _, h.lt h0 _, fun c => ?_⟩
        cases c with
        | true => exact h
        | false => exact asks_descPart h0 _ _ ((rev_perm _ _ _).trans h)
      · rw [if_neg h2]; exact asks_descPart h0 _ _ h
theorem asks_place {p : Array Nat} (k : Nat) (h : Pm n p) : ∀ f l r, AsksP n (fun _ => True) (kas_place p k f l r)
  | 0, _, _ => trivial
  | f + 1, l, r => by
    show AsksP n _ (if l ≥ r then _ else _)
    by_cases hl : l ≥ r
    · rw [if_pos hl]; trivial
    · rw [if_neg hl]
      refine ⟨h.lt h0 _, h.lt h0 _, fun c => ?_⟩
      cases c with
      | true => exact asks_place k h f _ _
      | false => exact asks_place k h f _ _
theorem asks_bin : ∀ f {p : Array Nat} (k : Nat), Pm n p → AsksP n (Pm n) (kas_bin f p k)
  | 0, _, _, h => h
  | f + 1, p, k, h => (asks_place h0 k h _ _ _).bind fun l _ => asks_bin f (k + 1) ((bubble_perm _ _ _).trans h)
theorem asks_sort : AsksP n (Pm n) (kas_sort n) :=
  (asks_count h0 n (Array.Perm.refl _)).bind fun r hr => by
    by_cases h1 : r.1 < n
    · rw [if_pos h1]; exact asks_bin h0 _ _ hr
    · rw [if_neg h1]; exact hr
end
section
variable {lt : Nat → Nat → Bool} (O : Ord lt)
def Sto (lt : Nat → Nat → Bool) (p : Array Nat) (k : Nat) : Prop := ∀ i j, i ≤ j → j < k → lt (g p j) (g p i) = false
def Dto (lt : Nat → Nat → Bool) (p : Array Nat) (k : Nat) : Prop := ∀ i j, i ≤ j → j < k → lt (g p i) (g p j) = false
def Eqv (lt : Nat → Nat → Bool) (a b : Nat) : Prop := lt a b = false ∧ lt b a = false
include O
theorem irr (a : Nat) : lt a a = false := by
  cases h : lt a a with
  | false => rfl
  | true => have := O.asym a a h; rw [h] at this; cases this
theorem ev_asc {p : Array Nat} : ∀ f m, 1 ≤ m → Sto lt p m → m ≤ ev lt (kas_asc p f m) ∧ ev lt (kas_asc p f m) ≤ m + f ∧ Sto lt p (ev lt (kas_asc p f m)) ∧ (ev lt (kas_asc p f m) < m + f → lt (g p (ev lt (kas_asc p f m))) (g p (ev lt (kas_asc p f m) - 1)) = true)
  | 0, m, _, hs => ⟨Nat.le_refl _, Nat.le_refl _, hs, fun h => absurd h (Nat.lt_irrefl _)⟩
  | f + 1, m, h1, hs => by
    show m ≤ ev lt (if lt (g p m) (g p (m - 1)) = true then .ret m else kas_asc p f (m + 1)) ∧ ev lt (if lt (g p m) (g p (m - 1)) = true then .ret m else kas_asc p f (m + 1)) ≤ m + (f + 1) ∧ Sto lt p (ev lt (if lt (g p m) (g p (m - 1)) = true then .ret m else kas_asc p f (m + 1))) ∧ (ev lt (if lt (g p m) (g p (m - 1)) = true then .ret m else kas_asc p f (m + 1)) < m + (f + 1) → lt (g p (ev lt (if lt (g p m) (g p (m - 1)) = true then .ret m else kas_asc p f (m + 1)))) (g p (ev lt (if lt (g p m) (g p (m - 1)) = true then .ret m else kas_asc p f (m + 1)) - 1)) = true)
    by_cases c : lt (g p m) (g p (m - 1)) = true
    · rw [if_pos c]
      exact ⟨Nat.le_refl _, Nat.le_add_right _ _, hs, fun _ => c⟩
    · rw [if_neg c]
      have c : lt (g p m) (g p (m - 1)) = false := by simpa using c
      have hs' : Sto lt p (m + 1) := fun i j hij hj => by
        by_cases e : j = m
        · subst e
          by_cases e2 : i = j
          · subst e2; exact irr O _
          · exact O.ntr _ _ _ c (hs i (j - 1) (by omega) (by exact Nat.sub_lt (by assumption) (by decide)))
        · exact hs i j hij (by omega)
      obtain ⟨a, b, d, e⟩ := ev_asc f (m + 1) (by exact Nat.lt_succ_of_lt (by assumption)) hs'
      exact ⟨by exact Nat.le_of_lt (by assumption), by omega, d, fun h => e (by omega)⟩
theorem Dto.eqv {p p1 : Array Nat} {k : Nat} (h : Dto lt p k) (he : ∀ i, i < k → Eqv lt (g p1 i) (g p i)) : Dto lt p1 k := fun i j hij hj =>
  O.ntr _ _ _ (he i (by exact Nat.lt_of_le_of_lt (by assumption) (by assumption))).1 (O.ntr _ _ _ (h i j hij hj) (he j hj).2)
def Blk (lt : Nat → Nat → Bool) (p : Array Nat) (m q : Nat) : Prop := q + 1 ≤ m ∧ ∀ i j, m - (q + 1) ≤ i → i < m → m - (q + 1) ≤ j → j < m → Eqv lt (g p i) (g p j)
theorem rev_blk {p : Array Nat} {m q : Nat} (hm : m ≤ p.size) (hb : Blk lt p m q) : ∀ i, Eqv lt (g (kas_rev p (m - (q + 1)) m) i) (g p i) := fun i => by
  have h1 := hb.1
  rw [g_rev hm]
  split
  · exact hb.2 _ _ (by omega) (by omega) (by omega) (by omega)
  · exact ⟨irr O _, irr O _⟩
theorem ev_desc : ∀ f {p : Array Nat} (m q : Nat), 1 ≤ m → m + f ≤ p.size → Dto lt p m → Blk lt p m q →
    let r := ev lt (kas_desc f p m q); m ≤ r.2.1 ∧ r.2.1 ≤ m + f ∧ r.1.size = p.size ∧ Dto lt r.1 r.2.1 ∧ Blk lt r.1 r.2.1 r.2.2
  | 0, p, m, q, _, _, hd, hb => ⟨Nat.le_refl _, Nat.le_refl _, rfl, hd, hb⟩
  | f + 1, p, m, q, h1, hz, hd, hb => by
    intro r
    have b1 := hb.1
    have single : ∀ (p' : Array Nat), Blk lt p' (m + 1) 0 := fun p' => ⟨by exact Nat.lt_succ_of_lt (by assumption), fun i j a b c d => by
      have : i = j := by omega
      subst this; exact ⟨irr O _, irr O _⟩⟩
    have low : lt (g p (m - 1)) (g p m) = false → Dto lt p (m + 1) := fun c i j hij hj => by
      by_cases e : j = m
      · subst e
        by_cases e2 : i = j
        · subst e2; exact irr O _
        · exact O.ntr _ _ _ (hd i (j - 1) (by omega) (by exact Nat.sub_lt (by assumption) (by decide))) c
      · exact hd i j hij (by omega)
    by_cases c : lt (g p m) (g p (m - 1)) = true
    · have cl := low (O.asym _ _ c)
      by_cases hq : q > 0
      · have e : r = ev lt (kas_desc f (kas_rev p (m - (q + 1)) m) (m + 1) 0) := by
          show ev lt (if lt (g p m) (g p (m - 1)) = true then (if q > 0 then _ else _) else _) = _
          rw [if_pos c, if_pos hq]
        obtain ⟨a, b, s, d, k⟩ := ev_desc f (p := kas_rev p (m - (q + 1)) m) (m + 1) 0 (by exact Nat.lt_succ_of_lt (by assumption)) (by rw [rev_size]; omega) (Dto.eqv O cl fun i _ => rev_blk O (by omega) hb i) (single _)
        rw [e]
        exact ⟨by exact Nat.le_of_lt (by assumption), by omega, by rw [s, rev_size], d, k⟩
      · have e : r = ev lt (kas_desc f p (m + 1) 0) := by
          show ev lt (if lt (g p m) (g p (m - 1)) = true then (if q > 0 then _ else _) else _) = _
          rw [if_pos c, if_neg hq]
        obtain ⟨a, b, s, d, k⟩ := ev_desc f (p := p) (m + 1) 0 (by exact Nat.lt_succ_of_lt (by assumption)) (by omega) cl (single _)
        rw [e]
        exact ⟨by exact Nat.le_of_lt (by assumption), by omega, s, d, k⟩
    · have c' : lt (g p m) (g p (m - 1)) = false := by simpa using c
      by_cases d1 : lt (g p (m - 1)) (g p m) = true
      · have e : r = (p, m, q) := by
          show ev lt (if lt (g p m) (g p (m - 1)) = true then _ else KasT.ask _ _ fun d => if d = true then _ else _) = _
          rw [if_neg c]
          show ev lt (if lt (g p (m - 1)) (g p m) = true then KasT.ret (p, m, q) else _) = _
          rw [if_pos d1]
          rfl
        rw [e]
        exact ⟨Nat.le_refl _, Nat.le_add_right _ _, rfl, hd, hb⟩
      · have d' : lt (g p (m - 1)) (g p m) = false := by simpa using d1
        have e : r = ev lt (kas_desc f p (m + 1) (q + 1)) := by
          show ev lt (if lt (g p m) (g p (m - 1)) = true then _ else KasT.ask _ _ fun d => if d = true then _ else _) = _
          rw [if_neg c]
          show ev lt (if lt (g p (m - 1)) (g p m) = true then KasT.ret (p, m, q) else _) = _
          rw [if_neg d1]
        have blk : Blk lt p (m + 1) (q + 1) := ⟨by exact Nat.succ_le_succ (by assumption), fun i j i1 i2 j1 j2 => by
          have to : ∀ k, m - (q + 1) ≤ k → k < m + 1 → Eqv lt (g p k) (g p (m - 1)) := fun k k1 k2 => by
            by_cases z : k = m
            · subst z; exact ⟨c', d'⟩
            · exact hb.2 k (m - 1) k1 (by omega) (by omega) (by exact Nat.sub_lt (by assumption) (by decide))
          have a := to i (by omega) i2
          have b := to j (by omega) j2
          exact ⟨O.ntr _ _ _ a.1 b.2, O.ntr _ _ _ b.1 a.2⟩⟩
        obtain ⟨a, b, s, d, k⟩ := ev_desc f (p := p) (m + 1) (q + 1) (by exact Nat.lt_succ_of_lt (by assumption)) (by omega) (low d') blk
        rw [e]
        exact ⟨by exact Nat.le_of_lt (by assumption), by omega, s, d, k⟩
theorem Dto.rev {p : Array Nat} {m : Nat} (hm : m ≤ p.size) (h : Dto lt p m) : Sto lt (kas_rev p 0 m) m := fun i j hij hj => by
  rw [g_rev hm, g_rev hm, if_pos ⟨by exact Nat.zero_le _, by assumption⟩, if_pos ⟨by exact Nat.zero_le _, by exact Nat.lt_of_le_of_lt (by assumption) (by assumption)⟩]
  exact h _ _ (by omega) (by omega)
theorem ev_tail3 {p : Array Nat} {m nrem : Nat} (h1 : 1 ≤ m) (hn : m ≤ nrem) (hz : nrem ≤ p.size) (h : Dto lt p m) : let r := ev lt (kas_tail3 m nrem p); 1 ≤ r.1 ∧ r.1 ≤ nrem ∧ Sto lt r.2 r.1 := by
  intro r
  have e : r = (ev lt (kas_asc (kas_rev p 0 m) (nrem - m) m), kas_rev p 0 m) := ev_bind lt _ _
  obtain ⟨a, b, c, _⟩ := ev_asc O (p := kas_rev p 0 m) (nrem - m) m h1 (Dto.rev O (by exact Nat.le_trans (by assumption) (by assumption)) h)
  rw [e]
  exact ⟨by show 1 ≤ _; exact Nat.le_trans (by assumption) (by assumption), by show _ ≤ nrem; omega, c⟩
theorem ev_descPart {p : Array Nat} {m nrem : Nat} (hn : m + 1 ≤ nrem) (hz : nrem ≤ p.size) (h : Dto lt p (m + 1)) : let r := ev lt (kas_descPart m nrem p); 1 ≤ r.1 ∧ r.1 ≤ nrem ∧ Sto lt r.2 r.1 := by
  intro r
  have single : Blk lt p (m + 1) 0 := ⟨by omega, fun i j a b c d => by
    have : i = j := by omega
    subst this; exact ⟨irr O _, irr O _⟩⟩
  obtain ⟨a, b, s, d, k⟩ := ev_desc O (nrem - (m + 1)) (p := p) (m + 1) 0 (by omega) (by omega) h single
  have e : r = ev lt (if (ev lt (kas_desc (nrem - (m + 1)) p (m + 1) 0)).2.2 > 0 then kas_tail3 (ev lt (kas_desc (nrem - (m + 1)) p (m + 1) 0)).2.1 nrem (kas_rev (ev lt (kas_desc (nrem - (m + 1)) p (m + 1) 0)).1 ((ev lt (kas_desc (nrem - (m + 1)) p (m + 1) 0)).2.1 - ((ev lt (kas_desc (nrem - (m + 1)) p (m + 1) 0)).2.2 + 1)) (ev lt (kas_desc (nrem - (m + 1)) p (m + 1) 0)).2.1) else kas_tail3 (ev lt (kas_desc (nrem - (m + 1)) p (m + 1) 0)).2.1 nrem (ev lt (kas_desc (nrem - (m + 1)) p (m + 1) 0)).1) := ev_bind lt _ _
  rw [e]
  generalize ev lt (kas_desc (nrem - (m + 1)) p (m + 1) 0) = x at a b s d k
  by_cases hq : x.2.2 > 0
  · rw [if_pos hq]
    exact ev_tail3 O (by omega) (by omega) (by rw [rev_size]; omega) (Dto.eqv O d fun i _ => rev_blk O (by omega) k i)
  · rw [if_neg hq]
    exact ev_tail3 O (by omega) (by omega) (by omega) d
theorem ev_count {p : Array Nat} {nrem : Nat} (h1 : 1 ≤ nrem) (hz : nrem ≤ p.size) : let r := ev lt (kas_count nrem p); 1 ≤ r.1 ∧ r.1 ≤ nrem ∧ Sto lt r.2 r.1 := by
  intro r
  have s1 : Sto lt p 1 := fun i j hij hj => by
    have a : i = 0 := by omega
    have b : j = 0 := by omega
    subst a b; exact irr O _
  obtain ⟨a, b, c, e⟩ := ev_asc O (p := p) (nrem - 1) 1 (Nat.le_refl _) s1
  have er : r = ev lt ((fun n => if (n == nrem) = true then KasT.ret (n, p) else if n > 1 then KasT.ask (p.getD 0 0) (p.getD (n - 1) 0) fun c => if c = true then KasT.ret (n, p) else kas_descPart n nrem (kas_rev p 0 n) else kas_descPart n nrem p) (ev lt (kas_asc p (nrem - 1) 1))) := ev_bind lt _ _
  rw [er]
  generalize ev lt (kas_asc p (nrem - 1) 1) = m at a b c e
  dsimp only
  by_cases h2 : (m == nrem) = true
  · rw [if_pos h2]
    exact ⟨a, by show m ≤ nrem; omega, c⟩
  · rw [if_neg h2]
    have hm : m < nrem := by
      have : m ≠ nrem := by simpa using h2
      omega
    have last := e (by omega)
    by_cases h3 : m > 1
    · rw [if_pos h3]
      show let r := ev lt (if lt (g p 0) (g p (m - 1)) = true then KasT.ret (m, p) else kas_descPart m nrem (kas_rev p 0 m)); 1 ≤ r.1 ∧ r.1 ≤ nrem ∧ Sto lt r.2 r.1
      by_cases h4 : lt (g p 0) (g p (m - 1)) = true
      · rw [if_pos h4]
        exact ⟨a, by show m ≤ nrem; exact Nat.le_of_lt (by assumption), c⟩
      · rw [if_neg h4]
        have h4 : lt (g p 0) (g p (m - 1)) = false := by simpa using h4
        have all : ∀ i j, i < m → j < m → lt (g p i) (g p j) = false := fun i j hi hj => O.ntr _ _ _ (O.ntr _ _ _ (c 0 i (by exact Nat.zero_le _) hi) h4) (c j (m - 1) (by omega) (by exact Nat.sub_lt (by assumption) (by decide)))
        have blk : Blk lt p m (m - 1) := ⟨by exact Nat.sub_lt (by assumption) (by decide), fun i j _ i2 _ j2 => ⟨all i j i2 j2, all j i j2 i2⟩⟩
        have d1 : Dto lt p (m + 1) := fun i j hij hj => by
          by_cases z : j = m
          · subst z
            by_cases z2 : i = j
            · subst z2; exact irr O _
            · exact O.ntr _ _ _ (all i (j - 1) (by omega) (by exact Nat.sub_lt (by assumption) (by decide))) (O.asym _ _ last)
          · exact all i j (by omega) (by omega)
        have rb := rev_blk O (by omega) blk
        rw [show m - (m - 1 + 1) = 0 by omega] at rb
        exact ev_descPart O (by assumption) (by rw [rev_size]; assumption) (Dto.eqv O d1 fun i _ => rb i)
    · rw [if_neg h3]
      have : m = 1 := by omega
      subst this
      refine ev_descPart O (by assumption) hz fun i j hij hj => ?_
      by_cases z : i = j
      · subst z; exact irr O _
      · have a0 : i = 0 := by omega
        have b1 : j = 1 := by omega
        subst a0 b1
        exact O.asym _ _ last
theorem ev_place {p : Array Nat} {k : Nat} : ∀ f l r, r - l ≤ f → l ≤ r → r ≤ k → (∀ i, i < l → lt (g p k) (g p i) = false) → (∀ i, r ≤ i → i < k → lt (g p k) (g p i) = true) → Sto lt p k →
    let x := ev lt (kas_place p k f l r); x ≤ k ∧ (∀ i, i < x → lt (g p k) (g p i) = false) ∧ ∀ i, x ≤ i → i < k → lt (g p k) (g p i) = true
  | 0, l, r, hf, hlr, hrk, h1, h2, _ => by
    have : l = r := by omega
    subst this
    exact ⟨hrk, h1, h2⟩
  | f + 1, l, r, hf, hlr, hrk, h1, h2, hs => by
    intro x
    by_cases hl : l ≥ r
    · have e : x = l := by
        show ev lt (if l ≥ r then KasT.ret l else _) = l
        rw [if_pos hl]; rfl
      have : l = r := by omega
      subst this
      rw [e]
      exact ⟨hrk, h1, h2⟩
    · by_cases c : lt (g p k) (g p ((l + r) / 2)) = true
      · have e : x = ev lt (kas_place p k f l ((l + r) / 2)) := by
          show ev lt (if l ≥ r then KasT.ret l else KasT.ask _ _ fun c => if c = true then _ else _) = _
          rw [if_neg hl]
          show ev lt (if lt (g p k) (g p ((l + r) / 2)) = true then _ else _) = _
          rw [if_pos c]
        rw [e]
        refine ev_place f l ((l + r) / 2) (by omega) (by omega) (by omega) h1 (fun i i1 i2 => ?_) hs
        cases z : lt (g p k) (g p i) with
        | true => rfl
        | false =>
          have := O.ntr _ _ _ z (hs ((l + r) / 2) i i1 i2)
          rw [c] at this; cases this
      · have c' : lt (g p k) (g p ((l + r) / 2)) = false := by simpa using c
        have e : x = ev lt (kas_place p k f ((l + r) / 2 + 1) r) := by
          show ev lt (if l ≥ r then KasT.ret l else KasT.ask _ _ fun c => if c = true then _ else _) = _
          rw [if_neg hl]
          show ev lt (if lt (g p k) (g p ((l + r) / 2)) = true then _ else _) = _
          rw [if_neg c]
        rw [e]
        refine ev_place f ((l + r) / 2 + 1) r (by omega) (by omega) hrk (fun i i1 => O.ntr _ _ _ c' (hs i ((l + r) / 2) (by omega) (by omega))) h2 hs
theorem ev_bin : ∀ f {p : Array Nat} (k : Nat), k + f = p.size → Sto lt p k → Sto lt (ev lt (kas_bin f p k)) p.size
  | 0, p, k, hz, hs => by
    have : k = p.size := by assumption
    subst this; exact hs
  | f + 1, p, k, hz, hs => by
    have e : ev lt (kas_bin (f + 1) p k) = ev lt (kas_bin f (bubble p k (k - ev lt (kas_place p k k 0 k))) (k + 1)) := ev_bind lt _ _
    obtain ⟨x1, x2, x3⟩ := ev_place O (p := p) (k := k) k 0 k (by exact Nat.le_refl _) (by exact Nat.zero_le _) (Nat.le_refl _) (fun i hi => by omega) (fun i i1 i2 => by omega) hs
    rw [e]
    generalize ev lt (kas_place p k k 0 k) = x at x1 x2 x3
    have hs' : Sto lt (bubble p k (k - x)) (k + 1) := fun i j hij hj => by
      rw [g_bub (by omega) (by exact Nat.sub_le _ _), g_bub (by omega) (by exact Nat.sub_le _ _), show k - (k - x) = x by omega]
      by_cases j1 : j = x
      · rw [if_pos j1]
        by_cases i1 : i = x
        · rw [if_pos i1]; exact irr O _
        · rw [if_neg i1, if_neg (by omega)]
          exact x2 i (by omega)
      · rw [if_neg j1]
        by_cases j2 : x < j ∧ j ≤ k
        · rw [if_pos j2]
          by_cases i1 : i = x
          · rw [if_pos i1]; exact O.asym _ _ (x3 (j - 1) (by omega) (by omega))
          · rw [if_neg i1]
            by_cases i2 : x < i ∧ i ≤ k
            · rw [if_pos i2]; exact hs (i - 1) (j - 1) (by omega) (by omega)
            · rw [if_neg i2]; exact hs i (j - 1) (by omega) (by omega)
        · rw [if_neg j2, if_neg (by omega), if_neg (by omega)]
          exact hs i j hij (by omega)
    have := ev_bin f (p := bubble p k (k - x)) (k + 1) (by rw [bubble_size]; omega) hs'
    rw [bubble_size] at this
    exact this
theorem ev_sort {n : Nat} (h1 : 1 ≤ n) : Sto lt (ev lt (kas_sort n)) n := by
  have hz : (List.range n).toArray.size = n := by simp
  have e : ev lt (kas_sort n) = ev lt ((fun r : Nat × Array Nat => if r.1 < n then kas_bin (n - max r.1 1) r.2 (max r.1 1) else .ret r.2) (ev lt (kas_count n (List.range n).toArray))) := ev_bind lt _ _
  obtain ⟨a, b, c⟩ := ev_count O (p := (List.range n).toArray) h1 (by omega)
  have pm : Pm n (ev lt (kas_count n (List.range n).toArray)).2 := (asks_count (by assumption) n (Array.Perm.refl _)).ev lt
  rw [e]
  generalize ev lt (kas_count n (List.range n).toArray) = r at a b c pm
  dsimp only
  have sz := pm.size
  by_cases h : r.1 < n
  · rw [if_pos h, show max r.1 1 = r.1 by omega]
    have := ev_bin O (n - r.1) (p := r.2) r.1 (by omega) c
    rw [sz] at this
    exact this
  · rw [if_neg h]
    have : r.1 = n := by omega
    rw [this] at c
    exact c
end
end Srt
set_option maxHeartbeats 1000000
namespace Srt
open PySem PySem.W PyProof.Rows
section
variable {prog : Program} {w : World} {A : Around} {E : Value → Shared → Prop} {s : Shared}
theorem list_sort_raw {κ : SortKind} {lt : Nat → Nat → Bool} (O : Ord lt) {a : Addr} {vs : List Value} {n : Nat} {P : PySem.Fin → Shared → Prop} (ho : s.heap.get? a = some (seqObj "list" vs.toArray n)) (h64 : vs.length < 64)
    (hk : ∀ h', (∀ b o, b ≠ a → s.heap.get? b = some o → h'.get? b = some o) → 2 ≤ vs.length → ∀ Q : SortKind → Shared → Prop, Q κ { s with heap := h' } → wpAny (model prog w) A (keyKind' vs.toArray) Q E { s with heap := h' })
    (hc : ∀ h', (∀ b o, b ≠ a → s.heap.get? b = some o → h'.get? b = some o) → ∀ i j (C : Bool → Shared → Prop), i < vs.length → j < vs.length → C (lt i j) { s with heap := h' } → kas_ask prog w A κ vs i j C { s with heap := h' })
    (h : ∀ p : Array Nat, Pm vs.length p → Sto lt p vs.length → P (.done (.ret .none)) { s with heap := sortedHeap s.heap a vs (p.toList.map fun i => vs.getD i Value.none).toArray }) :
    wpAny (model prog w) A (Builtin.«list.sort» ⟨[.ref a], []⟩) P E s := by
  rw [list_sort_plain]
  have ha : a < s.heap.objs.size := Heap.lt_size ho
  refine wpAny_bind (listItems_at ho rfl ?_)
  refine wpAny_bind (listUpdate_at ho rfl ?_ (by rw [List.size_toArray, sizeLine_eq]; omega) (Nat.zero_le _))
  obtain ⟨e1, ho1⟩ : ∃ e1, (s.heap.update a (Obj.mapSeq fun _ => #[])).get? a = some (seqObj "list" #[] e1) := ⟨_, get?_update_seq ho (fun _ => #[])⟩
  refine wpAny_bind (seqEpoch_at ho1 rfl ?_)
  refine wpAny_bind (wpAny_newTuple ?_ (by show vs.length ≤ _; rw [sizeLine_eq]; omega))
  refine wpAny_bind (wpAny_newList ?_ (Nat.zero_le _))
  refine wpAny_holding ?_
  have keep : ∀ b o, b ≠ a → s.heap.get? b = some o → (((s.heap.update a (Obj.mapSeq fun _ => #[])).push (seqObj "tuple" vs.toArray 0)).push (seqObj "list" #[] 0)).get? b = some o := fun b o ne q => by
    have hlt : b < s.heap.objs.size := Heap.lt_size q
    rw [Heap.get?_push_ne _ _ _ (by rw [size_push', Heap.size_update]; exact Nat.ne_of_lt (Nat.lt_succ_of_lt hlt)), Heap.get?_push_ne _ _ _ (by rw [Heap.size_update]; exact Nat.ne_of_lt hlt), Heap.get?_update_ne _ _ _ _ ne]
    exact q
  have ho6 : (((s.heap.update a (Obj.mapSeq fun _ => #[])).push (seqObj "tuple" vs.toArray 0)).push (seqObj "list" #[] 0)).get? a = some (seqObj "list" #[] e1) := by
    rw [Heap.get?_push_ne _ _ _ (by rw [size_push', Heap.size_update]; exact Nat.ne_of_lt (Nat.lt_succ_of_lt ha)), Heap.get?_push_ne _ _ _ (by rw [Heap.size_update]; exact Nat.ne_of_lt ha)]
    exact ho1
  show wpAny (model prog w) A _ P E { s with heap := ((s.heap.update a (Obj.mapSeq fun _ => #[])).push (seqObj "tuple" vs.toArray 0)).push (seqObj "list" #[] 0) }
  dsimp only
  have hsz : vs.toArray.size = vs.length := by simp
  by_cases h2 : vs.toArray.size < 2
  · rw [if_pos h2, if_pos h2]
    refine wpAny_bind (wpAny_pure ?_)
    rw [StateT.run_pure]
    refine wpAny_bind (wpAny_pure ?_)
    dsimp only
    refine wpAny_bind (seqEpoch_at ho6 rfl ?_)
    refine wpAny_bind (listUpdate_at ho6 rfl ?_ (hsz2 := by rw [Array.size_map]; show (pairsOf vs).size ≤ _; rw [pairsOf_size, sizeLine_eq]; omega))
    simp only [bne_self_eq_false, Bool.false_eq_true, if_false]
    have fin := h (List.range vs.length).toArray (Array.Perm.refl _) (fun i j hij hj => by
      have : i = j := by omega
      subst this; exact irr O _)
    have e : (List.range vs.length).toArray.toList.map (fun i => vs.getD i Value.none) = vs := by
      refine List.ext_getElem? fun i => ?_
      simp only [List.getElem?_map]
      by_cases hi : i < vs.length
      · simp [hi]
      · simp [Nat.le_of_not_lt hi]
    rw [e] at fin
    have e2 : (Array.map (fun x => x.snd) (vs.toArray.zip vs.toArray)) = vs.toArray := by
      apply Array.toList_inj.mp
      simp [List.map_snd_zip]
    rw [show Array.map (fun x : Keyed => x.snd) (arrOf (SortSt.mk' general' (vs.toArray.zip vs.toArray) #[] 7 none)) = vs.toArray from e2]
    exact wpAny_pure fin
  · rw [if_neg h2, if_neg h2]
    have h2' : 2 ≤ vs.length := by rw [hsz] at h2; exact Nat.not_lt.mp (by assumption)
    refine wpAny_bind (hk _ keep h2' _ ?_)
    refine wpAny_bind (wpAny_mono (kat_run (ks := vs) (vs := vs) (κ := κ) (Q := fun st' s' => ∃ p : Array Nat, s' = { s with heap := ((s.heap.update a (Obj.mapSeq fun _ => #[])).push (seqObj "tuple" vs.toArray 0)).push (seqObj "list" #[] 0) } ∧ Pm vs.length p ∧ Sto lt p vs.length ∧ arrOf st' = p.map (kas_item (vs.toArray.zip vs.toArray)) ∧ failedOf st' = none)
      rfl h2' h64 (G := fun p s' => s' = { s with heap := ((s.heap.update a (Obj.mapSeq fun _ => #[])).push (seqObj "tuple" vs.toArray 0)).push (seqObj "list" #[] 0) } ∧ Pm vs.length p ∧ Sto lt p vs.length) (fun p st' s' a1 a2 a3 a4 => ⟨p, a4.1, a4.2.1, a4.2.2, a2, a3⟩) ?_) ?_ fun _ _ e => e)
    · exact AsksP.wp (lt := lt) (hc _ keep) (asks_sort (by exact Nat.le_of_lt (by assumption))) ⟨rfl, (asks_sort (by exact Nat.le_of_lt (by assumption))).ev lt, ev_sort O (by exact Nat.le_of_lt (by assumption))⟩
    · rintro ⟨⟨⟩, st'⟩ s' ⟨p, rfl, hp, hs, har, hf⟩
      dsimp only
      rw [kat_snds rfl har]
      refine wpAny_bind (seqEpoch_at ho6 rfl ?_)
      refine wpAny_bind (listUpdate_at ho6 rfl ?_ (Nat.zero_le _) (by rw [List.size_toArray, List.length_map, Array.length_toList, hp.size, sizeLine_eq]; omega))
      rw [hf]
      simp only [bne_self_eq_false, Bool.false_eq_true, if_false]
      exact wpAny_pure (h p hp hs)
theorem sorted_raw {κ : SortKind} {lt : Nat → Nat → Bool} (O : Ord lt) {v : Value} (I : List Value → Prop) {Q : Value → Shared → Prop} (h64 : ∀ vs, I vs → vs.length < 64)
    (hcol : ∀ (Q : List Value → Shared → Prop), (∀ vs h1 t1, I vs → (∀ b o, s.heap.get? b = some o → h1.get? b = some o) → Q vs { s with heap := h1, toks := t1 }) → wpAny (model prog w) A.in1 (collect v) Q E s)
    (hk : ∀ vs h' t', I vs → (∀ b o, s.heap.get? b = some o → h'.get? b = some o) → 2 ≤ vs.length → ∀ Q : SortKind → Shared → Prop, Q κ { s with heap := h', toks := t' } → wpAny (model prog w) A.in1.in1 (keyKind' vs.toArray) Q E { s with heap := h', toks := t' })
    (hc : ∀ vs h' t', I vs → (∀ b o, s.heap.get? b = some o → h'.get? b = some o) → ∀ i j (C : Bool → Shared → Prop), i < vs.length → j < vs.length → C (lt i j) { s with heap := h', toks := t' } → kas_ask prog w A.in1.in1 κ vs i j C { s with heap := h', toks := t' })
    (h : ∀ vs (p : Array Nat) (h1 h' : Heap) t' l e, I vs → Pm vs.length p → Sto lt p vs.length → (∀ b o, s.heap.get? b = some o → h1.get? b = some o) → (∀ b o, h1.get? b = some o → h'.get? b = some o) → h1.objs.size ≤ l → h'.get? l = some (seqObj "list" (p.toList.map fun i => vs.getD i Value.none).toArray e) → Q (.ref l) { s with heap := h', toks := t' }) :
    wpAny (model prog w) A (call (.builtin "sorted") [v]) Q E s := by
  refine Calls.call_function_entry kind_sorted plain_sorted entry_sorted (args_sorted1 _) ?_
  unfold Builtin.«sorted»
  refine wpAny_bind (m := checkCount "sorted" 1 1 _) (wpAny_pure ?_)
  refine wpAny_bind (hcol _ fun vs h1 t1 hI k1 => ?_)
  have h64 := h64 vs hI
  refine wpAny_bind (wpAny_newList ?_ (by rw [sizeLine_eq]; omega))
  have hoL : (h1.push (seqObj "list" vs.toArray 0)).get? h1.objs.size = some (seqObj "list" vs.toArray 0) := Heap.get?_push_size _ rfl
  show wpAny _ _ _ _ _ { s with heap := h1.push (seqObj "list" vs.toArray 0), toks := t1 }
  have k3 : ∀ b o, h1.get? b = some o → b ≠ h1.objs.size ∧ (h1.push (seqObj "list" vs.toArray 0)).get? b = some o := fun b o q =>
    ⟨Nat.ne_of_lt (Heap.lt_size q), Heap.get?_push_of_some _ q⟩
  have k2 : ∀ b o, s.heap.get? b = some o → b ≠ h1.objs.size ∧ (h1.push (seqObj "list" vs.toArray 0)).get? b = some o := fun b o q => k3 b o (k1 b o q)
  refine wpAny_bind (wpAny_holding (wpAny_call_entry slot_list_sort ⟨_, hoL, rfl⟩ entry_list_sort (list_sort_raw (s := { s with heap := h1.push (seqObj "list" vs.toArray 0), toks := t1 }) (κ := κ) O hoL h64 (fun h' k l2 Q q => ?_) (fun h' k i j C hi hj q => ?_) fun p hp hs => ⟨_, rfl, ?_⟩) (args_list_sort _)))
  · exact hk vs h' t1 hI (fun b o q => k b o (k2 b o q).1 (k2 b o q).2) l2 Q q
  · exact hc vs h' t1 hI (fun b o q => k b o (k2 b o q).1 (k2 b o q).2) i j C hi hj q
  · refine wpAny_pure ⟨_, rfl, ?_⟩
    have hz : h1.objs.size < (h1.push (seqObj "list" vs.toArray 0)).objs.size := by rw [size_push']; exact Nat.lt_succ_self _
    obtain ⟨e, he⟩ : ∃ e, (sortedHeap (h1.push (seqObj "list" vs.toArray 0)) h1.objs.size vs (p.toList.map fun i => vs.getD i Value.none).toArray).get? h1.objs.size = some (seqObj "list" (p.toList.map fun i => vs.getD i Value.none).toArray e) := by
      unfold sortedHeap
      obtain ⟨e1, ho1⟩ : ∃ e1, ((h1.push (seqObj "list" vs.toArray 0)).update h1.objs.size (Obj.mapSeq fun _ => #[])).get? h1.objs.size = some (seqObj "list" #[] e1) := ⟨_, get?_update_seq hoL (fun _ => #[])⟩
      have ho6 : ((((h1.push (seqObj "list" vs.toArray 0)).update h1.objs.size (Obj.mapSeq fun _ => #[])).push (seqObj "tuple" vs.toArray 0)).push (seqObj "list" #[] 0)).get? h1.objs.size = some (seqObj "list" #[] e1) := by
        exact Heap.get?_push_of_some _ (Heap.get?_push_of_some _ ho1)
      exact ⟨_, get?_update_seq ho6 fun _ => _⟩
    refine h vs p h1 _ t1 h1.objs.size e hI hp hs k1 (fun b o q => ?_) (Nat.le_refl _) he
    have q2 := k3 b o q
    unfold sortedHeap
    rw [Heap.get?_update_ne _ _ _ _ q2.1]
    refine Heap.get?_push_of_some _ (Heap.get?_push_of_some _ ?_)
    rw [Heap.get?_update_ne _ _ _ _ q2.1]
    exact q2.2
end
end Srt
set_option maxHeartbeats 1000000
namespace Srt
open PySem PySem.W PyProof.Rows L2
def ltK : Key → Key → Bool
  | .inl a, .inl b => decide (a < b)
  | .inr a, .inr b => decide (a.cps.toList < b.cps.toList)
  | .inl _, .inr _ => true
  | .inr _, .inl _ => false
def ltR : List Key → List Key → Bool
  | x :: xs, y :: ys => if x = y then ltR xs ys else ltK x y
  | [], _ :: _ => true
  | _, [] => false
theorem str_ext {a b : Str} (h : a.cps.toList = b.cps.toList) : a = b := by
  cases a; cases b; simp at h; rw [h]
theorem ltK_irr : ∀ a, ltK a a = false
  | .inl a => by simp [ltK]
  | .inr a => by simp [ltK, List.lt_irrefl]
theorem ltK_tr : ∀ {a b c}, ltK a b = true → ltK b c = true → ltK a c = true
  | .inl a, .inl b, .inl c, h1, h2 => by simp only [ltK, decide_eq_true_eq] at *; omega
  | .inr a, .inr b, .inr c, h1, h2 => by simp only [ltK, decide_eq_true_eq] at *; exact List.lt_trans h1 h2
  | .inl _, .inl _, .inr _, _, _ => rfl
  | .inl _, .inr _, .inr _, _, _ => rfl
  | .inl _, .inr _, .inl _, _, h2 => by simp [ltK] at h2
  | .inr _, .inl _, _, h1, _ => by simp [ltK] at h1
  | .inr _, .inr _, .inl _, _, h2 => by simp [ltK] at h2
theorem ltK_tri : ∀ a b, ltK a b = false → a = b ∨ ltK b a = true
  | .inl a, .inl b, h => by
    simp only [ltK, decide_eq_true_eq, decide_eq_false_iff_not] at *
    rcases Int.lt_trichotomy a b with x | x | x
    · exact absurd x h
    · exact .inl (by rw [x])
    · exact .inr x
  | .inr a, .inr b, h => by
    simp only [ltK, decide_eq_true_eq, decide_eq_false_iff_not] at *
    by_cases e : b.cps.toList < a.cps.toList
    · exact .inr e
    · exact .inl (congrArg Sum.inr (str_ext (List.le_antisymm (List.not_lt.mp e) (List.not_lt.mp h))))
  | .inl _, .inr _, h => by simp [ltK] at h
  | .inr _, .inl _, _ => .inr rfl
theorem ltR_irr : ∀ a, ltR a a = false
  | [] => rfl
  | x :: xs => by simp [ltR, ltR_irr xs]
theorem ltR_tr : ∀ {a b c}, ltR a b = true → ltR b c = true → ltR a c = true
  | _, [], _, h, _ => by simp [ltR] at h
  | _, _ :: _, [], _, h => by simp [ltR] at h
  | [], _ :: _, _ :: _, _, _ => rfl
  | x :: xs, y :: ys, z :: zs, h1, h2 => by
    unfold ltR at h1 h2 ⊢
    by_cases e1 : x = y
    · subst e1
      rw [if_pos rfl] at h1
      by_cases e2 : x = z
      · rw [if_pos e2] at h2 ⊢; exact ltR_tr h1 h2
      · rw [if_neg e2] at h2 ⊢; exact h2
    · rw [if_neg e1] at h1
      by_cases e2 : y = z
      · subst e2
        rw [if_neg e1]; exact h1
      · rw [if_neg e2] at h2
        have := ltK_tr h1 h2
        rw [if_neg (fun e => by rw [e, ltK_irr] at this; cases this)]
        exact this
theorem ltR_tri : ∀ a b, ltR a b = false → a = b ∨ ltR b a = true
  | [], [], _ => .inl rfl
  | [], _ :: _, h => by simp [ltR] at h
  | _ :: _, [], _ => .inr rfl
  | x :: xs, y :: ys, h => by
    unfold ltR at h ⊢
    by_cases e : x = y
    · subst e
      rw [if_pos rfl] at h ⊢
      rcases ltR_tri xs ys h with r | r
      · exact .inl (by rw [r])
      · exact .inr r
    · rw [if_neg e] at h
      rw [if_neg (fun z => e z.symm)]
      exact .inr ((ltK_tri _ _ h).resolve_left e)
theorem ord_rows (f : Nat → List Key) : Ord fun i j => ltR (f i) (f j) where
  asym := fun a b h => by
    cases e : ltR (f b) (f a) with
    | false => rfl
    | true => have := ltR_tr h e; rw [ltR_irr] at this; cases this
  ntr := fun a b c h1 h2 => by
    cases e : ltR (f a) (f c) with
    | false => rfl
    | true =>
      rcases ltR_tri _ _ h1 with r | r
      · rw [r, h2] at e; cases e
      · have := ltR_tr r e; rw [h2] at this; cases this
def isL : Key → Bool
  | .inl _ => true
  | .inr _ => false
section
variable {prog : Program} {w : World} {A : Around} {E : Value → Shared → Prop} {s : Shared}
theorem key_eq : ∀ {x y : Key} {u v : Value} {C : Bool → Shared → Prop}, isL x = isL y → RelV (kV x) u → RelV (kV y) v → C (decide (x = y)) s → wpAny (model prog w) A (eqBool u v) C E s
  | .inl a, .inl b, _, _, C, _, ⟨t, rfl⟩, ⟨t', rfl⟩, h => wpAny_eqBool_int (by
      have : (a == b) = decide ((Sum.inl a : Key) = Sum.inl b) := by simp only [Sum.inl.injEq]; rfl
      rw [this]; exact h)
  | .inr a, .inr b, _, _, C, _, ⟨t, rfl⟩, ⟨t', rfl⟩, h => wpAny_eqBool_str (by
      have : decide (a = b) = decide ((Sum.inr a : Key) = Sum.inr b) := by simp
      rw [this]; exact h)
  | .inl _, .inr _, _, _, _, h, _, _, _ => by cases h
  | .inr _, .inl _, _, _, _, h, _, _, _ => by cases h
theorem key_lt : ∀ {x y : Key} {u v : Value} {b : Bool} {C : Bool → Shared → Prop}, isL x = isL y → RelV (kV x) u → RelV (kV y) v → C (ltK x y) s → wpAny (model prog w) A (oneLt' b u v) C E s
  | .inl a, .inl c, _, _, true, C, _, ⟨t, rfl⟩, ⟨t', rfl⟩, h => oneLt_int h
  | .inl a, .inl c, _, _, false, C, _, ⟨t, rfl⟩, ⟨t', rfl⟩, h => kat_one _ _ (PyProof.Rows.lt_int (show PySem.W.BoolBack C _ s from h))
  | .inr a, .inr c, _, _, true, C, _, ⟨t, rfl⟩, ⟨t', rfl⟩, h => oneLt_str h
  | .inr a, .inr c, _, _, false, C, _, ⟨t, rfl⟩, ⟨t', rfl⟩, h => kat_one _ _ (PySem.P.lt_str (show PySem.W.BoolBack C _ s from h))
  | .inl _, .inr _, _, _, _, _, h, _, _, _ => by cases h
  | .inr _, .inl _, _, _, _, _, h, _, _, _ => by cases h
theorem lex_go {b fin : Bool} {C : Bool → Shared → Prop} (hf : fin = false) : ∀ {x y : List Key} {us vs : List Value} (i : Nat), x.map isL = y.map isL → Vals (x.map kV) us → Vals (y.map kV) vs → C (ltR x y) s → KatLex prog w A b fin C (us.zip vs) i s
  | [], [], _, _, i, _, .nil, .nil, h => by subst hf; exact h
  | [], _ :: _, _, _, _, e, _, _, _ => by cases e
  | _ :: _, [], _, _, _, e, _, _, _ => by cases e
  | x :: xs, y :: ys, _, _, i, e, .cons r1 r2, .cons q1 q2, h => by
    simp only [List.map_cons, List.cons.injEq] at e
    refine kat_cons (key_eq e.1 r1 q1 ?_)
    unfold ltR at h
    by_cases z : x = y
    · rw [decide_eq_true z]
      rw [if_pos z] at h
      exact kat_yes (lex_go hf (i + 1) e.2 r2 q2 h)
    · rw [decide_eq_false z]
      rw [if_neg z] at h
      exact kat_no (key_lt e.1 r1 q1 h)
end
abbrev Row := Addr × List Key
def rRef (q : Row) : V := .ref q.1
theorem tups_of {X : Cx} {pins : List (Addr × Obj)} {σ : L2.St} {H : Hp} {s : Shared} (I : Inv X pins σ H s) : ∀ (ps : List Row), (∀ q ∈ ps, SqT X.K H q.1 (q.2.map kV)) → (∀ q ∈ ps, q.2 ≠ []) →
    ∃ fs, KatTups s.heap (ps.map fun q => Value.ref q.1) fs ∧ fs.length = ps.length ∧ ∀ v ∈ fs, ∃ q ∈ ps, ∃ k r, q.2 = k :: r ∧ RelV (kV k) v
  | [], _, _ => ⟨[], trivial, rfl, fun v h => nomatch h⟩
  | q :: ps, h, h0 => by
    obtain ⟨fs, t, l, f⟩ := tups_of I ps (fun q hq => h q (.tail _ hq)) fun q hq => h0 q (.tail _ hq)
    obtain ⟨its, rv, ⟨o, ho, hc, n, hd⟩, hz⟩ := I.tuple (h q (.head _))
    cases e : q.2 with
    | nil => exact absurd e (h0 q (.head _))
    | cons k r =>
      rw [e, List.map_cons] at rv
      cases rv with
      | @cons _ u _ us ru rr =>
        refine ⟨u :: fs, .cons ho hc hd (by simp) t, by simp [l], fun v hv => ?_⟩
        rcases List.mem_cons.mp hv with rfl | hv
        · exact ⟨q, .head _, k, r, e, ru⟩
        · obtain ⟨q', h1, k', r', h2, h3⟩ := f v hv
          exact ⟨q', .tail _ h1, k', r', h2, h3⟩
theorem looks_key {M : Model} {h : Heap} : ∀ {k : Key} {v : Value}, RelV (kV k) v → Looks M h (typeOf v) (if isL k = true then Value.type "int" else Value.type "str")
  | .inl i, v, ⟨t, e⟩ => by subst e; exact Looks.of_pure rfl
  | .inr x, v, ⟨t, e⟩ => by subst e; exact Looks.of_pure rfl
theorem Pm.toList {n : Nat} {p : Array Nat} (h : Pm n p) : p.toList.Perm (List.range n) := by
  have := (Array.perm_iff_toList_perm).mp h
  simpa using this
theorem map_range_getD {α : Type} (l : List α) (d : α) : (List.range l.length).map (fun i => l.getD i d) = l := by
  refine List.ext_getElem? fun i => ?_
  simp only [List.getElem?_map]
  by_cases hi : i < l.length
  · simp [hi]
  · simp [Nat.le_of_not_lt hi]
theorem Sto.pairwise {lt : Nat → Nat → Bool} {p : Array Nat} {n : Nat} (hz : p.size = n) (h : Sto lt p n) : p.toList.Pairwise fun i j => lt j i = false := by
  rw [List.pairwise_iff_getElem]
  intro i j hi hj hij
  have := h i j (Nat.le_of_lt hij) (by simpa [← hz] using hj)
  simp only [Array.length_toList] at hi hj
  have e1 : g p i = p.toList[i] := by simp [g, Array.getD, hi]
  have e2 : g p j = p.toList[j] := by simp [g, Array.getD, hj]
  rw [e1, e2] at this
  exact this
theorem vals_map {α : Type} (f : α → V) (f' : α → Value) (hf : ∀ a, RelV (f a) (f' a)) : ∀ l : List α, Vals (l.map f) (l.map f')
  | [] => .nil
  | a :: l => .cons (hf a) (vals_map f f' hf l)
theorem sortT_core {X : Cx} {pins : List (Addr × Obj)} {σ : L2.St} {H : Hp} {s : Shared} (I : Inv X pins σ H s) {v : Value} {ps : List Row} {Q : VK} (hT : ∀ q ∈ ps, SqT X.K H q.1 (q.2.map kV)) (hS : ∀ q ∈ ps, ∀ q' ∈ ps, q.2.map isL = q'.2.map isL) (h0 : ∀ q ∈ ps, q.2 ≠ []) (h64 : ps.length < 64)
    (hcol : ∀ (Q : List Value → Shared → Prop), (∀ h1 t1, (∀ b o, s.heap.get? b = some o → h1.get? b = some o) → Q (ps.map fun q => Value.ref q.1) { s with heap := h1, toks := t1 }) → wpAny (model X.prog X.w) X.A.in1 (collect v) Q X.xe s)
    (h : ∀ (l : Addr) (ps' : List Row), H l = none → ps'.Perm ps → ps'.Pairwise (fun a b => ltR b.2 a.2 = false) → Q (.ref l) (upd H l (.lst (ps'.map rRef)))) :
    wpAny (model X.prog X.w) X.A (call (.builtin "sorted") [v]) (EP X pins σ Q) X.xe s := by
  have lz : (ps.map fun q => Value.ref q.1).length = ps.length := List.length_map ..
  refine sorted_raw (κ := tuples' true) (ord_rows fun i => (ps.getD i (0, [])).2) (fun vs => vs = ps.map fun q => Value.ref q.1) (fun vs e => by rw [e, lz]; exact h64) (fun Q hq => hcol Q fun h1 t1 k => hq _ h1 t1 rfl k) ?_ ?_ ?_
  · rintro vs h' t' rfl k l2 Q hq
    rw [lz] at l2
    have I' : Inv X pins σ H { s with heap := h', toks := t' } := I.kept k
    obtain ⟨fs, t, l, f⟩ := tups_of I' ps hT h0
    obtain ⟨q0, r0, e0⟩ : ∃ q0 r0, ps = q0 :: r0 := by
      match ps, l2 with
      | q0 :: r0, _ => exact ⟨q0, r0, rfl⟩
    have m0 : q0 ∈ ps := by rw [e0]; exact .head _
    obtain ⟨k0, r1, e1⟩ : ∃ k0 r1, q0.2 = k0 :: r1 := by
      cases e : q0.2 with
      | nil => exact absurd e (h0 q0 m0)
      | cons k r => exact ⟨k, r, rfl⟩
    refine kat_kind (s := { s with heap := h', toks := t' }) (T := if isL k0 = true then Value.type "int" else Value.type "str") t (by omega) (fun v hv => ?_) (by split <;> rfl) ?_
    · obtain ⟨q, hq, k', r', e', rk⟩ := f v hv
      have := hS q hq q0 m0
      rw [e', e1] at this
      simp only [List.map_cons, List.cons.injEq] at this
      rw [← this.1]
      exact looks_key rk
    · have : ((if isL k0 = true then Value.type "int" else Value.type "str") != Value.type "tuple") = true := by split <;> rfl
      rw [this]; exact hq
  · rintro vs h' t' rfl k i j C hi hj hC
    rw [lz] at hi hj
    have I' : Inv X pins σ H { s with heap := h', toks := t' } := I.kept k
    show wpAny _ _ (keyLt' _ ((ps.map fun q => Value.ref q.1).getD i Value.none) ((ps.map fun q => Value.ref q.1).getD j Value.none)) C _ _
    have ei : (ps.map fun q => Value.ref q.1).getD i Value.none = Value.ref ps[i].1 := by simp [hi]
    have ej : (ps.map fun q => Value.ref q.1).getD j Value.none = Value.ref ps[j].1 := by simp [hj]
    have fi : ps.getD i (0, []) = ps[i] := by simp [hi]
    have fj : ps.getD j (0, []) = ps[j] := by simp [hj]
    rw [ei, ej]
    rw [fi, fj] at hC
    obtain ⟨ui, ri, ⟨oi, hoi, hci, ni, hdi⟩, zi⟩ := I'.tuple (hT ps[i] (List.getElem_mem hi))
    obtain ⟨uj, rj, ⟨oj, hoj, hcj, nj, hdj⟩, zj⟩ := I'.tuple (hT ps[j] (List.getElem_mem hj))
    have sh := hS _ (List.getElem_mem hi) _ (List.getElem_mem hj)
    have el : ui.length = uj.length := by
      rw [← ri.length, ← rj.length, List.length_map, List.length_map]
      simpa using congrArg List.length sh
    refine kat_lt hoi hdi hoj hdj (lex_go (by simp [el]) 0 sh ri rj hC)
  · rintro vs p h1 h' t' l e rfl pm st k1 k zl hl
    have I : Inv X pins σ H { s with heap := h1, toks := t' } := I.kept k1
    have pl := pm.toList
    rw [lz] at pl pm st
    have hz := pm.size
    have mem : ∀ i ∈ p.toList, i < ps.length := fun i hi => by simpa using pl.mem_iff.mp hi
    have e1 : (p.toList.map fun i => (ps.map fun q => Value.ref q.1).getD i Value.none) = (p.toList.map fun i => ps.getD i (0, [])).map fun q => Value.ref q.1 := by
      rw [List.map_map]
      refine List.map_congr_left fun i hi => ?_
      have := mem i hi
      simp [this]
    rw [e1] at hl
    have pp : (p.toList.map fun i => ps.getD i (0, [])).Perm ps := by
      have := pl.map (fun i => ps.getD i ((0, []) : Row))
      rwa [map_range_getD] at this
    have pw : (p.toList.map fun i => ps.getD i ((0, []) : Row)).Pairwise (fun a b => ltR b.2 a.2 = false) := by
      rw [List.pairwise_map]
      exact st.pairwise hz
    refine ⟨.ref l, _, I.laid (t' := t') (o := .lst ((p.toList.map fun i => ps.getD i (0, [])).map rRef)) k zl ⟨?_, _, e, vals_map rRef (fun q => Value.ref q.1) (fun _ => rfl) _, hl⟩, rfl, h l _ (I.hok.fresh zl) pp pw⟩
    rw [List.length_map, pp.length_eq, sizeLine_eq]
    omega
end Srt
set_option maxHeartbeats 1000000
namespace Srt
open PySem PySem.W PyProof.Rows L2
structure RowsOk (K : PySem.W.Frag) (H : Hp) (ps : List Row) : Prop where
  at' : ∀ q ∈ ps, SqT K H q.1 (q.2.map kV)
  sh : ∀ q ∈ ps, ∀ q' ∈ ps, q.2.map isL = q'.2.map isL
  ne : ∀ q ∈ ps, q.2 ≠ []
  few : ps.length < 64
section
variable {X : Cx}
theorem call_sortedT : CallR X (.builtin "sorted") (fun xs H Q => ∃ (p : Addr) (ps : List Row), xs = [.ref p] ∧ SqL X.K H p (ps.map rRef) ∧ RowsOk X.K H ps ∧ ∀ (l : Addr) (ps' : List Row), H l = none → ps'.Perm ps → ps'.Pairwise (fun a b => ltR b.2 a.2 = false) → Q (.ref l) (upd H l (.lst (ps'.map rRef)))) := by
  intro pins s σ H xs us Q I r h
  obtain ⟨p, ps, rfl, hq, ok, q⟩ := h
  obtain ⟨u, rfl, rx⟩ := vals1 r
  cases rx
  obtain ⟨its, rv, hp, hz⟩ := I.list hq
  have e : its = ps.map fun q => Value.ref q.1 := by
    clear hq hp hz q r ok
    induction ps generalizing its with
    | nil => cases rv; rfl
    | cons a ps ih =>
      cases rv with
      | cons ru rr => rw [List.map_cons, ← ih _ rr]; cases ru; rfl
  subst e
  refine sortT_core I ok.at' ok.sh ok.ne ok.few (fun Q hq => collect_list hp.isList (hq _ _ fun b o ho => ?_) (by rw [List.length_map, sizeLine_eq]; have := ok.few; omega)) q
  have hlt : b < s.heap.objs.size := Heap.lt_size ho
  rw [Heap.get?_update_ne _ _ _ _ (Nat.ne_of_lt hlt)]
  exact Heap.get?_push_of_some _ ho
end
end Srt
set_option maxHeartbeats 1000000
namespace Srt
open PySem PySem.W PyProof.Rows L2
end Srt
set_option maxHeartbeats 1000000
namespace L2
open PySem PySem.Spec PyProof.Rows
end L2
set_option maxHeartbeats 400000
namespace L2
open PySem PySem.Spec PyProof.Rows
end L2
set_option maxHeartbeats 1000000
namespace PySem
end PySem
namespace PySem
end PySem
set_option maxHeartbeats 1000000
namespace L2
open PySem PySem.Spec PyProof.Rows
end L2
set_option maxHeartbeats 1000000
namespace HT
open PySem PyProof.Rows
end HT
namespace L2
open PySem PySem.Spec PyProof.Rows
end L2
set_option maxHeartbeats 4000000
namespace HT
open PySem PyProof.Rows L2
section
open PySem.SeqAt
open PySem.AutoSeq1 (wpAny_loadPart')
open PySem.MeetsSeq PySem.MeetsSeq2 PySem.MeetsSeq3
end
end HT
namespace L2
open PySem PySem.Spec PyProof.Rows
end L2
set_option maxHeartbeats 1000000
namespace L2
open PySem PySem.Spec PyProof.Rows
theorem op_neNil {X : Cx} (hu : X.A.units + 64 < cLine) : OpR X (compareOp .NotEq) (fun x y H Q => ∃ (a b : Addr) (xs : List V), x = .ref a ∧ y = .ref b ∧ SqL X.K H a xs ∧ SqL X.K H b [] ∧ Q (.bl (!xs.isEmpty)) H) := by
  intro pins s σ H x y u v Q I rx ry h
  obtain ⟨a, b, xs, rfl, rfl, ha, hb, q⟩ := h
  cases rx
  cases ry
  cases xs with
  | nil => exact op_neD hu pins s σ H (.ref a) (.ref b) _ _ Q I rfl rfl ⟨.list [], .list [], .lst ha .nil, .lst hb .nil, rfl, rfl, by decide, q⟩
  | cons x xs =>
    obtain ⟨its, r1, h1, _⟩ := I.list ha
    obtain ⟨its2, r2, h2, _⟩ := I.list hb
    have l1 := r1.length
    have l2 := r2.length
    refine SeqAt.RcNeAt.lists_lengths h1.isList h2.isList (by simp at l1 l2 ⊢; omega) (by omega) X.prog X.w _ _ ⟨.bl _, H, I, rfl, q⟩
end L2
set_option maxHeartbeats 1000000
namespace L2
open PySem PySem.Spec PyProof.Rows
end L2
set_option maxHeartbeats 1000000
namespace L2
open PySem PySem.Spec PyProof.Rows
end L2
set_option maxHeartbeats 1000000
namespace PySem
open PyProof.Rows
end PySem
namespace L2
open PySem PySem.Spec PyProof.Rows
end L2
set_option maxHeartbeats 1000000
namespace PySem
open PyProof.Rows
namespace F
end F
end PySem
namespace L2
open PySem PySem.Spec PyProof.Rows
end L2
set_option maxHeartbeats 1000000
namespace Wk
open PySem
abbrev T4 := Str × Nat × Nat × Int
def nbT (v : Nat) (t : T4) : List (Str × Nat) := (if t.2.1 = v then [(t.1, t.2.2.1)] else []) ++ (if t.2.2.1 = v then [(t.1, t.2.1)] else [])
def nbrs (S : List T4) (v : Nat) : List (Str × Nat) := S.flatMap (nbT v)
abbrev Ws := List (Option (List Str))
def visit (w : List Str) : List (Str × Nat) → Ws × List Nat → Ws × List Nat
  | [], st => st
  | (n, u) :: r, st => if st.1[u]? = some none then visit w r (st.1.set u (some (w ++ [n])), st.2 ++ [u]) else visit w r st
def bstep (S : List T4) (st : Ws × List Nat) : Ws × List Nat :=
  match st.2 with
  | [] => st
  | h :: rest => visit ((st.1[h]?.join).getD []) (nbrs S h) (st.1, rest)
def binit (N p : Nat) : Ws × List Nat := ((List.replicate N none).set p (some []), [p])
def iter (S : List T4) : Nat → Ws × List Nat → Ws × List Nat
  | 0, st => st
  | n + 1, st => iter S n (bstep S st)
def waysF (N : Nat) (S : List T4) (p : Nat) : Ws := (iter S 64 (binit N p)).1
theorem iter_nil {S : List T4} : ∀ (n : Nat) {ws : Ws}, iter S n (ws, []) = (ws, [])
  | 0, _ => rfl
  | n + 1, ws => iter_nil n (ws := ws)
theorem iter_add {S : List T4} (m : Nat) : ∀ (n : Nat) (st : Ws × List Nat), iter S (n + m) st = iter S m (iter S n st)
  | 0, st => by rw [Nat.zero_add]; rfl
  | n + 1, st => by rw [show n + 1 + m = (n + m) + 1 by omega]; exact iter_add m n (bstep S st)
theorem ways_of {N p i : Nat} {S : List T4} {ws : Ws} (h : iter S i (binit N p) = (ws, [])) (hi : i ≤ 64) : waysF N S p = ws := by
  unfold waysF
  rw [show 64 = i + (64 - i) by omega, iter_add, h, iter_nil]
inductive Lead (S : List T4) (a : Nat) : List Str → Nat → Prop
  | nil : Lead S a [] a
  | snoc {ws : List Str} {b c : Nat} {n : Str} : Lead S a ws b → (n, c) ∈ nbrs S b → Lead S a (ws ++ [n]) c
def nones (ws : Ws) : Nat := ws.countP (· == none)
def Vis (ws : Ws) (v : Nat) (w : List Str) : Prop := ws[v]? = some (some w)
structure PInv (S : List T4) (N p h : Nat) (w : List Str) (st : Ws × List Nat) : Prop where
  len : st.1.length = N
  lead : ∀ v x, Vis st.1 v x → Lead S p x v
  vis : ∀ v ∈ st.2, ∃ x, Vis st.1 v x
  done : ∀ v x, Vis st.1 v x → v ∈ st.2 ∨ v = h ∨ ∀ nb ∈ nbrs S v, ∃ y, Vis st.1 nb.2 y ∧ y.length ≤ x.length + 1
  sorted : st.2.Pairwise fun a b => ∀ x y, Vis st.1 a x → Vis st.1 b y → x.length ≤ y.length
  top : ∀ v x b y, Vis st.1 v x → b ∈ st.2 → Vis st.1 b y → x.length ≤ y.length + 1
  hv : Vis st.1 h w
  ht : ∀ v x, Vis st.1 v x → x.length ≤ w.length + 1
  hb : ∀ b y, b ∈ st.2 → Vis st.1 b y → w.length ≤ y.length
theorem vis_set {ws : Ws} {u : Nat} {z : List Str} (hu : ws[u]? = some none) {v : Nat} {x : List Str} : Vis (ws.set u (some z)) v x ↔ (v = u ∧ x = z) ∨ Vis ws v x := by
  unfold Vis
  have hl : u < ws.length := (List.getElem?_eq_some_iff.mp hu).1
  rw [List.getElem?_set]
  by_cases e : u = v
  · subst e
    rw [if_pos rfl, if_pos hl, hu]
    constructor
    · intro q; left; exact ⟨rfl, by simpa using q.symm⟩
    · rintro (⟨_, rfl⟩ | q)
      · rfl
      · simp at q
  · rw [if_neg e]
    constructor
    · exact .inr
    · rintro (⟨rfl, _⟩ | q)
      · exact absurd rfl e
      · exact q
theorem vis_inj {ws : Ws} {v : Nat} {x y : List Str} (a : Vis ws v x) (b : Vis ws v y) : x = y := by
  unfold Vis at a b; rw [a] at b; simpa using b
theorem visit_ok {S : List T4} {N p h : Nat} {w : List Str} : ∀ (L : List (Str × Nat)) (st : Ws × List Nat), PInv S N p h w st → (∀ nb ∈ L, nb ∈ nbrs S h ∧ nb.2 < N) →
    PInv S N p h w (visit w L st) ∧ (∀ v x, Vis st.1 v x → Vis (visit w L st).1 v x) ∧ (∀ nb ∈ L, ∃ y, Vis (visit w L st).1 nb.2 y ∧ y.length ≤ w.length + 1) ∧ nones (visit w L st).1 + (visit w L st).2.length = nones st.1 + st.2.length
  | [], st, I, _ => ⟨I, fun _ _ e => e, fun nb h => (by cases h), rfl⟩
  | (n, u) :: r, st, I, hL => by
    have hr : ∀ nb ∈ r, nb ∈ nbrs S h ∧ nb.2 < N := fun nb q => hL nb (List.mem_cons_of_mem _ q)
    have hn := hL (n, u) (List.mem_cons_self ..)
    have hu : u < st.1.length := by rw [I.len]; exact hn.2
    unfold visit
    by_cases e : st.1[u]? = some none
    · rw [if_pos e]
      have I' : PInv S N p h w (st.1.set u (some (w ++ [n])), st.2 ++ [u]) := by
        have nu : ∀ x, ¬ Vis st.1 u x := fun x q => by unfold Vis at q; rw [e] at q; simp at q
        refine ⟨by simp [I.len], ?_, ?_, ?_, ?_, ?_, ?_, ?_, ?_⟩
        · intro v x q
          rcases (vis_set e).mp q with ⟨rfl, rfl⟩ | q
          · exact .snoc (I.lead h w I.hv) hn.1
          · exact I.lead v x q
        · intro v q
          rcases List.mem_append.mp q with q | q
          · obtain ⟨x, hx⟩ := I.vis v q; exact ⟨x, (vis_set e).mpr (.inr hx)⟩
          · rw [List.mem_singleton.mp q]; exact ⟨_, (vis_set e).mpr (.inl ⟨rfl, rfl⟩)⟩
        · intro v x q
          rcases (vis_set e).mp q with ⟨rfl, rfl⟩ | q
          · exact .inl (List.mem_append_right _ (List.mem_singleton.mpr rfl))
          · rcases I.done v x q with a | a | a
            · exact .inl (List.mem_append_left _ a)
            · exact .inr (.inl a)
            · exact .inr (.inr fun nb hb => let ⟨y, hy, hl⟩ := a nb hb; ⟨y, (vis_set e).mpr (.inr hy), hl⟩)
        · refine List.pairwise_append.mpr ⟨?_, List.pairwise_singleton .., ?_⟩
          · refine (List.Pairwise.imp_of_mem ?_ I.sorted)
            intro a b ha hb k x y hx hy
            have hx' : Vis st.1 a x := by
              rcases (vis_set e).mp hx with ⟨rfl, _⟩ | q
              · obtain ⟨z, hz⟩ := I.vis _ ha; exact absurd hz (nu z)
              · exact q
            have hy' : Vis st.1 b y := by
              rcases (vis_set e).mp hy with ⟨rfl, _⟩ | q
              · obtain ⟨z, hz⟩ := I.vis _ hb; exact absurd hz (nu z)
              · exact q
            exact k x y hx' hy'
          · intro a ha b hb x y hx hy
            rw [List.mem_singleton.mp hb] at hy
            rcases (vis_set e).mp hy with ⟨_, rfl⟩ | q
            · rcases (vis_set e).mp hx with ⟨_, rfl⟩ | q
              · exact Nat.le_refl _
              · have := I.ht a x q; simp only [List.length_append, List.length_cons, List.length_nil]; assumption
            · exact absurd q (nu y)
        · intro v x b y hx hb hy
          have hx1 : x.length ≤ w.length + 1 := by
            rcases (vis_set e).mp hx with ⟨_, rfl⟩ | q
            · simp
            · exact I.ht v x q
          have hy1 : w.length ≤ y.length := by
            rcases (vis_set e).mp hy with ⟨_, rfl⟩ | q
            · simp
            · rcases List.mem_append.mp hb with hb | hb
              · exact I.hb b y hb q
              · rw [List.mem_singleton.mp hb] at q; exact absurd q (nu y)
          omega
        · exact (vis_set e).mpr (.inr I.hv)
        · intro v x hx
          rcases (vis_set e).mp hx with ⟨_, rfl⟩ | q
          · simp
          · exact I.ht v x q
        · intro b y hb hy
          rcases (vis_set e).mp hy with ⟨_, rfl⟩ | q
          · simp
          · rcases List.mem_append.mp hb with hb | hb
            · exact I.hb b y hb q
            · rw [List.mem_singleton.mp hb] at q; exact absurd q (nu y)
      obtain ⟨a, b, c, d⟩ := visit_ok r _ I' hr
      refine ⟨a, fun v x q => b v x ((vis_set e).mpr (.inr q)), fun nb q => ?_, ?_⟩
      · rcases List.mem_cons.mp q with rfl | q
        · exact ⟨_, b _ _ ((vis_set e).mpr (.inl ⟨rfl, rfl⟩)), by simp⟩
        · exact c nb q
      · rw [d]
        have : nones (st.1.set u (some (w ++ [n]))) + 1 = nones st.1 := by
          unfold nones
          have hg : st.1[u] = none := by have := List.getElem?_eq_some_iff.mp e; exact this.2
          rw [List.countP_set (h := hu), hg]
          have : 0 < st.1.countP (· == none) := List.countP_pos_iff.mpr ⟨none, by rw [← hg]; exact List.getElem_mem hu, rfl⟩
          simp only [beq_self_eq_true, if_true]
          show st.1.countP (· == none) - 1 + 0 + 1 = _
          omega
        simp only [List.length_append, List.length_cons, List.length_nil]
        omega
    · rw [if_neg e]
      obtain ⟨a, b, c, d⟩ := visit_ok r st I hr
      refine ⟨a, b, fun nb q => ?_, d⟩
      rcases List.mem_cons.mp q with rfl | q
      · have : ∃ y, Vis st.1 u y := by
          cases hh : st.1[u]? with
          | none => rw [List.getElem?_eq_getElem hu] at hh; cases hh
          | some z => cases z with
            | none => exact absurd hh e
            | some y => exact ⟨y, hh⟩
        obtain ⟨y, hy⟩ := this
        exact ⟨y, b _ _ hy, I.ht _ _ hy⟩
      · exact c nb q
structure BInv (S : List T4) (N p : Nat) (st : Ws × List Nat) : Prop where
  len : st.1.length = N
  p0 : Vis st.1 p []
  lead : ∀ v x, Vis st.1 v x → Lead S p x v
  vis : ∀ v ∈ st.2, ∃ x, Vis st.1 v x
  done : ∀ v x, Vis st.1 v x → v ∈ st.2 ∨ ∀ nb ∈ nbrs S v, ∃ y, Vis st.1 nb.2 y ∧ y.length ≤ x.length + 1
  sorted : st.2.Pairwise fun a b => ∀ x y, Vis st.1 a x → Vis st.1 b y → x.length ≤ y.length
  top : ∀ v x b y, Vis st.1 v x → b ∈ st.2 → Vis st.1 b y → x.length ≤ y.length + 1
def InN (N : Nat) (S : List T4) : Prop := ∀ t ∈ S, t.2.1 < N ∧ t.2.2.1 < N
theorem nb_lt {N : Nat} {S : List T4} (h : InN N S) {v : Nat} {nb : Str × Nat} (q : nb ∈ nbrs S v) : nb.2 < N := by
  obtain ⟨t, ht, q⟩ := List.mem_flatMap.mp q
  have := h t ht
  unfold nbT at q
  rcases List.mem_append.mp q with q | q
  · split at q
    · rw [List.mem_singleton.mp q]; exact this.2
    · cases q
  · split at q
    · rw [List.mem_singleton.mp q]; exact this.1
    · cases q
theorem binv0 {S : List T4} {N p : Nat} (hp : p < N) : BInv S N p (binit N p) := by
  have hu : (List.replicate N (none : Option (List Str)))[p]? = some none := by rw [List.getElem?_replicate]; rw [if_pos hp]
  have nv : ∀ v x, ¬ Vis (List.replicate N (none : Option (List Str))) v x := fun v x q => by
    unfold Vis at q; rw [List.getElem?_replicate] at q; split at q <;> simp at q
  have key : ∀ v x, Vis (binit N p).1 v x → v = p ∧ x = [] := fun v x q => by
    rcases (vis_set hu).mp q with q | q
    · exact q
    · exact absurd q (nv v x)
  refine ⟨by simp [binit], (vis_set hu).mpr (.inl ⟨rfl, rfl⟩), ?_, ?_, ?_, ?_, ?_⟩
  · intro v x q; obtain ⟨rfl, rfl⟩ := key v x q; exact .nil
  · intro v q; rw [List.mem_singleton.mp q]; exact ⟨_, (vis_set hu).mpr (.inl ⟨rfl, rfl⟩)⟩
  · intro v x q; obtain ⟨rfl, rfl⟩ := key v x q; exact .inl (List.mem_singleton.mpr rfl)
  · exact List.pairwise_singleton ..
  · intro v x b y q _ q2; obtain ⟨rfl, rfl⟩ := key v x q; simp
theorem pinv_of {S : List T4} {N p h : Nat} {ws : Ws} {rest : List Nat} (I : BInv S N p (ws, h :: rest)) : ∃ w, Vis ws h w ∧ PInv S N p h w (ws, rest) := by
  obtain ⟨w, hw⟩ := I.vis h (List.mem_cons_self ..)
  refine ⟨w, hw, I.len, I.lead, fun v q => I.vis v (List.mem_cons_of_mem _ q), ?_, (List.pairwise_cons.mp I.sorted).2, fun v x b y a q => I.top v x b y a (List.mem_cons_of_mem _ q), hw, fun v x q => I.top v x h w q (List.mem_cons_self ..) hw, fun b y q hb => (List.pairwise_cons.mp I.sorted).1 b q w y hw hb⟩
  intro v x q
  rcases I.done v x q with a | a
  · rcases List.mem_cons.mp a with rfl | a
    · exact .inr (.inl rfl)
    · exact .inl a
  · exact .inr (.inr a)
theorem bstep_ok {S : List T4} {N p h : Nat} {ws : Ws} {rest : List Nat} (hS : InN N S) (I : BInv S N p (ws, h :: rest)) :
    BInv S N p (bstep S (ws, h :: rest)) ∧ nones (bstep S (ws, h :: rest)).1 + (bstep S (ws, h :: rest)).2.length + 1 = nones ws + (h :: rest).length := by
  obtain ⟨w, hw, J⟩ := pinv_of I
  have e : bstep S (ws, h :: rest) = visit w (nbrs S h) (ws, rest) := by
    show visit ((ws[h]?.join).getD []) (nbrs S h) (ws, rest) = _
    unfold Vis at hw
    rw [hw]; rfl
  rw [e]
  obtain ⟨a, b, c, d⟩ := visit_ok (nbrs S h) (ws, rest) J fun nb q => ⟨q, nb_lt hS q⟩
  refine ⟨⟨a.len, b _ _ I.p0, a.lead, a.vis, ?_, a.sorted, a.top⟩, by rw [d]; rfl⟩
  intro v x q
  rcases a.done v x q with r | rfl | r
  · exact .inl r
  · refine .inr fun nb hb => ?_
    have := vis_inj q a.hv
    subst this
    exact c nb hb
  · exact .inr r
theorem iter_ok {S : List T4} {N p : Nat} (hS : InN N S) : ∀ (n : Nat) (st : Ws × List Nat), BInv S N p st → BInv S N p (iter S n st) ∧ ((iter S n st).2 = [] ∨ nones (iter S n st).1 + (iter S n st).2.length + n = nones st.1 + st.2.length)
  | 0, st, I => ⟨I, .inr rfl⟩
  | n + 1, (ws, []), I => by
    have e : iter S (n + 1) (ws, []) = (ws, []) := iter_nil (n + 1)
    rw [e]; exact ⟨I, .inl rfl⟩
  | n + 1, (ws, h :: rest), I => by
    obtain ⟨a, b⟩ := bstep_ok hS I
    obtain ⟨c, d⟩ := iter_ok hS n _ a
    refine ⟨c, ?_⟩
    rcases d with d | d
    · exact .inl d
    · refine .inr ?_
      show nones (iter S n (bstep S (ws, h :: rest))).1 + (iter S n (bstep S (ws, h :: rest))).2.length + (n + 1) = nones ws + (h :: rest).length
      omega
theorem ways_end {S : List T4} {N p : Nat} (hS : InN N S) (hp : p < N) (hN : N ≤ 60) : ∃ ws, iter S 64 (binit N p) = (ws, []) ∧ BInv S N p (ws, []) := by
  obtain ⟨a, b⟩ := iter_ok hS 64 (binit N p) (binv0 hp)
  have : nones (binit N p).1 + (binit N p).2.length ≤ N + 1 := by
    have : nones (binit N p).1 ≤ (binit N p).1.length := List.countP_le_length
    simp only [binit, List.length_set, List.length_replicate, List.length_singleton] at this ⊢
    exact Nat.succ_le_succ (by assumption)
  have e : (iter S 64 (binit N p)).2 = [] := by
    rcases b with b | b
    · exact b
    · omega
  refine ⟨(iter S 64 (binit N p)).1, Prod.ext rfl e, ?_⟩
  have : iter S 64 (binit N p) = ((iter S 64 (binit N p)).1, []) := Prod.ext rfl e
  rw [this] at a
  exact a
theorem ways_lead {S : List T4} {N p : Nat} (hS : InN N S) (hp : p < N) (hN : N ≤ 60) {v : Nat} {x : List Str} (h : Vis (waysF N S p) v x) : Lead S p x v := by
  obtain ⟨ws, e, I⟩ := ways_end hS hp hN
  rw [ways_of e (Nat.le_refl _)] at h; exact I.lead v x h
theorem ways_least {S : List T4} {N p : Nat} (hS : InN N S) (hp : p < N) (hN : N ≤ 60) {v : Nat} {x : List Str} (h : Lead S p x v) : ∃ y, Vis (waysF N S p) v y ∧ y.length ≤ x.length := by
  obtain ⟨ws, e, I⟩ := ways_end hS hp hN
  rw [ways_of e (Nat.le_refl _)]
  induction h with
  | nil => exact ⟨[], I.p0, Nat.le_refl _⟩
  | snoc a b ih =>
    obtain ⟨y, hy, hl⟩ := ih
    rcases I.done _ _ hy with q | q
    · cases q
    · obtain ⟨z, hz, hl2⟩ := q _ b
      exact ⟨z, hz, by simp only [List.length_append, List.length_cons, List.length_nil] at hl2 ⊢; omega⟩
def partF (N : Nat) (S : List T4) (p : Nat) : List Nat := (List.range N).filter fun v => ((waysF N S p)[v]?.join).isSome
def Reach (S : List T4) (a b : Nat) : Prop := ∃ ws, Lead S a ws b
theorem vis_iff {ws : Ws} {v : Nat} : (ws[v]?.join).isSome = true ↔ ∃ x, Vis ws v x := by
  unfold Vis
  cases ws[v]? with
  | none => simp
  | some z => cases z <;> simp
theorem mem_part {S : List T4} {N p v : Nat} (hS : InN N S) (hp : p < N) (hN : N ≤ 60) : v ∈ partF N S p ↔ v < N ∧ Reach S p v := by
  unfold partF
  rw [List.mem_filter, List.mem_range, vis_iff]
  constructor
  · rintro ⟨a, x, hx⟩; exact ⟨a, x, ways_lead hS hp hN hx⟩
  · rintro ⟨a, x, hx⟩; obtain ⟨y, hy, _⟩ := ways_least hS hp hN hx; exact ⟨a, y, hy⟩
theorem Reach.refl {S : List T4} {a : Nat} : Reach S a a := ⟨[], .nil⟩
theorem nb_symm {S : List T4} {a b : Nat} {n : Str} (h : (n, b) ∈ nbrs S a) : (n, a) ∈ nbrs S b := by
  obtain ⟨t, ht, q⟩ := List.mem_flatMap.mp h
  refine List.mem_flatMap.mpr ⟨t, ht, ?_⟩
  unfold nbT at q ⊢
  rcases List.mem_append.mp q with q | q
  · split at q
    · rename_i e
      have := List.mem_singleton.mp q
      cases this
      refine List.mem_append_right _ ?_
      rw [if_pos rfl, e]; exact List.mem_singleton.mpr rfl
    · cases q
  · split at q
    · rename_i e
      have := List.mem_singleton.mp q
      cases this
      refine List.mem_append_left _ ?_
      rw [if_pos rfl, e]; exact List.mem_singleton.mpr rfl
    · cases q
theorem Reach.trans {S : List T4} {a b c : Nat} (h : Reach S a b) (g : Reach S b c) : Reach S a c := by
  obtain ⟨x, hx⟩ := h
  obtain ⟨y, hy⟩ := g
  induction hy with
  | nil => exact ⟨x, hx⟩
  | snoc _ q ih => obtain ⟨z, hz⟩ := ih; exact ⟨_, .snoc hz q⟩
theorem Reach.step {S : List T4} {a b : Nat} {n : Str} (h : (n, b) ∈ nbrs S a) : Reach S a b := ⟨[] ++ [n], .snoc .nil h⟩
theorem Reach.symm {S : List T4} {a b : Nat} (h : Reach S a b) : Reach S b a := by
  obtain ⟨x, hx⟩ := h
  induction hx with
  | nil => exact .refl
  | snoc _ q ih => exact (Reach.step (nb_symm q)).trans ih
theorem nb_of {S : List T4} {t : T4} (h : t ∈ S) : (t.1, t.2.2.1) ∈ nbrs S t.2.1 := List.mem_flatMap.mpr ⟨t, h, List.mem_append_left _ (by rw [if_pos rfl]; exact List.mem_singleton.mpr rfl)⟩
theorem nb_elim {S : List T4} {a b : Nat} {n : Str} (h : (n, b) ∈ nbrs S a) : ∃ t ∈ S, t.1 = n ∧ ((t.2.1 = a ∧ t.2.2.1 = b) ∨ (t.2.2.1 = a ∧ t.2.1 = b)) := by
  obtain ⟨t, ht, q⟩ := List.mem_flatMap.mp h
  refine ⟨t, ht, ?_⟩
  unfold nbT at q
  rcases List.mem_append.mp q with q | q
  · split at q
    · rename_i e
      have := List.mem_singleton.mp q
      cases this
      exact ⟨rfl, .inl ⟨e, rfl⟩⟩
    · cases q
  · split at q
    · rename_i e
      have := List.mem_singleton.mp q
      cases this
      exact ⟨rfl, .inr ⟨e, rfl⟩⟩
    · cases q
def relab (l : List Nat) (lo hi : Nat) : List Nat := l.map fun x => if x = hi then lo else x
def labS (l : List Nat) (t : T4) : List Nat := relab l (min (l.getD t.2.1 0) (l.getD t.2.2.1 0)) (max (l.getD t.2.1 0) (l.getD t.2.2.1 0))
def labF (N : Nat) (S : List T4) : List Nat := S.foldl labS (List.range N)
theorem labS_len (l : List Nat) (t : T4) : (labS l t).length = l.length := by simp [labS, relab]
theorem relab_get {l : List Nat} {lo hi v : Nat} (hv : v < l.length) : (relab l lo hi).getD v 0 = if l.getD v 0 = hi then lo else l.getD v 0 := by
  unfold relab
  rw [List.getD_eq_getElem?_getD, List.getElem?_map, List.getElem?_eq_getElem hv, List.getD_eq_getElem?_getD, List.getElem?_eq_getElem hv]; rfl
theorem labS_get {l : List Nat} {t : T4} {v : Nat} (hv : v < l.length) : (labS l t).getD v 0 = if l.getD v 0 = max (l.getD t.2.1 0) (l.getD t.2.2.1 0) then min (l.getD t.2.1 0) (l.getD t.2.2.1 0) else l.getD v 0 := relab_get hv
theorem labs_keep {u v : Nat} (S : List T4) : ∀ l : List Nat, u < l.length → v < l.length → l.getD u 0 = l.getD v 0 → (S.foldl labS l).getD u 0 = (S.foldl labS l).getD v 0 := by
  induction S with
  | nil => intro l _ _ h; exact h
  | cons t S ih =>
    intro l hu hv h
    rw [List.foldl_cons]
    exact ih _ (by rw [labS_len]; exact hu) (by rw [labS_len]; exact hv) (by rw [labS_get hu, labS_get hv, h])
theorem labs_tie {N : Nat} (S : List T4) : ∀ l : List Nat, l.length = N → InN N S → ∀ t ∈ S, (S.foldl labS l).getD t.2.1 0 = (S.foldl labS l).getD t.2.2.1 0 := by
  induction S with
  | nil => intro l _ _ t h; cases h
  | cons t S ih =>
    intro l hl hN t' h
    rw [List.foldl_cons]
    rcases List.mem_cons.mp h with rfl | h
    · have := hN t' (List.mem_cons_self ..)
      refine labs_keep S _ (by rw [labS_len]; omega) (by rw [labS_len]; omega) ?_
      rw [labS_get (by omega), labS_get (by omega)]
      split <;> split <;> omega
    · exact ih _ (by rw [labS_len]; exact hl) (fun x q => hN x (List.mem_cons_of_mem _ q)) t' h
theorem labs_reach {N : Nat} {S0 : List T4} (S : List T4) : ∀ l : List Nat, l.length = N → InN N S → (∀ t ∈ S, t ∈ S0) → (∀ u v, u < N → v < N → l.getD u 0 = l.getD v 0 → Reach S0 u v) → ∀ u v, u < N → v < N → (S.foldl labS l).getD u 0 = (S.foldl labS l).getD v 0 → Reach S0 u v := by
  induction S with
  | nil => intro l _ _ _ h; exact h
  | cons t S ih =>
    intro l hl hN hS h
    rw [List.foldl_cons]
    refine ih _ (by rw [labS_len]; exact hl) (fun x q => hN x (List.mem_cons_of_mem _ q)) (fun x q => hS x (List.mem_cons_of_mem _ q)) ?_
    intro u v hu hv e
    have ht := hN t (List.mem_cons_self ..)
    have tt : Reach S0 t.2.1 t.2.2.1 := .step (nb_of (hS t (List.mem_cons_self ..)))
    rw [labS_get (by omega), labS_get (by omega)] at e
    have q1 : ∀ x, x < N → (l.getD x 0 = max (l.getD t.2.1 0) (l.getD t.2.2.1 0) ∨ l.getD x 0 = min (l.getD t.2.1 0) (l.getD t.2.2.1 0)) → Reach S0 x t.2.1 := by
      intro x hx hm
      have : l.getD x 0 = l.getD t.2.1 0 ∨ l.getD x 0 = l.getD t.2.2.1 0 := by omega
      rcases this with q | q
      · exact h x _ hx ht.1 q
      · exact (h x _ hx ht.2 q).trans tt.symm
    split at e
    · split at e
      · exact (q1 u hu (.inl (by assumption))).trans (q1 v hv (.inl (by assumption))).symm
      · exact (q1 u hu (.inl (by assumption))).trans (q1 v hv (.inr e.symm)).symm
    · split at e
      · exact (q1 u hu (.inr e)).trans (q1 v hv (.inl (by assumption))).symm
      · exact h u v hu hv e
theorem lab_iff {N : Nat} {S : List T4} (hS : InN N S) {u v : Nat} (hu : u < N) (hv : v < N) : (labF N S).getD u 0 = (labF N S).getD v 0 ↔ Reach S u v := by
  constructor
  · refine labs_reach S (List.range N) (List.length_range ..) hS (fun _ h => h) ?_ u v hu hv
    intro a b ha hb e
    rw [List.getD_eq_getElem?_getD, List.getElem?_range ha, List.getD_eq_getElem?_getD, List.getElem?_range hb] at e
    have : a = b := e
    subst this; exact .refl
  · rintro ⟨x, hx⟩
    induction hx with
    | nil => rfl
    | @snoc ws b c n a q ih =>
      have hb : b < N := by
        cases a with
        | nil => exact hu
        | snoc _ r => exact nb_lt hS r
      have hc : c < N := nb_lt hS q
      refine (ih hb).trans ?_
      obtain ⟨t, ht, _, h⟩ := nb_elim q
      have := labs_tie S (List.range N) (List.length_range ..) hS t ht
      rcases h with ⟨rfl, rfl⟩ | ⟨rfl, rfl⟩
      · exact this
      · exact this.symm
theorem part_lab {N p : Nat} {S : List T4} (hS : InN N S) (hp : p < N) (hN : N ≤ 60) : partF N S p = (List.range N).filter fun v => decide ((labF N S).getD v 0 = (labF N S).getD p 0) := by
  refine List.filter_congr fun v hv => ?_
  have hv := List.mem_range.mp hv
  rw [Bool.eq_iff_iff, decide_eq_true_eq, lab_iff hS hv hp]
  have := mem_part (v := v) hS hp hN
  unfold partF at this
  rw [List.mem_filter, List.mem_range] at this
  constructor
  · intro h; exact (this.mp ⟨hv, h⟩).2.symm
  · intro h; exact (this.mpr ⟨hv, h.symm⟩).2
end Wk
set_option maxHeartbeats 1000000
namespace L2
open PySem
theorem while_gh {c : TT} {tb : TS} {D : Ends} {σ : St} {H : Hp} (Pv : Nat → St → Hp → Prop) {m0 : Nat} (h0 : Pv m0 σ H)
    (hs : ∀ m σ H, Pv m σ H → c σ H fun b H1 => if b = true then tb { D with nx := fun σ' H' => ∃ m', m' < m ∧ Pv m' σ' H', ct := fun σ' H' => ∃ m', m' < m ∧ Pv m' σ' H', bk := D.nx } σ H1 else D.nx σ H1)
    (mono : ∀ σ H Q Q', (∀ b H1, Q b H1 → Q' b H1) → c σ H Q → c σ H Q') : tWhile c tb D σ H := by
  refine ⟨Pv, ⟨m0, h0⟩, fun m σ H p => ?_⟩
  refine mono σ H _ _ (fun b H1 q => ?_) (hs m σ H p)
  cases b with
  | true => exact ⟨_, fun _ _ h => h, q⟩
  | false => exact q
theorem same_set {H0 H : Hp} {a : Addr} {o : HO} (s : Same H0 H) (n : H0 a = none) : Same H0 (upd H a o) := fun b u e => by
  rw [upd_ne (ne_of_none e n)]; exact s b u e
theorem inV_ints (x : Int) (zs : List Int) : inV (.int x) (zs.map V.int) = decide (x ∈ zs) := by
  unfold inV
  induction zs with
  | nil => simp
  | cons z zs ih =>
    rw [List.map_cons, List.any_cons, ih]
    have : eqV (.int z) (.int x) = decide (x = z) := by
      show (z == x) = _
      rw [Bool.eq_iff_iff, beq_iff_eq, decide_eq_true_eq]; exact eq_comm
    rw [this, Bool.eq_iff_iff]; simp
theorem map_some {α β : Type} {f : α → β} {l : List α} {i : Nat} {x : β} (h : (l.map f)[i]? = some x) : ∃ z, l[i]? = some z ∧ x = f z := by
  rw [List.getElem?_map] at h
  cases q : l[i]? with
  | none => rw [q] at h; cases h
  | some z => rw [q] at h; exact ⟨z, rfl, (Option.some.inj h).symm⟩
theorem getq {α : Type} {l : List α} {i : Nat} (h : i < l.length) : l[i]? = some l[i] := List.getElem?_eq_getElem h
end L2
namespace Wk
open PySem L2
def tieV (t : T4) : List V := [.str t.1, .int (t.2.1 : Int), .int (t.2.2.1 : Int), .int t.2.2.2]
def TiesAt (H : Hp) (rs : List Addr) (S : List T4) : Prop := rs.length = S.length ∧ ∀ (i : Nat) r t, rs[i]? = some r → S[i]? = some t → H r = some (.tup (tieV t))
theorem TiesAt.same {H H' : Hp} {rs : List Addr} {S : List T4} (h : TiesAt H rs S) (s : Same H H') : TiesAt H' rs S := ⟨h.1, fun i r t a b => s _ _ (h.2 i r t a b)⟩
theorem TiesAt.get {H : Hp} {rs : List Addr} {S : List T4} (h : TiesAt H rs S) {i : Nat} {r : Addr} (hr : rs[i]? = some r) : ∃ t, S[i]? = some t ∧ H r = some (.tup (tieV t)) := by
  have hi : i < S.length := by rw [← h.1]; exact (List.getElem?_eq_some_iff.mp hr).1
  exact ⟨S[i], getq hi, h.2 i r _ hr (getq hi)⟩
end Wk
set_option maxHeartbeats 1000000
namespace Wk
open PySem L2
abbrev LS : Str := Str.ofString "abcdefghijklmnopqrstuvwxyz"
theorem LS_eq : LS.cps.toList = (List.range 26).map (97 + ·) := by decide +kernel
theorem LS_at {v : Int} (h0 : 0 ≤ v) (h1 : v < 26) : atI LS.cps.toList v = some (97 + v.toNat) := by
  obtain ⟨j, rfl⟩ : ∃ j : Nat, v = (j : Int) := ⟨v.toNat, by omega⟩
  have hj : j < 26 := by omega
  refine atI_nat ?_
  rw [LS_eq, List.getElem?_map, List.getElem?_range hj]
  rfl
theorem cat_cps (x y : Str) : (x ++ y).cps.toList = x.cps.toList ++ y.cps.toList := by
  show (x.cps ++ y.cps).toList = _
  rw [Array.toList_append]
def sg (c : Nat) : V := .str ⟨#[c]⟩
theorem sg_map (ws : List Nat) : ws.map sg = (ws.map fun c => (⟨#[c]⟩ : Str)).map V.str := by rw [List.map_map]; rfl
theorem sg_sum (ws : List Nat) : ((ws.map fun c => (⟨#[c]⟩ : Str)).map (·.length)).sum = ws.length := by
  induction ws with
  | nil => rfl
  | cons c ws ih => simp only [List.map_cons, List.sum_cons, List.length_cons, ih]; show 1 + ws.length = _; omega
theorem join_cps : ∀ ws : List Nat, (Txt.join (Str.ofString "") (ws.map fun c => (⟨#[c]⟩ : Str))).cps.toList = ws := by
  have key : ∀ ws : List Nat, (Str.join (Str.ofString "") (ws.map fun c => (⟨#[c]⟩ : Str))).cps.toList = ws := by
    intro ws
    induction ws with
    | nil => rfl
    | cons c ws ih =>
      cases ws with
      | nil => rfl
      | cons d ws =>
        simp only [List.map_cons] at ih ⊢
        rw [Str.join, cat_cps, cat_cps, ih]
        · rfl
        · intro q; cases q
  intro ws
  show (Builtin.Str.glued _ _).cps.toList = _
  rw [StrLaws.glued_eq_join]
  exact key ws
theorem len_cps (z : Str) : z.length = z.cps.toList.length := by show z.cps.size = _; simp
theorem inV_strs (x : Str) (zs : List Str) : inV (.str x) (zs.map V.str) = decide (x ∈ zs) := by
  unfold inV
  induction zs with
  | nil => simp
  | cons z zs ih =>
    rw [List.map_cons, List.any_cons, ih]
    have : eqV (.str z) (.str x) = decide (x = z) := by
      show (z == x) = _
      rw [Bool.eq_iff_iff, beq_iff_eq, decide_eq_true_eq]; exact eq_comm
    rw [this, Bool.eq_iff_iff]; simp
theorem nat_of {v : Int} (h0 : 0 ≤ v) : ∃ j : Nat, v = (j : Int) := ⟨v.toNat, by omega⟩
end Wk
set_option maxHeartbeats 1000000
namespace Wk
open PySem L2
def TieOk (N : Nat) (t : T4) : Prop := t.2.1 < N ∧ t.2.2.1 < N ∧ t.2.1 ≠ t.2.2.1
theorem nodup_le {α : Type} [DecidableEq α] : ∀ (xs ys : List α), xs.Nodup → (∀ x ∈ xs, x ∈ ys) → xs.length ≤ ys.length
  | [], _, _, _ => Nat.zero_le _
  | x :: xs, ys, nd, h => by
    have nd := List.nodup_cons.mp nd
    have hx := h x (List.mem_cons_self ..)
    have := nodup_le xs (ys.erase x) nd.2 fun y hy => (List.mem_erase_of_ne (fun e => nd.1 (by rw [← e]; exact hy))).mpr (h y (List.mem_cons_of_mem _ hy))
    rw [List.length_erase_of_mem hx] at this
    have := List.length_pos_of_mem hx
    rw [List.length_cons]; omega
theorem mod_ne {N a v : Nat} (ha : a < N) (hv : v < N - 1) : (a + 1 + v) % N ≠ a ∧ (a + 1 + v) % N < N := by
  refine ⟨?_, Nat.mod_lt _ (by omega)⟩
  by_cases h : a + 1 + v < N
  · rw [Nat.mod_eq_of_lt h]; omega
  · rw [Nat.mod_eq_sub_mod (by exact Nat.not_lt.mp (by assumption)), Nat.mod_eq_of_lt (by omega)]; omega
theorem mod_int {a b : Nat} : ((a : Int) % (b : Int)) = ((a % b : Nat) : Int) := by simp
end Wk
namespace L2
open PySem
end L2
set_option maxHeartbeats 1000000
namespace Wk
open PySem L2
def keysOf (t : T4) : List Key := [.inr t.1, .inl (t.2.1 : Int), .inl (t.2.2.1 : Int), .inl t.2.2.2]
def tieOf : List Key → T4
  | [.inr n, .inl a, .inl b, .inl w] => (n, a.toNat, b.toNat, w)
  | _ => (Str.ofString "", 0, 0, 0)
theorem tieOf_keys (t : T4) : tieOf (keysOf t) = t := by
  obtain ⟨n, a, b, w⟩ := t
  show (n, (a : Int).toNat, (b : Int).toNat, w) = _
  simp
theorem keys_tieV (t : T4) : (keysOf t).map kV = tieV t := rfl
def IsTie (ks : List Key) : Prop := ∃ t, ks = keysOf t
end Wk
set_option maxHeartbeats 1000000
namespace Wk
open PySem L2
def NmS (zs : List Str) : Prop := zs.Pairwise fun a b => Srt.ltK (.inr b) (.inr a) = false
end Wk
set_option maxHeartbeats 1000000
namespace L2
open PySem PySem.Spec PyProof.Rows
end L2
namespace Wk
open PySem L2
def Srtd (S T : List T4) : Prop := S.Perm T ∧ S.Pairwise fun a b => Srt.ltR (keysOf b) (keysOf a) = false
end Wk
set_option maxHeartbeats 1000000
namespace Wk
open PySem L2
end Wk
set_option maxHeartbeats 1000000
namespace Wk
open PySem L2
end Wk
set_option maxHeartbeats 1000000
namespace L2
open PySem PySem.Spec PyProof.Rows
end L2
namespace Wk
open PySem L2
theorem part_up {N p : Nat} {S : List T4} : (partF N S p).Pairwise (· < ·) := by
  unfold partF
  exact (List.pairwise_lt_range).sublist List.filter_sublist
end Wk
set_option maxHeartbeats 1000000
namespace HT
open PySem PyProof.Rows
theorem fm_congr {f g : Nat → Option Value} : ∀ {l : List Nat}, (∀ k ∈ l, f k = g k) → l.filterMap f = l.filterMap g
  | [], _ => rfl
  | a :: l, h => by
    rw [List.filterMap_cons, List.filterMap_cons, h a (List.mem_cons_self), fm_congr (l := l) fun k hk => h k (List.mem_cons_of_mem _ hk)]
theorem rev_pick (xs : Array Value) : ((List.range xs.size).filterMap fun (k : Nat) => xs[(((xs.size : Int) - 1) + (k : Int) * (-1)).toNat]?) = xs.toList.reverse := by
  have h : ((List.range xs.size).filterMap fun (k : Nat) => xs[(((xs.size : Int) - 1) + (k : Int) * (-1)).toNat]?) = (List.range xs.size).filterMap fun k => xs.toList.reverse[k]? := by
    refine fm_congr fun k hk => ?_
    have hk := List.mem_range.mp hk
    have e : (((xs.size : Int) - 1) + (k : Int) * (-1)).toNat = xs.size - 1 - k := by omega
    rw [e, List.getElem?_reverse (by simpa using hk)]
    simp
  rw [h]
  have : ∀ (l : List Value), (List.range l.length).filterMap (fun k => l[k]?) = l := by
    intro l
    refine List.ext_getElem? fun i => ?_
    have e : (List.range l.length).filterMap (fun k => l[k]?) = (List.range l.length).map (fun k => l.getD k .none) := by
      rw [← List.filterMap_eq_map]
      refine fm_congr fun k hk => ?_
      have hk := List.mem_range.mp hk
      show l[k]? = some (l.getD k .none)
      rw [List.getD_eq_getElem?_getD, List.getElem?_eq_getElem hk]; rfl
    rw [e, List.getElem?_map]
    by_cases hi : i < l.length
    · rw [List.getElem?_range hi, List.getElem?_eq_getElem hi]
      simp [hi]
    · rw [List.getElem?_eq_none (by simpa using hi), List.getElem?_eq_none (by simpa using hi)]; rfl
  have := this xs.toList.reverse
  rw [List.length_reverse, Array.length_toList] at this
  exact this
section
variable {prog : Program} {w : World} {A : Around} {E : Value → Shared → Prop} {s : Shared}
theorem applied_rev {sl : Addr} {u : Tok} {n : Nat} {Q : Int × Int × Nat → Shared → Prop} (hs : s.heap.IsSliceOf sl .none .none (.int (-1) u))
    (h : Q ((n : Int) - 1, -1, n) s) : wpAny (model prog w) A (Builtin.Slice.sliceApplied (.ref sl) (pure (n : Int))) Q E s := by
  obtain ⟨os, hos, hcs, hds⟩ := id hs
  unfold Builtin.Slice.sliceApplied Builtin.Slice.sliceFields
  refine wpAny_bind (wpAny_bind (wpAny_field hos hds (x := .none) rfl (wpAny_bind (wpAny_field hos hds (x := .none) rfl (wpAny_bind (wpAny_field hos hds (x := .int (-1) u) rfl (wpAny_pure ?_)))))))
  refine wpAny_bind (slicePart_int ?_)
  show wpAny _ _ (if ((-1 : Int) == 0) = true then _ else _) _ _ s
  rw [if_neg (by decide)]
  refine wpAny_bind (slicePart_none (wpAny_bind (slicePart_none (wpAny_bind (wpAny_pure (wpAny_pure ?_))))))
  have e : Builtin.Slice.slicePlaces ((n : Int) - 1) (-1) (-1) = n := by
    unfold Builtin.Slice.slicePlaces
    rw [if_neg (by decide)]
    split
    · rw [show (-(-1) : Int) = 1 from rfl, Int.ediv_one]; omega
    · omega
  show Q ((n : Int) - 1, -1, Builtin.Slice.slicePlaces ((n : Int) - 1) (-1) (-1)) s
  rw [e]; exact h
theorem getItem_tup_rev {t sl : Addr} {xs : Array Value} {u : Tok} {Q : Value → Shared → Prop} (ht : IsTup s.heap t xs) (hs : s.heap.IsSliceOf sl .none .none (.int (-1) u)) (hz : xs.size ≤ 10000)
    (h : Q (.ref s.heap.objs.size) { s with heap := s.heap.push { cls := .type "tuple", data := .seq xs.toList.reverse.toArray } }) : wpAny (model prog w) A (getItem (.ref t) (.ref sl)) Q E s := by
  obtain ⟨os, hos, hcs, hds⟩ := id hs
  have tsl : s.TypeIs (.ref sl) "slice" := ⟨os, hos, hcs⟩
  unfold getItem
  try with_reducible refine wpAny_holding ?_
  first | refine wpAny_bind (wpAny_pure ?_) | skip
  refine wpAny_bind (wpAny_sequenceKey ht.typeIs (by decide) (wpAny_bind (wpAny_callSpecial?_slot (name := Str.ofString "__getitem__") ht.typeIs PyProof.Rows.slot_tuple_getitem (wpAny_call_entry PyProof.Rows.slot_tuple_getitem ht.typeIs entry_tuple_getitem ?_ (args_tuple_getitem _ _)))))
  show wpAny _ _ (Builtin.Tuple.tupleItemsOf (.ref t) >>= fun _ => _) _ _ s
  refine wpAny_bind (tupleItemsOf_ ht (wpAny_bind (wpAny_typeOf tsl ?_)))
  rw [if_pos (by decide)]
  refine wpAny_bind (applied_rev hs ?_)
  show wpAny _ _ (ite ((((xs.size : Int) - 1) == 0 && (-1 : Int) == 1 && xs.size == xs.size) = true) _ _) _ _ s
  rw [if_neg (by simp)]
  refine wpAny_bind (m := Builtin.Tuple.tupleExact _) ?_
  unfold Builtin.Tuple.tupleExact
  rw [rev_pick]
  refine wpAny_newObj_type ?_ (L2.small (by simpa using hz))
  exact wpAny_pure ⟨_, rfl, wpAny_pure h⟩
end
end HT
namespace L2
open PySem PySem.Spec PyProof.Rows
section
variable {X : Cx} {e : Expr} {te : TE} {pos p2 : Pos}
def tRevT (K : PySem.W.Frag) (te : TE) (ts : TO) : TE := fun σ H Q => te σ H fun x H1 => ts σ H1 fun o H2 => ∃ (a : Addr) (xs : List V), o = some (-1) ∧ x = .ref a ∧ SqT K H2 a xs ∧ xs.length ≤ 10000 ∧ ∀ p, H2 p = none → Q (.ref p) (upd H2 p (.tup xs.reverse))
theorem pe_revT {st : Expr} {ts : TO} (he : PE X e te) (hs : PO X (some st) ts) (ops : Value → Value → List Value) (hsub : ∀ o i, subscripted (.Slice none none (some st) p2) false o i = operate (ops o i) (getItem o i)) : PE X (.Subscript e (.Slice none none (some st) p2) pos) (tRevT X.K te ts) := by
  intro pins s σ H Q I h
  refine Subscript_ (thn (he pins s σ H _ I h) fun v s1 ⟨x, H1, I1, r1, q1⟩ => wpAny_Slice ?_)
  rw [evalPart_none]
  refine wpAny_pure (wpAny_pure (thn (hs pins s1 σ H1 _ I1 q1) fun vs s2 ⟨o, H2, I2, ps, a, xs, q2⟩ => ?_))
  obtain ⟨rfl, rfl, hq, hl, q⟩ := q2
  cases r1
  have I4 : Inv X pins σ H2 { s2 with heap := s2.heap.push { cls := .type "slice", data := .fields #[.none, .none, vs] } } := I2.kept (t' := s2.toks) fun b ob q => Heap.get?_push_of_some _ q
  obtain ⟨its, r, ht, hz⟩ := I4.tuple hq
  have hlen := r.length
  show wpAny (model X.prog X.w) X.A (subscriptTail e (.Slice none none (some st) p2) (.ref a) (.ref s2.heap.objs.size)) (EP X pins σ Q) X.xe { s2 with heap := s2.heap.push { cls := .type "slice", data := .fields #[.none, .none, vs] } }
  refine tail_any (ops := ops (.ref a) (.ref s2.heap.objs.size)) ht.typeIs PyProof.Rows.slot_tuple_getitem.lookup ?_ (hsub _ _)
  cases ps with
  | int i t =>
    refine HT.getItem_tup_rev ht (Heap.IsSliceOf.new ..) (by rw [List.size_toArray]; omega) ⟨.ref _, _, I4.laid (t' := s2.toks) (o := .tup xs.reverse) (fun b ob q => Heap.get?_push_of_some _ q) (Nat.le_refl _) ⟨small (by rw [List.length_reverse]; exact hl), its.reverse, r.reverse, ?_⟩, rfl, q _ I4.fresh⟩
    exact IsTupN.new _ _
end
end L2
namespace Wk
open PySem L2
def overF (S : List T4) (v : Nat) (n : Str) : Option Nat := match S.find? fun t => decide (t.1 = n) with
  | none => none
  | some t => if v = t.2.1 then some t.2.2.1 else if v = t.2.2.1 then some t.2.1 else none
def goF (S : List T4) : Nat → List Str → Option Nat
  | v, [] => some v
  | v, n :: ns => match overF S v n with
    | none => none
    | some u => goF S u ns
theorem goF_snoc {S : List T4} {n : Str} : ∀ {ws : List Str} {v u : Nat}, goF S v ws = some u → goF S v (ws ++ [n]) = overF S u n
  | [], v, u, h => by
    cases h
    show (match overF S v n with | none => none | some u => goF S u []) = _
    cases overF S v n <;> rfl
  | m :: ws, v, u, h => by
    show (match overF S v m with | none => none | some u => goF S u (ws ++ [n])) = _
    have h : (match overF S v m with | none => none | some u => goF S u ws) = some u := h
    cases g : overF S v m with
    | none => rw [g] at h; cases h
    | some z => rw [g] at h; exact goF_snoc h
theorem find_tie {S : List T4} (nd : (S.map (·.1)).Nodup) {t : T4} (ht : t ∈ S) : S.find? (fun u => decide (u.1 = t.1)) = some t := by
  induction S with
  | nil => cases ht
  | cons a S ih =>
    rw [List.map_cons, List.nodup_cons] at nd
    rw [List.find?_cons]
    rcases List.mem_cons.mp ht with rfl | h
    · simp
    · have : a.1 ≠ t.1 := fun e => nd.1 (by rw [e]; exact List.mem_map_of_mem h)
      simp only [this, decide_false]
      exact ih nd.2 h
theorem over_tie {S : List T4} (nd : (S.map (·.1)).Nodup) {t : T4} (ht : t ∈ S) : overF S t.2.1 t.1 = some t.2.2.1 ∧ overF S t.2.2.1 t.1 = some t.2.1 := by
  unfold overF
  rw [find_tie nd ht]
  refine ⟨by simp, ?_⟩
  show (if t.2.2.1 = t.2.1 then some t.2.2.1 else if t.2.2.1 = t.2.2.1 then some t.2.1 else none) = _
  by_cases g : t.2.2.1 = t.2.1
  · rw [if_pos g, g]
  · rw [if_neg g, if_pos rfl]
theorem over_none {S : List T4} {n : Str} {v : Nat} (h : ∀ t ∈ S, t.1 = n → v ≠ t.2.1 ∧ v ≠ t.2.2.1) : overF S v n = none := by
  unfold overF
  cases g : S.find? fun t => decide (t.1 = n) with
  | none => rfl
  | some t =>
    have := h t (List.mem_of_find?_eq_some g) (by simpa using List.find?_some g)
    show (if v = t.2.1 then some t.2.2.1 else if v = t.2.2.1 then some t.2.1 else none) = none
    rw [if_neg this.1, if_neg this.2]
theorem cat_any {K : PySem.W.Frag} {H : Hp} {Q : VK} {a b : Addr} {xs ys : List V} (ha : H a = some (.tup xs)) (hb : H b = some (.tup ys)) (hl : xs.length + ys.length ≤ 10000)
    (k : ∀ t H', Same H H' → H' t = some (.tup (xs ++ ys)) → Q (.ref t) H') : rCatTT K (.ref a) (.ref b) H Q := by
  refine ⟨a, b, _, _, rfl, rfl, SqT.of ha, SqT.of hb, small hl, fun e => k b H (same_refl H) ?_, fun _ e => k a H (same_refl H) ?_, fun _ _ p hp => k p _ (same_new hp) upd_same⟩
  · rw [e]; exact hb
  · rw [e, List.append_nil]; exact ha
theorem cut_any {K : PySem.W.Frag} {H : Hp} {Q : VK} {a : Addr} {xs : List V} {lo hi : Option Int} (ha : H a = some (.tup xs)) (k : ∀ t H', Same H H' → H' t = some (.tup (cutV xs lo hi)) → Q (.ref t) H') : rSlTA K (.ref a) lo hi H Q := by
  refine ⟨a, xs, rfl, SqT.of ha, fun w => k a H (same_refl H) ?_, fun _ p hp => k p _ (same_new hp) upd_same⟩
  have : cutV xs lo hi = xs := by
    unfold cutV
    rw [w.1, w.2]
    simp
  rw [this]
  exact ha
theorem noPart {σ : L2.St} {H : Hp} {f : Option Int → Hp → Prop} (h : f none H) : tNoPart σ H f := h
end Wk
set_option maxHeartbeats 4000000
namespace L2
open PySem PySem.Spec PyProof.Rows
section
variable {X : Cx}
theorem call_any (hc : X.calm = true) : CallR X (.builtin "any") (fun xs H Q => ∃ (p : Addr) (bs : List Bool), xs = [.ref p] ∧ SqL X.K H p (bs.map V.bl) ∧ Q (.bl (bs.any id)) H) := by
  intro pins s σ H xs us Q I r h
  obtain ⟨p, bs, rfl, hq, q⟩ := h
  obtain ⟨u, rfl, rx⟩ := vals1 r
  cases rx
  obtain ⟨its, rv, hl, hz⟩ := I.list hq
  have hlen := rv.length
  rw [List.length_map] at hlen
  refine call_any_walk (wpAny_pyIter_list hl.isList ?_)
  have hne : p ≠ s.heap.objs.size := by obtain ⟨o, ho, _⟩ := hl.isList; exact Nat.ne_of_lt (Heap.lt_size ho)
  refine ⟨_, _, _, _, _, _, fun i => bs.getD i false, rfl, Walks.list (A := X.A.in1) (I.ok.hd hc) _ p hne its.toArray, ⟨⟨_, Heap.get?_push_size _ rfl, rfl, rfl⟩, hl.isList.push _⟩, ?_, fun h' tk hk => ?_⟩
  · intro i v s' Q' E' hP hQ
    have hi : its[i]? = some v := by simpa using hP
    have hb : ∃ b, bs[i]? = some b ∧ v = .bool b := by
      have hil : i < bs.length := by rw [hlen]; exact (List.getElem?_eq_some_iff.mp hi).1
      obtain ⟨u, e1, e2⟩ := rv.get (i := i) (x := .bl bs[i]) (by simp [hil])
      rw [hi] at e1; cases e1
      exact ⟨bs[i], by simp [hil], e2⟩
    obtain ⟨b, e1, rfl⟩ := hb
    have : bs.getD i false = b := by simp [List.getD, e1]
    dsimp only at hQ
    rw [this] at hQ
    exact wpAny_truthy_bool hQ
  · have e : (List.range its.toArray.size).any (fun i => bs.getD i false) = bs.any id := by
      rw [List.size_toArray, ← hlen]
      have key : ∀ (bs : List Bool), (List.range bs.length).any (fun i => bs.getD i false) = bs.any id := by
        intro bs
        rw [Bool.eq_iff_iff, List.any_eq_true, List.any_eq_true]
        constructor
        · rintro ⟨i, hi, h⟩
          have hi := List.mem_range.mp hi
          exact ⟨bs[i], List.getElem_mem hi, by simpa [List.getD, hi] using h⟩
        · rintro ⟨b, hb, h⟩
          obtain ⟨i, hi, e⟩ := List.getElem_of_mem hb
          exact ⟨i, List.mem_range.mpr hi, by simpa [List.getD, hi, e] using h⟩
      exact key bs
    rw [e]
    exact ⟨.bl (bs.any id), H, I.kept (fun b o eo => hk b o (by
      intro z
      have z := List.mem_singleton.mp z
      exact absurd (Heap.lt_size eo) (by rw [z]; exact Nat.lt_irrefl _)) (Heap.get?_push_of_some _ eo)), rfl, q⟩
end
end L2
set_option maxHeartbeats 4000000
namespace PySem
namespace F
theorem lk_list_keys : typeLookup (.type "list") "keys" = pure none := by rw [typeLookup_type, builtinLookup_eq_fast]; kernel_rfl
theorem lk_list_getattr : typeLookup (.type "list") "__getattr__" = pure none := by rw [typeLookup_type, builtinLookup_eq_fast]; kernel_rfl
end F
section
variable {prog : Program} {w : World} {A : Around} {E : Value → Shared → Prop} {h : Heap} {g : Array GenState} {d : Drawn} {t : Nat} {os : OsState} {a : Addr} {n : Nat} {its : Array Value}
theorem first_attr (v : Value) : firstArgMember (.type "AttributeError") [v] = pure Value.none := by kernel_rfl
theorem sub_attr_self : isSubtype (.type "AttributeError") (.type "AttributeError") = pure true := by rw [isSubtype_type]; kernel_rfl
theorem raise_attr {α : Type} {s : Shared} {o : Value} {name msg : Str} {Q : α → Shared → Prop} (hm : msg.length ≤ sizeLine) (hh : A.handled = none)
    (hq : ∀ (h' : Heap) (e : Addr) (t' : Nat), (∀ b o, s.heap.get? b = some o → h'.get? b = some o) → (∃ o, h'.get? e = some o ∧ o.cls = .type "AttributeError") → E (.ref e) { s with heap := h', toks := t' }) :
    wpAny (model prog w) A (raiseAttrError o name msg : Sem α) Q E s := by
  unfold raiseAttrError
  refine wpAny_bind (wpAny_mkStr ?_ hm)
  unfold newExc newTuple
  refine wpAny_bind (wpAny_bind (wpAny_newObj_type ?_))
  refine wpAny_bind (m := firstArgMember _ _) (wpAny_of_eq (first_attr _) ?_)
  refine wpAny_newObj_type ?_
  refine wpAny_bind (wpAny_mkText ?_)
  generalize eh1 : (s.heap.push { cls := .type "tuple", data := .seq #[Value.str msg s.toks] }) = h1
  have k1 : ∀ b o, s.heap.get? b = some o → h1.get? b = some o := fun b o e => by rw [← eh1]; exact Heap.get?_push_of_some _ e
  have ge := Heap.get?_push_size h1 (o := { cls := .type "AttributeError", data := .fields (#[Value.ref s.heap.objs.size, .none, .none, .none, .bool false, .none] ++ ownMembersOf (.type "AttributeError") [Value.str msg s.toks]) }) rfl
  have k2 : ∀ b o, h1.get? b = some o → (h1.push { cls := .type "AttributeError", data := .fields (#[Value.ref s.heap.objs.size, .none, .none, .none, .bool false, .none] ++ ownMembersOf (.type "AttributeError") [Value.str msg s.toks]) }).get? b = some o := fun b o e => Heap.get?_push_of_some _ e
  have nw : h1.get? h1.objs.size = none := Heap.get?_none_of_le (Nat.le_refl _)
  generalize h1.objs.size = e at ge nw ⊢
  have eo : (#[Value.ref s.heap.objs.size, .none, .none, .none, .bool false, .none] ++ ownMembersOf (.type "AttributeError") [Value.str msg s.toks]) = #[Value.ref s.heap.objs.size, .none, .none, .none, .bool false, .none, rawInt 0, rawInt 0] := rfl
  rw [eo] at ge k2 ⊢
  generalize (h1.push { cls := .type "AttributeError", data := .fields #[Value.ref s.heap.objs.size, .none, .none, .none, .bool false, .none, rawInt 0, rawInt 0] }) = h2 at ge k2 ⊢
  have hT : Shared.TypeIs { s with heap := h2, toks := s.toks + 1 + 1 } (.ref e) "AttributeError" := ⟨_, ge, rfl⟩
  have sb := sub_attr_self
  refine wpAny_bind ?_
  unfold noteAttr
  dsimp only
  refine wpAny_bind ?_
  unfold lacksNameAndObj
  dsimp only
  refine wpAny_bind (wpAny_isInstance hT sb ?_)
  simp only [Bool.not_true, Bool.false_eq_true, if_false]
  refine wpAny_bind (wpAny_load ge ?_)
  refine wpAny_of_eq (a := true) (by rfl) ?_
  simp only [if_true]
  refine wpAny_bind (wpAny_rule ?_)
  refine wpAny_bind (wpAny_typeOf hT ?_)
  dsimp only
  unfold layMembers
  refine wpAny_bind (wpAny_load ge ?_)
  dsimp only
  refine wpAny_update ge ?_
  refine wpAny_raiseNew_none hh (hq _ e _ (fun b o' eb => ?_) ⟨_, Heap.get?_update_self _ ge rfl, rfl⟩)
  have eb2 := k1 _ _ eb
  exact Heap.get?_update_of_ne _ (fun z => by rw [← z, nw] at eb2; cases eb2) (k2 _ _ (k1 _ _ eb))
theorem keys_entry {tk : Tok} {Q : Fin → Shared → Prop} (hx : h.get? a = some { cls := .type "list", data := .seq its n }) (hh : A.handled = none)
    (hq : ∀ (h' : Heap) (e : Addr) (t' : Nat), (∀ b o, h.get? b = some o → h'.get? b = some o) → (∃ o, h'.get? e = some o ∧ o.cls = .type "AttributeError") → E (.ref e) ⟨h', g, d, t', os⟩) :
    wpAny (model prog w) A (Builtin.«object.__getattribute__» ⟨[.ref a, .str "keys" tk], []⟩) Q E ⟨h, g, d, t, os⟩ := by
  have hT : (⟨h, g, d, t, os⟩ : Shared).TypeIs (.ref a) "list" := ⟨_, hx, rfl⟩
  have f4 := F.lk_list_keys
  repeat (any_goals (first | assumption | wp_step))
  exact raise_attr (by size_fits) hh hq
theorem keys_call {tk : Tok} {R : Result → Shared → Prop} (hx : h.get? a = some { cls := .type "list", data := .seq its n }) (hh : A.handled = none)
    (hq : ∀ (h' : Heap) (e : Addr) (t' : Nat), (∀ b o, h.get? b = some o → h'.get? b = some o) → (∃ o, h'.get? e = some o ∧ o.cls = .type "AttributeError") → R (.error (.ref e)) ⟨h', g, d, t', os⟩) :
    codeAny (model prog w) A (.call (.builtin "list.__getattribute__") ⟨[.ref a, .str "keys" tk], []⟩) R ⟨h, g, d, t, os⟩ :=
  codeAny_call_builtin F.slot_list_getattribute.plain F.entry_list_ga (F.slot_list_getattribute.check _ _ _ _ _ _ _ _ (show (⟨h, g, d, t, os⟩ : Shared).TypeIs (.ref a) "list" from ⟨_, hx, rfl⟩) (F.args_list_getattribute_2 _ _) (keys_entry hx (by simpa using hh) hq))
theorem keys_by {tk : Tok} {Q : Value → Shared → Prop} (hx : h.get? a = some { cls := .type "list", data := .seq its n }) (hh : A.handled = none)
    (hq : ∀ (h' : Heap) (e : Addr) (t' : Nat), (∀ b o, h.get? b = some o → h'.get? b = some o) → (∃ o, h'.get? e = some o ∧ o.cls = .type "AttributeError") → E (.ref e) ⟨h', g, d, t', os⟩) :
    wpAny (model prog w) A (getAttrBy (.ref a) (.str "keys" tk) false) Q E ⟨h, g, d, t, os⟩ := by
  have hT : (⟨h, g, d, t, os⟩ : Shared).TypeIs (.ref a) "list" := ⟨_, hx, rfl⟩
  have f2 := F.slot_list_getattribute.lookup
  have f3 := F.slot_list_getattribute.bind (.ref a)
  repeat (any_goals (first | assumption | wp_step))
  refine keys_call hx hh fun h' e t' k ⟨o, ho, hc⟩ => ?_
  have hT2 : (⟨h', g, d, t', os⟩ : Shared).TypeIs (.ref e) "AttributeError" := ⟨_, ho, hc⟩
  show wpAny _ _ (getattributeRaised _ _ _ _ _ _ _) _ _ _
  unfold getattributeRaised
  refine wpAny_bind (wpAny_isInstance hT2 sub_attr_self ?_)
  simp only [if_true]
  refine wpAny_bind (m := hookBehind _ _) (wpAny_of_eq (show hookBehind (.type "list") none = pure none from F.lk_list_getattr) ?_)
  unfold hookOrError
  unfold attributeErrorLeaves
  simp only [Bool.not_false, if_true]
  exact wpAny_bind (wpAny_throw (hq h' e t' k ⟨o, ho, hc⟩))
theorem keys_attr {Q : Option Value → Shared → Prop} (hx : h.get? a = some { cls := .type "list", data := .seq its n }) (hh : A.handled = none)
    (hq : ∀ (h' : Heap) (t' : Nat), (∀ b o, h.get? b = some o → h'.get? b = some o) → Q none ⟨h', g, d, t', os⟩) :
    wpAny (model prog w) A (getAttr? (.ref a) "keys") Q E ⟨h, g, d, t, os⟩ := by
  unfold getAttr? getAttrBy?
  refine wpAny_bind (wpAny_mkText ?_)
  refine wpAny_bind (wpAny_attempt (keys_by hx hh fun h' e t' k ⟨o, ho, hc⟩ => ?_))
  have hT2 : (⟨h', g, d, t', os⟩ : Shared).TypeIs (.ref e) "AttributeError" := ⟨_, ho, hc⟩
  dsimp only
  refine wpAny_bind (wpAny_isInstance hT2 sub_attr_self ?_)
  simp only [if_true]
  exact wpAny_pure (hq h' t' k)
end
end PySem
set_option maxHeartbeats 4000000
namespace PySem
namespace F
theorem entry_dict_update_loop : entryFor table "dict.update.loop" = some Builtin.«dict.update.loop» := entryFor_of_tree (by kernel_rfl)
theorem plain_dict_update_loop : plainId "dict.update.loop" = true := by decide +kernel
theorem mro_dict : mroOf (.type "dict") = pure [.type "dict", .type "object"] := by rw [mroOf_type]; kernel_rfl
theorem lookup_dict_new : typeLookup (.type "dict") "__new__" = pure (some (.builtin "dict.__new__")) := by rw [typeLookup_type, builtinLookup_eq_fast]; kernel_rfl
theorem called_dict : TypeCalled "dict" "dict.__new__" "dict.__init__" :=
  ⟨by decide +kernel, by decide +kernel, ⟨_, _, mro_dict⟩, madeBy_type mro_dict lookup_dict_new (by decide +kernel), by decide +kernel, by rw [isSubtype_type]; kernel_rfl, slot_dict_init⟩
theorem typeCall_dict_1 (a : Value) : checkTypeCall "dict" ⟨[a], []⟩ = pure () := by kernel_rfl
theorem newCall_dict_1 (a : Value) : checkBuiltinCall "dict.__new__" ⟨[.type "dict", a], []⟩ = pure () := by kernel_rfl
theorem entry_dict_new : entryFor table "dict.__new__" = some Builtin.«dict.__new__» := entryFor_of_tree (by kernel_rfl)
theorem plain_dict_new : plainId "dict.__new__" = true := by decide +kernel
end F
theorem sub_dict_self : isSubtype (.type "dict") (.type "dict") = pure true := by rw [isSubtype_type]; kernel_rfl
section
variable {prog : Program} {w : World} {A : Around} {E : Value → Shared → Prop} {s : Shared}
theorem code_dict_new (a : Value) {Q₁ : Value → Shared → Prop}
    (h : Q₁ (.ref s.heap.objs.size) { s with heap := s.heap.push { cls := .type "dict", data := .dict #[] } }) :
    codeAny (model prog w) A (.call (.builtin "dict.__new__") ⟨[.type "dict", a], []⟩) (wants Q₁ E) s := by
  refine codeAny_of_tree ?_
  show wpAny _ A.in1 (do checkBuiltinCall "dict.__new__" ⟨[.type "dict", a], []⟩; again (.builtin "dict.__new__" ⟨[.type "dict", a], []⟩)) _ _ s
  refine wpAny_bind (wpAny_of_eq (F.newCall_dict_1 a) (wpAny_pure ⟨plainId_quiet F.plain_dict_new _, codeAny_builtin F.entry_dict_new ?_⟩))
  rw [Around.under_plainId F.plain_dict_new _]
  unfold Builtin.«dict.__new__»
  have hsub := sub_dict_self
  have hm := F.mro_dict
  obtain ⟨hp, g, d, tk, os⟩ := s
  dsimp only
  wp_walk
  exact h
end
section
variable {prog : Program} {w : World} {A : Around} {R : Result → Shared → Prop} {K : Type} [DecidableEq K] {knd : KeyKind prog w K} {I : Addr} {fp wr : List Addr} {G : Array GenState → Array GenState → Prop} {n : Nat} {P : Nat → Value → Prop} {St : Nat → Shared → Prop}
theorem dict_loop (W : WalksS prog w A.in1 I fp wr G n P St) (D : Addr) (hDf : D ∉ fp) (kvs : List (K × Value)) (hn : kvs.length = n) (h0 : Heap)
    (hval : ∀ i v, P i v → ∃ (r : Addr) (kv : K × Value) (key : Value) (o : Obj) (m : Nat), v = .ref r ∧ kvs[i]? = some kv ∧ knd.is kv.1 key = true ∧ r ≠ D ∧ r ∉ wr ∧ h0.get? r = some o ∧ o.cls = .type "tuple" ∧ o.data = .seq #[key, kv.2] m) (hb : n ≤ sizeLine) :
    ∀ (k i : Nat) (s : Shared), n - i = k → i ≤ n → St i s → s.heap.DictOf knd D (merged [] (kvs.take i)) → (∀ b o, b ≠ D → b ∉ wr → h0.get? b = some o → s.heap.get? b = some o) →
      (∀ s', Moved (D :: wr) G s s' → s'.heap.DictOf knd D (merged [] kvs) → R (.ok (.ret .none)) s') →
      codeAny (model prog w) A (.builtin "dict.update.loop" ⟨[.ref D, .ref I, rawInt i, .none], []⟩) R s := by
  have hDw : D ∉ wr := fun h => hDf (W.sub _ h)
  have hsub : ∀ b ∈ wr, b ∈ D :: wr := fun b hb => List.mem_cons_of_mem _ hb
  intro k
  induction k with
  | zero =>
    intro i s hk hi hst hS hkp hR
    have hin : i = n := by omega
    subst hin
    refine codeAny_builtin F.entry_dict_update_loop ?_
    rw [Around.under_plainId F.plain_dict_update_loop _]
    show wpAny _ A.in1 (pyNext (.ref I) >>= _) _ _ s
    refine wpAny_bind (W.done s _ _ hst fun s' hm => ?_)
    rw [List.take_of_length_le (by omega)] at hS
    dsimp only
    unfold Builtin.Dict.addKeywords
    have hS' : s'.heap.DictOf knd D (merged [] kvs) := by
      obtain ⟨o, es, ep, ho, rest⟩ := hS
      exact ⟨o, es, ep, hm.heap D _ hDw ho, rest⟩
    exact wpAny_bind (wpAny_pure (wpAny_pure (hR s' (hm.mono hsub) hS')))
  | succ k ih =>
    intro i s hk hi hst hS hkp hR
    have hlt : i < n := by omega
    refine codeAny_builtin F.entry_dict_update_loop ?_
    rw [Around.under_plainId F.plain_dict_update_loop _]
    show wpAny _ A.in1 (pyNext (.ref I) >>= _) _ _ s
    refine wpAny_bind (W.item i s _ _ hlt hst fun v s' hP hst' hm => ?_)
    obtain ⟨r, kv, key, o, m, rfl, hkv, hkey, rD, rw_, ho, hc, hd⟩ := hval i v hP
    have hS' : s'.heap.DictOf knd D (merged [] (kvs.take i)) := by
      obtain ⟨o, es, ep, ho, rest⟩ := hS
      exact ⟨o, es, ep, hm.heap D _ hDw ho, rest⟩
    have ho' : s'.heap.get? r = some o := hm.heap r _ rw_ (hkp r o rD rw_ ho)
    have hT : s'.TypeIs (.ref r) "tuple" := ⟨_, ho', hc⟩
    dsimp only
    obtain ⟨hp, g, d, tk, os⟩ := s'
    obtain ⟨oc, od, oda, osl⟩ := o
    simp only at hc hd
    subst hc
    subst hd
    refine wpAny_bind (wpAny_holding (wpAny_bind ?_))
    refine wpAny_tryCatch ?_
    unfold Builtin.Dict.pairItems
    refine wpAny_bind (wpAny_typeOf hT ?_)
    have e1 : (Value.type "tuple" == Value.type "list" || Value.type "tuple" == Value.type "tuple") = true := by decide
    simp only [e1, if_true]
    refine wpAny_bind (wpAny_seqItems ho' rfl (wpAny_pure ?_))
    show wpAny _ _ (holding [key, kv.2] (dictSet D key kv.2)) _ _ _
    have hl : (merged [] (kvs.take i)).length ≤ i := by
      have := merged_length_le [] (kvs.take i)
      rw [List.length_take] at this
      simp only [List.length_nil] at this
      omega
    refine wpAny_holding (wpAny_dictSet_pairs hkey hS' (fun h' hS2 hsb => ?_) (by omega))
    rw [← merged_take_succ [] kvs i kv hkv] at hS2
    refine wpAny_pure ⟨plainId_quiet F.plain_dict_update_loop _, ?_⟩
    refine ih (i + 1) _ (by omega) hlt (W.frame _ _ h' _ hst' (Nat.le_succ _) fun b hb o e => ?_) hS2 (fun b o hb hw e => ?_) fun s'' hm'' hS'' => ?_
    · rw [hsb.2 b (fun h : b = D => hDf (by rw [← h]; exact hb))]; exact e
    · rw [hsb.2 b hb]; exact hm.heap b _ hw (hkp b o hb hw e)
    · refine hR s'' (Moved.trans W.gtrans ((hm.mono hsub).then_heap (Nat.le_succ _) fun b o hb e => ?_) hm'') hS''
      rw [hsb.2 b (fun h : b = D => hb (by rw [h]; exact List.mem_cons_self))]; exact e
end
end PySem
set_option maxHeartbeats 4000000
namespace PySem
section
variable {prog : Program} {w : World} {A : Around} {E : Value → Shared → Prop} {K : Type} [DecidableEq K] {knd : KeyKind prog w K}
theorem call_dict_list {s : Shared} {l : Addr} {items : Array Value} {m0 : Nat} {kvs : List (K × Value)} {Q : Value → Shared → Prop} (hh : A.handled = none) (hl : s.heap.get? l = some { cls := .type "list", data := .seq items m0 })
    (hi : ∀ (i : Nat) (v : Value), items[i]? = some v → ∃ (r : Addr) (kv : K × Value) (key : Value) (o : Obj) (m : Nat), v = .ref r ∧ kvs[i]? = some kv ∧ knd.is kv.1 key = true ∧ s.heap.get? r = some o ∧ o.cls = .type "tuple" ∧ o.data = .seq #[key, kv.2] m)
    (hn : kvs.length = items.size) (hb : items.size ≤ sizeLine) (nd : (kvs.map (·.1)).Nodup)
    (h : ∀ (h' : Heap) (tk : Nat), h'.DictOf knd s.heap.objs.size kvs → (∀ b o, s.heap.get? b = some o → h'.get? b = some o) → Q (.ref s.heap.objs.size) { s with heap := h', toks := tk }) :
    wpAny (model prog w) A (call (.type "dict") [.ref l]) Q E s := by
  refine callType_codes (Q₁ := fun obj s₁ => obj = .ref s.heap.objs.size ∧ s₁ = { s with heap := s.heap.push { cls := .type "dict", data := .dict #[] } }) F.called_dict (F.typeCall_dict_1 _) F.entry_dict_init
    (code_dict_new _ ⟨rfl, rfl⟩) fun obj s₁ h₁ => ?_
  obtain ⟨rfl, rfl⟩ := h₁
  have hS : (s.heap.push { cls := .type "dict", data := .dict #[] }).get? s.heap.objs.size = some { cls := .type "dict", data := .dict #[] } := Heap.get?_push_size _ rfl
  have hT : Shared.TypeIs { s with heap := s.heap.push { cls := .type "dict", data := .dict #[] } } (.ref s.heap.objs.size) "dict" := ⟨_, hS, rfl⟩
  refine ⟨hT, F.args_dict_init_2 _ _, ?_⟩
  have hlS : l < s.heap.objs.size := Heap.lt_size hl
  have hne : l ≠ s.heap.objs.size := Nat.ne_of_lt hlS
  have k1 : ∀ b o, s.heap.get? b = some o → (s.heap.push { cls := .type "dict", data := .dict #[] }).get? b = some o := fun b o e => Heap.get?_push_of_some _ e
  have hz : s.heap.get? s.heap.objs.size = none := Heap.get?_none_of_le (Nat.le_refl _)
  generalize s.heap.push { cls := .type "dict", data := .dict #[] } = h1 at hS hT k1 ⊢
  generalize s.heap.objs.size = D at hS hT hne hz h hlS ⊢
  unfold Builtin.«dict.__init__» Builtin.Dict.selfAndRest Builtin.Dict.notOrdered
  dsimp only
  refine wpAny_bind (wpAny_bind ?_)
  rw [if_pos (by decide +kernel)]
  refine wpAny_bind (wpAny_typeOf hT ?_)
  rw [if_neg (by decide +kernel)]
  refine wpAny_pure ?_
  refine wpAny_bind (m := Builtin.Dict.addrOf (.ref D)) (wpAny_of_eq (a := D) rfl ?_)
  refine wpAny_pure ?_
  show wpAny _ _ (Builtin.Dict.updateFrom "dict.__init__" D (.ref l) [] .none) _ _ _
  unfold Builtin.Dict.updateFrom
  have hl1 := k1 _ _ hl
  have hTl : Shared.TypeIs { s with heap := h1 } (.ref l) "list" := ⟨_, hl1, rfl⟩
  refine wpAny_bind (wpAny_typeOf hTl ?_)
  rw [if_pos (by decide +kernel)]
  refine wpAny_bind (keys_attr (t := s.toks) hl1 (by simpa using hh) fun h2 t2 k2 => ?_)
  dsimp only
  simp only [Option.isNone_none, if_true]
  refine wpAny_bind (wpAny_rule ?_)
  have hl2 := k2 _ _ hl1
  have hL2 : h2.IsList l items := ⟨_, hl2, rfl, m0, rfl⟩
  refine wpAny_bind (wpAny_pyIter_list hL2 ?_)
  refine wpAny_pure ⟨plainId_quiet F.plain_dict_update_loop _, ?_⟩
  have hS2 := k2 _ _ hS
  have hDlt : D < h2.objs.size := Heap.lt_size hS2
  have hllt : l < h2.objs.size := Heap.lt_size hl2
  have hz2 : h2.get? h2.objs.size = none := Heap.get?_none_of_le (Nat.le_refl _)
  have kI : ∀ b o, h2.get? b = some o → (h2.push { cls := .type "list_iterator", data := .fields #[.ref l, .int 0 0] }).get? b = some o := fun b o e => Heap.get?_push_of_some _ e
  have hDict : Heap.DictOf knd (h2.push { cls := .type "list_iterator", data := .fields #[.ref l, .int 0 0] }) D (merged [] (kvs.take 0)) := by
    have e0 : Heap.DictOf knd h2 D ([] : List (K × Value)) := ⟨_, #[], _, hS2, ⟨rfl, rfl, rfl⟩, rfl, (by intro _ h; simp at h), .nil, .nil⟩
    exact e0.push _
  refine dict_loop (knd := knd) ((Walks.list (by simpa using hh) _ l (Nat.ne_of_lt hllt) items).toS) D ?_ kvs hn s.heap ?_ hb (items.size - 0) 0 _ (by omega) (Nat.zero_le _) ⟨⟨_, Heap.get?_push_size _ rfl, rfl, rfl⟩, hL2.push _⟩ hDict ?_ ?_
  · simp only [List.mem_cons, List.mem_singleton, List.not_mem_nil, or_false, not_or]
    exact ⟨Nat.ne_of_lt hDlt, fun e => hne e.symm⟩
  · intro i v hv
    obtain ⟨r, kv, key, o, m, e1, e2, e3, e4, e5, e6⟩ := hi i v hv
    refine ⟨r, kv, key, o, m, e1, e2, e3, fun z => ?_, fun z => ?_, e4, e5, e6⟩
    · rw [z, hz] at e4; cases e4
    · have z := List.mem_singleton.mp z
      have := k2 _ _ (k1 _ _ e4)
      rw [z, hz2] at this; cases this
  · intro b o hb hw e
    exact kI _ _ (k2 _ _ (k1 _ _ e))
  · intro s' hm hS'
    obtain ⟨h', g', d', tk', os'⟩ := s'
    have eg : g' = s.gens := hm.gens
    have ed : d' = s.drawn := hm.drawn
    have eo : os' = s.os := hm.os
    subst eg; subst ed; subst eo
    rw [merged_nil_of_nodup kvs nd] at hS'
    refine ⟨rfl, h h' tk' hS' fun b o e => ?_⟩
    refine hm.heap b o ?_ (kI _ _ (k2 _ _ (k1 _ _ e)))
    simp only [List.mem_cons, List.mem_singleton, List.not_mem_nil, or_false, not_or]
    refine ⟨fun z => ?_, fun z => ?_⟩
    · rw [z, hz] at e; cases e
    · have := k2 _ _ (k1 _ _ e)
      rw [z, hz2] at this; cases this
end
end PySem
set_option maxHeartbeats 4000000
namespace L2
open PySem PySem.Spec PyProof.Rows
section
variable {X : Cx} {pins : List (Addr × Obj)} {σ : St} {H : Hp} {s : Shared}
theorem pairs_vals (I : Inv X pins σ H s) : ∀ (rs : List Addr) (kvs : List (Key × V)), rs.length = kvs.length → (∀ (i : Nat) (r : Addr) (kv : Key × V), rs[i]? = some r → kvs[i]? = some kv → H r = some (.tup [kV kv.1, kv.2])) →
    ∃ vs : List (Key × Value), KV kvs vs ∧ ∀ (i : Nat) (r : Addr), rs[i]? = some r → ∃ (kv : Key × Value) (key : Value) (o : Obj) (m : Nat), vs[i]? = some kv ∧ (mixKind X.prog X.w).is kv.1 key = true ∧ s.heap.get? r = some o ∧ o.cls = .type "tuple" ∧ o.data = .seq #[key, kv.2] m
  | [], [], _, _ => ⟨[], .nil, fun i r h => by simp at h⟩
  | [], _ :: _, h, _ => by simp at h
  | _ :: _, [], h, _ => by simp at h
  | r :: rs, kv :: kvs, h, hk => by
    obtain ⟨vs, k1, k2⟩ := pairs_vals I rs kvs (by simpa using h) (fun i r' kv' e1 e2 => hk (i + 1) r' kv' (by simpa using e1) (by simpa using e2))
    obtain ⟨its, v, ⟨o, eo, ec, m, ed⟩, _⟩ := I.tuple (SqT.of (K := X.K) (hk 0 r kv rfl rfl))
    obtain ⟨u1, u2, rfl, r1, r2⟩ := vals2 v
    refine ⟨(kv.1, u2) :: vs, .cons ⟨rfl, r2⟩ k1, fun i r' e => ?_⟩
    cases i with
    | zero =>
      have e : r = r' := by simpa using e
      subst e
      exact ⟨(kv.1, u2), u1, o, m, rfl, kV_is r1, eo, ec, ed⟩
    | succ i =>
      obtain ⟨kv', key, o', m', a1, a2⟩ := k2 i r' (by simpa using e)
      exact ⟨kv', key, o', m', by simpa using a1, a2⟩
theorem call_dict_of (hc : X.calm = true) : CallR X (.type "dict") (fun xs H Q => ∃ (p : Addr) (rs : List Addr) (kvs : List (Key × V)), xs = [.ref p] ∧ H p = some (.lst (rs.map V.ref)) ∧ rs.length = kvs.length ∧ (∀ (i : Nat) (r : Addr) (kv : Key × V), rs[i]? = some r → kvs[i]? = some kv → H r = some (.tup [kV kv.1, kv.2])) ∧ (kvs.map (·.1)).Nodup ∧ ∀ l, H l = none → Q (.ref l) (upd H l (.dK kvs))) := by
  intro pins s σ H xs us Q I r h
  obtain ⟨p, rs, kvs, rfl, hp, hl, hk, nd, q⟩ := h
  obtain ⟨u, rfl, rx⟩ := vals1 r
  cases rx
  obtain ⟨hz, its, m0, rv, hlen, eo⟩ := I.lstM hp
  rw [List.length_map] at hz hlen
  obtain ⟨vs, kv, hv⟩ := pairs_vals I rs kvs hl hk
  have kl := kv.length
  refine call_dict_list (knd := mixKind X.prog X.w) (items := its.toArray) (kvs := vs) (I.ok.hd hc) eo (fun i v hi => ?_) (by rw [List.size_toArray]; omega) (by rw [List.size_toArray]; omega) (by rw [← kv.keys]; exact nd) fun h' tk dd kp => ?_
  · have hi : its[i]? = some v := by simpa using hi
    have il : i < rs.length := by rw [hlen]; exact (List.getElem?_eq_some_iff.mp hi).1
    obtain ⟨u, e1, e2⟩ := rv.get (i := i) (x := .ref rs[i]) (by simp [il])
    rw [hi] at e1; cases e1
    obtain ⟨kv', key, o, m, a1, a2, a3, a4, a5⟩ := hv i rs[i] (by simp [il])
    exact ⟨rs[i], kv', key, o, m, e2, a1, a2, a3, a4, a5⟩
  · exact ⟨.ref s.heap.objs.size, _, I.laid (a := s.heap.objs.size) (o := .dK kvs) (t' := tk) kp (Nat.le_refl _) (dk_new (by omega) (beq_eq_false_iff_ne.mpr (Ne.symm (Nat.ne_of_lt I.big))) kv dd), rfl, q _ (I.hok.fresh (Nat.le_refl _))⟩
end
end L2
set_option maxHeartbeats 1000000
namespace L2
open PySem PySem.Spec PyProof.Rows
section
variable {X : Cx}
theorem call_sumT (hc : X.calm = true) : CallR X (.builtin "sum") (fun xs H Q => ∃ (p : Addr) (ns : List Int), xs = [.ref p] ∧ SqT X.K H p (ns.map V.int) ∧ Q (.int ns.sum) H) := by
  intro pins s σ H xs us Q I r h
  obtain ⟨p, ns, rfl, hq, q⟩ := h
  obtain ⟨u, rfl, rx⟩ := vals1 r
  cases rx
  obtain ⟨its, rv, hl, hz⟩ := I.tuple hq
  have hi := intsAre_of rv
  obtain ⟨ys, e⟩ := hi.allInts.items
  rw [e] at hl
  have hpl : p < s.heap.objs.size := by obtain ⟨o, ho, _⟩ := hl; exact Heap.lt_size ho
  refine call_sum_walkG (wpAny_pyIter_tuple hl ?_)
  refine ⟨_, _, _, _, _, _, numAt ys, rfl, Walks.tuple (A := X.A.in1) (I.ok.hd hc) _ p (Nat.ne_of_lt hpl) (intItems ys), ⟨⟨_, Heap.get?_push_size _ rfl, rfl, rfl⟩, hl.push _⟩, ?_, (fun _ _ => intItems_at), fun h' tk t' hk => ?_⟩
  · intro b hb
    show b < (s.heap.push _).objs.size
    rw [Heap.size_push]
    simp only [List.mem_cons, List.not_mem_nil, or_false] at hb
    rcases hb with rfl | rfl
    · exact Nat.lt_succ_self _
    · exact Nat.lt_succ_of_lt hpl
  · refine ⟨.int ns.sum, H, I.kept (fun b o eo => hk b o (fun z => ?_) (Heap.get?_push_of_some _ eo)), ⟨t', ?_⟩, q⟩
    · have z := List.mem_singleton.mp z
      exact absurd (Heap.lt_size eo) (by rw [z]; exact Nat.lt_irrefl _)
    · have e2 : ys.toList.map (·.1) = ns := by
        have q2 := nums_intItems ys
        rw [← e] at q2
        rw [← q2]
        exact hi.numsOf
      have e3 : (intItems ys).size = ys.size := by simp [intItems]
      rw [e3, preSum_eq, e2, List.take_of_length_le (by rw [← e2]; simp)]
end
end L2
set_option maxHeartbeats 1000000
namespace PySem
open PySem.Spec PyProof.Rows
end PySem
namespace L2
open PySem PySem.Spec PyProof.Rows
end L2
set_option maxHeartbeats 1000000
namespace Wk
open PySem L2
theorem goF_app {S : List T4} {ys : List Str} : ∀ {xs : List Str} {p u : Nat}, goF S p xs = some u → goF S p (xs ++ ys) = goF S u ys
  | [], p, u, h => by cases h; rfl
  | n :: xs, p, u, h => by
    show (match overF S p n with | none => none | some z => goF S z (xs ++ ys)) = _
    have h : (match overF S p n with | none => none | some z => goF S z xs) = some u := h
    cases g : overF S p n with
    | none => rw [g] at h; cases h
    | some z => rw [g] at h; exact goF_app h
theorem goF_cut {S : List T4} {ys : List Str} : ∀ {xs : List Str} {p q : Nat}, goF S p (xs ++ ys) = some q → ∃ u, goF S p xs = some u ∧ goF S u ys = some q
  | [], p, q, h => ⟨p, rfl, h⟩
  | n :: xs, p, q, h => by
    have h : (match overF S p n with | none => none | some z => goF S z (xs ++ ys)) = some q := h
    cases g : overF S p n with
    | none => rw [g] at h; cases h
    | some z =>
      rw [g] at h
      obtain ⟨u, h1, h2⟩ := goF_cut h
      refine ⟨u, ?_, h2⟩
      show (match overF S p n with | none => none | some z => goF S z xs) = _
      rw [g]; exact h1
theorem over_at {S : List T4} {v u : Nat} {n : Str} (h : overF S v n = some u) : ∃ t ∈ S, t.1 = n ∧ ((v = t.2.1 ∧ u = t.2.2.1) ∨ (v = t.2.2.1 ∧ u = t.2.1)) := by
  unfold overF at h
  cases g : S.find? fun t => decide (t.1 = n) with
  | none => rw [g] at h; cases h
  | some t =>
    rw [g] at h
    have h : (if v = t.2.1 then some t.2.2.1 else if v = t.2.2.1 then some t.2.1 else none) = some u := h
    refine ⟨t, List.mem_of_find?_eq_some g, by simpa using List.find?_some g, ?_⟩
    split at h
    · rename_i e; exact .inl ⟨e, (Option.some.inj h).symm⟩
    · split at h
      · rename_i e; exact .inr ⟨e, (Option.some.inj h).symm⟩
      · cases h
theorem over_back {S : List T4} (nd : (S.map (·.1)).Nodup) {v u : Nat} {n : Str} (h : overF S v n = some u) : overF S u n = some v := by
  obtain ⟨t, ht, rfl, ⟨e1, e2⟩ | ⟨e1, e2⟩⟩ := over_at h
  · rw [e1, e2]; exact (over_tie nd ht).2
  · rw [e1, e2]; exact (over_tie nd ht).1
theorem goF_one {S : List T4} {p u : Nat} {n : Str} (h : overF S p n = some u) : goF S p [n] = some u := by
  show (match overF S p n with | none => none | some z => goF S z []) = _
  rw [h]; rfl
theorem goF_rev {S : List T4} (nd : (S.map (·.1)).Nodup) : ∀ {ws : List Str} {p q : Nat}, goF S p ws = some q → goF S q ws.reverse = some p
  | [], p, q, h => by cases h; rfl
  | n :: ws, p, q, h => by
    have h : (match overF S p n with | none => none | some z => goF S z ws) = some q := h
    cases g : overF S p n with
    | none => rw [g] at h; cases h
    | some z =>
      rw [g] at h
      rw [List.reverse_cons, goF_app (goF_rev nd h)]
      exact goF_one (over_back nd g)
def Ring (N : Nat) (S : List T4) (ws : List Str) : Prop := ws.length % 2 = 1 ∧ ∃ p, p < N ∧ goF S p ws = some p
end Wk
set_option maxHeartbeats 1000000
namespace Wk
open PySem L2
theorem lead_go {S : List T4} (nd : (S.map (·.1)).Nodup) {a b : Nat} {ws : List Str} (h : Lead S a ws b) : goF S a ws = some b := by
  induction h with
  | nil => rfl
  | @snoc ws b c n _ q ih =>
    rw [goF_snoc ih]
    obtain ⟨t, ht, rfl, ⟨e1, e2⟩ | ⟨e1, e2⟩⟩ := nb_elim q
    · rw [← e1, ← e2]; exact (over_tie nd ht).1
    · rw [← e1, ← e2]; exact (over_tie nd ht).2
def lsF (N : Nat) (S : List T4) : List Nat := (List.range N).filter fun p => decide ((partF N S p)[0]? = some p)
theorem part_eq {N p q : Nat} {S : List T4} (hS : InN N S) (hp : p < N) (hq : q < N) (hN : N ≤ 60) (h : Reach S p q) : partF N S p = partF N S q := by
  rw [part_lab hS hp hN, part_lab hS hq hN, (lab_iff hS hp hq).mpr h]
theorem part_self {N p : Nat} {S : List T4} (hS : InN N S) (hp : p < N) (hN : N ≤ 60) : p ∈ partF N S p := (mem_part hS hp hN).mpr ⟨hp, .refl⟩
theorem ls_uniq {N p q : Nat} {S : List T4} (hS : InN N S) (hN : N ≤ 60) (hp : p ∈ lsF N S) (hq : q ∈ lsF N S) (h : Reach S p q) : p = q := by
  obtain ⟨p1, p2⟩ := List.mem_filter.mp hp
  obtain ⟨q1, q2⟩ := List.mem_filter.mp hq
  rw [decide_eq_true_eq] at p2 q2
  rw [part_eq hS (List.mem_range.mp p1) (List.mem_range.mp q1) hN h, q2] at p2
  exact (Option.some.inj p2).symm
def Two (S : List T4) : Prop := ∃ f : Nat → Int, (∀ v, f v = 0 ∨ f v = 1) ∧ ∀ t ∈ S, f t.2.1 ≠ f t.2.2.1
theorem lead_sides {S : List T4} {f : Nat → Int} (two : ∀ v, f v = 0 ∨ f v = 1) (h : ∀ t ∈ S, f t.2.1 ≠ f t.2.2.1) {a b : Nat} {ws : List Str} (l : Lead S a ws b) : ws.length % 2 = 0 ↔ f a = f b := by
  induction l with
  | nil => simp
  | @snoc ws b c n _ q ih =>
    have hne : f b ≠ f c := by
      obtain ⟨t, ht, _, ⟨e1, e2⟩ | ⟨e1, e2⟩⟩ := nb_elim q
      · rw [← e1, ← e2]; exact h t ht
      · rw [← e1, ← e2]; exact Ne.symm (h t ht)
    have x := two a
    have y := two b
    have z := two c
    rw [List.length_append]
    show (ws.length + 1) % 2 = 0 ↔ _
    constructor
    · intro e
      have : ¬ f a = f b := fun k => by have := ih.mpr k; omega
      omega
    · intro e
      have : ¬ ws.length % 2 = 0 := fun k => by have := ih.mp k; omega
      omega
end Wk
set_option maxHeartbeats 1000000
namespace Wk
open PySem L2
def LLow (N : Nat) (l : List Nat) : Prop := l.length = N ∧ ∀ v, v < N → l.getD v 0 ≤ v ∧ l.getD (l.getD v 0) 0 = l.getD v 0
theorem low_step {N : Nat} {l : List Nat} {t : T4} (h : LLow N l) (h1 : t.2.1 < N) (h2 : t.2.2.1 < N) : LLow N (labS l t) := by
  obtain ⟨hl, h⟩ := h
  refine ⟨by rw [labS_len]; exact hl, fun v hv => ?_⟩
  have a := h _ h1
  have b := h _ h2
  have c := h v hv
  have g : ∀ u, u < N → (labS l t).getD u 0 = if l.getD u 0 = max (l.getD t.2.1 0) (l.getD t.2.2.1 0) then min (l.getD t.2.1 0) (l.getD t.2.2.1 0) else l.getD u 0 := fun u hu => labS_get (by omega)
  have lo : l.getD (min (l.getD t.2.1 0) (l.getD t.2.2.1 0)) 0 = min (l.getD t.2.1 0) (l.getD t.2.2.1 0) := by
    rcases Nat.le_total (l.getD t.2.1 0) (l.getD t.2.2.1 0) with z | z
    · rw [Nat.min_eq_left z]; exact a.2
    · rw [Nat.min_eq_right z]; exact b.2
  rw [g v hv]
  by_cases e : l.getD v 0 = max (l.getD t.2.1 0) (l.getD t.2.2.1 0)
  · rw [if_pos e]
    have hm : min (l.getD t.2.1 0) (l.getD t.2.2.1 0) < N := by omega
    refine ⟨by omega, ?_⟩
    rw [g _ hm, lo]
    split <;> rfl
  · rw [if_neg e]
    refine ⟨c.1, ?_⟩
    rw [g _ (by omega), c.2, if_neg e]
theorem labF_low {N : Nat} {S : List T4} (hS : InN N S) : LLow N (labF N S) := by
  have : ∀ (S : List T4) (l : List Nat), InN N S → LLow N l → LLow N (S.foldl labS l) := by
    intro S
    induction S with
    | nil => intro l _ h; exact h
    | cons t S ih =>
      intro l hS h
      have ht := hS t (List.mem_cons_self ..)
      exact ih _ (fun u hu => hS u (List.mem_cons_of_mem _ hu)) (low_step h ht.1 ht.2)
  refine this S (List.range N) hS ⟨List.length_range, fun v hv => ?_⟩
  have e : ∀ u, u < N → (List.range N).getD u 0 = u := fun u hu => by rw [List.getD_eq_getElem?_getD, List.getElem?_range hu]; rfl
  rw [e v hv, e v hv]
  exact ⟨Nat.le_refl _, rfl⟩
theorem lab_ls {N v : Nat} {S : List T4} (hS : InN N S) (hN : N ≤ 60) (hv : v < N) : (labF N S).getD v 0 ∈ lsF N S ∧ Reach S ((labF N S).getD v 0) v := by
  have low := labF_low hS
  have c := low.2 v hv
  have pN : (labF N S).getD v 0 < N := by omega
  have r : Reach S ((labF N S).getD v 0) v := (lab_iff hS pN hv).mp c.2
  refine ⟨List.mem_filter.mpr ⟨List.mem_range.mpr pN, ?_⟩, r⟩
  rw [decide_eq_true_eq]
  have hm := part_self hS pN hN
  have hl : 0 < (partF N S ((labF N S).getD v 0)).length := List.length_pos_of_mem hm
  have h0 := getq hl
  rw [h0]
  congr 1
  have hq := (mem_part hS pN hN).mp (List.getElem_mem hl)
  have e := (lab_iff hS pN hq.1).mpr hq.2
  rw [c.2] at e
  have l1 := (low.2 _ hq.1).1
  obtain ⟨i, hi, ei⟩ := List.mem_iff_getElem.mp hm
  rcases Nat.eq_zero_or_pos i with z | z
  · subst z; exact ei
  · have := List.pairwise_iff_getElem.mp (part_up (N := N) (p := (labF N S).getD v 0) (S := S)) 0 i hl hi z
    rw [ei] at this
    omega
end Wk
set_option maxHeartbeats 1000000
namespace Wk
open PySem L2
def Par (N : Nat) (S : List T4) (v : Nat) (s : Int) : Prop := ∃ p ∈ lsF N S, ∃ ws, Lead S p ws v ∧ s = ((ws.length % 2 : Nat) : Int)
theorem Par.two {N v : Nat} {S : List T4} {s : Int} (h : Par N S v s) : s = 0 ∨ s = 1 := by
  obtain ⟨p, _, ws, _, e⟩ := h
  omega
theorem Par.least {N p : Nat} {S : List T4} (h : p ∈ lsF N S) : Par N S p 0 := ⟨p, h, [], .nil, rfl⟩
theorem Par.step {N : Nat} {S : List T4} {t : T4} {s : Int} (ht : t ∈ S) : (Par N S t.2.1 s → Par N S t.2.2.1 (1 - s)) ∧ (Par N S t.2.2.1 s → Par N S t.2.1 (1 - s)) := by
  constructor
  · rintro ⟨p, hp, ws, l, e⟩
    refine ⟨p, hp, ws ++ [t.1], .snoc l (nb_of ht), ?_⟩
    rw [List.length_append]
    show _ = ((((ws.length + 1) % 2 : Nat)) : Int)
    omega
  · rintro ⟨p, hp, ws, l, e⟩
    refine ⟨p, hp, ws ++ [t.1], .snoc l (nb_symm (nb_of ht)), ?_⟩
    rw [List.length_append]
    show _ = ((((ws.length + 1) % 2 : Nat)) : Int)
    omega
theorem Par.uniq {N v : Nat} {S : List T4} {s s' : Int} (hS : InN N S) (hN : N ≤ 60) (two : Two S) (h : Par N S v s) (h' : Par N S v s') : s = s' := by
  obtain ⟨f, f2, ft⟩ := two
  obtain ⟨p, hp, ws, l, e⟩ := h
  obtain ⟨q, hq, xs, m, e'⟩ := h'
  have : p = q := ls_uniq hS hN hp hq (Reach.trans ⟨ws, l⟩ (Reach.symm ⟨xs, m⟩))
  subst this
  have a := lead_sides f2 ft l
  have b := lead_sides f2 ft m
  have c : ws.length % 2 = 0 ↔ xs.length % 2 = 0 := a.trans b.symm
  omega
theorem Par.bad {N : Nat} {S : List T4} {t : T4} {s : Int} (hS : InN N S) (hN : N ≤ 60) (ht : t ∈ S) (h : Par N S t.2.1 s) (h' : Par N S t.2.2.1 s) : ¬ Two S := fun two => by
  have := Par.uniq hS hN two h' ((Par.step ht).1 h)
  have := h.two
  omega
theorem closed_reach {S : List T4} {M : Nat → Prop} (h : ∀ t ∈ S, (M t.2.1 → M t.2.2.1) ∧ (M t.2.2.1 → M t.2.1)) {a b : Nat} (r : Reach S a b) (ha : M a) : M b := by
  obtain ⟨ws, l⟩ := r
  induction l with
  | nil => exact ha
  | @snoc ws b c n _ q ih =>
    obtain ⟨t, ht, _, ⟨e1, e2⟩ | ⟨e1, e2⟩⟩ := nb_elim q
    · rw [← e2]; exact (h t ht).1 (e1 ▸ ih)
    · rw [← e2]; exact (h t ht).2 (e1 ▸ ih)
theorem next_least {N i : Nat} {S : List T4} {M : Nat → Prop} (hS : InN N S) (hN : N ≤ 60) (hi : i < N) (h : ∀ t ∈ S, (M t.2.1 → M t.2.2.1) ∧ (M t.2.2.1 → M t.2.1)) (low : ∀ v, v < i → M v) (no : ¬ M i) : i ∈ lsF N S := by
  obtain ⟨a, b⟩ := lab_ls hS hN hi
  have le := ((labF_low hS).2 i hi).1
  rcases Nat.lt_or_eq_of_le le with z | z
  · exact absurd (closed_reach h b (low _ z)) no
  · rw [z] at a; exact a
end Wk
set_option maxHeartbeats 1000000
namespace Rp
open PySem L2 PySem.Spec PyProof.Rows PySem.P
mutual
inductive RepF (H : Hp) : Bool → V → PyData → Prop
  | non {f : Bool} : RepF H f .non .none
  | bl {f : Bool} (b : Bool) : RepF H f (.bl b) (.bool b)
  | int {f : Bool} (i : Int) : RepF H f (.int i) (.int i)
  | str {f : Bool} (x : Str) : RepF H f (.str x) (.str x)
  | tup {f : Bool} {a : Addr} {xs : List V} {ds : List PyData} : H a = some (.tup xs) → RepFs H f xs ds → RepF H f (.ref a) (.tuple ds)
  | lst {a : Addr} {xs : List V} {ds : List PyData} : H a = some (.lst xs) → RepFs H false xs ds → RepF H false (.ref a) (.list ds)
  | dct {a : Addr} : H a = some (.dK []) → RepF H true (.ref a) (.dict [])
  | dc1 {a : Addr} {x : Str} {i : Int} : H a = some (.dK [(.inr x, .int i)]) → RepF H true (.ref a) (.dict [(.str x, .int i)])
inductive RepFs (H : Hp) : Bool → List V → List PyData → Prop
  | nil {f : Bool} : RepFs H f [] []
  | cons {f : Bool} {x : V} {xs : List V} {d : PyData} {ds : List PyData} : RepF H f x d → RepFs H f xs ds → RepFs H f (x :: xs) (d :: ds)
end
mutual
theorem RepF.same {H H' : Hp} (s : Same H H') : ∀ {f : Bool} {v : V} {d : PyData}, RepF H f v d → RepF H' f v d
  | _, _, _, .non => .non
  | _, _, _, .bl b => .bl b
  | _, _, _, .int i => .int i
  | _, _, _, .str x => .str x
  | _, _, _, .tup e h => .tup (s _ _ e) (RepFs.same s h)
  | _, _, _, .lst e h => .lst (s _ _ e) (RepFs.same s h)
  | _, _, _, .dct e => .dct (s _ _ e)
  | _, _, _, .dc1 e => .dc1 (s _ _ e)
theorem RepFs.same {H H' : Hp} (s : Same H H') : ∀ {f : Bool} {vs : List V} {ds : List PyData}, RepFs H f vs ds → RepFs H' f vs ds
  | _, _, _, .nil => .nil
  | _, _, _, .cons h t => .cons (RepF.same s h) (RepFs.same s t)
end
mutual
theorem RepF.reads {X : Cx} {pins : List (Addr × Obj)} {σ : L2.St} {H : Hp} {s : Shared} (I : Inv X pins σ H s) : ∀ {f : Bool} {v : V} {d : PyData} {u : Value}, RepF H f v d → RelV v u → ∃ as, Reads s.heap u d as ∧ (f = true → sysModules ∉ as)
  | _, _, _, _, .non, r => by cases r; exact ⟨_, .none, fun _ => by simp⟩
  | _, _, _, _, .bl b, r => by cases r; exact ⟨_, .bool b, fun _ => by simp⟩
  | _, _, _, _, .int i, r => by obtain ⟨t, rfl⟩ := r; exact ⟨_, .int i t, fun _ => by simp⟩
  | _, _, _, _, .str x, r => by obtain ⟨t, rfl⟩ := r; exact ⟨_, .str x t, fun _ => by simp⟩
  | _, _, _, _, .tup e h, r => by
    cases r
    obtain ⟨_, its, rv, o, e1, e2, _, n, e3⟩ := I.hok _ _ e
    obtain ⟨as, q, na⟩ := RepFs.reads I h rv
    exact ⟨as, .tuple e1 e2 e3 (by simpa using q), na⟩
  | _, _, _, _, .lst e h, r => by
    cases r
    obtain ⟨_, its, n, rv, e1⟩ := I.hok _ _ e
    obtain ⟨as, q, na⟩ := RepFs.reads I h rv
    exact ⟨_, .list e1 rfl rfl (by simpa using q), fun z => by cases z⟩
  | _, _, _, _, .dct (a := a) e, r => by
    cases r
    obtain ⟨_, ns, vs, kv, o, es, ep, e1, ex, e3, _, pr, _⟩ := I.hok _ _ e
    have hv : vs = [] := by cases kv; rfl
    subst hv
    have he : es.toList = [] := by
      have := pr.length
      simpa using this
    refine ⟨a :: [] ++ [], .dict (kvs := []) e1 ex.1 e3 (by rw [he]; exact .nil) (by rw [he]; exact .nil), fun _ => ?_⟩
    have : a ≠ sysModules := by simpa using ns
    simpa using this.symm
  | _, _, _, _, .dc1 (a := a) (x := x) (i := i) e, r => by
    cases r
    obtain ⟨_, ns, vs, kv, o, es, ep, e1, ex, e3, _, pr, _⟩ := I.hok _ _ e
    obtain ⟨u, hv, t', hu⟩ : ∃ u, vs = [(Sum.inr x, u)] ∧ ∃ t, u = Value.int i t := by
      cases kv with
      | @cons _ b _ _ r1 r2 =>
        cases r2
        obtain ⟨b1, b2⟩ := b
        obtain ⟨z, r1⟩ := r1
        cases z
        exact ⟨_, rfl, r1⟩
    subst hv
    generalize hes : es.toList = el at pr
    cases pr with
    | @cons en _ el _ h1 h2 h3 =>
      cases h3
      obtain ⟨t, ht⟩ : ∃ t, en.key = Value.str x t := by
        rcases keyIs_shape (k := Sum.inr x) (v := en.key) h1 with ⟨_, _, z, _⟩ | ⟨y, t, z, e'⟩
        · cases z
        · cases z; exact ⟨t, e'⟩
      refine ⟨a :: ([] ++ []) ++ ([] ++ []), .dict (kvs := [(.str x, .int i)]) e1 ex.1 e3 ?_ ?_, fun _ => ?_⟩
      · rw [hes]; show ReadsAll s.heap [en.key] [.str x] _; rw [ht]; exact .cons (.str x t) .nil
      · rw [hes]; show ReadsAll s.heap [en.val] [.int i] _; rw [h2, hu]; exact .cons (.int i t') .nil
      · have : a ≠ sysModules := by simpa using ns
        simpa using this.symm
theorem RepFs.reads {X : Cx} {pins : List (Addr × Obj)} {σ : L2.St} {H : Hp} {s : Shared} (I : Inv X pins σ H s) : ∀ {f : Bool} {vs : List V} {ds : List PyData} {us : List Value}, RepFs H f vs ds → Vals vs us → ∃ as, ReadsAll s.heap us ds as ∧ (f = true → sysModules ∉ as)
  | _, _, _, _, .nil, r => by cases r; exact ⟨_, .nil, fun _ => by simp⟩
  | _, _, _, _, .cons h t, r => by
    cases r with
    | cons r1 r2 =>
      obtain ⟨as, q1, n1⟩ := RepF.reads I h r1
      obtain ⟨bs, q2, n2⟩ := RepFs.reads I t r2
      exact ⟨_, .cons q1 q2, fun z => by simp [n1 z, n2 z]⟩
end
mutual
theorem RepF.nodict {H : Hp} : ∀ {v : V} {d : PyData}, RepF H false v d → d.hasDict = false
  | _, _, .non => rfl
  | _, _, .bl _ => rfl
  | _, _, .int _ => rfl
  | _, _, .str _ => rfl
  | _, _, .tup _ h => by rw [PyData.hasDict]; exact RepFs.nodict h
  | _, _, .lst _ h => by rw [PyData.hasDict]; exact RepFs.nodict h
theorem RepFs.nodict {H : Hp} : ∀ {vs : List V} {ds : List PyData}, RepFs H false vs ds → PyData.hasDictAll ds = false
  | _, _, .nil => rfl
  | _, _, .cons h t => by rw [PyData.hasDictAll, RepF.nodict h, RepFs.nodict t]; rfl
end
end Rp
namespace L2
open PySem PySem.Spec PyProof.Rows Rp PySem.P
end L2
namespace Rp
open PySem L2
structure Fine (n k : Nat) (d : PyData) : Prop where
  sh : d.showable = true
  ln : d.shown.length ≤ n
  dp : d.depth ≤ k
theorem Fine.mono {n k n' k' : Nat} {d : PyData} (h : Fine n k d) (h1 : n ≤ n') (h2 : k ≤ k') : Fine n' k' d := ⟨h.sh, Nat.le_trans h.ln h1, Nat.le_trans h.dp h2⟩
theorem len_of (s : String) : (Str.ofString s).length = s.toList.length := by
  rw [Str.ofString_eq_toList]
  simp [Str.length]
theorem int_len {i : Int} (h : i.natAbs < 10 ^ 45) : ((toString i : String) : Str).length ≤ 46 := by
  show (Str.ofString (toString i)).length ≤ 46
  rw [len_of]
  cases i with
  | ofNat n =>
    have := PySem.Flt.repr_len (k := 45) (by decide) (show n < 10 ^ 45 from h)
    show (Nat.repr n).toList.length ≤ 46
    omega
  | negSucc n =>
    have := PySem.Flt.repr_len (k := 45) (by decide) (show n + 1 < 10 ^ 45 from h)
    show (("-" : String) ++ Nat.repr (n + 1)).toList.length ≤ 46
    rw [String.toList_append, List.length_append]
    have e : ("-" : String).toList.length = 1 := by decide
    omega
theorem int_log {i : Int} (h : i.natAbs < 10 ^ 45) : i.natAbs.log2 < 1920 := by
  refine PySem.Flt.log2_lt_of (by decide) (Nat.lt_of_lt_of_le h ?_)
  exact Nat.le_trans (show (10 : Nat) ^ 45 ≤ 2 ^ 200 by decide +kernel) (Nat.pow_le_pow_right (by decide) (by decide))
theorem Fine.int {i : Int} (h : i.natAbs < 10 ^ 45) : Fine 46 0 (.int i) := ⟨by simpa [PyData.showable] using int_log h, int_len h, Nat.le_refl _⟩
theorem Fine.non : Fine 46 0 .none := ⟨rfl, by show (Str.ofString "None").length ≤ 46; rw [len_of]; decide, Nat.le_refl _⟩
theorem Fine.bl (b : Bool) : Fine 46 0 (.bool b) := ⟨rfl, by cases b <;> (show (Str.ofString _).length ≤ 46; rw [len_of]; decide), Nat.le_refl _⟩
theorem all_fine {n k : Nat} : ∀ {ds : List PyData}, (∀ d ∈ ds, Fine n k d) → PyData.showableAll ds = true ∧ ((PyData.shownAll ds).map (·.length)).sum ≤ n * ds.length ∧ (PyData.shownAll ds).length = ds.length ∧ PyData.depthAll ds ≤ k
  | [], _ => ⟨rfl, by simp [PyData.shownAll], rfl, by simp [PyData.depthAll]⟩
  | d :: ds, h => by
    obtain ⟨a, b, c, e⟩ := all_fine fun d' hd => h d' (List.mem_cons_of_mem _ hd)
    obtain ⟨h1, h2, h3⟩ := h d List.mem_cons_self
    refine ⟨by rw [PyData.showableAll, h1, a]; rfl, ?_, by rw [PyData.shownAll, List.length_cons, c, List.length_cons], by rw [PyData.depthAll]; omega⟩
    rw [PyData.shownAll, List.map_cons, List.sum_cons, List.length_cons, Nat.mul_succ]
    omega
theorem Fine.tup {n k l : Nat} {ds : List PyData} (h : ∀ d ∈ ds, Fine n k d) (hl : ds.length ≤ l) : Fine (n * l + 2 * l + 3) (k + 1) (.tuple ds) := by
  obtain ⟨a, b, c, e⟩ := all_fine h
  have q := tupleText_len_le (PyData.shownAll ds)
  have m1 := Nat.mul_le_mul_left n hl
  exact ⟨by rw [PyData.showable]; exact a, by rw [PyData.shown]; omega, by rw [PyData.depth]; omega⟩
theorem Fine.lst {n k l : Nat} {ds : List PyData} (h : ∀ d ∈ ds, Fine n k d) (hl : ds.length ≤ l) : Fine (n * l + 2 * l + 3) (k + 1) (.list ds) := by
  obtain ⟨a, b, c, e⟩ := all_fine h
  have q := listText_len_le (PyData.shownAll ds)
  have m1 := Nat.mul_le_mul_left n hl
  exact ⟨by rw [PyData.showable]; exact a, by rw [PyData.shown]; omega, by rw [PyData.depth]; omega⟩
theorem Fine.dct : Fine 46 1 (.dict []) := ⟨rfl, by show (dictText []).length ≤ 46; decide +kernel, by simp [PyData.depth, PyData.depthKv]⟩
theorem Fine.txt {x : Str} {n : Nat} (h : x.length ≤ n) (hc : ∀ c ∈ x.cps.toList, c < 16 ^ 8) : Fine (10 * n + 2) 0 (.str x) := ⟨rfl, Nat.le_trans (PySem.StrLaws.reprText_len _ hc) (by omega), Nat.le_refl _⟩
end Rp
set_option maxHeartbeats 1000000
namespace L2
open PySem PySem.Spec PyProof.Rows
end L2
set_option maxHeartbeats 1000000
namespace Rp
open PySem L2 PySem.Spec PyProof.Rows PySem.P
def keyD : Key → PyData
  | .inl i => .int i
  | .inr x => .str x
mutual
inductive RepH (H : Hp) : Bool → V → PyData → Prop
  | non {f : Bool} : RepH H f .non .none
  | bl {f : Bool} (b : Bool) : RepH H f (.bl b) (.bool b)
  | int {f : Bool} (i : Int) : RepH H f (.int i) (.int i)
  | str {f : Bool} (x : Str) : RepH H f (.str x) (.str x)
  | tup {f : Bool} {a : Addr} {xs : List V} {ds : List PyData} : H a = some (.tup xs) → xs.length ≤ 900 → RepHs H f xs ds → RepH H f (.ref a) (.tuple ds)
  | lst {a : Addr} {xs : List V} {ds : List PyData} : H a = some (.lst xs) → RepHs H false xs ds → RepH H false (.ref a) (.list ds)
  | dct {a : Addr} : H a = some (.dK []) → RepH H true (.ref a) (.dict [])
  | dc1 {a : Addr} {k : Key} {v : V} {d : PyData} : H a = some (.dK [(k, v)]) → RepH H true v d → RepH H true (.ref a) (.dict [(keyD k, d)])
inductive RepHs (H : Hp) : Bool → List V → List PyData → Prop
  | nil {f : Bool} : RepHs H f [] []
  | cons {f : Bool} {x : V} {xs : List V} {d : PyData} {ds : List PyData} : RepH H f x d → RepHs H f xs ds → RepHs H f (x :: xs) (d :: ds)
end
mutual
theorem RepH.same {H H' : Hp} (s : Same H H') : ∀ {f : Bool} {v : V} {d : PyData}, RepH H f v d → RepH H' f v d
  | _, _, _, .non => .non
  | _, _, _, .bl b => .bl b
  | _, _, _, .int i => .int i
  | _, _, _, .str x => .str x
  | _, _, _, .tup e l h => .tup (s _ _ e) l (RepHs.same s h)
  | _, _, _, .lst e h => .lst (s _ _ e) (RepHs.same s h)
  | _, _, _, .dct e => .dct (s _ _ e)
  | _, _, _, .dc1 e h => .dc1 (s _ _ e) (RepH.same s h)
theorem RepHs.same {H H' : Hp} (s : Same H H') : ∀ {f : Bool} {vs : List V} {ds : List PyData}, RepHs H f vs ds → RepHs H' f vs ds
  | _, _, _, .nil => .nil
  | _, _, _, .cons h t => .cons (RepH.same s h) (RepHs.same s t)
end
mutual
theorem RepH.reads {X : Cx} {pins : List (Addr × Obj)} {σ : L2.St} {H : Hp} {s : Shared} (I : Inv X pins σ H s) : ∀ {f : Bool} {v : V} {d : PyData} {u : Value}, RepH H f v d → RelV v u → ∃ as, Reads s.heap u d as ∧ (f = true → sysModules ∉ as)
  | _, _, _, _, .non, r => by cases r; exact ⟨_, .none, fun _ => by simp⟩
  | _, _, _, _, .bl b, r => by cases r; exact ⟨_, .bool b, fun _ => by simp⟩
  | _, _, _, _, .int i, r => by obtain ⟨t, rfl⟩ := r; exact ⟨_, .int i t, fun _ => by simp⟩
  | _, _, _, _, .str x, r => by obtain ⟨t, rfl⟩ := r; exact ⟨_, .str x t, fun _ => by simp⟩
  | _, _, _, _, .tup e _ h, r => by
    cases r
    obtain ⟨_, its, rv, o, e1, e2, _, n, e3⟩ := I.hok _ _ e
    obtain ⟨as, q, na⟩ := RepHs.reads I h rv
    exact ⟨as, .tuple e1 e2 e3 (by simpa using q), na⟩
  | _, _, _, _, .lst e h, r => by
    cases r
    obtain ⟨_, its, n, rv, e1⟩ := I.hok _ _ e
    obtain ⟨as, q, na⟩ := RepHs.reads I h rv
    exact ⟨_, .list e1 rfl rfl (by simpa using q), fun z => by cases z⟩
  | _, _, _, _, .dct (a := a) e, r => by
    cases r
    obtain ⟨_, ns, vs, kv, o, es, ep, e1, ex, e3, _, pr, _⟩ := I.hok _ _ e
    have hv : vs = [] := by cases kv; rfl
    subst hv
    have he : es.toList = [] := by
      have := pr.length
      simpa using this
    refine ⟨a :: [] ++ [], .dict (kvs := []) e1 ex.1 e3 (by rw [he]; exact .nil) (by rw [he]; exact .nil), fun _ => ?_⟩
    have : a ≠ sysModules := by simpa using ns
    simpa using this.symm
  | _, _, _, _, .dc1 (a := a) (k := k) (v := v) (d := d) e hv0, r => by
    cases r
    obtain ⟨_, ns, vs, kv, o, es, ep, e1, ex, e3, _, pr, _⟩ := I.hok _ _ e
    obtain ⟨u, hv, hu⟩ : ∃ u, vs = [(k, u)] ∧ RelV v u := by
      cases kv with
      | @cons _ b _ _ r1 r2 =>
        cases r2
        obtain ⟨b1, b2⟩ := b
        obtain ⟨z, r1⟩ := r1
        cases z
        exact ⟨_, rfl, r1⟩
    subst hv
    obtain ⟨bs, q2, n2⟩ := RepH.reads I hv0 hu
    generalize hes : es.toList = el at pr
    cases pr with
    | @cons en _ el _ h1 h2 h3 =>
      cases h3
      have hk : ∃ as, Reads s.heap en.key (keyD k) as ∧ as = [] := by
        rcases keyIs_shape (k := k) (v := en.key) h1 with ⟨y, t, z, e'⟩ | ⟨y, t, z, e'⟩
        · subst z; rw [e']; exact ⟨_, .int y t, rfl⟩
        · subst z; rw [e']; exact ⟨_, .str y t, rfl⟩
      obtain ⟨as, q1, rfl⟩ := hk
      refine ⟨a :: ([] ++ []) ++ (bs ++ []), .dict (kvs := [(keyD k, d)]) e1 ex.1 e3 ?_ ?_, fun _ => ?_⟩
      · rw [hes]; show ReadsAll s.heap [en.key] [keyD k] _; exact .cons q1 .nil
      · rw [hes]; show ReadsAll s.heap [en.val] [d] _; rw [h2]; exact .cons q2 .nil
      · have h0 : a ≠ sysModules := by simpa using ns
        have h1 := n2 rfl
        intro z
        rcases List.mem_append.mp z with z | z
        · rcases List.mem_cons.mp z with z | z
          · exact h0 z.symm
          · simp at z
        · rw [List.append_nil] at z
          exact h1 z
theorem RepHs.reads {X : Cx} {pins : List (Addr × Obj)} {σ : L2.St} {H : Hp} {s : Shared} (I : Inv X pins σ H s) : ∀ {f : Bool} {vs : List V} {ds : List PyData} {us : List Value}, RepHs H f vs ds → Vals vs us → ∃ as, ReadsAll s.heap us ds as ∧ (f = true → sysModules ∉ as)
  | _, _, _, _, .nil, r => by cases r; exact ⟨_, .nil, fun _ => by simp⟩
  | _, _, _, _, .cons h t, r => by
    cases r with
    | cons r1 r2 =>
      obtain ⟨as, q1, n1⟩ := RepH.reads I h r1
      obtain ⟨bs, q2, n2⟩ := RepHs.reads I t r2
      exact ⟨_, .cons q1 q2, fun z => by simp [n1 z, n2 z]⟩
end
mutual
theorem RepH.nodict {H : Hp} : ∀ {v : V} {d : PyData}, RepH H false v d → d.hasDict = false
  | _, _, .non => rfl
  | _, _, .bl _ => rfl
  | _, _, .int _ => rfl
  | _, _, .str _ => rfl
  | _, _, .tup _ _ h => by rw [PyData.hasDict]; exact RepHs.nodict h
  | _, _, .lst _ h => by rw [PyData.hasDict]; exact RepHs.nodict h
theorem RepHs.nodict {H : Hp} : ∀ {vs : List V} {ds : List PyData}, RepHs H false vs ds → PyData.hasDictAll ds = false
  | _, _, .nil => rfl
  | _, _, .cons h t => by rw [PyData.hasDictAll, RepH.nodict h, RepHs.nodict t]; rfl
end
end Rp
namespace L2
open PySem PySem.Spec PyProof.Rows Rp PySem.P
section
variable {X : Cx}
theorem call_reprH (hu : X.A.units + 64 < cLine) (hg : X.A.guards = some []) : CallR X (.builtin "repr") (fun xs H Q => ∃ (v : V) (d : PyData) (f : Bool), xs = [v] ∧ RepH H f v d ∧ d.showable = true ∧ d.depth ≤ 30 ∧ d.shown.length ≤ sizeLine ∧ Q (.str d.shown) H) := by
  intro pins s σ H xs us Q I r h
  obtain ⟨v, d, f, rfl, hp, h1, h3, h4, q⟩ := h
  obtain ⟨u, rfl, rx⟩ := vals1 r
  have hr := hp.reads I rx
  cases hp with
  | non => cases rx; exact repr_of_none ⟨.str _, H, I.tok _, ⟨_, rfl⟩, q⟩
  | bl b => cases rx; exact repr_of_bool ⟨.str _, H, I.tok _, ⟨_, rfl⟩, by cases b <;> exact q⟩
  | int i =>
    obtain ⟨t, rfl⟩ := rx
    exact repr_of_int (by simpa [PyData.showable] using h1) ⟨.str _, H, I.tok _, ⟨_, rfl⟩, q⟩
  | str x =>
    obtain ⟨t, rfl⟩ := rx
    exact repr_of_str ⟨.str _, H, I.tok _, ⟨_, rfl⟩, q⟩ h4
  | tup e l h =>
    have hp : RepH H f _ _ := .tup e l h
    cases rx
    obtain ⟨as, r1, na⟩ := hr
    refine repr_of_reads' r1 h1 (fun hd => ?_) hg (by omega) (fun _ _ e => e) (fun h' u tk hk => ⟨.str _, H, I.kept hk, ⟨u, rfl⟩, q⟩) h4
    cases f with
    | true => exact na rfl
    | false => rw [hp.nodict] at hd; cases hd
  | lst e h =>
    have hp : RepH H false _ _ := .lst e h
    cases rx
    obtain ⟨as, r1, na⟩ := hr
    exact repr_of_reads' r1 h1 (fun hd => by rw [hp.nodict] at hd; cases hd) hg (by omega) (fun _ _ e => e) (fun h' u tk hk => ⟨.str _, H, I.kept hk, ⟨u, rfl⟩, q⟩) h4
  | dct e =>
    cases rx
    obtain ⟨as, r1, na⟩ := hr
    exact repr_of_reads' r1 h1 (fun _ => na rfl) hg (by omega) (fun _ _ e => e) (fun h' u tk hk => ⟨.str _, H, I.kept hk, ⟨u, rfl⟩, q⟩) h4
  | dc1 e hv =>
    cases rx
    obtain ⟨as, r1, na⟩ := hr
    exact repr_of_reads' r1 h1 (fun _ => na rfl) hg (by omega) (fun _ _ e => e) (fun h' u tk hk => ⟨.str _, H, I.kept hk, ⟨u, rfl⟩, q⟩) h4
def NotT (H : Hp) (x : V) : Prop := (x = .non ∨ (∃ b, x = .bl b) ∨ (∃ i, x = .int i) ∨ ∃ n, x = .str n) ∨ (∃ a xs, x = .ref a ∧ H a = some (.lst xs)) ∨ ∃ a kvs, x = .ref a ∧ H a = some (.dK kvs)
def An (H : Hp) (x : V) : Prop := NotT H x ∨ ∃ a xs, x = .ref a ∧ H a = some (.tup xs)
theorem NotT.same {H H' : Hp} {x : V} (h : NotT H x) (s : Same H H') : NotT H' x := by
  rcases h with h | ⟨a, xs, e, h⟩ | ⟨a, xs, e, h⟩
  · exact .inl h
  · exact .inr (.inl ⟨a, xs, e, s _ _ h⟩)
  · exact .inr (.inr ⟨a, xs, e, s _ _ h⟩)
theorem An.same {H H' : Hp} {x : V} (h : An H x) (s : Same H H') : An H' x := by
  rcases h with h | ⟨a, xs, e, h⟩
  · exact .inl (h.same s)
  · exact .inr ⟨a, xs, e, s _ _ h⟩
end
end L2
namespace PySem
open PySem PySem.Spec PyProof.Rows PyProof.V SeqAt MeetsSeq
theorem dict_eq_declines_str (l : Addr) (o : Obj) (b : Str) (u : Tok) (hc : o.cls = .type "dict") :
    Meets (Builtin.«dict.__eq__» ⟨[.ref l, .str b u], []⟩) (fun _ R s => s.heap.get? l = some o ∧ R (.ok (.ret .notImplemented)) s) :=
  .of_wp fun prog w A R s h => by obtain ⟨hp, g, d, tk, os⟩ := s; obtain ⟨hl, h⟩ := h; have f1 := F.sub_str_dict; wp_walk; exact ⟨_, rfl, h⟩
theorem str_eq_declines_dict (l : Addr) (o : Obj) (b : Str) (u : Tok) {es : Array DictEntry} {ep : Nat} (hc : o.cls = .type "dict") (hd : o.data = .dict es ep) :
    Meets (Builtin.«str.__eq__» ⟨[.str b u, .ref l], []⟩) (fun _ R s => s.heap.get? l = some o ∧ R (.ok (.ret .notImplemented)) s) :=
  .of_wp fun prog w A R s h => by obtain ⟨hp, g, d, tk, os⟩ := s; obtain ⟨hl, h⟩ := h; obtain ⟨cls, dd, data, sl⟩ := o; simp only at hc hd; subst hc hd; have f1 := F.sub_dict_str; wp_walk using wpAny_load hl; exact ⟨_, rfl, h⟩
section
variable {A : Around} {s : Shared}
theorem RcAt.dict_str {l : Addr} {o : Obj} {es : Array DictEntry} {ep : Nat} (b : Str) (u : Tok) (ho : s.heap.get? l = some o) (hc : o.cls = .type "dict") (hd : o.data = .dict es ep) (hu : A.units < cLine) : RcAt A s (.ref l) (.str b u) false := fun prog w E Q h => by
  exact rc_eq_decline_or (k := false) ⟨_, ho, hc⟩ (typeIs_str s b u) (by decide) F.sub_str_dict F.slot_dict_eq F.slot_str_eq_refl
    (fun _ hq => call_meets F.slot_dict_eq ⟨_, ho, hc⟩ F.entry_dict_eq (F.args_dict_eq_2 _ _) (dict_eq_declines_str l o b u hc) ⟨ho, hq⟩)
    (fun _ hq => call_meets F.slot_str_eq_refl (typeIs_str s b u) F.entry_str_eq (F.args_str_eq_2 _ _) (str_eq_declines_dict l o b u hc hd) ⟨ho, hq⟩)
    (fun _ hq => wpAny_of_eq (rfl : isSame (.ref l) (.str b u) = pure false) hq) (.inr hu) h
theorem RcAt.str_dict {l : Addr} {o : Obj} {es : Array DictEntry} {ep : Nat} (b : Str) (u : Tok) (ho : s.heap.get? l = some o) (hc : o.cls = .type "dict") (hd : o.data = .dict es ep) (hu : A.units < cLine) : RcAt A s (.str b u) (.ref l) false := fun prog w E Q h => by
  exact rc_eq_decline_or (k := false) (typeIs_str s b u) ⟨_, ho, hc⟩ (by decide) F.sub_dict_str F.slot_str_eq F.slot_dict_eq_refl
    (fun _ hq => call_meets F.slot_str_eq (typeIs_str s b u) F.entry_str_eq (F.args_str_eq_2 _ _) (str_eq_declines_dict l o b u hc hd) ⟨ho, hq⟩)
    (fun _ hq => call_meets F.slot_dict_eq_refl ⟨_, ho, hc⟩ F.entry_dict_eq (F.args_dict_eq_2 _ _) (dict_eq_declines_str l o b u hc) ⟨ho, hq⟩)
    (fun _ hq => wpAny_of_eq (rfl : isSame (.str b u) (.ref l) = pure false) hq) (.inr hu) h
end
end PySem
namespace L2
open PySem PySem.Spec PyProof.Rows
section
variable {X : Cx}
inductive REqStrP (x : V) (y : V) (H : Hp) (Q : VK) : Prop
  | l (n : Str) : (y = .str n) → An H x → (Q (.bl (decide (x = y))) H) → REqStrP x y H Q
  | r (n : Str) : (x = .str n) → An H y → (Q (.bl (decide (x = y))) H) → REqStrP x y H Q
def rEqStr : V → V → Hp → VK → Prop := fun x y H Q => REqStrP x y H Q
theorem op_eqStr (hu : X.A.units + 64 < cLine) : OpR X (compareOp .Eq) rEqStr := by
  intro pins s σ H x y v u Q I rx ry h
  rcases h with ⟨n, rfl, ha, q⟩ | ⟨n, rfl, ha, q⟩
  · rcases ha with (h | ⟨a, xs, rfl, h⟩ | ⟨a, kvs, rfl, h⟩) | ⟨a, xs, rfl, h⟩
    · rcases h with rfl | ⟨b, rfl⟩ | ⟨i, rfl⟩ | ⟨z, rfl⟩
      all_goals exact op_eq pins s σ H _ _ v u Q I rx ry ⟨rfl, q⟩
    · cases rx
      obtain ⟨t, rfl⟩ := ry
      obtain ⟨its, r1, p1, _⟩ := I.list (SqL.of h)
      refine SeqAt.RcAt.list_str n t p1.isList (by omega) X.prog X.w X.xe _ ⟨.bl _, H, I, rfl, ?_⟩
      rw [decide_eq_false (by intro z; cases z)] at q; exact q
    · cases rx
      obtain ⟨t, rfl⟩ := ry
      obtain ⟨_, ns, vs, kv, o, es, ep, e1, ex, e3, _, pr, _⟩ := I.hok _ _ h
      refine RcAt.dict_str n t e1 ex.1 e3 (by omega) X.prog X.w X.xe _ ⟨.bl _, H, I, rfl, ?_⟩
      rw [decide_eq_false (by intro z; cases z)] at q; exact q
    · cases rx
      obtain ⟨t, rfl⟩ := ry
      obtain ⟨its, r1, p1, _⟩ := I.tuple (SqT.of h)
      refine SeqAt.RcAt.tuple_str n t p1 (by omega) X.prog X.w X.xe _ ⟨.bl _, H, I, rfl, ?_⟩
      rw [decide_eq_false (by intro z; cases z)] at q; exact q
  · rcases ha with (h | ⟨a, xs, rfl, h⟩ | ⟨a, kvs, rfl, h⟩) | ⟨a, xs, rfl, h⟩
    · rcases h with rfl | ⟨b, rfl⟩ | ⟨i, rfl⟩ | ⟨z, rfl⟩
      all_goals exact op_eq pins s σ H _ _ v u Q I rx ry ⟨rfl, q⟩
    · cases ry
      obtain ⟨t, rfl⟩ := rx
      obtain ⟨its, r1, p1, _⟩ := I.list (SqL.of h)
      refine SeqAt.RcAt.str_list n t p1.isList (by omega) X.prog X.w X.xe _ ⟨.bl _, H, I, rfl, ?_⟩
      rw [decide_eq_false (by intro z; cases z)] at q; exact q
    · cases ry
      obtain ⟨t, rfl⟩ := rx
      obtain ⟨_, ns, vs, kv, o, es, ep, e1, ex, e3, _, pr, _⟩ := I.hok _ _ h
      refine RcAt.str_dict n t e1 ex.1 e3 (by omega) X.prog X.w X.xe _ ⟨.bl _, H, I, rfl, ?_⟩
      rw [decide_eq_false (by intro z; cases z)] at q; exact q
    · cases ry
      obtain ⟨t, rfl⟩ := rx
      obtain ⟨its, r1, p1, _⟩ := I.tuple (SqT.of h)
      refine SeqAt.RcAt.str_tuple n t p1 (by omega) X.prog X.w X.xe _ ⟨.bl _, H, I, rfl, ?_⟩
      rw [decide_eq_false (by intro z; cases z)] at q; exact q
end
def isBl : V → Bool
  | .bl _ => true
  | _ => false
def isIn : V → Bool
  | .int _ => true
  | _ => false
def isSt : V → Bool
  | .str _ => true
  | _ => false
theorem NotT.tup {K : PySem.W.Frag} {H : Hp} {x : V} (h : NotT H x) : ∃ t, TyOf K H x t ∧ PySem.W.kitOne K t (.type "tuple") = some false := by
  rcases h with (rfl | ⟨b, rfl⟩ | ⟨i, rfl⟩ | ⟨n, rfl⟩) | ⟨a, xs, rfl, h⟩ | ⟨a, kvs, rfl, h⟩
  · exact ⟨_, .non, rfl⟩
  · exact ⟨_, .bl b, rfl⟩
  · exact ⟨_, .int i, rfl⟩
  · exact ⟨_, .str n, rfl⟩
  · exact ⟨_, .lst h, rfl⟩
  · exact ⟨_, .dK h, rfl⟩
theorem An.str {K : PySem.W.Frag} {H : Hp} {x : V} (h : An H x) : ∃ t, TyOf K H x t ∧ PySem.W.kitOne K t (.type "str") = some (isSt x) := by
  rcases h with ((rfl | ⟨b, rfl⟩ | ⟨i, rfl⟩ | ⟨n, rfl⟩) | ⟨a, xs, rfl, h⟩ | ⟨a, kvs, rfl, h⟩) | ⟨a, xs, rfl, h⟩
  · exact ⟨_, .non, rfl⟩
  · exact ⟨_, .bl b, rfl⟩
  · exact ⟨_, .int i, rfl⟩
  · exact ⟨_, .str n, rfl⟩
  · exact ⟨_, .lst h, rfl⟩
  · exact ⟨_, .dK h, rfl⟩
  · exact ⟨_, .tup h, rfl⟩
theorem An.int {K : PySem.W.Frag} {H : Hp} {x : V} (h : An H x) : ∃ t, TyOf K H x t ∧ PySem.W.kitOne K t (.type "int") = some (isIn x || isBl x) := by
  rcases h with ((rfl | ⟨b, rfl⟩ | ⟨i, rfl⟩ | ⟨n, rfl⟩) | ⟨a, xs, rfl, h⟩ | ⟨a, kvs, rfl, h⟩) | ⟨a, xs, rfl, h⟩
  · exact ⟨_, .non, rfl⟩
  · exact ⟨_, .bl b, rfl⟩
  · exact ⟨_, .int i, rfl⟩
  · exact ⟨_, .str n, rfl⟩
  · exact ⟨_, .lst h, rfl⟩
  · exact ⟨_, .dK h, rfl⟩
  · exact ⟨_, .tup h, rfl⟩
theorem An.bool {K : PySem.W.Frag} {H : Hp} {x : V} (h : An H x) : ∃ t, TyOf K H x t ∧ PySem.W.kitOne K t (.type "bool") = some (isBl x) := by
  rcases h with ((rfl | ⟨b, rfl⟩ | ⟨i, rfl⟩ | ⟨n, rfl⟩) | ⟨a, xs, rfl, h⟩ | ⟨a, kvs, rfl, h⟩) | ⟨a, xs, rfl, h⟩
  · exact ⟨_, .non, rfl⟩
  · exact ⟨_, .bl b, rfl⟩
  · exact ⟨_, .int i, rfl⟩
  · exact ⟨_, .str n, rfl⟩
  · exact ⟨_, .lst h, rfl⟩
  · exact ⟨_, .dK h, rfl⟩
  · exact ⟨_, .tup h, rfl⟩
end L2
set_option maxHeartbeats 1000000
namespace K56
open PySem L2 Wk
def top (i : Nat) : Stmt := PySem.Challenge.pw_joinedever_k56_things_that_are_no_tellin.main.body.getD i (.Pass ⟨0, 0, 0, 0⟩)
abbrev sOver : Stmt := top 1
abbrev sLeads : Stmt := top 2
abbrev sWhole : Stmt := top 4
abbrev sWithin : Stmt := top 5
abbrev sIsWay : Stmt := top 8
abbrev sNums : Stmt := top 10
abbrev sORing : Stmt := top 11
abbrev sHold : Stmt := top 12
abbrev sCell : Stmt := top 14
abbrev sOpened : Stmt := top 15
abbrev sDraw : Stmt := top 16
abbrev sRare : Stmt := top 17
abbrev sTwo : Stmt := top 18
abbrev sNamed : Stmt := top 19
abbrev sHeavy : Stmt := top 20
abbrev sDStand : Stmt := top 21
abbrev sParting : Stmt := top 22
abbrev sLLeads : Stmt := top 23
abbrev sLRing : Stmt := top 24
abbrev sDueOf : Stmt := top 25
abbrev sDeep : Stmt := top 26
abbrev sOdd : Stmt := top 27
abbrev sOddT : Stmt := top 28
abbrev sFound : Stmt := top 29
abbrev sLaw : Stmt := top 30
structure Txt (mg : Str → Option Value) : Prop where
  steps : ∃ t, mg "MOST_STEPS" = some (.int 61 t)
  isinstance : mg "isinstance" = none
  int : mg "int" = none
  bool : mg "bool" = none
  tuple : mg "tuple" = none
  len : mg "len" = none
  range : mg "range" = none
  sum : mg "sum" = none
  str : mg "str" = none
  max : mg "max" = none
  min : mg "min" = none
  all : mg "all" = none
  any : mg "any" = none
  sorted : mg "sorted" = none
  list : mg "list" = none
  dict : mg "dict" = none
  repr : mg "repr" = none
def StandAt (H : Hp) (st : Addr) (S : List T4) : Prop := ∃ rs : List Addr, H st = some (.tup (rs.map V.ref)) ∧ TiesAt H rs S
theorem StandAt.same {H H' : Hp} {st : Addr} {S : List T4} (h : StandAt H st S) (s : Same H H') : StandAt H' st S := let ⟨rs, a, b⟩ := h; ⟨rs, s _ _ a, b.same s⟩
def overV (S : List T4) (v : Nat) : V → Option Nat
  | .str n => overF S v n
  | _ => none
def goV (S : List T4) : Nat → List V → Option Nat
  | v, [] => some v
  | v, x :: xs => match overV S v x with
    | none => none
    | some u => goV S u xs
def ovV : Option Nat → V
  | none => .non
  | some u => .int (u : Int)
def wayV (S : List T4) (p : Nat) (xs : List V) (q : Nat) : Bool := decide (xs.length ≤ 61) && decide (goV S p xs = some q)
def oddV (N : Nat) (S : List T4) (xs : List V) : Bool := decide (xs.length % 2 = 1) && (List.range N).any fun p => wayV S p xs p
def in01 : V → Bool
  | .int i => decide (0 ≤ i) && decide (i ≤ 1)
  | _ => false
def isI : V → Bool
  | .int _ => true
  | _ => false
def numV (N : Nat) (S : List T4) (xs : List V) : Bool := decide (xs.length = N) && (xs.all in01 && S.all fun t => !decide (xs.getD t.2.1 .non = xs.getD t.2.2.1 .non))
def spWhole : Sp := fun vs H Q _ => ∃ x : V, vs = [x] ∧ An H x ∧ Q (.bl (isI x)) H
def spWithin : Sp := fun vs H Q _ => ∃ x : V, vs = [x, .int 0, .int 1] ∧ An H x ∧ Q (.bl (in01 x)) H
def spOver : Sp := fun vs H Q _ => ∃ (st : Addr) (S : List T4) (p : Nat) (x : V), vs = [.ref st, .int (p : Int), x] ∧ An H x ∧ StandAt H st S ∧ (S.map (·.1)).Nodup ∧ ∀ H', Same H H' → Q (ovV (overV S p x)) H'
def spLeads : Sp := fun vs H Q _ => ∃ (st wa : Addr) (S : List T4) (xs : List V) (p q : Nat), vs = [.ref st, .int (p : Int), .int (q : Int), .ref wa] ∧ StandAt H st S ∧ (S.map (·.1)).Nodup ∧ H wa = some (.tup xs) ∧ (∀ x ∈ xs, An H x) ∧ ∀ H', Same H H' → Q (.bl (decide (goV S p xs = some q))) H'
def spIsWay : Sp := fun vs H Q _ => ∃ (st wa : Addr) (S : List T4) (xs : List V) (p q : Nat), vs = [.ref st, .int (p : Int), .int (q : Int), .ref wa] ∧ StandAt H st S ∧ (S.map (·.1)).Nodup ∧ H wa = some (.tup xs) ∧ (∀ x ∈ xs, An H x) ∧ ∀ H', Same H H' → Q (.bl (wayV S p xs q)) H'
theorem drop_atV {ws : List V} {i : Nat} {n : V} (hn : ws[i]? = some n) : ws.drop i = n :: ws.drop (i + 1) := by
  have hi : i < ws.length := (List.getElem?_eq_some_iff.mp hn).1
  rw [List.drop_eq_getElem_cons hi]
  congr 1
  have := getq hi
  rw [hn] at this
  exact (Option.some.inj this).symm
theorem in_ends (v a b : Nat) : inV (.int (v : Int)) [.int (a : Int), .int (b : Int)] = decide (v = a ∨ v = b) := by
  have := inV_ints (v : Int) [(a : Int), (b : Int)]
  rw [show ([(a : Int), (b : Int)].map V.int) = [.int (a : Int), .int (b : Int)] from rfl] at this
  rw [this, Bool.eq_iff_iff, decide_eq_true_eq, decide_eq_true_eq]
  simp only [List.mem_cons, List.not_mem_nil, or_false]
  omega
theorem over_end {S : List T4} (nd : (S.map (·.1)).Nodup) {t : T4} (ht : t ∈ S) {v : Nat} (g : v = t.2.1 ∨ v = t.2.2.1) : ovV (overF S v t.1) = .int ((t.2.1 : Int) + (t.2.2.1 : Int) - (v : Int)) := by
  have := over_tie nd ht
  rcases g with rfl | rfl
  · rw [this.1]; show V.int _ = _; congr 1; omega
  · rw [this.2]; show V.int _ = _; congr 1; omega
section
variable {P : Program} {w : World} {K : PySem.W.Frag} {mg : Str → Option Value} {base : Heap}
theorem scWhole : FnScope ["thing"] ["thing"] (defScope sWhole) := ⟨rfl, rfl, rfl, by decide +kernel, rfl, by decide +kernel, by decide +kernel⟩
theorem ok_Whole {f : Addr} {fd : FuncData} (F : Fun K "is_whole" "is_whole" sWhole f fd) (T : Txt mg) :
    FnOk P w K mg base CX0 1 f fd ["thing"] spWhole := by
  refine F.ok scWhole (fun vs H Q E h => ?_) (fun cdv A outer s H vs Q E hr h => ?_)
  · obtain ⟨_, rfl, _⟩ := h; rfl
  · obtain ⟨x, rfl, hx, k⟩ := h
    refine ⟨_, pss_one (ps_ret (pe_and (pe_callB call_isi (by rfl) T.isinstance (by decide +kernel) (pa_cons (pv 0) (pa_cons (pe_ty (T := "int") (by rfl) T.int (by decide +kernel)) pa_nil))) (pe_one (pe_not (pe_callB call_isi (by rfl) T.isinstance (by decide +kernel) (pa_cons (pv 0) (pa_cons (pe_ty (T := "bool") (by rfl) T.bool (by decide +kernel)) pa_nil))))))), ?_⟩
    rcases hx with ((rfl | ⟨b, rfl⟩ | ⟨i, rfl⟩ | ⟨n, rfl⟩) | ⟨a, xs, rfl, h⟩ | ⟨a, kvs, rfl, h⟩) | ⟨a, xs, rfl, h⟩
    · exact ⟨_, rfl, _, _, "int", false, rfl, .non, rfl, _, rfl, iteF k⟩
    · exact ⟨_, rfl, _, _, "int", true, rfl, .bl b, rfl, _, rfl, iteT ⟨_, rfl, _, _, "bool", true, rfl, .bl b, rfl, _, rfl, k⟩⟩
    · exact ⟨_, rfl, _, _, "int", true, rfl, .int i, rfl, _, rfl, iteT ⟨_, rfl, _, _, "bool", false, rfl, .int i, rfl, _, rfl, k⟩⟩
    · exact ⟨_, rfl, _, _, "int", false, rfl, .str n, rfl, _, rfl, iteF k⟩
    · exact ⟨_, rfl, _, _, "int", false, rfl, .lst h, rfl, _, rfl, iteF k⟩
    · exact ⟨_, rfl, _, _, "int", false, rfl, .dK h, rfl, _, rfl, iteF k⟩
    · exact ⟨_, rfl, _, _, "int", false, rfl, .tup h, rfl, _, rfl, iteF k⟩
theorem scWithin : FnScope ["thing", "low", "high"] ["thing", "low", "high"] (defScope sWithin) := ⟨rfl, rfl, rfl, by decide +kernel, rfl, by decide +kernel, by decide +kernel⟩
theorem ok_Within {f : Addr} {fd : FuncData} (F : Fun K "is_within" "is_within" sWithin f fd) (T : Txt mg)
    {gWhole : Addr} {fWhole : FuncData} (kWhole : PySem.W.keepIn K (.ref gWhole) = true) (bWhole : Binds K fWhole ["thing"] []) (hWhole : mg "is_whole" = some (.ref gWhole)) (GWhole : FnOk P w K mg base CX0 1 gWhole fWhole ["thing"] spWhole) :
    FnOk P w K mg base CX0 2 f fd ["thing", "low", "high"] spWithin := by
  refine F.ok scWithin (fun vs H Q E h => ?_) (fun cdv A outer s H vs Q E hr h => ?_)
  · obtain ⟨_, rfl, _⟩ := h; rfl
  · obtain ⟨x, rfl, hx, k⟩ := h
    refine ⟨_, pss_one (ps_ret (pe_and (pe_call GWhole hr rfl hWhole kWhole bWhole .nil pass0 (pa_cons (pv 0) pa_nil)) (pe_one (pe_chain op_le op_le (pv 1) (pv 0) (pv 2))))), ?_⟩
    refine ⟨_, rfl, x, rfl, hx, _, rfl, ?_⟩
    cases x with
    | int i =>
      refine iteT ⟨_, rfl, _, rfl, _, _, rfl, rfl, _, rfl, ?_⟩
      have k : Q (.bl (decide (0 ≤ i) && decide (i ≤ 1))) H := k
      by_cases g : 0 ≤ i
      · rw [decide_eq_true g] at k ⊢
        exact iteT ⟨_, rfl, _, _, rfl, rfl, k⟩
      · rw [decide_eq_false g] at k ⊢
        exact iteF k
    | _ => exact iteF k
theorem scOver : FnScope ["stand", "place", "thing", "name", "one", "other", "weight"] ["stand", "place", "thing"] (defScope sOver) := ⟨rfl, rfl, rfl, by decide +kernel, rfl, by decide +kernel, by decide +kernel⟩
theorem ok_Over {f : Addr} {fd : FuncData} (F : Fun K "place_over" "place_over" sOver f fd) (T : Txt mg) :
    FnOk P w K mg base CX0 1 f fd ["stand", "place", "thing"] spOver := by
  refine F.ok scOver (fun vs H Q E h => ?_) (fun cdv A outer s H vs Q E hr h => ?_)
  · obtain ⟨_, _, _, _, rfl, _⟩ := h; rfl
  · obtain ⟨st, S, p, x, rfl, hx, ⟨rs, hst, hrs⟩, nd, k⟩ := h
    refine ⟨_, pss_cons (ps_for PassesOwn.never rfl (pi_tup (pv 0)) (pg_tup rfl (pgs_cons (pg_name (i := 3) scOver.nd rfl (Or.inl rfl)) (pgs_cons (pg_name (i := 4) scOver.nd rfl (Or.inl rfl)) (pgs_cons (pg_name (i := 5) scOver.nd rfl (Or.inl rfl)) (pgs_cons (pg_name (i := 6) scOver.nd rfl (Or.inl rfl)) pgs_nil))))) (pss_one (ps_if (PW.pt (pw_and (pt_cmpR (op_eqStr hr.units) (pv 3) (pv 2) (nomark _)) (pw_and1 (pt_cmpR op_in_seq (pv 1) (pe_tup (pa_cons (pv 4) (pa_cons (pv 5) pa_nil))) (by rfl))))) (pss_one (ps_ret (pe_op op_sub (pe_op op_add (pv 4) (pv 5)) (pv 1)))) pss_nil)))
      (pss_one (ps_ret pe_non)), ?_⟩
    refine ⟨_, rfl, st, rfl, ⟨_, SqT.of hst⟩, for_tup (K := K) (a := st) (xs := rs.map V.ref) (fun i σ H5 => ∃ (u3 u4 u5 u6 : Option V), σ = [some (.ref st), some (.int (p : Int)), some x, u3, u4, u5, u6] ∧ Same H H5 ∧ ∀ t ∈ S.take i, x = .str t.1 → p ≠ t.2.1 ∧ p ≠ t.2.2.1) ⟨_, _, _, _, rfl, same_refl _, by simp⟩ (fun i σ H5 _ ⟨_, _, _, _, _, s5, _⟩ => SqT.of (s5 _ _ hst)) ?_ ?_⟩
    · rintro i y σ H5 hy ⟨u3, u4, u5, u6, rfl, s5, no⟩
      obtain ⟨r, hr', rfl⟩ := map_some hy
      obtain ⟨t, ht, er⟩ := hrs.get hr'
      have tk : S.take (i + 1) = S.take i ++ [t] := by rw [List.take_add_one, ht]; rfl
      have tm := List.mem_of_getElem? ht
      have no' : (x = .str t.1 → p ≠ t.2.1 ∧ p ≠ t.2.2.1) → ∀ u ∈ S.take (i + 1), x = .str u.1 → p ≠ u.2.1 ∧ p ≠ u.2.2.1 := fun h u hu => by
        rw [tk] at hu
        rcases List.mem_append.mp hu with h1 | h1
        · exact no u h1
        · rw [List.mem_singleton.mp h1]; exact h
      refine ⟨r, _, rfl, SqT.of (s5 _ _ er), rfl, _, _, rfl, _, _, rfl, _, _, rfl, _, _, rfl, rfl, ?_⟩
      refine ⟨_, rfl, _, rfl, .r t.1 rfl (hx.same s5) ⟨_, rfl, ?_⟩⟩
      by_cases g : V.str t.1 = x
      · rw [decide_eq_true g]
        refine iteT ⟨_, rfl, _, rfl, _, rfl, small (by simp), fun q hq => ?_⟩
        have s6 := same_new (o := .tup [.int (t.2.1 : Int), .int (t.2.2.1 : Int)]) hq
        have q6 := upd_same (H := H5) (a := q) (o := .tup [.int (t.2.1 : Int), .int (t.2.2.1 : Int)])
        generalize upd H5 q (.tup [.int (t.2.1 : Int), .int (t.2.2.1 : Int)]) = H6 at s6 q6
        refine ⟨q, _, rfl, .inr (SqT.of q6), rfl, rfl, _, rfl, ?_⟩
        show if (inV (.int (p : Int)) [.int (t.2.1 : Int), .int (t.2.2.1 : Int)]) = true then _ else _
        rw [in_ends]
        by_cases g2 : p = t.2.1 ∨ p = t.2.2.1
        · rw [decide_eq_true g2]
          refine iteT ⟨_, rfl, _, rfl, _, _, rfl, rfl, _, rfl, _, _, rfl, rfl, ?_⟩
          have := k H6 (s5.trans s6)
          rw [← g] at this
          have this : Q (ovV (overF S p t.1)) H6 := this
          rw [over_end nd tm g2] at this
          exact this
        · rw [decide_eq_false g2]
          refine iteF ?_
          exact ⟨_, _, _, _, rfl, s5.trans s6, no' fun _ => ⟨fun e => g2 (.inl e), fun e => g2 (.inr e)⟩⟩
      · rw [decide_eq_false g]
        refine iteF ?_
        exact ⟨_, _, _, _, rfl, s5, no' fun e => absurd e.symm g⟩
    · rintro σ H5 ⟨u3, u4, u5, u6, rfl, s5, no⟩
      rw [List.length_map, hrs.1, List.take_length] at no
      have := k H5 s5
      have e : overV S p x = none := by
        cases x with
        | str n => exact over_none fun t ht e => no t ht (by rw [e])
        | _ => rfl
      rw [e] at this
      exact this
theorem scLeads : FnScope ["stand", "one", "other", "thing", "here", "name"] ["stand", "one", "other", "thing"] (defScope sLeads) := ⟨rfl, rfl, rfl, by decide +kernel, rfl, by decide +kernel, by decide +kernel⟩
theorem ok_Leads {f : Addr} {fd : FuncData} (F : Fun K "leads" "leads" sLeads f fd) (T : Txt mg)
    {gOver : Addr} {fOver : FuncData} (kOver : PySem.W.keepIn K (.ref gOver) = true) (bOver : Binds K fOver ["stand", "place", "thing"] []) (hOver : mg "place_over" = some (.ref gOver)) (GOver : FnOk P w K mg base CX0 1 gOver fOver ["stand", "place", "thing"] spOver) :
    FnOk P w K mg base CX0 2 f fd ["stand", "one", "other", "thing"] spLeads := by
  refine F.ok scLeads (fun vs H Q E h => ?_) (fun cdv A outer s H vs Q E hr h => ?_)
  · obtain ⟨_, _, _, _, _, _, rfl, _⟩ := h; rfl
  · obtain ⟨st, wa, S, ws, p, q, rfl, hst, nd, hw, hi, k⟩ := h
    refine ⟨_, pss_cons (ps_if (pt_not (pt_val (pe_callB call_isi (by rfl) T.isinstance (by decide +kernel) (pa_cons (pv 3) (pa_cons (pe_ty (T := "tuple") (by rfl) T.tuple (by decide +kernel)) pa_nil))))) (pss_one (ps_ret pe_bl)) pss_nil)
      (pss_cons (ps_set (i := 4) scLeads.nd rfl (Or.inl rfl) (pv 1))
      (pss_cons (ps_for PassesOwn.never rfl (pi_tup (pv 3)) (pg_name (i := 5) scLeads.nd rfl (Or.inl rfl)) (pss_cons (ps_set (i := 4) scLeads.nd rfl (Or.inl rfl) (pe_call GOver hr rfl hOver kOver bOver .nil pass0 (pa_cons (pv 0) (pa_cons (pv 4) (pa_cons (pv 5) pa_nil)))))
      (pss_one (ps_if (pt_cmpR op_isN (pv 4) pe_non (nomark _)) (pss_one (ps_ret pe_bl)) pss_nil))))
      (pss_one (ps_ret (pe_cmpR op_eq (pv 4) (pv 2) (nomark _)))))), ?_⟩
    refine ⟨_, rfl, .ref wa, .type "tuple", "tuple", true, rfl, .tup hw, rfl, _, rfl, iteF ?_⟩
    dsimp only [tNext]
    refine ⟨_, rfl, ?_⟩
    refine ⟨_, rfl, wa, rfl, ⟨_, SqT.of hw⟩, for_tup (K := K) (a := wa) (xs := ws) (fun i σ H5 => ∃ (u5 : Option V) (v : Nat), σ = [some (.ref st), some (.int (p : Int)), some (.int (q : Int)), some (.ref wa), some (.int (v : Int)), u5] ∧ Same H H5 ∧ goV S p ws = goV S v (ws.drop i)) ⟨_, p, rfl, same_refl _, rfl⟩ (fun i σ H5 _ ⟨_, _, _, s5, _⟩ => SqT.of (s5 _ _ hw)) ?_ ?_⟩
    · rintro i n σ H5 hn ⟨u5, v, rfl, s5, hv⟩
      rw [drop_atV hn] at hv
      have hv : goV S p ws = match overV S v n with | none => none | some u => goV S u (ws.drop (i + 1)) := hv
      refine ⟨_, rfl, _, rfl, _, rfl, st, S, v, n, rfl, (hi n (List.mem_of_getElem? hn)).same s5, hst.same s5, nd, fun H6 s6 => ?_⟩
      cases g : overV S v n with
      | none =>
        rw [g] at hv
        refine ⟨_, rfl, rfl, _, rfl, iteT ?_⟩
        have := k H6 (s5.trans s6)
        rw [hv] at this
        exact this
      | some u =>
        rw [g] at hv
        refine ⟨_, rfl, rfl, _, rfl, iteF ?_⟩
        exact ⟨_, u, rfl, s5.trans s6, hv⟩
    · rintro σ H5 ⟨u5, v, rfl, s5, hv⟩
      rw [List.drop_length] at hv
      have hv : goV S p ws = some v := hv
      refine ⟨_, rfl, _, rfl, rfl, ?_⟩
      have := k H5 s5
      rw [hv] at this
      rw [show decide (V.int (v : Int) = V.int (q : Int)) = decide (some v = some q) by
        rw [Bool.eq_iff_iff, decide_eq_true_eq, decide_eq_true_eq]
        constructor
        · intro e; injection e with e; rw [show v = q by omega]
        · intro e; injection e with e; rw [e]]
      exact this
theorem scIsWay : FnScope ["stand", "one", "other", "thing"] ["stand", "one", "other", "thing"] (defScope sIsWay) := ⟨rfl, rfl, rfl, by decide +kernel, rfl, by decide +kernel, by decide +kernel⟩
theorem ok_IsWay {f : Addr} {fd : FuncData} (F : Fun K "is_way" "is_way" sIsWay f fd) (T : Txt mg)
    {gLeads : Addr} {fLeads : FuncData} (kLeads : PySem.W.keepIn K (.ref gLeads) = true) (bLeads : Binds K fLeads ["stand", "one", "other", "thing"] []) (hLeads : mg "leads" = some (.ref gLeads)) (GLeads : FnOk P w K mg base CX0 2 gLeads fLeads ["stand", "one", "other", "thing"] spLeads) :
    FnOk P w K mg base CX0 3 f fd ["stand", "one", "other", "thing"] spIsWay := by
  refine F.ok scIsWay (fun vs H Q E h => ?_) (fun cdv A outer s H vs Q E hr h => ?_)
  · obtain ⟨_, _, _, _, _, _, rfl, _⟩ := h; rfl
  · obtain ⟨st, wa, S, ws, p, q, rfl, hst, nd, hw, hi, k⟩ := h
    refine ⟨_, pss_one (ps_ret (pe_and (pe_callB call_isi (by rfl) T.isinstance (by decide +kernel) (pa_cons (pv 3) (pa_cons (pe_ty (T := "tuple") (by rfl) T.tuple (by decide +kernel)) pa_nil))) (pe_and (pe_cmpR op_le (pe_callB call_len_seq (by rfl) T.len PySem.boot_len (pa_cons (pv 3) pa_nil)) (pe_gint (by rfl) T.steps.choose_spec) (nomark _)) (pe_one (pe_call GLeads hr rfl hLeads kLeads bLeads .nil pass0 (pa_cons (pv 0) (pa_cons (pv 1) (pa_cons (pv 2) (pa_cons (pv 3) pa_nil))))))))), ?_⟩
    refine ⟨_, rfl, .ref wa, .type "tuple", "tuple", true, rfl, .tup hw, rfl, _, rfl, iteT ?_⟩
    refine ⟨_, rfl, wa, _, rfl, .inr (SqT.of hw), _, _, rfl, rfl, _, rfl, ?_⟩
    refine ite2 (fun g => ?_) fun g => ?_
    · refine ⟨_, rfl, _, rfl, _, rfl, _, rfl, st, wa, S, ws, p, q, rfl, hst, nd, hw, hi, fun H1 s1 => ?_⟩
      have := k H1 s1
      unfold wayV at this
      rw [decide_eq_true (show ws.length ≤ 61 by have := of_decide_eq_true g; omega), Bool.true_and] at this
      exact this
    · have := k H (same_refl _)
      unfold wayV at this
      have g' : ¬ ((ws.length : Int) ≤ 61) := fun h => g (decide_eq_true h)
      rw [decide_eq_false (show ¬ ws.length ≤ 61 by omega), Bool.false_and] at this
      have e2 : decide ((ws.length : Int) ≤ 61) = false := decide_eq_false g'
      first | exact this | (rw [e2]; exact this)
end
end K56
set_option maxHeartbeats 4000000
namespace L2
open PySem PySem.Spec PyProof.Rows
end L2
namespace PySem
open Sem (wp)
section
variable {prog : Program} {w : World} {A : Around} {E : Value → Shared → Prop} {h : Heap} {g : Array GenState} {d : Drawn} {t : Nat} {os : OsState} {K : PySem.W.Frag}
variable {nm q : Str} {C N f : Addr} {bs bm : List Value} {hdct : Bool} {sn : List Str} {sub : List Value} {ab : Bool} {col : Option Bool} {dd : Option Addr} {k0 k1 k2 k3 k5 : Option Value}
end
end PySem
set_option maxHeartbeats 4000000
namespace L2
open PySem PySem.Spec PyProof.Rows
end L2
set_option maxHeartbeats 4000000
namespace PySem
open Sem (wp)
end PySem
set_option maxHeartbeats 4000000
namespace L2
open PySem PySem.Spec PyProof.Rows
end L2
set_option maxHeartbeats 4000000
namespace PySem
open Sem (wp)
end PySem
namespace L2
open PySem PySem.Spec PyProof.Rows
end L2
set_option maxHeartbeats 4000000
namespace L2
open PySem PySem.Spec PyProof.Rows
end L2
set_option maxHeartbeats 4000000
namespace L2
open PySem PySem.Spec PyProof.Rows
end L2
set_option maxHeartbeats 4000000
namespace PySem
open Sem (wp)
end PySem
namespace L2
open PySem PySem.Spec PyProof.Rows
end L2
set_option maxHeartbeats 4000000
namespace L2
open PySem PySem.Spec PyProof.Rows
end L2
set_option maxHeartbeats 4000000
namespace PySem
open Sem (wp)
end PySem
namespace L2
open PySem PySem.Spec PyProof.Rows
end L2
set_option maxHeartbeats 4000000
namespace L2
open PySem PySem.Spec PyProof.Rows
theorem op_fdivW {X : Cx} : OpR X (binaryOp .FloorDiv) (rI (fun _ j => 0 < j ∧ j < 2 ^ 200) fun i j => .int (i / j)) := opI fun i j _ _ _ _ _ hc q => by
  have h1 : (0 : Int) < j := hc.1
  have h2 : j < 2 ^ 200 := hc.2
  exact floordiv_int (by omega) (by rw [Int.fdiv_eq_ediv_of_nonneg i (by omega)]; exact q) (.inl (PyProof.noPylong_of_log2 (PySem.Flt.log2_lt_of (by decide) (Nat.lt_of_lt_of_le (show j.natAbs < 2 ^ 200 by omega) (Nat.pow_le_pow_right (by decide) (by decide))))))
end L2
set_option maxHeartbeats 1000000
namespace K56
open PySem L2 Wk
def DeckAt (H : Hp) (d : Addr) (b : Nat) : Prop := ∃ x S k : Int, H d = some (.lst [.int x, .int S, .int k]) ∧ 0 ≤ k ∧ k + b ≤ 2 ^ 32
theorem DeckAt.mono {H : Hp} {d : Addr} {b b' : Nat} (h : DeckAt H d b) (l : b' ≤ b) : DeckAt H d b' := by
  obtain ⟨x, S, k, h1, h2, h3⟩ := h
  exact ⟨x, S, k, h1, h2, by omega⟩
def But (d : Addr) (H H' : Hp) : Prop := ∀ b o, H b = some o → b ≠ d → H' b = some o
theorem But.trans {d : Addr} {H H1 H2 : Hp} (h : But d H H1) (h' : But d H1 H2) : But d H H2 := fun b o e n => h' b o (h b o e n) n
theorem But.of {d : Addr} {H H' : Hp} (s : Same H H') : But d H H' := fun b o e _ => s b o e
theorem But.refl {d : Addr} {H : Hp} : But d H H := fun _ _ e _ => e
theorem But.tup {d : Addr} {H H' : Hp} (h : But d H H') {n : Nat} (D : DeckAt H d n) {b : Addr} {xs : List V} (e : H b = some (.tup xs)) : H' b = some (.tup xs) := by
  obtain ⟨_, _, _, h1, _⟩ := D
  exact h b _ e fun z => by rw [z, h1] at e; cases e
theorem DeckAt.same {H H' : Hp} {d : Addr} {n : Nat} (h : DeckAt H d n) (s : Same H H') : DeckAt H' d n := by
  obtain ⟨x, S, k, h1, r⟩ := h
  exact ⟨x, S, k, s _ _ h1, r⟩
theorem DeckAt.ne {H : Hp} {d b : Addr} {n : Nat} (h : DeckAt H d n) (e : H b = none) : b ≠ d := by
  obtain ⟨_, _, _, h1, _⟩ := h
  exact (ne_of_none h1 e).symm
theorem DeckAt.upd {H : Hp} {d b : Addr} {o : HO} {m : Nat} (h : DeckAt H d m) (n : b ≠ d) : DeckAt (upd H b o) d m := by
  obtain ⟨x, S, k, h1, r⟩ := h
  exact ⟨x, S, k, by rw [upd_ne n.symm]; exact h1, r⟩
theorem But.set {d : Addr} {H H1 : Hp} {b : Addr} {o : HO} (h : But d H H1) (hb : H b = none) : But d H (upd H1 b o) := fun x u e n => by
  rw [upd_ne (ne_of_none e hb)]; exact h x u e n
theorem But.none {d : Addr} {H H' : Hp} {b : Addr} {n : Nat} (h : But d H H') (w : DeckAt H' d n) (hb : H' b = none) : H b = none := by
  cases e : H b with
  | none => rfl
  | some o => rw [h b o e (w.ne hb)] at hb; cases hb
def spCell (K : PySem.W.Frag) : Sp := fun vs H Q _ => ∃ (s : Addr) (ns : List Int) (k : Nat), vs = [.ref s, .int (k : Int)] ∧ SqL K H s (ns.map V.int) ∧ ∀ v, Q (.int v) H
def spOpened : Sp := fun vs H Q _ => ∃ v : Int, vs = [.int v] ∧ ∀ d H', Same H H' → H d = none → DeckAt H' d 100000 → Q (.ref d) H'
def spDraw : Sp := fun vs H Q _ => ∃ (d : Addr) (m : Int) (b : Nat), vs = [.ref d, .int m] ∧ DeckAt H d (b + 1) ∧ 0 < m ∧ m < 1073741824 ∧ ∀ (v : Int) (H' : Hp), 0 ≤ v → v < m → But d H H' → DeckAt H' d b → Q (.int v) H'
def spDrawW : Sp := fun vs H Q _ => ∃ (d : Addr) (m : Int) (b : Nat), vs = [.ref d, .int m] ∧ DeckAt H d (b + 1) ∧ 0 < m ∧ m < 2 ^ 200 ∧ ∀ (v : Int) (H' : Hp), 0 ≤ v → v < m → But d H H' → DeckAt H' d b → Q (.int v) H'
def spRare : Sp := fun vs H Q _ => ∃ (d : Addr) (x y : Int) (b : Nat), vs = [.ref d, .int x, .int y] ∧ DeckAt H d (b + 1) ∧ ∀ (v : Int) (H' : Hp), v = x ∨ v = y → But d H H' → DeckAt H' d b → Q (.int v) H'
def spTwo : Sp := fun vs H Q _ => ∃ (d : Addr) (N b : Nat), vs = [.ref d, .int (N : Int)] ∧ DeckAt H d (b + 2) ∧ 2 ≤ N ∧ N ≤ 60 ∧ ∀ (p q : Nat) (r : Addr) (H' : Hp), But d H H' → DeckAt H' d b → p < N → q < N → p ≠ q → H' r = some (.tup [.int (p : Int), .int (q : Int)]) → Q (.ref r) H'
def spHeavy : Sp := fun vs H Q _ => ∃ (d : Addr) (b : Nat), vs = [.ref d] ∧ DeckAt H d (b + 3) ∧ ∀ (v : Int) (H' : Hp), 0 ≤ v → v ≤ 1000000000 → But d H H' → DeckAt H' d b → Q (.int v) H'
section
variable {P : Program} {w : World} {K : PySem.W.Frag} {mg : Str → Option Value} {base : Heap}
theorem scCell : FnScope ["_law_script", "_law_k"] ["_law_script", "_law_k"] (defScope sCell) := ⟨rfl, rfl, rfl, by decide +kernel, rfl, by decide +kernel, by decide +kernel⟩
theorem ok_Cell {f : Addr} {fd : FuncData} (F : Fun K "_law_cell_at" "_law_cell_at" sCell f fd) (T : Txt mg) :
    FnOk P w K mg base CX0 1 f fd ["_law_script", "_law_k"] (spCell K) := by
  refine F.ok scCell (fun vs H Q E h => ?_) (fun cdv A outer s H vs Q E hr h => ?_)
  · obtain ⟨_, _, _, rfl, _⟩ := h; rfl
  · obtain ⟨s, ns, k0, rfl, hS, k⟩ := h
    refine ⟨_, pss_cons (ps_if (pt_cmpR op_lt (pv 1) (pe_callB call_len_seq (by rfl) T.len PySem.boot_len (pa_cons (pv 0) pa_nil)) (nomark _)) (pss_one (ps_ret (pe_ix ix_list (pv 0) (pv 1) (fun _ _ => rfl)))) pss_nil)
      (pss_one (ps_ret (pe_op op_add (pe_op op_mul pe_int (pv 1)) pe_int))), ?_⟩
    refine ⟨_, rfl, _, rfl, s, _, rfl, .inl hS, _, _, rfl, rfl, _, rfl, ite2 (fun g => ?_) fun g => ?_⟩
    · rw [List.length_map] at g
      have g := of_decide_eq_true g
      exact ⟨_, rfl, _, rfl, s, _, _, .int (ns[k0]'(by omega)), rfl, rfl, hS, atI_nat (by rw [List.getElem?_map, List.getElem?_eq_getElem (by omega)]; rfl), k _⟩
    · dsimp only [tNext]
      exact ⟨_, rfl, _, _, rfl, rfl, .inl ⟨by decide, by decide⟩, _, _, rfl, rfl, k _⟩
theorem scOpened : FnScope ["_law_cell"] ["_law_cell"] (defScope sOpened) := ⟨rfl, rfl, rfl, by decide +kernel, rfl, by decide +kernel, by decide +kernel⟩
theorem ok_Opened {f : Addr} {fd : FuncData} (F : Fun K "_law_opened" "_law_opened" sOpened f fd) (T : Txt mg) :
    FnOk P w K mg base CX0 1 f fd ["_law_cell"] spOpened := by
  refine F.ok scOpened (fun vs H Q E h => ?_) (fun cdv A outer s H vs Q E hr h => ?_)
  · obtain ⟨_, rfl, _⟩ := h; rfl
  · obtain ⟨v, rfl, k⟩ := h
    refine ⟨_, pss_one (ps_ret (pe_lst (pa_cons (pe_ix ix_list (pe_lst (pa_cons pe_int (pa_cons (pv 0) pa_nil))) (pe_callTy call_int1 (by rfl) T.int (by decide +kernel) (pa_cons (pe_cmpR op_ge (pv 0) (pe_op op_pow pe_int pe_int) (nomark _)) pa_nil)) (fun _ _ => rfl)) (pa_cons (pe_op op_mod (pv 0) pe_int) (pa_cons pe_int pa_nil))))), ?_⟩
    refine ⟨_, rfl, small (by simp), fun q hq => ?_⟩
    have sq := same_new (o := .lst [.int 0, .int v]) hq
    have q1 := upd_same (H := H) (a := q) (o := .lst [.int 0, .int v])
    generalize upd H q (.lst [.int 0, .int v]) = H1 at sq q1
    refine ⟨_, rfl, _, _, rfl, rfl, ⟨by decide, by decide, by decide⟩, _, _, rfl, rfl, .inr ⟨_, rfl, ?_⟩⟩
    obtain ⟨x, an⟩ : ∃ x : Int, atI [V.int 0, .int v] (if decide ((10 : Int) ^ (18 : Int).toNat ≤ v) = true then 1 else 0) = some (.int x) := by
      split
      · exact ⟨v, rfl⟩
      · exact ⟨0, rfl⟩
    refine ⟨q, _, _, .int x, rfl, rfl, SqL.of q1, an, _, rfl, _, _, rfl, rfl, (by show (0 : Int) < 2147483629; decide), small (by simp), fun d hd => k d _ (sq.trans (same_new hd)) (none_of sq hd) ⟨_, _, _, upd_same, by decide, by decide⟩⟩
theorem scDraw : FnScope ["_law_deck", "_law_most", "_law_got", "_law_number"] ["_law_deck", "_law_most"] (defScope sDraw) := ⟨rfl, rfl, rfl, by decide +kernel, rfl, by decide +kernel, by decide +kernel⟩
theorem ok_Draw {f : Addr} {fd : FuncData} (F : Fun K "_law_draw" "_law_draw" sDraw f fd) (T : Txt mg) :
    FnOk P w K mg base CX0 1 f fd ["_law_deck", "_law_most"] spDraw := by
  refine F.ok scDraw (fun vs H Q E h => ?_) (fun cdv A outer s H vs Q E hr h => ?_)
  · obtain ⟨_, _, _, rfl, _⟩ := h; rfl
  · obtain ⟨d, m, b, rfl, ⟨x, S, k0, hd, k00, kb⟩, m0, m1, k⟩ := h
    refine ⟨_, pss_cons (ps_if (pt_cmpR op_gt (pe_ix ix_list (pv 0) pe_int (fun _ _ => rfl)) pe_int (nomark _)) (pss_cons (ps_set (i := 2) scDraw.nd rfl (Or.inl rfl) (pe_op op_mod (pe_ix ix_list (pv 0) pe_int (fun _ _ => rfl)) (pv 1)))
      (pss_cons (ps_asg (pe_op op_fdiv (pe_ix ix_list (pv 0) pe_int (fun _ _ => rfl)) (pv 1)) (pg_sub (pv 0) (pe_int) set_list))
      (pss_one (ps_ret (pv 2))))) pss_nil)
      (pss_cons (ps_asg (pe_op op_add (pe_ix ix_list (pv 0) pe_int (fun _ _ => rfl)) pe_int) (pg_sub (pv 0) (pe_int) set_list))
      (pss_cons (ps_set (i := 3) scDraw.nd rfl (Or.inl rfl) (pe_op op_mod (pe_op op_mul (pe_op op_add (pe_ix ix_list (pv 0) pe_int (fun _ _ => rfl)) (pe_op op_mul (pe_op op_mul pe_int (pe_ix ix_list (pv 0) pe_int (fun _ _ => rfl))) (pe_ix ix_list (pv 0) pe_int (fun _ _ => rfl)))) pe_int) pe_int))
      (pss_cons (ps_set (i := 3) scDraw.nd rfl (Or.inl rfl) (pe_op op_mod (pe_op op_add (pe_op op_add (pe_op op_mul (pv 3) (pv 3)) (pe_op op_mul pe_int (pv 3))) pe_int) pe_int))
      (pss_one (ps_ret (pe_op op_mod (pe_op op_fdiv (pe_op op_mod (pe_op op_mul (pv 3) pe_int) pe_int) pe_int) (pv 1))))))), ?_⟩
    refine ⟨_, rfl, d, _, 0, _, rfl, rfl, SqL.of hd, atI_nat (j := 0) rfl, _, _, rfl, rfl, _, rfl, ite2 (fun g => ?_) fun g => ?_⟩
    · refine ⟨_, rfl, d, _, 0, _, rfl, rfl, SqL.of hd, atI_nat (j := 0) rfl, _, rfl, _, _, rfl, rfl, m0, ?_⟩
      refine ⟨_, rfl, d, _, 0, _, rfl, rfl, SqL.of hd, atI_nat (j := 0) rfl, _, rfl, _, _, rfl, rfl, ⟨m0, by omega⟩, _, rfl, d, _, 0, 0, rfl, rfl, hd, rfl, ?_⟩
      exact ⟨_, rfl, k _ _ (Int.emod_nonneg _ (by omega)) (Int.emod_lt_of_pos _ m0) (fun c o e n => by rw [upd_ne n]; exact e) ⟨_, S, k0, upd_same, k00, by omega⟩⟩
    · dsimp only [tNext]
      refine ⟨_, rfl, d, _, 2, _, rfl, rfl, SqL.of hd, atI_nat (j := 2) rfl, _, _, rfl, rfl, _, rfl, d, _, 2, 2, rfl, rfl, hd, rfl, ?_⟩
      have h1 : upd H d (.lst (([.int x, .int S, .int k0] : List V).set 2 (.int (k0 + 1)))) d = some (.lst [.int x, .int S, .int (k0 + 1)]) := upd_same
      have b1 : But d H (upd H d (.lst (([.int x, .int S, .int k0] : List V).set 2 (.int (k0 + 1))))) := fun c o e n => by rw [upd_ne n]; exact e
      generalize hH1 : upd H d _ = H1
      rw [hH1] at h1 b1
      clear hH1
      refine ⟨_, rfl, d, _, 1, _, rfl, rfl, SqL.of h1, atI_nat (j := 1) rfl, _, rfl, d, _, 2, _, rfl, rfl, SqL.of h1, atI_nat (j := 2) rfl, _, _, rfl, rfl, .inl ⟨by decide, by decide⟩, _, rfl, d, _, 2, _, rfl, rfl, SqL.of h1, atI_nat (j := 2) rfl, _, _, rfl, rfl, .inr ⟨by omega, by omega⟩, _, _, rfl, rfl, _, _, rfl, rfl, .inr ⟨by decide, by decide⟩, _, _, rfl, rfl, (by show (0 : Int) < 2147483647; decide), ?_⟩
      dsimp only
      have y0 := Int.emod_nonneg ((S + 7919 * (k0 + 1) * (k0 + 1)) * 48271) (show (2147483647 : Int) ≠ 0 by decide)
      have y1 := Int.emod_lt_of_pos ((S + 7919 * (k0 + 1) * (k0 + 1)) * 48271) (show (0 : Int) < 2147483647 by decide)
      generalize (S + 7919 * (k0 + 1) * (k0 + 1)) * 48271 % 2147483647 = z2 at y0 y1
      refine ⟨_, rfl, _, rfl, _, _, rfl, rfl, .inl ⟨by omega, by omega⟩, _, rfl, _, _, rfl, rfl, .inl ⟨by decide, by decide⟩, _, _, rfl, rfl, _, _, rfl, rfl, _, _, rfl, rfl, (by show (0 : Int) < 2147483587; decide), ?_⟩
      dsimp only
      generalize (z2 * z2 + 69621 * z2 + 17) % 2147483587 = z3
      refine ⟨_, rfl, _, _, rfl, rfl, .inr ⟨by decide, by decide⟩, _, _, rfl, rfl, (by show (0 : Int) < 2147483629; decide), _, _, rfl, rfl, ⟨by decide, by decide⟩, _, rfl, _, _, rfl, rfl, m0, ?_⟩
      exact k _ _ (Int.emod_nonneg _ (by omega)) (Int.emod_lt_of_pos _ m0) b1 ⟨_, _, _, h1, by omega, by omega⟩
theorem ok_DrawW {f : Addr} {fd : FuncData} (F : Fun K "_law_draw" "_law_draw" sDraw f fd) (T : Txt mg) :
    FnOk P w K mg base CX0 1 f fd ["_law_deck", "_law_most"] spDrawW := by
  refine F.ok scDraw (fun vs H Q E h => ?_) (fun cdv A outer s H vs Q E hr h => ?_)
  · obtain ⟨_, _, _, rfl, _⟩ := h; rfl
  · obtain ⟨d, m, b, rfl, ⟨x, S, k0, hd, k00, kb⟩, m0, m1, k⟩ := h
    refine ⟨_, pss_cons (ps_if (pt_cmpR op_gt (pe_ix ix_list (pv 0) pe_int (fun _ _ => rfl)) pe_int (nomark _)) (pss_cons (ps_set (i := 2) scDraw.nd rfl (Or.inl rfl) (pe_op op_mod (pe_ix ix_list (pv 0) pe_int (fun _ _ => rfl)) (pv 1)))
      (pss_cons (ps_asg (pe_op op_fdivW (pe_ix ix_list (pv 0) pe_int (fun _ _ => rfl)) (pv 1)) (pg_sub (pv 0) (pe_int) set_list))
      (pss_one (ps_ret (pv 2))))) pss_nil)
      (pss_cons (ps_asg (pe_op op_add (pe_ix ix_list (pv 0) pe_int (fun _ _ => rfl)) pe_int) (pg_sub (pv 0) (pe_int) set_list))
      (pss_cons (ps_set (i := 3) scDraw.nd rfl (Or.inl rfl) (pe_op op_mod (pe_op op_mul (pe_op op_add (pe_ix ix_list (pv 0) pe_int (fun _ _ => rfl)) (pe_op op_mul (pe_op op_mul pe_int (pe_ix ix_list (pv 0) pe_int (fun _ _ => rfl))) (pe_ix ix_list (pv 0) pe_int (fun _ _ => rfl)))) pe_int) pe_int))
      (pss_cons (ps_set (i := 3) scDraw.nd rfl (Or.inl rfl) (pe_op op_mod (pe_op op_add (pe_op op_add (pe_op op_mul (pv 3) (pv 3)) (pe_op op_mul pe_int (pv 3))) pe_int) pe_int))
      (pss_one (ps_ret (pe_op op_mod (pe_op op_fdiv (pe_op op_mod (pe_op op_mul (pv 3) pe_int) pe_int) pe_int) (pv 1))))))), ?_⟩
    refine ⟨_, rfl, d, _, 0, _, rfl, rfl, SqL.of hd, atI_nat (j := 0) rfl, _, _, rfl, rfl, _, rfl, ite2 (fun g => ?_) fun g => ?_⟩
    · refine ⟨_, rfl, d, _, 0, _, rfl, rfl, SqL.of hd, atI_nat (j := 0) rfl, _, rfl, _, _, rfl, rfl, m0, ?_⟩
      refine ⟨_, rfl, d, _, 0, _, rfl, rfl, SqL.of hd, atI_nat (j := 0) rfl, _, rfl, _, _, rfl, rfl, ⟨m0, m1⟩, _, rfl, d, _, 0, 0, rfl, rfl, hd, rfl, ?_⟩
      exact ⟨_, rfl, k _ _ (Int.emod_nonneg _ (by omega)) (Int.emod_lt_of_pos _ m0) (fun c o e n => by rw [upd_ne n]; exact e) ⟨_, S, k0, upd_same, k00, by omega⟩⟩
    · dsimp only [tNext]
      refine ⟨_, rfl, d, _, 2, _, rfl, rfl, SqL.of hd, atI_nat (j := 2) rfl, _, _, rfl, rfl, _, rfl, d, _, 2, 2, rfl, rfl, hd, rfl, ?_⟩
      have h1 : upd H d (.lst (([.int x, .int S, .int k0] : List V).set 2 (.int (k0 + 1)))) d = some (.lst [.int x, .int S, .int (k0 + 1)]) := upd_same
      have b1 : But d H (upd H d (.lst (([.int x, .int S, .int k0] : List V).set 2 (.int (k0 + 1))))) := fun c o e n => by rw [upd_ne n]; exact e
      generalize hH1 : upd H d _ = H1
      rw [hH1] at h1 b1
      clear hH1
      refine ⟨_, rfl, d, _, 1, _, rfl, rfl, SqL.of h1, atI_nat (j := 1) rfl, _, rfl, d, _, 2, _, rfl, rfl, SqL.of h1, atI_nat (j := 2) rfl, _, _, rfl, rfl, .inl ⟨by decide, by decide⟩, _, rfl, d, _, 2, _, rfl, rfl, SqL.of h1, atI_nat (j := 2) rfl, _, _, rfl, rfl, .inr ⟨by omega, by omega⟩, _, _, rfl, rfl, _, _, rfl, rfl, .inr ⟨by decide, by decide⟩, _, _, rfl, rfl, (by show (0 : Int) < 2147483647; decide), ?_⟩
      dsimp only
      have y0 := Int.emod_nonneg ((S + 7919 * (k0 + 1) * (k0 + 1)) * 48271) (show (2147483647 : Int) ≠ 0 by decide)
      have y1 := Int.emod_lt_of_pos ((S + 7919 * (k0 + 1) * (k0 + 1)) * 48271) (show (0 : Int) < 2147483647 by decide)
      generalize (S + 7919 * (k0 + 1) * (k0 + 1)) * 48271 % 2147483647 = z2 at y0 y1
      refine ⟨_, rfl, _, rfl, _, _, rfl, rfl, .inl ⟨by omega, by omega⟩, _, rfl, _, _, rfl, rfl, .inl ⟨by decide, by decide⟩, _, _, rfl, rfl, _, _, rfl, rfl, _, _, rfl, rfl, (by show (0 : Int) < 2147483587; decide), ?_⟩
      dsimp only
      generalize (z2 * z2 + 69621 * z2 + 17) % 2147483587 = z3
      refine ⟨_, rfl, _, _, rfl, rfl, .inr ⟨by decide, by decide⟩, _, _, rfl, rfl, (by show (0 : Int) < 2147483629; decide), _, _, rfl, rfl, ⟨by decide, by decide⟩, _, rfl, _, _, rfl, rfl, m0, ?_⟩
      exact k _ _ (Int.emod_nonneg _ (by omega)) (Int.emod_lt_of_pos _ m0) b1 ⟨_, _, _, h1, by omega, by omega⟩
theorem scRare : FnScope ["_law_deck", "_law_often", "_law_great"] ["_law_deck", "_law_often", "_law_great"] (defScope sRare) := ⟨rfl, rfl, rfl, by decide +kernel, rfl, by decide +kernel, by decide +kernel⟩
theorem ok_Rare {f : Addr} {fd : FuncData} (F : Fun K "_law_rare" "_law_rare" sRare f fd) (T : Txt mg)
    {gDraw : Addr} {fDraw : FuncData} (kDraw : PySem.W.keepIn K (.ref gDraw) = true) (bDraw : Binds K fDraw ["_law_deck", "_law_most"] []) (hDraw : mg "_law_draw" = some (.ref gDraw)) (GDraw : FnOk P w K mg base CX0 1 gDraw fDraw ["_law_deck", "_law_most"] spDraw) :
    FnOk P w K mg base CX0 2 f fd ["_law_deck", "_law_often", "_law_great"] spRare := by
  refine F.ok scRare (fun vs H Q E h => ?_) (fun cdv A outer s H vs Q E hr h => ?_)
  · obtain ⟨_, _, _, _, rfl, _⟩ := h; rfl
  · obtain ⟨d, x, y, b, rfl, hD, k⟩ := h
    refine ⟨_, pss_one (ps_ret (pe_ix ix_list (pe_lst (pa_cons (pv 1) (pa_cons (pv 2) pa_nil))) (pe_callTy call_int1 (by rfl) T.int (by decide +kernel) (pa_cons (pe_cmpR op_eq (pe_call GDraw hr rfl hDraw kDraw bDraw .nil pass0 (pa_cons (pv 0) (pa_cons pe_int pa_nil))) pe_int (nomark _)) pa_nil)) (fun _ _ => rfl))), ?_⟩
    refine ⟨_, rfl, _, rfl, small (by simp), fun q hq => ?_⟩
    have sq := same_new (o := .lst [.int x, .int y]) hq
    have q1 := upd_same (H := H) (a := q) (o := .lst [.int x, .int y])
    have nq := hD.ne hq
    have D1 := hD.same sq
    generalize upd H q (.lst [.int x, .int y]) = H1 at sq q1 D1
    refine ⟨_, rfl, d, 8, b, rfl, D1, by decide, by decide, fun v H2 _ _ b2 D2 => ⟨rfl, .inr ⟨_, rfl, ?_⟩⟩⟩
    obtain ⟨z, an, hz⟩ : ∃ z : Int, atI [V.int x, .int y] (if decide (V.int v = V.int 5) = true then 1 else 0) = some (.int z) ∧ (z = x ∨ z = y) := by
      split
      · exact ⟨y, rfl, .inr rfl⟩
      · exact ⟨x, rfl, .inl rfl⟩
    exact ⟨q, _, _, .int z, rfl, rfl, SqL.of (b2 _ _ q1 nq), an, k z H2 hz ((But.of sq).trans b2) D2⟩
theorem scTwo : FnScope ["_law_deck", "_law_many", "_law_one"] ["_law_deck", "_law_many"] (defScope sTwo) := ⟨rfl, rfl, rfl, by decide +kernel, rfl, by decide +kernel, by decide +kernel⟩
theorem ok_Two {f : Addr} {fd : FuncData} (F : Fun K "_law_two_of" "_law_two_of" sTwo f fd) (T : Txt mg)
    {gDraw : Addr} {fDraw : FuncData} (kDraw : PySem.W.keepIn K (.ref gDraw) = true) (bDraw : Binds K fDraw ["_law_deck", "_law_most"] []) (hDraw : mg "_law_draw" = some (.ref gDraw)) (GDraw : FnOk P w K mg base CX0 1 gDraw fDraw ["_law_deck", "_law_most"] spDraw) :
    FnOk P w K mg base CX0 2 f fd ["_law_deck", "_law_many"] spTwo := by
  refine F.ok scTwo (fun vs H Q E h => ?_) (fun cdv A outer s H vs Q E hr h => ?_)
  · obtain ⟨_, _, _, rfl, _⟩ := h; rfl
  · obtain ⟨d, N, b, rfl, hD, N2, N60, k⟩ := h
    refine ⟨_, pss_cons (ps_set (i := 2) scTwo.nd rfl (Or.inl rfl) (pe_call GDraw hr rfl hDraw kDraw bDraw .nil pass0 (pa_cons (pv 0) (pa_cons (pv 1) pa_nil))))
      (pss_one (ps_ret (pe_tup (pa_cons (pv 2) (pa_cons (pe_op op_mod (pe_op op_add (pe_op op_add (pv 2) pe_int) (pe_call GDraw hr rfl hDraw kDraw bDraw .nil pass0 (pa_cons (pv 0) (pa_cons (pe_op op_sub (pv 1) pe_int) pa_nil)))) (pv 1)) pa_nil))))), ?_⟩
    refine ⟨_, rfl, _, rfl, d, (N : Int), b + 1, rfl, hD, by omega, by omega, fun p H1 p0 p1 b1 D1 => ?_⟩
    obtain ⟨p, rfl⟩ := nat_of p0
    refine ⟨_, rfl, _, rfl, _, _, rfl, rfl, _, rfl, _, rfl, _, _, rfl, rfl, d, _, b, rfl, D1, by omega, by omega, fun x H2 x0 x1 b2 D2 => ⟨_, _, rfl, rfl, _, rfl, _, _, rfl, rfl, (by show (0 : Int) < N; omega), small (by simp), fun r hr' => ?_⟩⟩
    obtain ⟨x, rfl⟩ := nat_of x0
    have om := mod_ne (N := N) (a := p) (v := x) (by omega) (by omega)
    have oe : ((p : Int) + 1 + (x : Int)) % (N : Int) = (((p + 1 + x) % N : Nat) : Int) := by rw [← mod_int]; simp
    refine k p ((p + 1 + x) % N) r _ ((b1.trans b2).trans (But.of (same_new hr'))) (D2.upd (D2.ne hr')) (by omega) om.2 (Ne.symm om.1) ?_
    rw [upd_same, ← oe]
theorem scHeavy : FnScope ["_law_deck"] ["_law_deck"] (defScope sHeavy) := ⟨rfl, rfl, rfl, by decide +kernel, rfl, by decide +kernel, by decide +kernel⟩
theorem ok_Heavy {f : Addr} {fd : FuncData} (F : Fun K "_law_heavy" "_law_heavy" sHeavy f fd) (T : Txt mg)
    {gDraw : Addr} {fDraw : FuncData} (kDraw : PySem.W.keepIn K (.ref gDraw) = true) (bDraw : Binds K fDraw ["_law_deck", "_law_most"] []) (hDraw : mg "_law_draw" = some (.ref gDraw)) (GDraw : FnOk P w K mg base CX0 1 gDraw fDraw ["_law_deck", "_law_most"] spDraw) :
    FnOk P w K mg base CX0 2 f fd ["_law_deck"] spHeavy := by
  refine F.ok scHeavy (fun vs H Q E h => ?_) (fun cdv A outer s H vs Q E hr h => ?_)
  · obtain ⟨_, _, rfl, _⟩ := h; rfl
  · obtain ⟨d, b, rfl, hD, k⟩ := h
    refine ⟨_, pss_one (ps_ret (pe_ix ix_list (pe_lst (pa_cons (pe_call GDraw hr rfl hDraw kDraw bDraw .nil pass0 (pa_cons (pv 0) (pa_cons pe_int pa_nil))) (pa_cons (pe_call GDraw hr rfl hDraw kDraw bDraw .nil pass0 (pa_cons (pv 0) (pa_cons (pe_op op_add (pe_op op_pow pe_int pe_int) pe_int) pa_nil))) pa_nil))) (pe_call GDraw hr rfl hDraw kDraw bDraw .nil pass0 (pa_cons (pv 0) (pa_cons pe_int pa_nil))) (fun _ _ => rfl))), ?_⟩
    refine ⟨_, rfl, d, 9, b + 2, rfl, hD, by decide, by decide, fun x H1 x0 x1 b1 D1 => ?_⟩
    refine ⟨_, rfl, _, _, rfl, rfl, ⟨by decide, by decide, by decide⟩, _, _, rfl, rfl, d, _, b + 1, rfl, D1, by decide, by decide, fun y H2 y0 y1 b2 D2 => ⟨small (by simp), fun q hq => ?_⟩⟩
    have y1 : y < 10 ^ 9 + 1 := y1
    have sq := same_new (o := .lst [.int x, .int y]) hq
    have q3 := upd_same (H := H2) (a := q) (o := .lst [.int x, .int y])
    have nq := D2.ne hq
    have D3 := D2.same sq
    generalize upd H2 q (.lst [.int x, .int y]) = H3 at sq q3 D3
    refine ⟨_, rfl, d, 2, b, rfl, D3, by decide, by decide, fun v H4 v0 v1 b4 D4 => ?_⟩
    obtain ⟨z, an, z0, z1⟩ : ∃ z : Int, atI [V.int x, .int y] v = some (.int z) ∧ 0 ≤ z ∧ z ≤ 1000000000 := by
      rcases (show v = 0 ∨ v = 1 by omega) with rfl | rfl
      · exact ⟨x, rfl, x0, by omega⟩
      · exact ⟨y, rfl, y0, by omega⟩
    exact ⟨q, _, v, .int z, rfl, rfl, SqL.of (b4 _ _ q3 nq), an, k z H4 z0 z1 (((b1.trans b2).trans (But.of sq)).trans b4) D4⟩
end
end K56
set_option maxHeartbeats 1000000
namespace K56
open PySem L2 Wk
theorem flat_strs (ns : List Str) : (ns.map V.str).all flatV = true := by
  induction ns with
  | nil => rfl
  | cons n ns ih => exact ih
def nmA (a : Nat) : Str := (⟨#[97 + a % 26]⟩ : Str) ++ (⟨#[97 + a / 26 % 26]⟩ : Str)
theorem nmA_inj {a b : Nat} (ha : 52 ≤ a) (ha' : a ≤ 200) (hb : 52 ≤ b) (hb' : b ≤ 200) (e : nmA a = nmA b) : a = b := by
  have e := congrArg (fun z : Str => z.cps.toList) e
  simp only [nmA] at e
  rw [cat_cps, cat_cps] at e
  have e : [97 + a % 26, 97 + a / 26 % 26] = [97 + b % 26, 97 + b / 26 % 26] := e
  injection e with e1 e2
  injection e2 with e2 _
  omega
theorem nmA_few {zs : List Str} {at0 : Nat} (h : ∀ a, 52 ≤ a → a < at0 → nmA a ∈ zs) (hl : zs.length ≤ 90) (ha : at0 ≤ 160) : at0 ≤ 52 + zs.length := by
  have := nodup_le ((List.range (at0 - 52)).map fun k => nmA (52 + k)) zs ?_ ?_
  · rw [List.length_map, List.length_range] at this; omega
  · rw [List.nodup_iff_pairwise_ne, List.pairwise_map]
    refine List.Pairwise.imp_of_mem ?_ List.pairwise_lt_range
    intro x y hx hy hxy e
    have hx := List.mem_range.mp hx
    have hy := List.mem_range.mp hy
    have := nmA_inj (by omega) (by omega) (by omega) (by omega) e
    omega
  · intro x hx
    obtain ⟨k, hk, rfl⟩ := List.mem_map.mp hx
    have := List.mem_range.mp hk
    exact h _ (by omega) (by omega)
theorem cat_len (x y : Str) : (x ++ y).length = x.length + y.length := by
  rw [len_cps, len_cps, len_cps, cat_cps, List.length_append]
def Low (z : Str) : Prop := ∀ c ∈ z.cps.toList, c < 16 ^ 8
def Sht (z : Str) : Prop := z.length ≤ 9 ∧ Low z
theorem low_one {c : Nat} (h : c < 200) : Low (⟨#[c]⟩ : Str) := fun x hx => by
  have : x = c := by simpa using hx
  rw [this]; exact Nat.lt_of_lt_of_le h (by decide)
theorem low_cat {x y : Str} (hx : Low x) (hy : Low y) : Low (x ++ y) := fun c hc => by
  rw [cat_cps] at hc
  exact (List.mem_append.mp hc).elim (hx c) (hy c)
def spNamed : Sp := fun vs H Q _ => ∃ (d : Addr) (M b : Nat), vs = [.ref d, .int (M : Int)] ∧ M ≤ 84 ∧ DeckAt H d (b + 9 * M) ∧ ∀ (l : Addr) (zs : List Str) (H' : Hp), But d H H' → DeckAt H' d b → l ≠ d → H l = none → H' l = some (.lst (zs.map V.str)) → zs.length = M → zs.Nodup → (∀ z ∈ zs, Sht z) → Q (.ref l) H'
section
variable {P : Program} {w : World} {K : PySem.W.Frag} {mg : Str → Option Value} {base : Heap}
theorem scNamed : FnScope ["_law_deck", "_law_many", "_law_letters", "_law_found", "_law_long", "_law_tail", "_law_at"] ["_law_deck", "_law_many"] (defScope sNamed) := ⟨rfl, rfl, rfl, by decide +kernel, rfl, by decide +kernel, by decide +kernel⟩
theorem ok_Named {f : Addr} {fd : FuncData} (F : Fun K "_law_named" "_law_named" sNamed f fd) (T : Txt mg)
    {gDraw : Addr} {fDraw : FuncData} (kDraw : PySem.W.keepIn K (.ref gDraw) = true) (bDraw : Binds K fDraw ["_law_deck", "_law_most"] []) (hDraw : mg "_law_draw" = some (.ref gDraw)) (GDraw : FnOk P w K mg base CX0 1 gDraw fDraw ["_law_deck", "_law_most"] spDraw) :
    FnOk P w K mg base CX0 2 f fd ["_law_deck", "_law_many"] spNamed := by
  refine F.ok scNamed (fun vs H Q E h => ?_) (fun cdv A outer s H vs Q E hr h => ?_)
  · obtain ⟨_, _, _, rfl, _⟩ := h; rfl
  · obtain ⟨d, M, b, rfl, M84, hD, k⟩ := h
    refine ⟨_, pss_cons (ps_set (i := 2) scNamed.nd rfl (Or.inr rfl) pe_str)
      (pss_cons (ps_set (i := 3) scNamed.nd rfl (Or.inl rfl) (pe_lst pa_nil))
      (pss_cons (ps_while PassesOwn.never (pt_cmpR op_lt (pe_callB call_len_seq (by rfl) T.len PySem.boot_len (pa_cons (pv 3) pa_nil)) (pv 1) (nomark _)) (pss_cons (ps_set (i := 4) scNamed.nd rfl (Or.inl rfl) (pe_call GDraw hr rfl hDraw kDraw bDraw .nil pass0 (pa_cons (pv 0) (pa_cons pe_int pa_nil))))
      (pss_cons (ps_set (i := 5) scNamed.nd rfl (Or.inl rfl) (pe_bm PySem.F.plainAttrs_str PySem.F.slot_str_join PySem.F.type_str_join mt_join pe_str (pa_cons (pe_comp (T := ["_law_k"]) (F := ["_law_letters", "_law_deck"]) (js := [2, 0]) (CS.to (osc := defScope sNamed) ⟨by rfl, by decide +kernel, by decide +kernel, by decide +kernel, by decide +kernel, by decide +kernel, by decide +kernel⟩ rfl rfl) rfl (pi_range1 rfl T.range (pa_cons (pv 4) pa_nil)) (fun _ _ _ _ _ => pg_name (i := 0) (show (["_law_k", "_law_letters", "_law_deck"] : List Str).Nodup by decide +kernel) rfl (Or.inl rfl)) (fun _ _ _ _ _ => pif_nil) (fun _ _ _ _ _ => pe_ix ix_str (pv 1) (pe_call GDraw hr rfl hDraw kDraw bDraw .nil pass0 (pa_cons (pv 2) (pa_cons pe_int pa_nil))) (fun _ _ => rfl))) pa_nil)))
      (pss_cons (ps_set (i := 6) scNamed.nd rfl (Or.inl rfl) (pe_call GDraw hr rfl hDraw kDraw bDraw .nil pass0 (pa_cons (pv 0) (pa_cons pe_int pa_nil))))
      (pss_cons (ps_while PassesOwn.never (pt_cmpR op_in_seq (pe_op op_add_str (pe_ix ix_str (pv 2) (pe_op op_mod (pv 6) pe_int) (fun _ _ => rfl)) (pv 5)) (pv 3) (by rfl)) (pss_cons (ps_set (i := 6) scNamed.nd rfl (Or.inl rfl) (pe_op op_add (pv 6) pe_int))
      (pss_one (ps_if (pt_cmpR op_gt (pv 6) pe_int (nomark _)) (pss_one (ps_set (i := 5) scNamed.nd rfl (Or.inl rfl) (pe_ix ix_str (pv 2) (pe_op op_mod (pe_op op_fdiv (pv 6) pe_int) pe_int) (fun _ _ => rfl)))) pss_nil))))
      (pss_one (ps_expr (pe_bm PySem.F.plainAttrs_list PySem.F.slot_list_append PySem.F.type_list_append mt_append (pv 3) (pa_cons (pe_op op_add_str (pe_ix ix_str (pv 2) (pe_op op_mod (pv 6) pe_int) (fun _ _ => rfl)) (pv 5)) pa_nil)))))))))
      (pss_one (ps_ret (pv 3))))), ?_⟩
    refine ⟨small (by simp), fun l hl => ?_⟩
    have s1 := same_new (o := .lst []) hl
    have l1 := upd_same (H := H) (a := l) (o := .lst [])
    have nl := hD.ne hl
    have D1 := hD.same s1
    have B1 : But d H (upd H l (.lst [])) := But.of s1
    generalize upd H l (.lst []) = H1 at s1 l1 D1 B1
    dsimp only [gName, tSeq]
    refine while_gh (fun m σ H5 => ∃ (u4 u5 u6 : Option V) (zs : List Str), σ = [some (.ref d), some (.int (M : Int)), some (.str LS), some (.ref l), u4, u5, u6] ∧ But d H H5 ∧ DeckAt H5 d (b + 9 * (M - zs.length)) ∧ H5 l = some (.lst (zs.map V.str)) ∧ zs.length ≤ M ∧ zs.Nodup ∧ (∀ z ∈ zs, Sht z) ∧ m = M - zs.length) (m0 := M) ⟨_, _, _, [], rfl, B1, D1, l1, Nat.zero_le _, List.nodup_nil, (fun z hz => by cases hz), rfl⟩ ?_ ?_
    rotate_left
    · rintro σ H Q Q' f ⟨v3, e3, l, xs, el, hl, v1, e1, i, j, ei, ej, b, eb, q⟩
      exact ⟨v3, e3, l, xs, el, hl, v1, e1, i, j, ei, ej, b, eb, f _ _ q⟩
    rintro m σ H5 ⟨u4, u5, u6, zs, rfl, b5, D5, l5, zl, znd, z9, hm⟩
    refine ⟨_, rfl, l, _, rfl, .inl (SqL.of l5), _, rfl, _, _, rfl, rfl, _, rfl, ?_⟩
    rw [List.length_map]
    refine ite2 (fun g => ?_) fun g => ?_
    rotate_left
    · have hzM : zs.length = M := by
        have : ¬ ((zs.length : Int) < (M : Int)) := fun h => g (decide_eq_true h)
        omega
      exact ⟨_, rfl, k l zs H5 b5 (D5.mono (by omega)) nl hl l5 hzM znd z9⟩
    have hz : zs.length < M := by have := of_decide_eq_true g; omega
    obtain ⟨B, hB⟩ : ∃ B, B = b + 9 * (M - (zs.length + 1)) := ⟨_, rfl⟩
    have D5 : DeckAt H5 d (B + 8 + 1) := D5.mono (by omega)
    refine ⟨_, rfl, d, 8, B + 8, rfl, D5, by decide, by decide, fun lg H6 lg0 lg1 b6 D6 => ?_⟩
    obtain ⟨lg, rfl⟩ := nat_of lg0
    refine ⟨rfl, _, rfl, (lg : Int), rfl, by omega, by omega, fun D hD' => comp_range (lo := 0) (n := (lg : Int).toNat) (fun j σ ys H7 => ∃ (u : Option V) (ws : List Nat), σ = [u, some (.str LS), some (.ref d)] ∧ But d H6 H7 ∧ DeckAt H7 d (B + 8 - j) ∧ H7 D = some (.lst ys) ∧ ys = ws.map sg ∧ ws.length = j ∧ ∀ x ∈ ws, x < 200) ⟨none, [], rfl, But.of (same_new hD'), D6.same (same_new hD'), upd_same, rfl, rfl, by simp⟩ (fun j σ ys H7 _ ⟨_, _, _, _, _, e, _⟩ => e) ?_ ?_⟩
    · rintro j σ ys H7 hj ⟨u, ws, rfl, b7, D7, e7, rfl, wl, wlow⟩
      have hj : j < lg := by simpa using hj
      have nD : D ≠ d := D6.ne hD'
      refine ⟨_, rfl, _, rfl, d, 26, B + 8 - (j + 1), rfl, D7.mono (by omega), by decide, by decide, fun x H8 x0 x1 b8 D8 => ?_⟩
      have e8 := b8 _ _ e7 nD
      exact ⟨_, x, _, rfl, rfl, small (by decide +kernel), LS_at x0 x1, e8, small1000 (by simp; omega), _, ws ++ [97 + x.toNat], rfl, (b7.trans b8).set hD', D8.upd nD, upd_same, by rw [List.map_append]; rfl, by simp [wl], fun y hy => (List.mem_append.mp hy).elim (wlow y) fun h => by rw [List.mem_singleton.mp h]; omega⟩
    rintro σ ys H7 ⟨u, ws, rfl, b7, D7, e7, rfl, wl, wlow⟩
    have wl : ws.length = lg := by simpa using wl
    have D7 : DeckAt H7 d (B + 1) := D7.mono (by simp; omega)
    have hzc := join_cps ws
    rw [sg_map] at e7
    refine ⟨_, D, _, rfl, rfl, SqL.of e7, ?_, ?_⟩
    · rw [sg_sum, List.length_map]; show _ + _ * 0 ≤ _; omega
    generalize Txt.join (Str.ofString "") (ws.map fun c => (⟨#[c]⟩ : Str)) = z at hzc
    have zlen : z.length ≤ 8 := by rw [len_cps, hzc, wl]; omega
    have zlow : Low z := fun c hc => by rw [hzc] at hc; exact Nat.lt_of_lt_of_le (wlow c hc) (by decide)
    refine ⟨_, rfl, d, 26, B, rfl, D7, by decide, by decide, fun a0 H8 a00 a01 b8 D8 => ?_⟩
    obtain ⟨a0, rfl⟩ := nat_of a00
    have B8 : But d H H8 := ((b5.trans b6).trans b7).trans b8
    have l8 : H8 l = some (.lst (zs.map V.str)) := b8 _ _ (b7 _ _ (b6 _ _ l5 nl) nl) nl
    dsimp only [gName, tSeq]
    have m26 : ∀ x : Nat, ((x : Int) % 26) = ((x % 26 : Nat) : Int) := fun x => by simp
    refine while_gh (fun m' σ H9 => ∃ (t : Str) (at0 : Nat), σ = [some (.ref d), some (.int (M : Int)), some (.str LS), some (.ref l), some (.int (lg : Int)), some (.str t), some (.int (at0 : Int))] ∧ H9 = H8 ∧ t.length ≤ 8 ∧ Low t ∧ (52 ≤ at0 → t = ⟨#[97 + at0 / 26 % 26]⟩) ∧ (∀ a', 52 ≤ a' → a' < at0 → nmA a' ∈ zs) ∧ m' = 300 - at0 ∧ at0 ≤ 150) (m0 := 300 - a0) ⟨z, a0, rfl, rfl, zlen, zlow, fun h => absurd h (by omega), fun a' h h' => absurd h' (by omega), rfl, by omega⟩ ?_ ?_
    rotate_left
    · rintro σ H Q Q' f ⟨v2, e2, v6, e6, i, j, ei, ej, hpos, z, n, ch, ez, en, hsm, hat, v5, e5, x, y, ex, ey, hs2, v3, e3, l, xs, el, hl, h1, h2, b, eb, q⟩
      exact ⟨v2, e2, v6, e6, i, j, ei, ej, hpos, z, n, ch, ez, en, hsm, hat, v5, e5, x, y, ex, ey, hs2, v3, e3, l, xs, el, hl, h1, h2, b, eb, f _ _ q⟩
    rintro m' σ H9 ⟨t, at0, rfl, rfl, tl, tlow, ht, hin, hm', a150⟩
    have r0 := Int.emod_nonneg (at0 : Int) (show (26 : Int) ≠ 0 by decide)
    have r1 := Int.emod_lt_of_pos (at0 : Int) (show (0 : Int) < 26 by decide)
    have e26 : (((at0 : Int) % 26).toNat) = at0 % 26 := by rw [m26]; rfl
    have lat := LS_at r0 r1
    rw [e26] at lat
    have ylen : ((⟨#[97 + at0 % 26]⟩ : Str) ++ t).length ≤ 9 := by rw [cat_len]; show 1 + _ ≤ 9; omega
    refine ⟨_, rfl, _, rfl, _, _, rfl, rfl, (by show (0 : Int) < 26; decide), LS, _, _, rfl, rfl, small (by decide +kernel), lat, _, rfl, _, _, rfl, rfl, small (by show 1 + _ ≤ 10000; omega), _, rfl, l, _, rfl, .inl (SqL.of l8), rfl, flat_strs _, _, rfl, ?_⟩
    show if (inV (.str ((⟨#[97 + at0 % 26]⟩ : Str) ++ t)) (zs.map V.str)) = true then _ else _
    rw [inV_strs]
    by_cases gy : ((⟨#[97 + at0 % 26]⟩ : Str) ++ t) ∈ zs
    · rw [decide_eq_true gy]
      refine iteT ?_
      have hin' : ∀ a', 52 ≤ a' → a' < at0 + 1 → nmA a' ∈ zs := fun a' h h' => by
        by_cases e : a' = at0
        · subst e
          unfold nmA
          rw [ht h] at gy
          exact gy
        · exact hin a' h (by omega)
      have few := nmA_few hin' (by omega) (by omega)
      refine ⟨_, rfl, _, _, rfl, rfl, ?_⟩
      refine ⟨_, rfl, _, _, rfl, rfl, _, rfl, ite2 (fun g2 => ?_) fun g2 => ?_⟩
      · have q0 := Int.emod_nonneg (((at0 : Int) + 1) / 26) (show (26 : Int) ≠ 0 by decide)
        have q1 := Int.emod_lt_of_pos (((at0 : Int) + 1) / 26) (show (0 : Int) < 26 by decide)
        have lat2 := LS_at q0 q1
        have e27 : ((((at0 : Int) + 1) / 26 % 26).toNat) = (at0 + 1) / 26 % 26 := by omega
        rw [e27] at lat2
        refine ⟨_, rfl, _, rfl, _, _, rfl, rfl, ⟨by decide, by decide⟩, _, _, rfl, rfl, (by show (0 : Int) < 26; decide), LS, _, _, rfl, rfl, small (by decide +kernel), lat2, ?_⟩
        exact ⟨300 - (at0 + 1), by omega, _, at0 + 1, rfl, rfl, by show 1 ≤ 8; omega, low_one (by omega), fun _ => rfl, hin', rfl, by omega⟩
      · have g2 : ¬ (51 < (at0 : Int) + 1) := fun h => g2 (decide_eq_true h)
        exact ⟨300 - (at0 + 1), by omega, t, at0 + 1, rfl, rfl, tl, tlow, fun h => absurd h (by omega), hin', rfl, by omega⟩
    · rw [decide_eq_false gy]
      refine iteF ?_
      refine ⟨_, rfl, .inl ⟨rfl, _, SqL.of l8⟩, _, rfl, _, rfl, _, _, rfl, rfl, (by show (0 : Int) < 26; decide), LS, _, _, rfl, rfl, small (by decide +kernel), lat, _, rfl, _, _, rfl, rfl, small (by show 1 + _ ≤ 10000; omega), l, _, _, rfl, rfl, l8, small1000 (by rw [List.length_map]; omega), ?_⟩
      refine ⟨M - (zs.length + 1), by omega, _, _, _, zs ++ [(⟨#[97 + at0 % 26]⟩ : Str) ++ t], rfl, B8.set hl, ?_, by rw [upd_same, List.map_append]; rfl, by simp; omega, ?_, (fun z hz => (List.mem_append.mp hz).elim (z9 z) fun h => by rw [List.mem_singleton.mp h]; exact ⟨ylen, low_cat (low_one (by omega)) tlow⟩), by simp⟩
      · have : (zs ++ [(⟨#[97 + at0 % 26]⟩ : Str) ++ t]).length = zs.length + 1 := by simp
        rw [this, ← hB]
        exact D8.upd nl
      · refine List.nodup_append.mpr ⟨znd, List.nodup_cons.mpr ⟨by simp, List.nodup_nil⟩, fun x hx y hy e => ?_⟩
        rw [List.mem_singleton.mp hy] at e
        exact gy (e ▸ hx)
end
end K56
set_option maxHeartbeats 2000000
namespace K56
open PySem L2 Wk
theorem rows_stand {H H' : Hp} {qs qs' : List Srt.Row} {S : List T4} {st : Addr} (hat : ∀ q ∈ qs, IsTie q.2 ∧ H q.1 = some (.tup (q.2.map kV))) (hS : (qs.map fun q => tieOf q.2).Perm S) (perm : qs'.Perm qs) (srt : qs'.Pairwise fun a b => Srt.ltR b.2 a.2 = false) (s : Same H H') (hst : H' st = some (.tup (qs'.map Srt.rRef))) :
    StandAt H' st (qs'.map fun q => tieOf q.2) ∧ Srtd (qs'.map fun q => tieOf q.2) S := by
  have hk : ∀ q ∈ qs', keysOf (tieOf q.2) = q.2 := fun q hq => by
    obtain ⟨⟨t, e⟩, _⟩ := hat q (perm.mem_iff.mp hq)
    rw [e, tieOf_keys]
  refine ⟨⟨qs'.map (·.1), ?_, ?_⟩, (perm.map _).trans hS, ?_⟩
  · have : (qs'.map (·.1)).map V.ref = qs'.map Srt.rRef := by rw [List.map_map]; rfl
    rw [this]; exact hst
  · refine ⟨by simp, fun i a t ha ht => ?_⟩
    obtain ⟨q, hq, rfl⟩ := map_some ha
    rw [List.getElem?_map, hq] at ht
    cases ht
    obtain ⟨⟨t, e⟩, h9⟩ := hat q (perm.mem_iff.mp (List.mem_of_getElem? hq))
    show _ = some (HO.tup (tieV (tieOf q.2)))
    rw [e, tieOf_keys, ← keys_tieV, ← e]
    exact s _ _ h9
  · rw [List.pairwise_map]
    refine srt.imp_of_mem fun {a b} ha hb h => ?_
    rw [hk a ha, hk b hb]; exact h
theorem ties_snoc {H : Hp} {as : List Addr} {S : List T4} (h : TiesAt H as S) {r : Addr} {t : T4} (hr : H r = some (.tup (tieV t))) : TiesAt H (as ++ [r]) (S ++ [t]) := by
  refine ⟨by rw [List.length_append, List.length_append, h.1]; rfl, fun i r0 t0 e1 e2 => ?_⟩
  rw [List.getElem?_append] at e1 e2
  rw [h.1] at e1
  split at e1
  · rename_i z
    rw [if_pos z] at e2
    exact h.2 i r0 t0 e1 e2
  · rename_i z
    rw [if_neg z] at e2
    have hz : i - S.length = 0 := by
      have := (List.getElem?_eq_some_iff.mp e1).1
      simp only [List.length_cons, List.length_nil] at this
      omega
    rw [hz] at e1 e2
    cases e1
    cases e2
    exact hr
theorem ties_mono {H H' : Hp} {as : List Addr} {S : List T4} (h : TiesAt H as S) (f : ∀ r zs, H r = some (.tup zs) → H' r = some (.tup zs)) : TiesAt H' as S := ⟨h.1, fun i r t a b => f _ _ (h.2 i r t a b)⟩
structure StS (N : Nat) (S : List T4) : Prop where
  inn : InN N S
  nd : (S.map (·.1)).Nodup
  srt : NmS (S.map (·.1))
  len : S.length ≤ 60
theorem nms_of {S T : List T4} (h : Srtd S T) : NmS (S.map (·.1)) := by
  unfold NmS
  rw [List.pairwise_map]
  refine h.2.imp fun {a b} e => ?_
  unfold keysOf at e
  unfold Srt.ltR at e
  split at e
  · rename_i z; rw [z]; exact Srt.ltK_irr _
  · exact e
theorem zip_rows {H : Hp} {as : List Addr} {S : List T4} (f : T4 → List Key) (hl : as.length = S.length) (h : ∀ (i : Nat) r t, as[i]? = some r → S[i]? = some t → H r = some (.tup ((f t).map kV))) :
    ((as.zip S).map fun q => ((q.1, f q.2) : Srt.Row)).map Srt.rRef = as.map V.ref ∧ (∀ q ∈ (as.zip S).map fun q => ((q.1, f q.2) : Srt.Row), (∃ t ∈ S, q.2 = f t) ∧ H q.1 = some (.tup (q.2.map kV))) ∧ (as.zip S).map Prod.snd = S := by
  refine ⟨?_, fun q hq => ?_, List.map_snd_zip (Nat.le_of_eq hl.symm)⟩
  · rw [List.map_map]
    have e : (as.zip S).map Prod.fst = as := List.map_fst_zip (Nat.le_of_eq hl)
    have : (Srt.rRef ∘ fun q : Addr × T4 => ((q.1, f q.2) : Srt.Row)) = V.ref ∘ Prod.fst := by funext q; rfl
    rw [this, ← List.map_map, e]
  · obtain ⟨p, hp, rfl⟩ := List.mem_map.mp hq
    obtain ⟨i, hi, e⟩ := List.mem_iff_getElem.mp hp
    rw [List.length_zip] at hi
    rw [List.getElem_zip] at e
    rw [← e]
    exact ⟨⟨_, List.getElem_mem (by omega), rfl⟩, h i _ _ (getq (by omega)) (getq (by omega))⟩
def spDStand : Sp := fun vs H Q _ => ∃ (d : Addr) (N few gr b : Nat), vs = [.ref d, .int (N : Int), .int (few : Int), .int (gr : Int)] ∧ DeckAt H d (b + 900) ∧ 1 ≤ N ∧ N ≤ 24 ∧ few ≤ 60 ∧ gr ≤ 60 ∧ ∀ st S H', But d H H' → DeckAt H' d b → StandAt H' st S → StS N S → (∀ t ∈ S, t.2.1 ≠ t.2.2.1) → (∀ t ∈ S, Sht t.1) → Q (.ref st) H'
def tApp : TS := fun D σ H => ∃ (d L : Addr) (u1 u2 u3 u4 u5 u7 : Option V) (z : Str) (p q : Nat) (as : List Addr) (b : Nat), σ = [some (.ref d), u1, u2, u3, u4, u5, some (.ref L), u7, some (.str z), some (.int (p : Int)), some (.int (q : Int))] ∧ DeckAt H d (b + 3) ∧ H L = some (.lst (as.map V.ref)) ∧ L ≠ d ∧ as.length ≤ 100 ∧ ∀ (w : Int) (r : Addr) (H' : Hp), DeckAt H' d b → H' L = some (.lst ((as ++ [r]).map V.ref)) → H' r = some (.tup (tieV (z, p, q, w))) → (∀ x o, H x = some o → x ≠ d → x ≠ L → H' x = some o) → D.nx σ H'
section
variable {P : Program} {w : World} {K : PySem.W.Frag} {mg : Str → Option Value} {base : Heap}
theorem scDStand : FnScope ["_law_deck", "_law_many", "_law_few", "_law_great", "_law_sides", "_law_free", "_law_found", "_law_count", "_law_name", "_law_one", "_law_other"] ["_law_deck", "_law_many", "_law_few", "_law_great"] (defScope sDStand) := ⟨rfl, rfl, rfl, by decide +kernel, rfl, by decide +kernel, by decide +kernel⟩
theorem ok_DStand {f : Addr} {fd : FuncData} (F : Fun K "_law_drawn_stand" "_law_drawn_stand" sDStand f fd) (T : Txt mg)
    {gDraw : Addr} {fDraw : FuncData} (kDraw : PySem.W.keepIn K (.ref gDraw) = true) (bDraw : Binds K fDraw ["_law_deck", "_law_most"] []) (hDraw : mg "_law_draw" = some (.ref gDraw)) (GDraw : FnOk P w K mg base CX0 2 gDraw fDraw ["_law_deck", "_law_most"] spDraw)
    {gRare : Addr} {fRare : FuncData} (kRare : PySem.W.keepIn K (.ref gRare) = true) (bRare : Binds K fRare ["_law_deck", "_law_often", "_law_great"] []) (hRare : mg "_law_rare" = some (.ref gRare)) (GRare : FnOk P w K mg base CX0 2 gRare fRare ["_law_deck", "_law_often", "_law_great"] spRare)
    {gNamed : Addr} {fNamed : FuncData} (kNamed : PySem.W.keepIn K (.ref gNamed) = true) (bNamed : Binds K fNamed ["_law_deck", "_law_many"] []) (hNamed : mg "_law_named" = some (.ref gNamed)) (GNamed : FnOk P w K mg base CX0 2 gNamed fNamed ["_law_deck", "_law_many"] spNamed)
    {gTwo : Addr} {fTwo : FuncData} (kTwo : PySem.W.keepIn K (.ref gTwo) = true) (bTwo : Binds K fTwo ["_law_deck", "_law_many"] []) (hTwo : mg "_law_two_of" = some (.ref gTwo)) (GTwo : FnOk P w K mg base CX0 2 gTwo fTwo ["_law_deck", "_law_many"] spTwo)
    {gHeavy : Addr} {fHeavy : FuncData} (kHeavy : PySem.W.keepIn K (.ref gHeavy) = true) (bHeavy : Binds K fHeavy ["_law_deck"] []) (hHeavy : mg "_law_heavy" = some (.ref gHeavy)) (GHeavy : FnOk P w K mg base CX0 2 gHeavy fHeavy ["_law_deck"] spHeavy) :
    FnOk P w K mg base CX0 3 f fd ["_law_deck", "_law_many", "_law_few", "_law_great"] spDStand := by
  refine F.ok scDStand (fun vs H Q E h => ?_) (fun cdv A outer s H vs Q E hr h => ?_)
  · obtain ⟨_, _, _, _, _, rfl, _⟩ := h; rfl
  · obtain ⟨d, N, few, gr, b, rfl, hD, N1, N24, f60, g60, k⟩ := h
    refine ⟨_, pss_cons (ps_comp (i := 4) (T := ["_law_place"]) (F := ["_law_deck"]) (js := [0]) scDStand.nd rfl (Or.inl rfl) (CS.to (osc := defScope sDStand) ⟨by rfl, by decide +kernel, by decide +kernel, by decide +kernel, by decide +kernel, by decide +kernel, by decide +kernel⟩ rfl rfl) rfl (pi_range1 rfl T.range (pa_cons (pv 1) pa_nil)) (fun _ _ _ _ _ => pg_name (i := 0) (show (["_law_place", "_law_deck"] : List Str).Nodup by decide +kernel) rfl (Or.inl rfl)) (fun _ _ _ _ _ => pif_nil) (fun _ _ _ _ _ => pe_call GDraw hr rfl hDraw kDraw bDraw .nil pass0 (pa_cons (pv 1) (pa_cons pe_int pa_nil))))
      (pss_cons (ps_set (i := 5) scDStand.nd rfl (Or.inl rfl) (pe_cmpR op_eq (pe_call GDraw hr rfl hDraw kDraw bDraw .nil pass0 (pa_cons (pv 0) (pa_cons pe_int pa_nil))) pe_int (nomark _)))
      (pss_cons (ps_set (i := 6) scDStand.nd rfl (Or.inl rfl) (pe_lst pa_nil))
      (pss_cons (ps_set (i := 7) scDStand.nd rfl (Or.inl rfl) (pe_op op_mul (pe_call GRare hr rfl hRare kRare bRare .nil pass0 (pa_cons (pv 0) (pa_cons (pe_call GDraw hr rfl hDraw kDraw bDraw .nil pass0 (pa_cons (pv 0) (pa_cons (pe_op op_add (pv 2) pe_int) pa_nil))) (pa_cons (pv 3) pa_nil)))) (pe_callTy call_int1 (by rfl) T.int (by decide +kernel) (pa_cons (pe_cmpR op_gt (pv 1) pe_int (nomark _)) pa_nil))))
      (pss_cons (ps_for PassesOwn.never rfl (pi_list (pe_call GNamed hr rfl hNamed kNamed bNamed .nil pass0 (pa_cons (pv 0) (pa_cons (pv 7) pa_nil)))) (pg_name (i := 8) scDStand.nd rfl (Or.inl rfl)) (pss_cons (ps_asg (pe_call GTwo hr rfl hTwo kTwo bTwo .nil pass0 (pa_cons (pv 0) (pa_cons (pv 1) pa_nil))) (pg_tup rfl (pgs_cons (pg_name (i := 9) scDStand.nd rfl (Or.inl rfl)) (pgs_cons (pg_name (i := 10) scDStand.nd rfl (Or.inl rfl)) pgs_nil))))
      (pss_one (ps_if (PW.pt (pw_or (pt_val (pv 5)) (pw_or1 (pt_cmpR op_ne (pe_ix ix_list (pv 4) (pv 9) (fun _ _ => rfl)) (pe_ix ix_list (pv 4) (pv 10) (fun _ _ => rfl)) (nomark _))))) (PSs.imp' (t' := tApp) (pss_one (ps_expr (pe_bm PySem.F.plainAttrs_list PySem.F.slot_list_append PySem.F.type_list_append mt_append (pv 6) (pa_cons (pe_tup (pa_cons (pv 8) (pa_cons (pv 9) (pa_cons (pv 10) (pa_cons (pe_call GHeavy hr rfl hHeavy kHeavy bHeavy .nil pass0 (pa_cons (pv 0) pa_nil)) pa_nil))))) pa_nil)))) ?app) pss_nil))))
      (pss_one (ps_ret (pe_callTy call_tuple_of (by rfl) T.tuple (by decide +kernel) (pa_cons (pe_callB Srt.call_sortedT (by rfl) T.sorted (by decide +kernel) (pa_cons (pv 6) pa_nil)) pa_nil)))))))), ?_⟩
    case app =>
      clear k hD N1 N24 f60 g60
      rintro D σ H ⟨d, L, u1, u2, u3, u4, u5, u7, z, p, q, as, b, rfl, hD, hL, nL, al, k⟩
      refine ⟨_, rfl, .inl ⟨rfl, _, SqL.of hL⟩, _, rfl, _, rfl, _, rfl, _, rfl, d, b, rfl, hD, fun w H1 _ _ b1 D1 => ⟨small (by simp), fun r hr' => ?_⟩⟩
      have L1 := b1 _ _ hL nL
      have s2 := same_new (o := .tup [.str z, .int (p : Int), .int (q : Int), .int w]) hr'
      have r2 : upd H1 r (.tup [.str z, .int (p : Int), .int (q : Int), .int w]) r = some (.tup (tieV (z, p, q, w))) := upd_same
      have D2 := D1.same s2
      have L2 := s2 _ _ L1
      generalize upd H1 r (.tup [.str z, .int (p : Int), .int (q : Int), .int w]) = H2 at s2 r2 D2 L2
      refine ⟨L, _, _, rfl, rfl, L2, small1000 (by rw [List.length_map]; omega), ?_⟩
      refine k w r _ (D2.upd nL) (by rw [upd_same, List.map_append]; rfl) (by rw [upd_ne (ne_of r2 L2 (by intro z; cases z))]; exact r2) fun x o e n1 n2 => ?_
      rw [upd_ne n2]
      exact s2 _ _ (b1 _ _ e n1)
    refine ⟨_, rfl, (N : Int), rfl, by omega, by omega, fun SD hSD => comp_range (lo := 0) (n := (N : Int).toNat) (fun j σ ys H2 => ∃ (u : Option V) (sd : List Int), σ = [u, some (.ref d)] ∧ ys = sd.map V.int ∧ But d H H2 ∧ DeckAt H2 d (b + 900 - j) ∧ H2 SD = some (.lst ys) ∧ sd.length = j) ⟨none, [], rfl, rfl, But.of (same_new hSD), hD.same (same_new hSD), upd_same, rfl⟩ (fun j σ ys H2 _ ⟨_, _, _, _, _, _, e, _⟩ => e) ?_ ?_⟩
    · rintro j σ ys H2 hj ⟨u, sd, rfl, rfl, b2, D2, e2, sl⟩
      have hj : j < N := by simpa using hj
      have nD : SD ≠ d := hD.ne hSD
      refine ⟨_, rfl, d, 2, b + 900 - (j + 1), rfl, D2.mono (by omega), by decide, by decide, fun v H3 _ _ b3 D3 => ?_⟩
      exact ⟨b3 _ _ e2 nD, small1000 (by rw [List.length_map]; omega), _, sd ++ [v], rfl, by rw [List.map_append]; rfl, (b2.trans b3).set hSD, D3.upd nD, upd_same, by simp [sl]⟩
    rintro σ ys H2 ⟨u, sd, rfl, rfl, b2, D2, e2, sl⟩
    have sl : sd.length = N := by simpa using sl
    have D2 : DeckAt H2 d (b + 870 + 1) := D2.mono (by simp; omega)
    have nSD : SD ≠ d := hD.ne hSD
    refine ⟨_, rfl, d, 2, b + 870, rfl, D2, by decide, by decide, fun v H3 _ _ b3 D3 => ⟨rfl, ?_⟩⟩
    generalize decide (V.int v = V.int 0) = fr
    have e3 := b3 _ _ e2 nSD
    refine ⟨small (by simp), fun L hL => ?_⟩
    have sL := same_new (o := .lst []) hL
    have L4 := upd_same (H := H3) (a := L) (o := .lst [])
    have nL := D3.ne hL
    have hL0 : H L = none := (b2.trans b3).none D3 hL
    have e4 := sL _ _ e3
    have nSL : SD ≠ L := ne_of_none e3 hL
    have D4 := D3.same sL
    have B4 : But d H (upd H3 L (.lst [])) := (b2.trans b3).trans (But.of sL)
    generalize upd H3 L (.lst []) = H4 at sL L4 e4 D4 B4
    refine ⟨_, rfl, _, rfl, _, rfl, _, _, rfl, rfl, d, _, b + 869, rfl, D4, by omega, by omega, fun x H5 x0 x1 b5 D5 => ⟨_, rfl, d, x, (gr : Int), b + 868, rfl, D5, fun c H6 hc b6 D6 => ?_⟩⟩
    obtain ⟨x, rfl⟩ := nat_of x0
    obtain ⟨C, hC, eC, C2⟩ : ∃ C : Nat, C ≤ 60 ∧ c * (if decide ((1 : Int) < (N : Int)) = true then (1 : Int) else 0) = (C : Int) ∧ (0 < C → 2 ≤ N) := by
      by_cases g : (1 : Int) < (N : Int)
      · rcases hc with rfl | rfl
        · exact ⟨x, by omega, by rw [decide_eq_true g]; simp, fun _ => by omega⟩
        · exact ⟨gr, by omega, by rw [decide_eq_true g]; simp, fun _ => by omega⟩
      · exact ⟨0, by omega, by rw [decide_eq_false g]; simp, fun h => absurd h (by omega)⟩
    have c60 : -(2 ^ 64) < c ∧ c < 2 ^ 64 := by rcases hc with rfl | rfl <;> omega
    refine ⟨_, rfl, _, _, rfl, rfl, .inr ⟨_, rfl, _, _, rfl, rfl, .inl c60, ?_⟩⟩
    have e6 := b6 _ _ (b5 _ _ e4 nSD) nSD
    have L6 := b6 _ _ (b5 _ _ L4 nL) nL
    have B6 := (B4.trans b5).trans b6
    refine ⟨_, rfl, _, rfl, d, C, b + 300, by rw [← eC]; rfl, by omega, D6.mono (by omega), fun l zs H7 b7 D7 nl ln l7 zl znd z9 => ?_⟩
    have nlL : l ≠ L := (ne_of_none L6 ln).symm
    have e7 := b7 _ _ e6 nSD
    have L7 := b7 _ _ L6 nL
    refine ⟨l, rfl, ⟨_, SqL.of l7⟩, for_list (K := K) (a := l) (xs := zs.map V.str) (fun i σ H8 => ∃ (u7 u8 u9 u10 : Option V) (as : List Addr) (S : List T4), σ = [some (.ref d), some (.int (N : Int)), some (.int (few : Int)), some (.int (gr : Int)), some (.ref SD), some (.bl fr), some (.ref L), u7, u8, u9, u10] ∧ But d H H8 ∧ DeckAt H8 d (b + 5 * (C - i)) ∧ H8 l = some (.lst (zs.map V.str)) ∧ H8 SD = some (.lst (sd.map V.int)) ∧ H8 L = some (.lst (as.map V.ref)) ∧ TiesAt H8 as S ∧ (S.map (·.1)).Sublist (zs.take i) ∧ ∀ t ∈ S, TieOk N t) ⟨_, _, _, _, [], [], rfl, B6.trans b7, D7.mono (by omega), l7, e7, L7, ⟨rfl, fun i r t e => by simp at e⟩, List.nil_sublist _, fun t ht => by cases ht⟩ (fun i σ H8 _ ⟨_, _, _, _, _, _, _, _, _, e, _⟩ => SqL.of e) ?_ ?_⟩
    · rintro i x' σ H8 hx ⟨u7, u8, u9, u10, as, S, rfl, b8, D8, l8, e8, L8, t8, sub8, ok8⟩
      obtain ⟨z, hz, rfl⟩ := map_some hx
      have hi : i < C := by have := (List.getElem?_eq_some_iff.mp hz).1; omega
      have N2 := C2 (by omega)
      have al : as.length ≤ 60 := by
        have := sub8.length_le
        rw [List.length_map, List.length_take] at this
        rw [t8.1]; omega
      obtain ⟨B, hB⟩ : ∃ B, B = b + 5 * (C - (i + 1)) := ⟨_, rfl⟩
      refine ⟨_, rfl, _, rfl, d, N, B + 3, rfl, D8.mono (by omega), N2, by omega, fun p q r H9 b9 D9 pN qN pq er => ?_⟩
      refine ⟨r, _, rfl, SqT.of er, rfl, _, _, rfl, _, _, rfl, rfl, ?_⟩
      have l9 := b9 _ _ l8 nl
      have e9 := b9 _ _ e8 nSD
      have L9 := b9 _ _ L8 nL
      have t9 := ties_mono t8 fun r zs e => b9.tup D8 e
      have tk : zs.take (i + 1) = zs.take i ++ [z] := by rw [List.take_add_one, hz]; rfl
      have app : ∀ (u8 u9 u10 : Option V), u8 = some (.str z) → u9 = some (.int (p : Int)) → u10 = some (.int (q : Int)) → tApp { nx := fun σ H8 => ∃ (u7 u8 u9 u10 : Option V) (as : List Addr) (S : List T4), σ = [some (.ref d), some (.int (N : Int)), some (.int (few : Int)), some (.int (gr : Int)), some (.ref SD), some (.bl fr), some (.ref L), u7, u8, u9, u10] ∧ But d H H8 ∧ DeckAt H8 d (b + 5 * (C - (i + 1))) ∧ H8 l = some (.lst (zs.map V.str)) ∧ H8 SD = some (.lst (sd.map V.int)) ∧ H8 L = some (.lst (as.map V.ref)) ∧ TiesAt H8 as S ∧ (S.map (·.1)).Sublist (zs.take (i + 1)) ∧ ∀ t ∈ S, TieOk N t, rt := fun _ _ => True, bk := fun _ _ => True, ct := fun _ _ => True } [some (.ref d), some (.int (N : Int)), some (.int (few : Int)), some (.int (gr : Int)), some (.ref SD), some (.bl fr), some (.ref L), u7, u8, u9, u10] H9 := by
        intro u8 u9 u10 h8 h9 h10
        subst h8 h9 h10
        refine ⟨d, L, _, _, _, _, _, _, z, p, q, as, B, rfl, D9, L9, nL, by omega, fun w r H' D' L' r' kp => ?_⟩
        refine ⟨_, _, _, _, as ++ [r], S ++ [(z, p, q, w)], rfl, fun x o e n => kp _ _ (b9 _ _ (b8 _ _ e n) n) n (ne_of_none e hL0), by rw [← hB]; exact D', kp _ _ l9 nl nlL, kp _ _ e9 nSD nSL, L', ties_snoc (ties_mono t9 fun r zs e => kp _ _ e (fun z => by obtain ⟨_, _, _, h1, _⟩ := D9; rw [z, h1] at e; cases e) (ne_of e L9 (by intro z; cases z))) r', ?_, fun t ht => ?_⟩
        · rw [tk, List.map_append]
          exact List.Sublist.append sub8 (List.Sublist.refl _)
        · rcases List.mem_append.mp ht with h | h
          · exact ok8 t h
          · rw [List.mem_singleton.mp h]; exact ⟨pN, qN, pq⟩
      have skip : ∃ (w7 u8 u9 u10 : Option V) (as : List Addr) (S : List T4), [some (.ref d), some (.int (N : Int)), some (.int (few : Int)), some (.int (gr : Int)), some (.ref SD), some (.bl fr), some (.ref L), u7, some (.str z), some (.int (p : Int)), some (.int (q : Int))] = [some (.ref d), some (.int (N : Int)), some (.int (few : Int)), some (.int (gr : Int)), some (.ref SD), some (.bl fr), some (.ref L), w7, u8, u9, u10] ∧ But d H H9 ∧ DeckAt H9 d (b + 5 * (C - (i + 1))) ∧ H9 l = some (.lst (zs.map V.str)) ∧ H9 SD = some (.lst (sd.map V.int)) ∧ H9 L = some (.lst (as.map V.ref)) ∧ TiesAt H9 as S ∧ (S.map (·.1)).Sublist (zs.take (i + 1)) ∧ ∀ t ∈ S, TieOk N t :=
        ⟨_, _, _, _, as, S, rfl, b8.trans b9, by rw [← hB]; exact D9.mono (by omega), l9, e9, L9, t9, by rw [tk]; exact sub8.trans (List.sublist_append_left ..), ok8⟩
      refine ⟨_, rfl, _, rfl, ?_⟩
      cases fr with
      | true => exact iteT (app _ _ _ rfl rfl rfl)
      | false =>
        refine iteF ?_
        have ip : atI (sd.map V.int) (p : Int) = some (.int (sd[p]'(by omega))) := atI_nat (by rw [List.getElem?_map, getq (by omega)]; rfl)
        have iq : atI (sd.map V.int) (q : Int) = some (.int (sd[q]'(by omega))) := atI_nat (by rw [List.getElem?_map, getq (by omega)]; rfl)
        refine ⟨_, rfl, _, rfl, SD, _, _, _, rfl, rfl, SqL.of e9, ip, _, rfl, _, rfl, SD, _, _, _, rfl, rfl, SqL.of e9, iq, rfl, _, rfl, ite2 (fun _ => app _ _ _ rfl rfl rfl) fun _ => skip⟩
    · rintro σ H8 ⟨u7, u8, u9, u10, as, S, rfl, b8, D8, l8, e8, L8, t8, sub8, ok8⟩
      have Sl : S.length ≤ 60 := by
        have := sub8.length_le
        rw [List.length_map, List.length_take] at this; omega
      obtain ⟨hz, hat, hsn⟩ := zip_rows keysOf t8.1 t8.2
      have hS : (((as.zip S).map fun q => ((q.1, keysOf q.2) : Srt.Row)).map (fun q => tieOf q.2)).Perm S := by
        rw [List.map_map]
        have : ((fun q : Srt.Row => tieOf q.2) ∘ fun q : Addr × T4 => ((q.1, keysOf q.2) : Srt.Row)) = Prod.snd := by funext q; exact tieOf_keys q.2
        rw [this, hsn]
      have hlz : ((as.zip S).map fun q => ((q.1, keysOf q.2) : Srt.Row)).length ≤ 60 := by rw [List.length_map, List.length_zip]; omega
      have hat' : ∀ q ∈ (as.zip S).map fun q => ((q.1, keysOf q.2) : Srt.Row), IsTie q.2 ∧ H8 q.1 = some (.tup (q.2.map kV)) := fun q hq => by
        obtain ⟨⟨t, _, e⟩, h⟩ := hat q hq
        exact ⟨⟨t, e⟩, h⟩
      generalize ((as.zip S).map fun q => ((q.1, keysOf q.2) : Srt.Row)) = qs at hz hat' hS hlz
      refine ⟨_, rfl, L, qs, rfl, SqL.of (by rw [hz]; exact L8), ⟨fun q hq => SqT.of (hat' q hq).2, fun q hq q' hq' => ?_, fun q hq => ?_, by omega⟩, fun lr qs' hl' perm srt => ?_⟩
      · obtain ⟨⟨t, e⟩, _⟩ := hat' q hq
        obtain ⟨⟨t', e'⟩, _⟩ := hat' q' hq'
        rw [e, e']; rfl
      · obtain ⟨⟨t, e⟩, _⟩ := hat' q hq
        rw [e]; simp [keysOf]
      have sl := same_new (o := .lst (qs'.map Srt.rRef)) hl'
      have l10 := upd_same (H := H8) (a := lr) (o := .lst (qs'.map Srt.rRef))
      generalize upd H8 lr (.lst (qs'.map Srt.rRef)) = H9 at sl l10
      refine ⟨lr, _, rfl, .inl ⟨SqL.of l10, fun st hst => ?_⟩⟩
      have ss := same_new (o := .tup (qs'.map Srt.rRef)) hst
      obtain ⟨x1, x2⟩ := rows_stand hat' hS perm srt (sl.trans ss) upd_same
      have xn := nms_of x2
      have xp := x2.1
      refine k st _ _ (b8.trans (But.of (sl.trans ss))) ((D8.mono (by omega)).same (sl.trans ss)) x1 ⟨fun t ht => ⟨(ok8 t (xp.mem_iff.mp ht)).1, (ok8 t (xp.mem_iff.mp ht)).2.1⟩, ?_, xn, by rw [xp.length_eq]; exact Sl⟩ (fun t ht => (ok8 t (xp.mem_iff.mp ht)).2.2) fun t ht => z9 _ (List.mem_of_mem_take (sub8.subset (List.mem_map_of_mem (xp.mem_iff.mp ht))))
      rw [(xp.map _).nodup_iff]
      exact (znd.sublist (List.take_sublist ..)).sublist sub8
end
end K56
set_option maxHeartbeats 1000000
namespace K56
open PySem L2 Wk
structure Good (N : Nat) (S : List T4) (ns : List Int) : Prop where
  len : ns.length = N
  two : ∀ v, v < N → ns.getD v 0 = 0 ∨ ns.getD v 0 = 1
  ties : ∀ t ∈ S, ns.getD t.2.1 0 ≠ ns.getD t.2.2.1 0
theorem int_at {ns : List Int} {v : Nat} (h : v < ns.length) : atI (ns.map V.int) (v : Int) = some (.int (ns.getD v 0)) := atI_nat (by rw [List.getElem?_map, getq h, List.getD_eq_getElem?_getD, getq h]; rfl)
def TK (H H' : Hp) : Prop := ∀ r zs, H r = some (.tup zs) → H' r = some (.tup zs)
theorem TK.trans {H H1 H2 : Hp} (a : TK H H1) (b : TK H1 H2) : TK H H2 := fun r zs e => b r zs (a r zs e)
theorem TK.of {H H' : Hp} (s : Same H H') : TK H H' := fun r zs e => s _ _ e
theorem TK.lst {H : Hp} {l : Addr} {xs : List V} {o : HO} (h : H l = some (.lst xs)) : TK H (upd H l o) := fun r zs e => by rw [upd_ne (ne_of e h (by intro z; cases z))]; exact e
theorem TK.dk {H : Hp} {l : Addr} {xs : List (Key × V)} {o : HO} (h : H l = some (.dK xs)) : TK H (upd H l o) := fun r zs e => by rw [upd_ne (ne_of e h (by intro z; cases z))]; exact e
theorem But.tk {d : Addr} {H H' : Hp} (h : But d H H') {n : Nat} (D : DeckAt H d n) : TK H H' := fun r zs e => h.tup D e
theorem StandAt.tk {H H' : Hp} {st : Addr} {S : List T4} (h : StandAt H st S) (f : TK H H') : StandAt H' st S := let ⟨xs, a1, a2⟩ := h; ⟨xs, f _ _ a1, a2.1, fun i r t e g => f _ _ (a2.2 i r t e g)⟩
abbrev Ks := List (Nat × Int)
def ksK (ks : Ks) : List (Key × V) := ks.map fun p => (Sum.inl (p.1 : Int), V.int p.2)
structure KsOk (N : Nat) (ks : Ks) : Prop where
  nd : (ks.map (·.1)).Nodup
  ok : ∀ p ∈ ks, p.1 < N ∧ (p.2 = 0 ∨ p.2 = 1)
def sdV : Ks → Nat → Int
  | [], _ => 0
  | p :: ks, v => if p.1 = v then p.2 else sdV ks v
theorem ks_none {ks : Ks} {v : Nat} (h : v ∉ ks.map (·.1)) : valV (ksK ks) (Sum.inl (v : Int)) = none := by
  unfold ksK
  induction ks with
  | nil => rfl
  | cons p ks ih =>
    rw [List.map_cons, List.mem_cons, not_or] at h
    rw [List.map_cons, valV_neg (by intro e; exact h.1 (by injection e with e; omega))]
    exact ih h.2
theorem ks_some {ks : Ks} {v : Nat} (h : v ∈ ks.map (·.1)) : valV (ksK ks) (Sum.inl (v : Int)) = some (.int (sdV ks v)) := by
  unfold ksK
  induction ks with
  | nil => cases h
  | cons p ks ih =>
    rw [List.map_cons]
    by_cases e : p.1 = v
    · rw [valV_pos (by rw [e])]; unfold sdV; rw [if_pos e]
    · rw [valV_neg (by intro z; injection z with z; omega)]
      rw [List.map_cons] at h
      unfold sdV; rw [if_neg e]
      exact ih ((List.mem_cons.mp h).resolve_left (Ne.symm e))
theorem ks_two {N : Nat} {ks : Ks} {v : Nat} (h : KsOk N ks) (hv : v ∈ ks.map (·.1)) : sdV ks v = 0 ∨ sdV ks v = 1 := by
  have ok := h.ok
  clear h
  induction ks with
  | nil => cases hv
  | cons p ks ih =>
    unfold sdV
    split
    · exact (ok p (List.mem_cons_self ..)).2
    · rename_i e
      rw [List.map_cons] at hv
      exact ih ((List.mem_cons.mp hv).resolve_left (Ne.symm e)) fun p hp => ok p (List.mem_cons_of_mem _ hp)
theorem ks_put {ks : Ks} {v : Nat} {s : Int} (h : v ∉ ks.map (·.1)) : putK (ksK ks) (Sum.inl (v : Int)) (.int s) = ksK (ks ++ [(v, s)]) := by
  rw [putK_new _ (ks_none h)]
  unfold ksK
  rw [List.map_append]; rfl
theorem KsOk.len {N : Nat} {ks : Ks} (h : KsOk N ks) : ks.length ≤ N := by
  have := nodup_le (ks.map (·.1)) (List.range N) h.nd fun v hv => by
    obtain ⟨p, hp, rfl⟩ := List.mem_map.mp hv
    exact List.mem_range.mpr (h.ok p hp).1
  rwa [List.length_map, List.length_range] at this
theorem KsOk.snoc {N : Nat} {ks : Ks} {v : Nat} {s : Int} (h : KsOk N ks) (hv : v ∉ ks.map (·.1)) (vN : v < N) (s2 : s = 0 ∨ s = 1) : KsOk N (ks ++ [(v, s)]) := by
  refine ⟨?_, fun p hp => ?_⟩
  · rw [List.map_append]
    refine List.nodup_append.mpr ⟨h.nd, List.nodup_cons.mpr ⟨by simp, List.nodup_nil⟩, fun x hx z hz e => ?_⟩
    rw [List.mem_singleton.mp hz] at e
    have e : x = v := e
    exact hv (e ▸ hx)
  · rcases List.mem_append.mp hp with h1 | h1
    · exact h.ok p h1
    · rw [List.mem_singleton.mp h1]; exact ⟨vN, s2⟩
def RowOk (N : Nat) (S : List T4) (ks : Ks) (H : Hp) (r : Addr) : Prop := ∃ (p : Nat) (s : Int), p < N ∧ (s = 0 ∨ s = 1) ∧ (p ∈ ks.map (·.1) ∨ Par N S p s) ∧ H r = some (.tup [.int (p : Int), .int s])
theorem RowOk.tk {N : Nat} {S : List T4} {ks : Ks} {H H' : Hp} {r : Addr} (h : RowOk N S ks H r) (f : TK H H') : RowOk N S ks H' r := let ⟨p, s, a, b, d, c⟩ := h; ⟨p, s, a, b, d, f _ _ c⟩
theorem RowOk.more {N : Nat} {S : List T4} {ks : Ks} {H : Hp} {r : Addr} {x : Nat × Int} (h : RowOk N S ks H r) : RowOk N S (ks ++ [x]) H r := let ⟨p, s, a, b, d, c⟩ := h; ⟨p, s, a, b, d.imp (fun z => by rw [List.map_append]; exact List.mem_append_left _ z) id, c⟩
def Nb (S : List T4) (ks : Ks) (v : Nat) : Prop := ∃ t ∈ S, (t.2.1 ∈ ks.map (·.1) ∧ v = t.2.2.1) ∨ (t.2.2.1 ∈ ks.map (·.1) ∧ v = t.2.1)
def Bs (L : List T4) (p v : Nat) : Prop := ∃ t ∈ L, (p = t.2.1 ∧ v = t.2.2.1) ∨ (p = t.2.2.1 ∧ v = t.2.1)
theorem Nb.snoc {S : List T4} {ks : Ks} {p v : Nat} {s : Int} (h : Nb S (ks ++ [(p, s)]) v) : Nb S ks v ∨ Bs S p v := by
  obtain ⟨t, ht, ⟨a, b⟩ | ⟨a, b⟩⟩ := h
  · rw [List.map_append] at a
    rcases List.mem_append.mp a with z | z
    · exact .inl ⟨t, ht, .inl ⟨z, b⟩⟩
    · exact .inr ⟨t, ht, .inl ⟨(List.mem_singleton.mp z).symm, b⟩⟩
  · rw [List.map_append] at a
    rcases List.mem_append.mp a with z | z
    · exact .inl ⟨t, ht, .inr ⟨z, b⟩⟩
    · exact .inr ⟨t, ht, .inr ⟨(List.mem_singleton.mp z).symm, b⟩⟩
theorem sd_par {N : Nat} {S : List T4} {ks : Ks} {v : Nat} (h : ∀ p ∈ ks, Par N S p.1 p.2) (hv : v ∈ ks.map (·.1)) : Par N S v (sdV ks v) := by
  induction ks with
  | nil => cases hv
  | cons p ks ih =>
    unfold sdV
    split
    · rename_i e
      rw [← e]; exact h p (List.mem_cons_self ..)
    · rename_i e
      rw [List.map_cons] at hv
      exact ih (fun p hp => h p (List.mem_cons_of_mem _ hp)) ((List.mem_cons.mp hv).resolve_left (Ne.symm e))
theorem meas {N k s : Nat} (h : k < N) : (N - (k + 1)) * (s + 1) + (s + 1) = (N - k) * (s + 1) := by
  have e : N - k = N - (k + 1) + 1 := by omega
  rw [e, Nat.succ_mul]
theorem last_rows {rs : List Addr} {r : Addr} (h : rs[rs.length - 1]? = some r) (q : Addr) (hq : q ∈ rs) : q ∈ rs.dropLast ∨ q = r := by
  have hn : rs ≠ [] := fun e => by subst e; cases hq
  have e := List.dropLast_concat_getLast hn
  rw [← e] at hq
  rcases List.mem_append.mp hq with h1 | h1
  · exact .inl h1
  · refine .inr ?_
    rw [List.mem_singleton.mp h1, List.getLast_eq_getElem]
    have hl : rs.length - 1 < rs.length := by cases rs with | nil => exact absurd rfl hn | cons a l => simp
    rw [getq hl] at h
    exact Option.some.inj h
theorem small5 {n : Nat} (h : n ≤ 5000) : n < sizeLine := Nat.lt_of_le_of_lt h (by decide)
def spParting : Sp := fun vs H Q _ => ∃ (N : Nat) (st : Addr) (S : List T4), vs = [.int (N : Int), .ref st] ∧ StandAt H st S ∧ InN N S ∧ S.length ≤ 60 ∧ N ≤ 60 ∧ (∀ H', Same H H' → ¬ Two S → Q .non H') ∧ ∀ (r : Addr) (ns : List Int) (H' : Hp), Same H H' → H' r = some (.tup (ns.map V.int)) → Good N S ns → (∀ v, v < N → Par N S v (ns.getD v 0)) → Q (.ref r) H'
section
variable {P : Program} {w : World} {K : PySem.W.Frag} {mg : Str → Option Value} {base : Heap}
theorem scParting : FnScope ["_law_many", "_law_ties", "_law_sides", "_law_begin", "_law_line", "_law_place", "_law_side", "_law_tie"] ["_law_many", "_law_ties"] (defScope sParting) := ⟨rfl, rfl, rfl, by decide +kernel, rfl, by decide +kernel, by decide +kernel⟩
theorem ok_Parting {f : Addr} {fd : FuncData} (F : Fun K "_law_parting" "_law_parting" sParting f fd) (T : Txt mg) :
    FnOk P w K mg base CX0 1 f fd ["_law_many", "_law_ties"] spParting := by
  refine F.ok scParting (fun vs H Q E h => ?_) (fun cdv A outer s H vs Q E hr h => ?_)
  · obtain ⟨_, _, _, rfl, _⟩ := h; rfl
  · obtain ⟨N, st, S, rfl, ⟨rs, hst, hrs⟩, SN, S60, N60, k0, k1⟩ := h
    refine ⟨_, pss_cons (ps_set (i := 2) scParting.nd rfl (Or.inr rfl) pe_dnewK)
      (pss_cons (ps_for PassesOwn.never rfl (pi_range1 rfl T.range (pa_cons (pv 0) pa_nil)) (pg_name (i := 3) scParting.nd rfl (Or.inl rfl)) (pss_cons (ps_set (i := 4) scParting.nd rfl (Or.inl rfl) (pe_lst (pa_cons (pe_tup (pa_cons (pv 3) (pa_cons pe_int pa_nil))) pa_nil)))
      (pss_one (ps_while PassesOwn.never (pt_cmpR (op_neNil hr.units) (pv 4) (pe_lst pa_nil) (nomark _)) (pss_cons (ps_asg (pe_bm0 PySem.F.plainAttrs_list PySem.F.slot_list_pop PySem.F.type_list_pop mt_pop (pv 4)) (pg_tup rfl (pgs_cons (pg_name (i := 5) scParting.nd rfl (Or.inl rfl)) (pgs_cons (pg_name (i := 6) scParting.nd rfl (Or.inl rfl)) pgs_nil))))
      (pss_one (ps_if (pt_cmp (pc_dnotin (hu_of hr) (pv 5) (pv 2))) (pss_cons (ps_dput (hu_of hr) (pv 2) (pv 5) (pv 6) rfl)
      (pss_one (ps_for PassesOwn.never rfl (pi_tup (pv 1)) (pg_name (i := 7) scParting.nd rfl (Or.inl rfl)) (pss_one (ps_if (pt_cmpR op_in_seq (pv 5) (pe_slice sl_tup (pv 7) (po_some pe_int) (po_some pe_int)) (by rfl)) (pss_one (ps_expr (pe_bm PySem.F.plainAttrs_list PySem.F.slot_list_append PySem.F.type_list_append mt_append (pv 4) (pa_cons (pe_tup (pa_cons (pe_op op_sub (pe_op op_add (pe_ix ix_tup (pv 7) pe_int (fun _ _ => rfl)) (pe_ix ix_tup (pv 7) pe_int (fun _ _ => rfl))) (pv 5)) (pa_cons (pe_op op_sub pe_int (pv 6)) pa_nil))) pa_nil)))) pss_nil))))) pss_nil)))))))
      (pss_cons (ps_if (pt_cmpR (op_neNil hr.units) (pe_comp (T := ["_law_tie"]) (F := ["_law_sides"]) (js := [2]) (CS.to (osc := defScope sParting) ⟨by rfl, by decide +kernel, by decide +kernel, by decide +kernel, by decide +kernel, by decide +kernel, by decide +kernel⟩ rfl rfl) rfl (pi_tup (pv 1)) (fun _ _ _ _ _ => pg_name (i := 0) (show (["_law_tie", "_law_sides"] : List Str).Nodup by decide +kernel) rfl (Or.inl rfl)) (fun _ _ _ _ _ => pif_one (pt_cmpR op_eq (pe_dget (hu_of hr) (pv 1) (pe_ix (r := rIxT K) ix_tup (pv 0) pe_int (fun _ _ => rfl)) (fun _ _ => rfl)) (pe_dget (hu_of hr) (pv 1) (pe_ix (r := rIxT K) ix_tup (pv 0) pe_int (fun _ _ => rfl)) (fun _ _ => rfl)) (nomark _))) (fun _ _ _ _ _ => pv 0)) (pe_lst pa_nil) (nomark _)) (pss_one (ps_ret pe_non)) pss_nil)
      (pss_one (ps_ret (pe_callTy call_tuple_of (by rfl) T.tuple (by decide +kernel) (pa_cons (pe_comp (T := ["_law_place"]) (F := ["_law_sides"]) (js := [2]) (CS.to (osc := defScope sParting) ⟨by rfl, by decide +kernel, by decide +kernel, by decide +kernel, by decide +kernel, by decide +kernel, by decide +kernel⟩ rfl rfl) rfl (pi_range1 rfl T.range (pa_cons (pv 0) pa_nil)) (fun _ _ _ _ _ => pg_name (i := 0) (show (["_law_place", "_law_sides"] : List Str).Nodup by decide +kernel) rfl (Or.inl rfl)) (fun _ _ _ _ _ => pif_nil) (fun _ _ _ _ _ => pe_dget (hu_of hr) (pv 1) (pv 0) (fun _ _ => rfl))) pa_nil)))))), ?_⟩
    intro d hd
    have s1 := same_new (o := .dK []) hd
    have d1 := upd_same (H := H) (a := d) (o := .dK [])
    generalize upd H d (.dK []) = H1 at s1 d1
    refine ⟨_, rfl, (N : Int), rfl, by omega, by omega, for_range (lo := 0) (n := (N : Int).toNat) (fun i σ H5 => ∃ (u3 u4 u5 u6 u7 : Option V) (ks : Ks), σ = [some (.int (N : Int)), some (.ref st), some (.ref d), u3, u4, u5, u6, u7] ∧ Same H H5 ∧ H5 d = some (.dK (ksK ks)) ∧ KsOk N ks ∧ (∀ p ∈ ks, Par N S p.1 p.2) ∧ (∀ v, Nb S ks v → v ∈ ks.map (·.1)) ∧ ∀ v, v < i → v ∈ ks.map (·.1)) ⟨_, _, _, _, _, [], rfl, s1, d1, ⟨by simp, by simp⟩, by simp, (fun v ⟨t, _, h⟩ => by rcases h with ⟨z, _⟩ | ⟨z, _⟩ <;> cases z), fun v h => absurd h (by omega)⟩ ?_ ?_⟩
    · rintro i σ H5 hi ⟨u3, u4, u5, u6, u7, ks, rfl, s5, d5, K5, q5, c5, m5⟩
      have hi : i < N := by simpa using hi
      refine ⟨_, rfl, small (by simp), fun t0 ht0 => ?_⟩
      have s6 := same_new (o := .tup [.int (0 + (i : Int)), .int 0]) ht0
      have t6 : upd H5 t0 (.tup [.int (0 + (i : Int)), .int 0]) t0 = some (.tup [.int (i : Int), .int 0]) := by rw [upd_same, Int.zero_add]
      generalize upd H5 t0 (.tup [.int (0 + (i : Int)), .int 0]) = H6 at s6 t6
      refine ⟨small (by simp), fun l hl => ?_⟩
      have s7 := same_new (o := .lst [.ref t0]) hl
      have l7 := upd_same (H := H6) (a := l) (o := .lst [.ref t0])
      have t7 := s7 _ _ t6
      have S7 := (s5.trans s6).trans s7
      have d7 := s7 _ _ (s6 _ _ d5)
      have hl0 : H l = none := none_of (s5.trans s6) hl
      generalize upd H6 l (.lst [.ref t0]) = H7 at s7 l7 t7 S7 d7
      have nld : l ≠ d := (ne_of d7 l7 (by intro z; cases z)).symm
      have low : i ∈ ks.map (·.1) ∨ Par N S i 0 := by
        by_cases hik : i ∈ ks.map (·.1)
        · exact .inl hik
        · exact .inr (Par.least (next_least (M := fun v => v ∈ ks.map (·.1)) SN N60 hi (fun t ht => ⟨fun h => c5 _ ⟨t, ht, .inl ⟨h, rfl⟩⟩, fun h => c5 _ ⟨t, ht, .inr ⟨h, rfl⟩⟩⟩) m5 hik))
      dsimp only [gName, tSeq]
      refine while_gh (fun m σ H8 => ∃ (u5 u6 u7 : Option V) (ks : Ks) (qs : List Addr), σ = [some (.int (N : Int)), some (.ref st), some (.ref d), some (.int (0 + (i : Int))), some (.ref l), u5, u6, u7] ∧ Same H H8 ∧ H8 d = some (.dK (ksK ks)) ∧ KsOk N ks ∧ H8 l = some (.lst (qs.map V.ref)) ∧ (∀ q ∈ qs, RowOk N S ks H8 q) ∧ (∀ p ∈ ks, Par N S p.1 p.2) ∧ (∀ v, v < i → v ∈ ks.map (·.1)) ∧ (∀ v, (v = i ∨ Nb S ks v) → v ∈ ks.map (·.1) ∨ ∃ q ∈ qs, ∃ s : Int, H8 q = some (.tup [.int (v : Int), .int s])) ∧ m = (N - ks.length) * (S.length + 1) + qs.length ∧ m ≤ 4000) (m0 := (N - ks.length) * (S.length + 1) + 1) ⟨_, _, _, ks, [t0], rfl, S7, d7, K5, l7, fun q hq => by rw [List.mem_singleton.mp hq]; exact ⟨i, 0, hi, .inl rfl, low, t7⟩, q5, m5, fun v hv => hv.elim (fun e => .inr ⟨t0, List.mem_singleton.mpr rfl, 0, by rw [e]; exact t7⟩) fun nb => .inl (c5 v nb), rfl, ?_⟩ ?_ ?_
      · have : (N - ks.length) * (S.length + 1) ≤ 60 * 61 := Nat.mul_le_mul (by omega) (by omega)
        omega
      rotate_left
      · rintro σ H Q Q' f ⟨v4, e4, z0, h⟩
        exact ⟨v4, e4, z0, fun p hp => let ⟨a, b, xs, ea, eb, sa, sb, bb, ebb, q⟩ := h p hp; ⟨a, b, xs, ea, eb, sa, sb, bb, ebb, f _ _ q⟩⟩
      rintro m σ H8 ⟨u5, u6, u7, ks, qs, rfl, s8, d8, K8, l8, r8, q8, m8, i8, hm, m4⟩
      refine ⟨_, rfl, small (by simp), fun e he => ?_⟩
      have s9 := same_new (o := .lst []) he
      have e9 := upd_same (H := H8) (a := e) (o := .lst [])
      have S9 := s8.trans s9
      have d9 := s9 _ _ d8
      have l9 := s9 _ _ l8
      have r9 : ∀ q ∈ qs, RowOk N S ks (upd H8 e (.lst [])) q := fun q hq => (r8 q hq).tk (TK.of s9)
      have i9 : ∀ v, (v = i ∨ Nb S ks v) → v ∈ ks.map (·.1) ∨ ∃ q ∈ qs, ∃ s : Int, upd H8 e (.lst []) q = some (.tup [.int (v : Int), .int s]) := fun v hv => (i8 v hv).imp id fun ⟨q, hq, s, h⟩ => ⟨q, hq, s, s9 _ _ h⟩
      clear r8 i8
      generalize upd H8 e (.lst []) = H9 at s9 e9 S9 d9 l9 r9 i9
      refine ⟨l, e, _, rfl, rfl, SqL.of l9, SqL.of e9, _, rfl, ?_⟩
      by_cases g : qs = []
      · subst g
        refine iteF ⟨_, _, _, _, _, ks, rfl, S9, d9, K8, q8, (fun v nb => (i9 v (.inr nb)).resolve_right fun ⟨q, hq, _⟩ => by cases hq), fun v hv => ?_⟩
        by_cases ev : v = i
        · rw [ev]
          exact (i9 i (.inl rfl)).resolve_right fun ⟨q, hq, _⟩ => by cases hq
        · exact m8 v (by omega)
      rw [show (!(qs.map V.ref).isEmpty) = true by cases qs with | nil => exact absurd rfl g | cons a b => rfl]
      refine iteT ?_
      have hlq : qs.length - 1 < qs.length := by cases qs with | nil => exact absurd rfl g | cons a b => simp
      have hlast := getq hlq
      generalize qs[qs.length - 1] = r at hlast
      obtain ⟨p, s, pN, s2, par, er⟩ := r9 r (List.mem_of_getElem? hlast)
      refine ⟨_, rfl, .inl ⟨rfl, _, SqL.of l9⟩, l, _, _, rfl, rfl, l9, (by rw [List.length_map, List.getElem?_map, hlast]; rfl), ?_⟩
      have tkA := TK.lst (o := .lst (qs.map V.ref).dropLast) l9
      have lA : upd H9 l (.lst (qs.map V.ref).dropLast) l = some (.lst (qs.dropLast.map V.ref)) := by rw [upd_same, List.map_dropLast]
      have SA : Same H (upd H9 l (.lst (qs.map V.ref).dropLast)) := same_set S9 hl0
      have dA : upd H9 l (.lst (qs.map V.ref).dropLast) d = some (.dK (ksK ks)) := by rw [upd_ne nld.symm]; exact d9
      generalize upd H9 l (.lst (qs.map V.ref).dropLast) = HA at tkA lA SA dA
      have rA : ∀ q ∈ qs.dropLast, RowOk N S ks HA q := fun q hq => (r9 q (List.dropLast_subset _ hq)).tk tkA
      have erA := tkA _ _ er
      have iA : ∀ v, (v = i ∨ Nb S ks v) → (v ∈ ks.map (·.1) ∨ p = v) ∨ ∃ q ∈ qs.dropLast, ∃ s : Int, HA q = some (.tup [.int (v : Int), .int s]) := fun v hv => by
        rcases i9 v hv with h | ⟨q, hq, s', h⟩
        · exact .inl (.inl h)
        · rcases last_rows hlast q hq with h1 | rfl
          · exact .inr ⟨q, h1, s', tkA _ _ h⟩
          · rw [er] at h
            injection h with h
            injection h with h
            injection h with h _
            injection h with h
            exact .inl (.inr (by omega))
      have lq : qs.dropLast.length + 1 = qs.length := by rw [List.length_dropLast]; omega
      generalize qs.dropLast = qs' at lA rA iA lq
      refine ⟨r, _, rfl, SqT.of erA, rfl, _, _, rfl, _, _, rfl, rfl, ?_⟩
      by_cases hp : p ∈ ks.map (·.1)
      · refine ⟨_, rfl, _, rfl, d, _, rfl, DGet.k (k := Sum.inl (p : Int)) dA, _, rfl, ?_⟩
        rw [ks_some hp]
        refine iteF ⟨m - 1, by omega, _, _, _, ks, qs', rfl, SA, dA, K8, lA, rA, q8, m8, fun v hv => ?_, by omega, by omega⟩
        rcases iA v hv with (h | h) | h
        · exact .inl h
        · exact .inl (h ▸ hp)
        · exact .inr h
      refine ⟨_, rfl, _, rfl, d, _, rfl, DGet.k (k := Sum.inl (p : Int)) dA, _, rfl, ?_⟩
      rw [ks_none hp]
      refine iteT ?_
      have par := par.resolve_left hp
      have qB : ∀ x ∈ ks ++ [(p, s)], Par N S x.1 x.2 := fun x hx => by
        rcases List.mem_append.mp hx with z | z
        · exact q8 x z
        · rw [List.mem_singleton.mp z]; exact par
      have KB := K8.snoc hp pN s2
      have kl := KB.len
      rw [List.length_append] at kl
      have kl : ks.length + 1 ≤ N := kl
      refine ⟨_, rfl, _, rfl, _, rfl, d, _, rfl, DPut.k (k := Sum.inl (p : Int)) dA (small1000 (by unfold ksK; rw [List.length_map]; omega)), ?_⟩
      rw [ks_put hp]
      have tkB := TK.dk (o := .dK (ksK (ks ++ [(p, s)]))) dA
      have dB := upd_same (H := HA) (a := d) (o := .dK (ksK (ks ++ [(p, s)])))
      have SB : Same H (upd HA d (.dK (ksK (ks ++ [(p, s)])))) := same_set SA hd
      have lB : upd HA d (.dK (ksK (ks ++ [(p, s)]))) l = some (.lst (qs'.map V.ref)) := by rw [upd_ne nld]; exact lA
      have rB : ∀ q ∈ qs', RowOk N S (ks ++ [(p, s)]) (upd HA d (.dK (ksK (ks ++ [(p, s)])))) q := fun q hq => (rA q hq).more.tk tkB
      have iB : ∀ v, (v = i ∨ Nb S ks v) → v ∈ (ks ++ [(p, s)]).map (·.1) ∨ ∃ q ∈ qs', ∃ s' : Int, upd HA d (.dK (ksK (ks ++ [(p, s)]))) q = some (.tup [.int (v : Int), .int s']) := fun v hv => by
        rw [List.map_append]
        rcases iA v hv with (h | h) | ⟨q, hq, s', h⟩
        · exact .inl (List.mem_append_left _ h)
        · exact .inl (List.mem_append_right _ (by rw [h]; exact List.mem_singleton.mpr rfl))
        · exact .inr ⟨q, hq, s', tkB _ _ h⟩
      have mB : ∀ v, v < i → v ∈ (ks ++ [(p, s)]).map (·.1) := fun v hv => by rw [List.map_append]; exact List.mem_append_left _ (m8 v hv)
      generalize upd HA d (.dK (ksK (ks ++ [(p, s)]))) = HB at tkB dB SB lB rB iB
      have hmB : (N - (ks.length + 1)) * (S.length + 1) + (S.length + 1) + qs'.length + 1 = m := by rw [meas (by omega)]; omega
      have stB := SB _ _ hst
      refine ⟨_, rfl, st, rfl, ⟨_, SqT.of stB⟩, for_tup (K := K) (a := st) (xs := rs.map V.ref) (fun j σ HC => ∃ (u7 : Option V) (qs : List Addr), σ = [some (.int (N : Int)), some (.ref st), some (.ref d), some (.int (0 + (i : Int))), some (.ref l), some (.int (p : Int)), some (.int s), u7] ∧ Same H HC ∧ HC d = some (.dK (ksK (ks ++ [(p, s)]))) ∧ HC l = some (.lst (qs.map V.ref)) ∧ (∀ q ∈ qs, RowOk N S (ks ++ [(p, s)]) HC q) ∧ (∀ v, ((v = i ∨ Nb S ks v) ∨ Bs (S.take j) p v) → v ∈ (ks ++ [(p, s)]).map (·.1) ∨ ∃ q ∈ qs, ∃ s' : Int, HC q = some (.tup [.int (v : Int), .int s'])) ∧ qs.length ≤ qs'.length + j) ⟨_, qs', rfl, SB, dB, lB, rB, fun v hv => iB v (hv.resolve_right fun ⟨t, ht, _⟩ => by simp at ht), Nat.le_refl _⟩ (fun j σ HC _ ⟨_, _, _, s, _⟩ => SqT.of (s _ _ hst)) ?_ ?_⟩
      · rintro j x σ HC hx ⟨u7, ps, rfl, sC, dC, lC, rC, iC, pl⟩
        obtain ⟨r2, hr', rfl⟩ := map_some hx
        obtain ⟨t, ht, er2⟩ := hrs.get hr'
        have tN := SN t (List.mem_of_getElem? ht)
        have hj : j < S.length := (List.getElem?_eq_some_iff.mp ht).1
        have erC := sC _ _ er2
        have tk : S.take (j + 1) = S.take j ++ [t] := by rw [List.take_add_one, ht]; rfl
        refine ⟨_, rfl, _, rfl, _, rfl, _, rfl, r2, _, rfl, SqT.of erC, (fun q => absurd (show (1 : Nat) = 0 from q.1) (by decide)), fun c2 hc2 => ?_⟩
        have ec : cutV (tieV t) (some 1) (some 3) = [.int (t.2.1 : Int), .int (t.2.2.1 : Int)] := rfl
        rw [ec]
        have sD := same_new (o := .tup [.int (t.2.1 : Int), .int (t.2.2.1 : Int)]) hc2
        have cD := upd_same (H := HC) (a := c2) (o := .tup [.int (t.2.1 : Int), .int (t.2.2.1 : Int)])
        have SD := sC.trans sD
        have dD := sD _ _ dC
        have lD := sD _ _ lC
        have rD : ∀ q ∈ ps, RowOk N S (ks ++ [(p, s)]) (upd HC c2 (.tup [.int (t.2.1 : Int), .int (t.2.2.1 : Int)])) q := fun q hq => (rC q hq).tk (TK.of sD)
        have iD : ∀ v, ((v = i ∨ Nb S ks v) ∨ Bs (S.take j) p v) → v ∈ (ks ++ [(p, s)]).map (·.1) ∨ ∃ q ∈ ps, ∃ s' : Int, upd HC c2 (.tup [.int (t.2.1 : Int), .int (t.2.2.1 : Int)]) q = some (.tup [.int (v : Int), .int s']) := fun v hv => (iC v hv).imp id fun ⟨q, hq, s', h⟩ => ⟨q, hq, s', sD _ _ h⟩
        have erD := sD _ _ erC
        generalize upd HC c2 (.tup [.int (t.2.1 : Int), .int (t.2.2.1 : Int)]) = HD at sD cD SD dD lD rD iD erD
        refine ⟨c2, _, rfl, .inr (SqT.of cD), rfl, rfl, _, rfl, ?_⟩
        show if (inV (.int (p : Int)) [.int (t.2.1 : Int), .int (t.2.2.1 : Int)]) = true then _ else _
        rw [in_ends]
        by_cases gv : p = t.2.1 ∨ p = t.2.2.1
        rotate_left
        · rw [decide_eq_false gv]
          refine iteF ?_
          refine ⟨_, ps, rfl, SD, dD, lD, rD, fun v hv => iD v (hv.imp id fun ⟨t', ht', h⟩ => ?_), by omega⟩
          rw [tk] at ht'
          rcases List.mem_append.mp ht' with z | z
          · exact ⟨t', z, h⟩
          · rw [List.mem_singleton.mp z] at h
            exact absurd (h.imp And.left And.left) gv
        rw [decide_eq_true gv]
        refine iteT ?_
        obtain ⟨y, ey, yN, yp⟩ : ∃ y : Nat, (t.2.1 : Int) + (t.2.2.1 : Int) - (p : Int) = (y : Int) ∧ y < N ∧ Par N S y (1 - s) := by
          rcases gv with e | e
          · exact ⟨t.2.2.1, by omega, tN.2, (Par.step (List.mem_of_getElem? ht)).1 (e ▸ par)⟩
          · exact ⟨t.2.1, by omega, tN.1, (Par.step (List.mem_of_getElem? ht)).2 (e ▸ par)⟩
        refine ⟨_, rfl, .inl ⟨rfl, _, SqL.of lD⟩, _, rfl, r2, _, 1, _, rfl, rfl, SqT.of erD, atI_nat (j := 1) rfl, _, rfl, r2, _, 2, _, rfl, rfl, SqT.of erD, atI_nat (j := 2) rfl, _, _, rfl, rfl, _, rfl, _, _, rfl, rfl, _, rfl, _, _, rfl, rfl, small (by simp), fun n hn => ?_⟩
        have sE := same_new (o := .tup [.int ((t.2.1 : Int) + (t.2.2.1 : Int) - (p : Int)), .int (1 - s)]) hn
        have nE := upd_same (H := HD) (a := n) (o := .tup [.int ((t.2.1 : Int) + (t.2.2.1 : Int) - (p : Int)), .int (1 - s)])
        have SE := SD.trans sE
        have dE := sE _ _ dD
        have lE := sE _ _ lD
        have rE : ∀ q ∈ ps, RowOk N S (ks ++ [(p, s)]) (upd HD n (.tup [.int ((t.2.1 : Int) + (t.2.2.1 : Int) - (p : Int)), .int (1 - s)])) q := fun q hq => (rD q hq).tk (TK.of sE)
        have iE : ∀ v, ((v = i ∨ Nb S ks v) ∨ Bs (S.take j) p v) → v ∈ (ks ++ [(p, s)]).map (·.1) ∨ ∃ q ∈ ps, ∃ s' : Int, upd HD n (.tup [.int ((t.2.1 : Int) + (t.2.2.1 : Int) - (p : Int)), .int (1 - s)]) q = some (.tup [.int (v : Int), .int s']) := fun v hv => (iD v hv).imp id fun ⟨q, hq, s', h⟩ => ⟨q, hq, s', sE _ _ h⟩
        generalize upd HD n (.tup [.int ((t.2.1 : Int) + (t.2.2.1 : Int) - (p : Int)), .int (1 - s)]) = HE at sE nE SE dE lE rE iE
        rw [ey] at nE
        refine ⟨l, _, _, rfl, rfl, lE, small5 (by rw [List.length_map]; omega), _, ps ++ [n], rfl, same_set SE hl0, by rw [upd_ne nld.symm]; exact dE, by rw [upd_same, List.map_append]; rfl, fun q hq => ?_, fun v hv => ?_, by rw [List.length_append]; show _ + 1 ≤ _; omega⟩
        · rcases List.mem_append.mp hq with h | h
          · exact (rE q h).tk (TK.lst lE)
          · rw [List.mem_singleton.mp h]
            exact ⟨y, 1 - s, yN, by omega, .inr yp, TK.lst lE _ _ nE⟩
        · have old : ((v = i ∨ Nb S ks v) ∨ Bs (S.take j) p v) ∨ v = y := by
            rcases hv with h | ⟨t', ht', h⟩
            · exact .inl (.inl h)
            · rw [tk] at ht'
              rcases List.mem_append.mp ht' with z | z
              · exact .inl (.inr ⟨t', z, h⟩)
              · rw [List.mem_singleton.mp z] at h
                exact .inr (by omega)
          rcases old with h | rfl
          · exact (iE v h).imp id fun ⟨q, hq, s', h⟩ => ⟨q, List.mem_append_left _ hq, s', TK.lst lE _ _ h⟩
          · exact .inr ⟨n, List.mem_append_right _ (List.mem_singleton.mpr rfl), _, TK.lst lE _ _ nE⟩
      · rintro σ HC ⟨u7, ps, rfl, sC, dC, lC, rC, iC, pl⟩
        rw [List.length_map, hrs.1] at pl iC
        rw [List.take_length] at iC
        exact ⟨(N - (ks.length + 1)) * (S.length + 1) + ps.length, by omega, _, _, _, ks ++ [(p, s)], ps, rfl, sC, dC, KB, lC, rC, qB, mB, fun v hv => iC v (hv.elim (fun e => .inl (.inl e)) fun nb => nb.snoc.imp .inr id), by rw [List.length_append]; rfl, by omega⟩
    · rintro σ H5 ⟨u3, u4, u5, u6, u7, ks, rfl, s5, d5, K5, q5, c5, m5⟩
      have m5 : ∀ v, v < N → v ∈ ks.map (·.1) := fun v hv => m5 v (by simpa using hv)
      have st5 := s5 _ _ hst
      refine ⟨_, rfl, st, rfl, ⟨_, SqT.of st5⟩, fun D hD => comp_tup (K := K) (a := st) (xs := rs.map V.ref) (fun j σ ys H6 => ∃ (u : Option V) (fs : List Addr), σ = [u, some (.ref d)] ∧ ys = fs.map V.ref ∧ Same H5 H6 ∧ H6 D = some (.lst ys) ∧ fs.length ≤ j ∧ (fs = [] → ∀ t ∈ S.take j, sdV ks t.2.1 ≠ sdV ks t.2.2.1) ∧ (fs ≠ [] → ∃ t ∈ S, sdV ks t.2.1 = sdV ks t.2.2.1)) ⟨none, [], rfl, rfl, same_new hD, upd_same, Nat.le_refl _, (fun _ t ht => by simp at ht), fun h => absurd rfl h⟩ (fun j σ ys H6 _ ⟨_, _, _, _, e, f, _⟩ => ⟨SqT.of (e _ _ st5), f⟩) ?_ ?_⟩
      · rintro j x σ ys H6 hx ⟨u, fs, rfl, rfl, s6, D6, fl, fa, fx⟩
        obtain ⟨r, hr', rfl⟩ := map_some hx
        obtain ⟨t, ht, er⟩ := hrs.get hr'
        have tN := SN t (List.mem_of_getElem? ht)
        have tk : S.take (j + 1) = S.take j ++ [t] := by rw [List.take_add_one, ht]; rfl
        have er6 := s6 _ _ (s5 _ _ er)
        have d6 := s6 _ _ d5
        have hj : j < S.length := (List.getElem?_eq_some_iff.mp ht).1
        have g1 := DGet.k (k := Sum.inl (t.2.1 : Int)) d6
        have g2 := DGet.k (k := Sum.inl (t.2.2.1 : Int)) d6
        rw [ks_some (m5 _ tN.1)] at g1
        rw [ks_some (m5 _ tN.2)] at g2
        refine ⟨_, rfl, _, rfl, r, _, 1, _, rfl, rfl, SqT.of er6, atI_nat (j := 1) rfl, d, _, rfl, g1, _, rfl, _, rfl, r, _, 2, _, rfl, rfl, SqT.of er6, atI_nat (j := 2) rfl, d, _, rfl, g2, rfl, _, rfl, ?_⟩
        by_cases g : sdV ks t.2.1 = sdV ks t.2.2.1
        · rw [show decide (V.int (sdV ks t.2.1) = V.int (sdV ks t.2.2.1)) = true from decide_eq_true (by rw [g])]
          refine iteT ⟨_, rfl, D6, small1000 (by rw [List.length_map]; omega), _, fs ++ [r], rfl, by rw [List.map_append]; rfl, same_set s6 hD, upd_same, by simp; omega, (fun e => absurd e (by simp)), fun _ => ⟨t, List.mem_of_getElem? ht, g⟩⟩
        · rw [show decide (V.int (sdV ks t.2.1) = V.int (sdV ks t.2.2.1)) = false from decide_eq_false (fun e => g (by injection e))]
          refine iteF ⟨_, fs, rfl, rfl, s6, D6, by omega, fun e t' ht' => ?_, fx⟩
          rw [tk] at ht'
          rcases List.mem_append.mp ht' with h | h
          · exact fa e t' h
          · rw [List.mem_singleton.mp h]; exact g
      rintro σ ys H6 ⟨u, fs, rfl, rfl, s6, D6, fl, fa, fx⟩
      rw [List.length_map, hrs.1, List.take_length] at fa
      refine ⟨small (by simp), fun e he => ?_⟩
      have se := same_new (o := .lst []) he
      have e7 := upd_same (H := H6) (a := e) (o := .lst [])
      have S7 := s6.trans se
      have D7 := se _ _ D6
      generalize upd H6 e (.lst []) = H7 at se e7 S7 D7
      refine ⟨D, e, _, rfl, rfl, SqL.of D7, SqL.of e7, _, rfl, ?_⟩
      by_cases g : fs = []
      rotate_left
      · rw [show (!(fs.map V.ref).isEmpty) = true by cases fs with | nil => exact absurd rfl g | cons a b => rfl]
        obtain ⟨t, tm, et⟩ := fx g
        exact iteT (k0 H7 (s5.trans S7) (Par.bad SN N60 tm (sd_par q5 (m5 _ (SN t tm).1)) (by rw [et]; exact sd_par q5 (m5 _ (SN t tm).2))))
      have fb := fa g
      subst g
      refine iteF ?_
      dsimp only [tNext]
      have d7 := S7 _ _ d5
      refine ⟨_, rfl, (N : Int), rfl, by omega, by omega, fun D' hD' => comp_range (lo := 0) (n := (N : Int).toNat) (fun j σ ys H8 => ∃ (u : Option V), σ = [u, some (.ref d)] ∧ ys = ((List.range j).map (sdV ks)).map V.int ∧ Same H7 H8 ∧ H8 D' = some (.lst ys)) ⟨none, rfl, rfl, same_new hD', upd_same⟩ (fun j σ ys H8 _ ⟨_, _, _, _, e⟩ => e) ?_ ?_⟩
      · rintro j σ ys H8 hj ⟨u, rfl, rfl, s8, e8⟩
        have hj : j < N := by simpa using hj
        have g1 := DGet.k (k := Sum.inl (j : Int)) (s8 _ _ d7)
        rw [ks_some (m5 _ hj)] at g1
        refine ⟨_, rfl, _, rfl, d, _, rfl, (by rw [Int.zero_add]; exact g1), e8, small1000 (by simp; omega), _, rfl, by rw [List.range_succ, List.map_append, List.map_append]; rfl, same_set s8 hD', upd_same⟩
      · rintro σ ys H8 ⟨u, rfl, rfl, s8, e8⟩
        have en : (N : Int).toNat = N := by omega
        rw [en] at e8
        refine ⟨D', _, rfl, .inl ⟨SqL.of e8, fun r hr' => ?_⟩⟩
        have gv : ∀ v, v < N → ((List.range N).map (sdV ks)).getD v 0 = sdV ks v := fun v hv => by rw [List.getD_eq_getElem?_getD, List.getElem?_map, List.getElem?_range hv]; rfl
        refine k1 r ((List.range N).map (sdV ks)) _ (((s5.trans S7).trans s8).trans (same_new hr')) upd_same ⟨by simp, fun v hv => ?_, fun t ht => ?_⟩ fun v hv => by rw [gv v hv]; exact sd_par q5 (m5 v hv)
        · rw [gv v hv]; exact ks_two K5 (m5 v hv)
        · rw [gv _ (SN t ht).1, gv _ (SN t ht).2]; exact fb t ht
end
end K56
set_option maxHeartbeats 4000000
namespace K56
open PySem L2 Wk
def rIsiK (K : PySem.W.Frag) : List V → Hp → VK → Prop := fun xs H Q => ∃ (x : V) (t : Value) (c : String) (b : Bool), xs = [x, .ty c] ∧ TyOf K H x t ∧ PySem.W.kitOne K t (.type c) = some b ∧ Q (.bl b) H
def kvL (S : List T4) (cs : List Addr) : List (Key × V) := (S.zip cs).map fun p => (Sum.inr p.1.1, V.ref p.2)
theorem kv_val : ∀ {S : List T4} {cs : List Addr} (n : Str), S.length = cs.length → (∃ (i : Nat) (t : T4) (c : Addr), S[i]? = some t ∧ cs[i]? = some c ∧ t.1 = n ∧ valV (kvL S cs) (Sum.inr n) = some (.ref c)) ∨ ((∀ t ∈ S, t.1 ≠ n) ∧ valV (kvL S cs) (Sum.inr n) = none)
  | [], _, n, _ => .inr ⟨by simp, rfl⟩
  | t :: S, [], n, h => by simp at h
  | t :: S, c :: cs, n, h => by
    have e : kvL (t :: S) (c :: cs) = (Sum.inr t.1, V.ref c) :: kvL S cs := rfl
    by_cases g : t.1 = n
    · exact .inl ⟨0, t, c, rfl, rfl, g, by rw [e, valV_pos (by rw [g])]⟩
    · have g' : ¬ ((Sum.inr t.1 : Key) = Sum.inr n) := fun z => g (by injection z)
      rcases kv_val (S := S) (cs := cs) n (by simpa using h) with ⟨i, u, c', a1, a2, a3, a4⟩ | ⟨a1, a2⟩
      · exact .inl ⟨i + 1, u, c', by simpa using a1, by simpa using a2, a3, by rw [e, valV_neg g']; exact a4⟩
      · refine .inr ⟨fun u hu => ?_, by rw [e, valV_neg g']; exact a2⟩
        rcases List.mem_cons.mp hu with rfl | z
        · exact g
        · exact a1 u z
theorem kv_keys {S : List T4} {cs : List Addr} (h : S.length = cs.length) : (kvL S cs).map (·.1) = (S.map (·.1)).map Sum.inr := by
  unfold kvL
  rw [List.map_map, List.map_map]
  have : (S.zip cs).map Prod.fst = S := by rw [List.map_fst_zip (by omega)]
  conv => rhs; rw [← this]
  rw [List.map_map]
  rfl
theorem inr_nd {xs : List Str} (h : xs.Nodup) : (xs.map (Sum.inr : Str → Key)).Nodup := by
  induction xs with
  | nil => exact List.nodup_nil
  | cons x xs ih =>
    rw [List.nodup_cons] at h
    rw [List.map_cons, List.nodup_cons]
    refine ⟨fun z => ?_, ih h.2⟩
    obtain ⟨y, hy, e⟩ := List.mem_map.mp z
    injection e with e
    exact h.1 (e ▸ hy)
def RwAt (H : Hp) (S : List T4) (fs cs : List Addr) : Prop := ∀ (i : Nat) f c t, fs[i]? = some f → cs[i]? = some c → S[i]? = some t → H f = some (.tup [.str t.1, .ref c]) ∧ H c = some (.tup [.int (t.2.1 : Int), .int (t.2.2.1 : Int)])
theorem go_none {S : List T4} {a : Nat} {xs : List Str} {n : Str} (h : goF S a xs = none) : goF S a (xs ++ [n]) = none := by
  cases e : goF S a (xs ++ [n]) with
  | none => rfl
  | some q =>
    obtain ⟨u, g, _⟩ := goF_cut e
    rw [h] at g; cases g
theorem tie_uniq : ∀ {S : List T4}, (S.map (·.1)).Nodup → ∀ {t u : T4}, t ∈ S → u ∈ S → t.1 = u.1 → t = u
  | [], _, _, _, h, _, _ => by cases h
  | x :: S, nd, t, u, ht, hu, e => by
    rw [List.map_cons, List.nodup_cons] at nd
    rcases List.mem_cons.mp ht with rfl | h1 <;> rcases List.mem_cons.mp hu with rfl | h2
    · rfl
    · exact absurd (List.mem_map.mpr ⟨u, h2, e.symm⟩) nd.1
    · exact absurd (List.mem_map.mpr ⟨t, h1, e⟩) nd.1
    · exact tie_uniq nd.2 h1 h2 e
theorem over_not {S : List T4} (nd : (S.map (·.1)).Nodup) {t : T4} (ht : t ∈ S) {v : Nat} (g : ¬ (v = t.2.1 ∨ v = t.2.2.1)) : overF S v t.1 = none := over_none fun u hu e => by
  have : u = t := tie_uniq nd hu ht e
  subst this
  exact ⟨fun z => g (.inl z), fun z => g (.inr z)⟩
def closB (N : Nat) (S : List T4) (ws : List Str) : Bool := (List.range N).any fun p => decide (goF S p ws = some p)
theorem go_ends {S : List T4} {n : Str} {ws : List Str} {p q : Nat} (h0 : ws[0]? = some n) (g : goF S p ws = some q) : ∃ t ∈ S, t.1 = n ∧ (p = t.2.1 ∨ p = t.2.2.1) := by
  cases ws with
  | nil => cases h0
  | cons m ws =>
    have h0 : m = n := by simpa using h0
    subst h0
    have g : (match overF S p m with | none => none | some u => goF S u ws) = some q := g
    by_cases no : ∀ t ∈ S, t.1 = m → p ≠ t.2.1 ∧ p ≠ t.2.2.1
    · rw [over_none no] at g; cases g
    · have ⟨t, h⟩ := Classical.not_forall.mp no
      have ⟨ht, h⟩ := Classical.not_imp.mp h
      have ⟨e, h⟩ := Classical.not_imp.mp h
      refine ⟨t, ht, e, ?_⟩
      by_cases a : p = t.2.1
      · exact .inl a
      · exact .inr (Classical.byContradiction fun b => h ⟨a, b⟩)
theorem clos_no {N : Nat} {S : List T4} {n : Str} {ws : List Str} (h0 : ws[0]? = some n) (no : ∀ t ∈ S, t.1 ≠ n) : closB N S ws = false := by
  unfold closB
  rw [List.any_eq_false]
  intro p _
  rw [decide_eq_true_eq]
  intro g
  obtain ⟨t, ht, e, _⟩ := go_ends h0 g
  exact no t ht e
theorem clos_at {N : Nat} {S : List T4} {ws : List Str} {p : Nat} (hp : p < N) (g : goF S p ws = some p) : closB N S ws = true := by
  unfold closB
  rw [List.any_eq_true]
  exact ⟨p, List.mem_range.mpr hp, decide_eq_true g⟩
theorem clos_not {N : Nat} {S : List T4} {n : Str} {ws : List Str} {t : T4} (nd : (S.map (·.1)).Nodup) (h0 : ws[0]? = some n) (ht : t ∈ S) (e : t.1 = n) (a : goF S t.2.1 ws ≠ some t.2.1) (b : goF S t.2.2.1 ws ≠ some t.2.2.1) : closB N S ws = false := by
  unfold closB
  rw [List.any_eq_false]
  intro p _
  rw [decide_eq_true_eq]
  intro g
  obtain ⟨u, hu, e', z⟩ := go_ends h0 g
  have : u = t := tie_uniq nd hu ht (by rw [e, e'])
  subst this
  rcases z with rfl | rfl
  · exact a g
  · exact b g
def spLLeads : Sp := fun vs H Q _ => ∃ (N : Nat) (st wa : Addr) (S : List T4) (ws : List Str), vs = [.ref st, .ref wa] ∧ StandAt H st S ∧ InN N S ∧ (S.map (·.1)).Nodup ∧ S.length ≤ 100 ∧ H wa = some (.tup (ws.map V.str)) ∧ 1 ≤ ws.length ∧ ∀ H', Same H H' → Q (.bl (closB N S ws)) H'
section
variable {P : Program} {w : World} {K : PySem.W.Frag} {mg : Str → Option Value} {base : Heap}
theorem scLLeads : FnScope ["_law_ties", "_law_names", "_law_ways", "_law_begin", "_law_here", "_law_name"] ["_law_ties", "_law_names"] (defScope sLLeads) := ⟨rfl, rfl, rfl, by decide +kernel, rfl, by decide +kernel, by decide +kernel⟩
theorem ok_LLeads {f : Addr} {fd : FuncData} (F : Fun K "_law_leads" "_law_leads" sLLeads f fd) (T : Txt mg) :
    FnOk P w K mg base CX0 1 f fd ["_law_ties", "_law_names"] spLLeads := by
  refine F.ok scLLeads (fun vs H Q E h => ?_) (fun cdv A outer s H vs Q E hr h => ?_)
  · obtain ⟨_, _, _, _, _, rfl, _⟩ := h; rfl
  · obtain ⟨N, st, wa, S, ws, rfl, ⟨rs, hst, hrs⟩, SN, nd, S100, hw, w1, k⟩ := h
    refine ⟨_, pss_cons (ps_set (i := 2) scLLeads.nd rfl (Or.inl rfl) (pe_callTy (call_dict_of rfl) (by rfl) T.dict (by decide +kernel) (pa_cons (pe_comp (T := ["_law_tie"]) (F := []) (js := []) (CS.to (osc := defScope sLLeads) ⟨by rfl, by decide +kernel, by decide +kernel, by decide +kernel, by decide +kernel, by decide +kernel, by decide +kernel⟩ rfl rfl) rfl (pi_tup (pv 0)) (fun _ _ _ _ _ => pg_name (i := 0) (show (["_law_tie"] : List Str).Nodup by decide +kernel) rfl (Or.inl rfl)) (fun _ _ _ _ _ => pif_nil) (fun _ _ _ _ _ => pe_tup (pa_cons (pe_ix (r := rIxT K) ix_tup (pv 0) pe_int (fun _ _ => rfl)) (pa_cons (pe_slice (r := rSlT K) sl_tup (pv 0) (po_some pe_int) (po_some pe_int)) pa_nil)))) pa_nil)))
      (pss_cons (ps_for PassesOwn.never rfl (pi_tup (pe_dget2 (hu_of hr) (pv 2) (pe_ix ix_tup (pv 1) pe_int (fun _ _ => rfl)) (pe_tup pa_nil) ⟨rfl, rfl, rfl, rfl⟩)) (pg_name (i := 3) scLLeads.nd rfl (Or.inl rfl)) (pss_cons (ps_set (i := 4) scLLeads.nd rfl (Or.inl rfl) (pv 3))
      (pss_cons (ps_for PassesOwn.never rfl (pi_tup (pv 1)) (pg_name (i := 5) scLLeads.nd rfl (Or.inl rfl)) (pss_one (ps_if (PW.pt (pw_and (pt_cmpR op_notN (pv 4) pe_non (nomark _)) (pw_and (pt_cmp (pc_din (hu_of hr) (pv 5) (pv 2))) (pw_and1 (pt_cmpR op_in_seq (pv 4) (pe_dget (hu_of hr) (pv 2) (pv 5) (fun _ _ => rfl)) (by rfl)))))) (pss_one (ps_set (i := 4) scLLeads.nd rfl (Or.inl rfl) (pe_op op_sub (pe_callB (call_sumT rfl) (by rfl) T.sum PyProof.Rows.boot_sum (pa_cons (pe_dget (hu_of hr) (pv 2) (pv 5) (fun _ _ => rfl)) pa_nil)) (pv 4)))) (pss_one (ps_set (i := 4) scLLeads.nd rfl (Or.inl rfl) pe_non)))))
      (pss_one (ps_if (pt_cmpR op_eq (pv 4) (pv 3) (nomark _)) (pss_one (ps_ret pe_bl)) pss_nil)))))
      (pss_one (ps_ret pe_bl))), ?_⟩
    refine ⟨_, rfl, st, rfl, ⟨_, SqT.of hst⟩, fun D hD => comp_tup (K := K) (a := st) (xs := rs.map V.ref) (fun j σ ys H6 => ∃ (u : Option V) (fs cs : List Addr), σ = [u] ∧ ys = fs.map V.ref ∧ Same H H6 ∧ H6 D = some (.lst ys) ∧ fs.length = j ∧ cs.length = j ∧ RwAt H6 S fs cs) ⟨none, [], [], rfl, rfl, same_new hD, upd_same, rfl, rfl, fun i f c t h => by simp at h⟩ (fun j σ ys H6 _ ⟨_, _, _, _, _, s, e, _⟩ => ⟨SqT.of (s _ _ hst), e⟩) ?_ ?_⟩
    · rintro j x σ ys H6 hx ⟨u, fs, cs, rfl, rfl, s6, D6, fl, cl, rw6⟩
      obtain ⟨r, hr', rfl⟩ := map_some hx
      obtain ⟨t, ht, er⟩ := hrs.get hr'
      have hj : j < S.length := (List.getElem?_eq_some_iff.mp ht).1
      have er6 := s6 _ _ er
      refine ⟨_, rfl, r, _, 0, _, rfl, rfl, SqT.of er6, atI_nat (j := 0) rfl, _, rfl, _, rfl, _, rfl, r, _, rfl, SqT.of er6, (fun q => absurd (show (1 : Nat) = 0 from q.1) (by decide)), fun c2 hc2 => ?_⟩
      have ec : cutV (tieV t) (some 1) (some 3) = [.int (t.2.1 : Int), .int (t.2.2.1 : Int)] := rfl
      rw [ec]
      have s7 := same_new (o := .tup [.int (t.2.1 : Int), .int (t.2.2.1 : Int)]) hc2
      have c7 := upd_same (H := H6) (a := c2) (o := .tup [.int (t.2.1 : Int), .int (t.2.2.1 : Int)])
      generalize upd H6 c2 (.tup [.int (t.2.1 : Int), .int (t.2.2.1 : Int)]) = H7 at s7 c7 ⊢
      refine ⟨small (by simp), fun f hf => ?_⟩
      have s8 := same_new (o := .tup [.str t.1, .ref c2]) hf
      have f8 := upd_same (H := H7) (a := f) (o := .tup [.str t.1, .ref c2])
      generalize upd H7 f (.tup [.str t.1, .ref c2]) = H8 at s8 f8 ⊢
      have D8 := s8 _ _ (s7 _ _ D6)
      have tk := TK.lst (o := .lst (fs.map V.ref ++ [V.ref f])) D8
      refine ⟨D8, small1000 (by rw [List.length_map]; omega), _, fs ++ [f], cs ++ [c2], rfl, by rw [List.map_append]; rfl, same_set ((s6.trans s7).trans s8) hD, upd_same, by simp [fl], by simp [cl], fun i f' c' t' h1 h2 h3 => ?_⟩
      by_cases e : i = j
      · subst e
        rw [List.getElem?_append_right (by omega), fl, Nat.sub_self] at h1
        rw [List.getElem?_append_right (by omega), cl, Nat.sub_self] at h2
        rw [ht] at h3
        cases h1; cases h2; cases h3
        exact ⟨tk _ _ f8, tk _ _ (s8 _ _ c7)⟩
      · have il : i < fs.length := by
          have := (List.getElem?_eq_some_iff.mp h1).1
          rw [List.length_append] at this
          have : i < fs.length + 1 := this
          omega
        rw [List.getElem?_append_left il] at h1
        rw [List.getElem?_append_left (by omega)] at h2
        obtain ⟨z1, z2⟩ := rw6 i f' c' t' h1 h2 h3
        exact ⟨tk _ _ (s8 _ _ (s7 _ _ z1)), tk _ _ (s8 _ _ (s7 _ _ z2))⟩
    rintro σ ys H6 ⟨u, fs, cs, rfl, rfl, s6, D6, fl, cl, rw6⟩
    rw [List.length_map, hrs.1] at fl cl
    have scl : S.length = cs.length := by omega
    refine ⟨D, fs, kvL S cs, rfl, D6, by unfold kvL; rw [List.length_map, List.length_zip]; omega, fun i f kv h1 h2 => ?_, by rw [kv_keys scl]; exact inr_nd nd, fun d hd => ?_⟩
    · unfold kvL at h2
      rw [List.getElem?_map] at h2
      cases hz : (S.zip cs)[i]? with
      | none => rw [hz] at h2; cases h2
      | some p =>
        rw [hz] at h2
        cases h2
        obtain ⟨a1, a2⟩ := List.getElem?_zip_eq_some.mp hz
        exact (rw6 i f p.2 p.1 h1 a2 a1).1
    have s7 := same_new (o := .dK (kvL S cs)) hd
    have d7 := upd_same (H := H6) (a := d) (o := .dK (kvL S cs))
    generalize upd H6 d (.dK (kvL S cs)) = H7 at s7 d7 ⊢
    have S7 := s6.trans s7
    have w7 := S7 _ _ hw
    have c7 : ∀ (i : Nat) c t, cs[i]? = some c → S[i]? = some t → H7 c = some (.tup [.int (t.2.1 : Int), .int (t.2.2.1 : Int)]) := fun i c t h2 h3 => by
      have il : i < fs.length := by have := (List.getElem?_eq_some_iff.mp h3).1; omega
      exact s7 _ _ (rw6 i fs[i] c t (getq il) h2 h3).2
    have hn0 := getq (show 0 < ws.length by omega)
    generalize ws[0] = n0 at hn0
    refine ⟨_, rfl, d, rfl, .inl ⟨_, .inl d7⟩, _, rfl, wa, _, 0, _, rfl, rfl, SqT.of w7, atI_nat (j := 0) (by rw [List.getElem?_map, hn0]; rfl), small (by simp), fun em hem => ?_⟩
    have s8 := same_new (o := .tup []) hem
    have em8 := upd_same (H := H7) (a := em) (o := .tup [])
    generalize upd H7 em (.tup []) = H8 at s8 em8 ⊢
    have d8 := s8 _ _ d7
    have w8 := s8 _ _ w7
    have S8 := S7.trans s8
    have c8 : ∀ (i : Nat) c t, cs[i]? = some c → S[i]? = some t → H8 c = some (.tup [.int (t.2.1 : Int), .int (t.2.2.1 : Int)]) := fun i c t h2 h3 => s8 _ _ (c7 i c t h2 h3)
    have g1 := DGet.k (k := Sum.inr n0) d8
    refine ⟨_, g1, ?_⟩
    rcases kv_val n0 scl with ⟨i0, t0', c0, hi0, hc0, e0, v0⟩ | ⟨no, v0⟩
    rotate_left
    · rw [v0]
      refine ⟨em, rfl, ⟨_, SqT.of em8⟩, for_tup (K := K) (a := em) (xs := []) (fun m σ H9 => H9 = H8) rfl (fun m σ H9 _ e => by rw [e]; exact SqT.of em8) (fun i x σ H9 hx _ => by simp at hx) ?_⟩
      rintro σ H9 rfl
      have := k H9 S8
      rw [clos_no hn0 no] at this
      exact this
    rw [v0]
    have ht0 := List.mem_of_getElem? hi0
    have tN := SN _ ht0
    refine ⟨c0, rfl, ⟨_, SqT.of (c8 _ _ _ hc0 hi0)⟩, for_tup (K := K) (a := c0) (xs := [.int (t0'.2.1 : Int), .int (t0'.2.2.1 : Int)]) (fun m σ H9 => ∃ (u3 u4 u5 : Option V), σ = [some (.ref st), some (.ref wa), some (.ref d), u3, u4, u5] ∧ H9 = H8 ∧ (1 ≤ m → goF S t0'.2.1 ws ≠ some t0'.2.1) ∧ (2 ≤ m → goF S t0'.2.2.1 ws ≠ some t0'.2.2.1)) ⟨_, _, _, rfl, rfl, fun h => absurd h (by omega), fun h => absurd h (by omega)⟩ (fun m σ H9 _ ⟨_, _, _, _, e, _⟩ => by rw [e]; exact SqT.of (c8 _ _ _ hc0 hi0)) ?_ ?_⟩
    rotate_left
    · rintro σ H9 ⟨u3, u4, u5, rfl, rfl, n1, n2⟩
      have := k H9 S8
      rw [clos_not nd hn0 ht0 e0 (n1 (by simp)) (n2 (by simp))] at this
      exact this
    rintro m x σ H9 hx ⟨u3, u4, u5, rfl, rfl, n1, n2⟩
    obtain ⟨b, rfl, hb⟩ : ∃ b : Nat, x = .int (b : Int) ∧ ((m = 0 ∧ b = t0'.2.1) ∨ (m = 1 ∧ b = t0'.2.2.1)) := by
      match m, hx with
      | 0, hx => exact ⟨t0'.2.1, by simpa using hx.symm, .inl ⟨rfl, rfl⟩⟩
      | 1, hx => exact ⟨t0'.2.2.1, by simpa using hx.symm, .inr ⟨rfl, rfl⟩⟩
      | m + 2, hx => simp at hx
    refine ⟨_, rfl, ?_⟩
    refine ⟨_, rfl, wa, rfl, ⟨_, SqT.of w8⟩, for_tup (K := K) (a := wa) (xs := ws.map V.str) (fun i σ HA => ∃ (u5 : Option V), σ = [some (.ref st), some (.ref wa), some (.ref d), some (.int (b : Int)), some (ovV (goF S b (ws.take i))), u5] ∧ HA = H9) ⟨_, rfl, rfl⟩ (fun i σ HA _ ⟨_, _, e⟩ => by rw [e]; exact SqT.of w8) ?_ ?_⟩
    · rintro i x σ HA hx ⟨u5, rfl, rfl⟩
      obtain ⟨n, hn, rfl⟩ := map_some hx
      have tk : ws.take (i + 1) = ws.take i ++ [n] := by rw [List.take_add_one, hn]; rfl
      rw [tk]
      cases hg : goF S b (ws.take i) with
      | none =>
        rw [go_none hg]
        exact ⟨_, rfl, rfl, _, rfl, iteF ⟨_, rfl, rfl⟩⟩
      | some v =>
        rw [goF_snoc hg]
        have g2 := DGet.k (k := Sum.inr n) d8
        refine ⟨_, rfl, rfl, _, rfl, iteT ⟨_, rfl, _, rfl, d, _, rfl, g2, _, rfl, ?_⟩⟩
        rcases kv_val n scl with ⟨j, t, c, hj, hc, en, vn⟩ | ⟨no, vn⟩
        rotate_left
        · rw [vn]
          rw [over_none fun t ht e => absurd e (no t ht)]
          exact iteF ⟨_, rfl, rfl⟩
        rw [vn] at g2 ⊢
        have ec := c8 _ _ _ hc hj
        have tm := List.mem_of_getElem? hj
        refine iteT ⟨_, rfl, _, rfl, _, rfl, d, _, rfl, g2, c, _, rfl, .inr (SqT.of ec), rfl, rfl, _, rfl, ?_⟩
        show if (inV (.int (v : Int)) [.int (t.2.1 : Int), .int (t.2.2.1 : Int)]) = true then _ else _
        rw [in_ends]
        by_cases gv : v = t.2.1 ∨ v = t.2.2.1
        · rw [decide_eq_true gv]
          refine iteT ⟨_, rfl, _, rfl, d, _, rfl, g2, c, [(t.2.1 : Int), (t.2.2.1 : Int)], rfl, SqT.of ec, _, rfl, _, _, rfl, rfl, some (.str n), ?_, rfl⟩
          rw [← en, over_end nd tm gv]
          have : [(t.2.1 : Int), (t.2.2.1 : Int)].sum = (t.2.1 : Int) + (t.2.2.1 : Int) := by simp
          rw [this]
          rfl
        · rw [decide_eq_false gv]
          refine iteF ⟨some (.str n), ?_, rfl⟩
          rw [← en, over_not nd tm gv]; rfl
    · rintro σ HA ⟨u5, rfl, rfl⟩
      rw [List.length_map, List.take_length]
      have bN : b < N := by rcases hb with ⟨_, rfl⟩ | ⟨_, rfl⟩; exact tN.1; exact tN.2
      by_cases e : goF S b ws = some b
      · rw [e]
        refine ⟨_, rfl, _, rfl, rfl, _, rfl, ?_⟩
        rw [show decide (ovV (some b) = V.int (b : Int)) = true from decide_eq_true rfl]
        have := k _ S8
        rw [clos_at bN e] at this
        exact iteT this
      · refine ⟨_, rfl, _, rfl, (by cases goF S b ws <;> rfl), _, rfl, ?_⟩
        have ne : ¬ (ovV (goF S b ws) = V.int (b : Int)) := fun z => by
          cases hg : goF S b ws with
          | none => rw [hg] at z; cases z
          | some v =>
            rw [hg] at z e
            have z : V.int (v : Int) = V.int (b : Int) := z
            injection z with z
            exact e (by rw [show v = b by omega])
        rw [decide_eq_false ne]
        refine iteF ⟨_, _, _, rfl, rfl, fun _ => ?_, fun h2 => ?_⟩
        · rcases hb with ⟨_, rfl⟩ | ⟨rfl, _⟩
          · exact e
          · exact n1 (by omega)
        · rcases hb with ⟨rfl, _⟩ | ⟨_, rfl⟩
          · exact absurd h2 (by omega)
          · exact e
end
end K56
set_option maxHeartbeats 1000000
namespace K56
open PySem L2 Wk
def Tup (H : Hp) (x : V) (xs : List V) : Prop := ∃ wa, x = .ref wa ∧ H wa = some (.tup xs) ∧ (∀ y ∈ xs, An H y) ∧ xs.length ≤ 900
theorem Tup.same {H H' : Hp} {x : V} {xs : List V} (h : Tup H x xs) (s : Same H H') : Tup H' x xs := let ⟨wa, a, b, c, d⟩ := h; ⟨wa, a, s _ _ b, fun y hy => (c y hy).same s, d⟩
def spNums : Sp := fun vs H Q _ => ∃ (N : Nat) (st : Addr) (x : V) (S : List T4), vs = [.int (N : Int), .ref st, x] ∧ StandAt H st S ∧ InN N S ∧ S.length ≤ 100 ∧ ((NotT H x ∧ ∀ H', Same H H' → Q (.bl false) H') ∨ ∃ xs, Tup H x xs ∧ ∀ H', Same H H' → Q (.bl (numV N S xs)) H')
def spORing : Sp := fun vs H Q _ => ∃ (N : Nat) (st : Addr) (x : V) (S : List T4), vs = [.int (N : Int), .ref st, x] ∧ StandAt H st S ∧ (S.map (·.1)).Nodup ∧ N ≤ 100 ∧ ((NotT H x ∧ ∀ H', Same H H' → Q (.bl false) H') ∨ ∃ xs, Tup H x xs ∧ ∀ H', Same H H' → Q (.bl (oddV N S xs)) H')
theorem str_eq (a b : Str) : decide (V.str a = V.str b) = decide (a = b) := by
  rw [Bool.eq_iff_iff, decide_eq_true_eq, decide_eq_true_eq]
  exact ⟨fun e => by injection e, fun e => by rw [e]⟩
def holdB (N : Nat) (S : List T4) (wd : Str) (xs : List V) : Bool := if wd = Str.ofString "sides" then numV N S xs else if wd = Str.ofString "ring" then oddV N S xs else false
inductive Tell (H : Hp) (N : Nat) (S : List T4) : V → Bool → Prop
  | no {x : V} : NotT H x → Tell H N S x false
  | len {r : Addr} {xs : List V} : H r = some (.tup xs) → xs.length ≠ 2 → Tell H N S (.ref r) false
  | odd1 {r : Addr} {w t : V} : H r = some (.tup [w, t]) → An H w → NotT H t → Tell H N S (.ref r) false
  | odd2 {r : Addr} {w t : V} {xs : List V} : H r = some (.tup [w, t]) → An H w → isSt w = false → Tup H t xs → Tell H N S (.ref r) false
  | good {r : Addr} {wd : Str} {t : V} {xs : List V} : H r = some (.tup [.str wd, t]) → Tup H t xs → Tell H N S (.ref r) (holdB N S wd xs)
theorem Tell.same {H H' : Hp} {N : Nat} {S : List T4} {x : V} {b : Bool} (h : Tell H N S x b) (s : Same H H') : Tell H' N S x b := by
  cases h with
  | no h => exact .no (h.same s)
  | len h l => exact .len (s _ _ h) l
  | odd1 h a b => exact .odd1 (s _ _ h) (a.same s) (b.same s)
  | odd2 h a b c => exact .odd2 (s _ _ h) (a.same s) b (c.same s)
  | good h c => exact .good (s _ _ h) (c.same s)
theorem Tell.three {H : Hp} {N : Nat} {S : List T4} {x : V} {b : Bool} (h : Tell H N S x b) : (NotT H x ∧ b = false) ∨ (∃ r xs, x = .ref r ∧ H r = some (.tup xs) ∧ xs.length ≠ 2 ∧ b = false) ∨ ∃ r w t, x = .ref r ∧ H r = some (.tup [w, t]) ∧ An H w ∧ ((NotT H t ∧ b = false) ∨ ∃ xs, Tup H t xs ∧ (isSt w = false → b = false) ∧ ∀ wd, w = .str wd → b = holdB N S wd xs) := by
  cases h with
  | no h => exact .inl ⟨h, rfl⟩
  | len h l => exact .inr (.inl ⟨_, _, rfl, h, l, rfl⟩)
  | odd1 h a b => exact .inr (.inr ⟨_, _, _, rfl, h, a, .inl ⟨b, rfl⟩⟩)
  | odd2 h a b c => exact .inr (.inr ⟨_, _, _, rfl, h, a, .inr ⟨_, c, fun _ => rfl, fun wd e => by rw [e] at b; cases b⟩⟩)
  | good h c => exact .inr (.inr ⟨_, _, _, rfl, h, .inl (.inl (.inr (.inr (.inr ⟨_, rfl⟩)))), .inr ⟨_, c, (fun e => by cases e), fun wd e => by cases e; rfl⟩⟩)
def spHold : Sp := fun vs H Q _ => ∃ (N : Nat) (st : Addr) (S : List T4) (x : V) (b : Bool), vs = [.int (N : Int), .ref st, x] ∧ StandAt H st S ∧ InN N S ∧ (S.map (·.1)).Nodup ∧ S.length ≤ 100 ∧ N ≤ 100 ∧ Tell H N S x b ∧ ∀ H', Same H H' → Q (.bl b) H'
theorem in01_int {x : V} (h : in01 x = true) : ∃ i : Int, x = .int i := by
  cases x with
  | int i => exact ⟨i, rfl⟩
  | _ => cases h
section
variable {P : Program} {w : World} {K : PySem.W.Frag} {mg : Str → Option Value} {base : Heap}
theorem scNums : FnScope ["many", "stand", "thing"] ["many", "stand", "thing"] (defScope sNums) := ⟨rfl, rfl, rfl, by decide +kernel, rfl, by decide +kernel, by decide +kernel⟩
theorem ok_Nums {f : Addr} {fd : FuncData} (F : Fun K "are_numbers" "are_numbers" sNums f fd) (T : Txt mg)
    {gWithin : Addr} {fWithin : FuncData} (kWithin : PySem.W.keepIn K (.ref gWithin) = true) (bWithin : Binds K fWithin ["thing", "low", "high"] []) (hWithin : mg "is_within" = some (.ref gWithin)) (GWithin : FnOk P w K mg base CX0 2 gWithin fWithin ["thing", "low", "high"] spWithin) :
    FnOk P w K mg base CX0 3 f fd ["many", "stand", "thing"] spNums := by
  refine F.ok scNums (fun vs H Q E h => ?_) (fun cdv A outer s H vs Q E hr h => ?_)
  · obtain ⟨_, _, _, _, rfl, _⟩ := h; rfl
  · obtain ⟨N, st, x0, S, rfl, ⟨rs, hst, hrs⟩, SN, S100, alt⟩ := h
    refine ⟨_, pss_cons (ps_if (PW.pt (pw_or (pt_not (pt_val (pe_callB call_isi (by rfl) T.isinstance (by decide +kernel) (pa_cons (pv 2) (pa_cons (pe_ty (T := "tuple") (by rfl) T.tuple (by decide +kernel)) pa_nil))))) (pw_or1 (pt_cmpR op_ne (pe_callB call_len_seq (by rfl) T.len PySem.boot_len (pa_cons (pv 2) pa_nil)) (pv 0) (nomark _))))) (pss_one (ps_ret pe_bl)) pss_nil)
      (pss_cons (ps_if (pt_not (pt_val (pe_callB (call_all rfl) (by rfl) T.all (by decide +kernel) (pa_cons (pe_comp (T := ["number"]) (F := []) (js := []) (CS.to (osc := defScope sNums) ⟨by rfl, by decide +kernel, by decide +kernel, by decide +kernel, by decide +kernel, by decide +kernel, by decide +kernel⟩ rfl rfl) rfl (pi_tup (pv 2)) (fun _ _ _ _ _ => pg_name (i := 0) (show (["number"] : List Str).Nodup by decide +kernel) rfl (Or.inl rfl)) (fun _ _ _ _ _ => pif_nil) (fun _ _ _ _ _ => pe_call GWithin hr rfl hWithin kWithin bWithin .nil pass0 (pa_cons (pv 0) (pa_cons pe_int (pa_cons pe_int pa_nil))))) pa_nil)))) (pss_one (ps_ret pe_bl)) pss_nil)
      (pss_one (ps_ret (pe_callB (call_all rfl) (by rfl) T.all (by decide +kernel) (pa_cons (pe_comp (T := ["tie"]) (F := ["thing"]) (js := [2]) (CS.to (osc := defScope sNums) ⟨by rfl, by decide +kernel, by decide +kernel, by decide +kernel, by decide +kernel, by decide +kernel, by decide +kernel⟩ rfl rfl) rfl (pi_tup (pv 1)) (fun _ _ _ _ _ => pg_name (i := 0) (show (["tie", "thing"] : List Str).Nodup by decide +kernel) rfl (Or.inl rfl)) (fun _ _ _ _ _ => pif_nil) (fun _ _ _ _ _ => pe_cmpR op_ne (pe_ix (r := rIxT K) ix_tup (pv 1) (pe_ix (r := rIxT K) ix_tup (pv 0) pe_int (fun _ _ => rfl)) (fun _ _ => rfl)) (pe_ix (r := rIxT K) ix_tup (pv 1) (pe_ix (r := rIxT K) ix_tup (pv 0) pe_int (fun _ _ => rfl)) (fun _ _ => rfl)) (nomark _))) pa_nil))))), ?_⟩
    rcases alt with ⟨nt, k⟩ | ⟨xs, ⟨wa, rfl, hw, hi, x900⟩, k⟩
    · obtain ⟨ty, h1, h2⟩ := nt.tup (K := K)
      exact ⟨_, rfl, _, ty, "tuple", false, rfl, h1, h2, _, rfl, iteT (k H (same_refl _))⟩
    refine ⟨_, rfl, .ref wa, .type "tuple", "tuple", true, rfl, .tup hw, rfl, _, rfl, iteF ?_⟩
    refine ⟨_, rfl, wa, _, rfl, .inr (SqT.of hw), _, rfl, rfl, _, rfl, ?_⟩
    by_cases hN : xs.length = N
    rotate_left
    · rw [decide_eq_false (show ¬ V.int (xs.length : Int) = V.int (N : Int) from fun e => hN (by injection e with e; omega))]
      refine iteT ?_
      have := k H (same_refl _)
      unfold numV at this
      rw [decide_eq_false hN, Bool.false_and] at this
      exact this
    rw [decide_eq_true (show V.int (xs.length : Int) = V.int (N : Int) by rw [hN])]
    refine iteF ?_
    dsimp only [tNext]
    refine ⟨_, rfl, wa, rfl, ⟨_, SqT.of hw⟩, fun D hD => comp_tup (K := K) (a := wa) (xs := xs) (fun j σ ys H6 => ∃ (u : Option V), σ = [u] ∧ ys = ((xs.take j).map in01).map V.bl ∧ H6 = upd H D (.lst ys)) ⟨none, rfl, rfl, rfl⟩ (fun j σ ys H6 _ ⟨_, _, _, e⟩ => by rw [e]; exact ⟨SqT.of (by rw [upd_ne (ne_of_none hw hD)]; exact hw), upd_same⟩) ?_ ?_⟩
    · rintro j x σ ys H6 hx ⟨u, rfl, rfl, rfl⟩
      have hj : j < xs.length := (List.getElem?_eq_some_iff.mp hx).1
      have tk : (xs.take (j + 1)).map in01 = (xs.take j).map in01 ++ [in01 x] := by rw [List.take_add_one, hx, List.map_append]; rfl
      exact ⟨_, rfl, x, rfl, (hi x (List.mem_of_getElem? hx)).same (same_new hD), upd_same, small1000 (by rw [List.length_map, List.length_map, List.length_take]; omega), _, rfl, by rw [tk, List.map_append]; rfl, by rw [upd_upd]⟩
    rintro σ ys H6 ⟨u, rfl, rfl, rfl⟩
    rw [List.take_length]
    have sD := same_new (o := .lst ((xs.map in01).map V.bl)) hD
    have d6 := upd_same (H := H) (a := D) (o := .lst ((xs.map in01).map V.bl))
    generalize upd H D (.lst ((xs.map in01).map V.bl)) = H6 at sD d6
    refine ⟨D, _, rfl, SqL.of d6, _, rfl, ?_⟩
    have eall : (xs.map in01).all id = xs.all in01 := by rw [List.all_map]; rfl
    rw [eall]
    by_cases hA : xs.all in01 = true
    rotate_left
    · have hA : xs.all in01 = false := by simpa using hA
      rw [hA]
      refine iteT ?_
      have := k H6 sD
      unfold numV at this
      rw [decide_eq_true hN, hA, Bool.false_and, Bool.true_and] at this
      exact this
    rw [hA]
    refine iteF ?_
    dsimp only [tNext]
    have st6 := sD _ _ hst
    have hw6 := sD _ _ hw
    refine ⟨_, rfl, st, rfl, ⟨_, SqT.of st6⟩, fun D' hD' => comp_tup (K := K) (a := st) (xs := rs.map V.ref) (fun j σ ys H7 => ∃ (u : Option V), σ = [u, some (.ref wa)] ∧ ys = ((S.take j).map fun t => !decide (xs.getD t.2.1 .non = xs.getD t.2.2.1 .non)).map V.bl ∧ H7 = upd H6 D' (.lst ys)) ⟨none, rfl, rfl, rfl⟩ (fun j σ ys H7 _ ⟨_, _, _, e⟩ => by rw [e]; exact ⟨SqT.of (by rw [upd_ne (ne_of_none st6 hD')]; exact st6), upd_same⟩) ?_ ?_⟩
    · rintro j y σ ys H7 hy ⟨u, rfl, rfl, rfl⟩
      obtain ⟨r, hr', rfl⟩ := map_some hy
      obtain ⟨t, ht, er⟩ := hrs.get hr'
      have tN := SN t (List.mem_of_getElem? ht)
      have hj : j < 100 := by have := (List.getElem?_eq_some_iff.mp ht).1; omega
      have er7 := same_new (o := .lst (((S.take j).map fun t => !decide (xs.getD t.2.1 .non = xs.getD t.2.2.1 .non)).map V.bl)) hD' _ _ (sD _ _ er)
      have hw7 := same_new (o := .lst (((S.take j).map fun t => !decide (xs.getD t.2.1 .non = xs.getD t.2.2.1 .non)).map V.bl)) hD' _ _ hw6
      have tk : (S.take (j + 1)).map (fun t => !decide (xs.getD t.2.1 .non = xs.getD t.2.2.1 .non)) = (S.take j).map (fun t => !decide (xs.getD t.2.1 .non = xs.getD t.2.2.1 .non)) ++ [!decide (xs.getD t.2.1 .non = xs.getD t.2.2.1 .non)] := by rw [List.take_add_one, ht, List.map_append]; rfl
      have g : ∀ v, v < N → xs[v]? = some (xs.getD v .non) ∧ ∃ i : Int, xs.getD v .non = .int i := fun v hv => by
        have hv' : v < xs.length := by omega
        have e : xs.getD v .non = xs[v] := by rw [List.getD_eq_getElem?_getD, getq hv']; rfl
        rw [e]
        exact ⟨getq hv', in01_int (List.all_eq_true.mp hA _ (List.getElem_mem hv'))⟩
      obtain ⟨g1, i1, e1⟩ := g _ tN.1
      obtain ⟨g2, i2, e2⟩ := g _ tN.2
      rw [e1] at g1
      rw [e2] at g2
      rw [e1, e2] at tk
      refine ⟨_, rfl, _, rfl, r, _, 1, _, rfl, rfl, SqT.of er7, atI_nat (j := 1) rfl, wa, _, _, _, rfl, rfl, SqT.of hw7, atI_nat g1, _, rfl, _, rfl, r, _, 2, _, rfl, rfl, SqT.of er7, atI_nat (j := 2) rfl, wa, _, _, _, rfl, rfl, SqT.of hw7, atI_nat g2, rfl, upd_same, small1000 (by rw [List.length_map, List.length_map, List.length_take]; omega), _, rfl, by rw [tk, List.map_append]; rfl, by rw [upd_upd]⟩
    · rintro σ ys H7 ⟨u, rfl, rfl, rfl⟩
      rw [List.length_map, hrs.1, List.take_length]
      refine ⟨D', _, rfl, SqL.of upd_same, ?_⟩
      have := k (upd H6 D' (.lst ((S.map fun t => !decide (xs.getD t.2.1 .non = xs.getD t.2.2.1 .non)).map V.bl))) (sD.trans (same_new hD'))
      unfold numV at this
      rw [decide_eq_true hN, hA, Bool.true_and, Bool.true_and] at this
      rw [List.all_map]
      exact this
theorem scORing : FnScope ["many", "stand", "thing"] ["many", "stand", "thing"] (defScope sORing) := ⟨rfl, rfl, rfl, by decide +kernel, rfl, by decide +kernel, by decide +kernel⟩
theorem ok_ORing {f : Addr} {fd : FuncData} (F : Fun K "is_odd_ring" "is_odd_ring" sORing f fd) (T : Txt mg)
    {gIsWay : Addr} {fIsWay : FuncData} (kIsWay : PySem.W.keepIn K (.ref gIsWay) = true) (bIsWay : Binds K fIsWay ["stand", "one", "other", "thing"] []) (hIsWay : mg "is_way" = some (.ref gIsWay)) (GIsWay : FnOk P w K mg base CX0 3 gIsWay fIsWay ["stand", "one", "other", "thing"] spIsWay) :
    FnOk P w K mg base CX0 4 f fd ["many", "stand", "thing"] spORing := by
  refine F.ok scORing (fun vs H Q E h => ?_) (fun cdv A outer s H vs Q E hr h => ?_)
  · obtain ⟨_, _, _, _, rfl, _⟩ := h; rfl
  · obtain ⟨N, st, x0, S, rfl, hst, nd, N100, alt⟩ := h
    refine ⟨_, pss_cons (ps_if (PW.pt (pw_or (pt_not (pt_val (pe_callB call_isi (by rfl) T.isinstance (by decide +kernel) (pa_cons (pv 2) (pa_cons (pe_ty (T := "tuple") (by rfl) T.tuple (by decide +kernel)) pa_nil))))) (pw_or1 (pt_cmpR op_eq (pe_op op_mod (pe_callB call_len_seq (by rfl) T.len PySem.boot_len (pa_cons (pv 2) pa_nil)) pe_int) pe_int (nomark _))))) (pss_one (ps_ret pe_bl)) pss_nil)
      (pss_one (ps_ret (pe_callB (call_any rfl) (by rfl) T.any (by decide +kernel) (pa_cons (pe_comp (T := ["place"]) (F := ["stand", "thing"]) (js := [1, 2]) (CS.to (osc := defScope sORing) ⟨by rfl, by decide +kernel, by decide +kernel, by decide +kernel, by decide +kernel, by decide +kernel, by decide +kernel⟩ rfl rfl) rfl (pi_range1 rfl T.range (pa_cons (pv 0) pa_nil)) (fun _ _ _ _ _ => pg_name (i := 0) (show (["place", "stand", "thing"] : List Str).Nodup by decide +kernel) rfl (Or.inl rfl)) (fun _ _ _ _ _ => pif_nil) (fun _ _ _ _ _ => pe_call GIsWay hr rfl hIsWay kIsWay bIsWay .nil pass0 (pa_cons (pv 1) (pa_cons (pv 0) (pa_cons (pv 0) (pa_cons (pv 2) pa_nil)))))) pa_nil)))), ?_⟩
    rcases alt with ⟨nt, k⟩ | ⟨xs, ⟨wa, rfl, hw, hi, x900⟩, k⟩
    · obtain ⟨ty, h1, h2⟩ := nt.tup (K := K)
      exact ⟨_, rfl, _, ty, "tuple", false, rfl, h1, h2, _, rfl, iteT (k H (same_refl _))⟩
    refine ⟨_, rfl, .ref wa, .type "tuple", "tuple", true, rfl, .tup hw, rfl, _, rfl, iteF ?_⟩
    refine ⟨_, rfl, wa, _, rfl, .inr (SqT.of hw), _, _, rfl, rfl, (by show (0 : Int) < 2; decide), rfl, _, rfl, ?_⟩
    by_cases hO : xs.length % 2 = 1
    rotate_left
    · rw [decide_eq_true (show V.int ((xs.length : Int) % 2) = V.int 0 by congr 1; omega)]
      refine iteT ?_
      have := k H (same_refl _)
      unfold oddV at this
      rw [decide_eq_false hO, Bool.false_and] at this
      exact this
    rw [decide_eq_false (show ¬ V.int ((xs.length : Int) % 2) = V.int 0 from fun e => by injection e with e; omega)]
    refine iteF ?_
    dsimp only [tNext]
    refine ⟨_, rfl, (N : Int), rfl, by omega, by omega, fun D hD => comp_range (lo := 0) (n := (N : Int).toNat) (fun j σ ys H6 => ∃ (u : Option V), σ = [u, some (.ref st), some (.ref wa)] ∧ ys = ((List.range j).map fun p => wayV S p xs p).map V.bl ∧ Same H H6 ∧ H6 D = some (.lst ys)) ⟨none, rfl, rfl, same_new hD, upd_same⟩ (fun j σ ys H6 _ ⟨_, _, _, _, e⟩ => e) ?_ ?_⟩
    · rintro j σ ys H6 hj ⟨u, rfl, rfl, s6, d6⟩
      have hj : j < N := by simpa using hj
      refine ⟨_, rfl, _, rfl, _, rfl, _, rfl, st, wa, S, xs, j, j, by rw [Int.zero_add]; rfl, hst.same s6, nd, s6 _ _ hw, fun y hy => (hi y hy).same s6, fun H7 s7 => ?_⟩
      exact ⟨s7 _ _ d6, small1000 (by rw [List.length_map, List.length_map, List.length_range]; omega), _, rfl, by rw [List.range_succ, List.map_append, List.map_append]; rfl, same_set (s6.trans s7) hD, upd_same⟩
    · rintro σ ys H6 ⟨u, rfl, rfl, s6, d6⟩
      have en : (N : Int).toNat = N := by omega
      rw [en] at d6
      refine ⟨D, _, rfl, SqL.of d6, ?_⟩
      have := k H6 s6
      unfold oddV at this
      rw [decide_eq_true hO, Bool.true_and] at this
      rw [List.any_map]
      exact this
theorem scHold : FnScope ["many", "stand", "thing", "word", "told"] ["many", "stand", "thing"] (defScope sHold) := ⟨rfl, rfl, rfl, by decide +kernel, rfl, by decide +kernel, by decide +kernel⟩
theorem ok_Hold {f : Addr} {fd : FuncData} (F : Fun K "sides_hold" "sides_hold" sHold f fd) (T : Txt mg)
    {gNums : Addr} {fNums : FuncData} (kNums : PySem.W.keepIn K (.ref gNums) = true) (bNums : Binds K fNums ["many", "stand", "thing"] []) (hNums : mg "are_numbers" = some (.ref gNums)) (GNums : FnOk P w K mg base CX0 4 gNums fNums ["many", "stand", "thing"] spNums)
    {gORing : Addr} {fORing : FuncData} (kORing : PySem.W.keepIn K (.ref gORing) = true) (bORing : Binds K fORing ["many", "stand", "thing"] []) (hORing : mg "is_odd_ring" = some (.ref gORing)) (GORing : FnOk P w K mg base CX0 4 gORing fORing ["many", "stand", "thing"] spORing) :
    FnOk P w K mg base CX0 5 f fd ["many", "stand", "thing"] spHold := by
  refine F.ok scHold (fun vs H Q E h => ?_) (fun cdv A outer s H vs Q E hr h => ?_)
  · obtain ⟨_, _, _, _, _, rfl, _⟩ := h; rfl
  · obtain ⟨N, st, S, x, b, rfl, hst, SN, nd, S100, N100, tell, k⟩ := h
    refine ⟨_, pss_cons (ps_if (PW.pt (pw_or (pt_not (pt_val (pe_callB call_isi (by rfl) T.isinstance (by decide +kernel) (pa_cons (pv 2) (pa_cons (pe_ty (T := "tuple") (by rfl) T.tuple (by decide +kernel)) pa_nil))))) (pw_or1 (pt_cmpR op_ne (pe_callB call_len_seq (by rfl) T.len PySem.boot_len (pa_cons (pv 2) pa_nil)) pe_int (nomark _))))) (pss_one (ps_ret pe_bl)) pss_nil)
      (pss_cons (ps_asg (pv 2) (pg_tup rfl (pgs_cons (pg_name (i := 3) scHold.nd rfl (Or.inl rfl)) (pgs_cons (pg_name (i := 4) scHold.nd rfl (Or.inl rfl)) pgs_nil))))
      (pss_cons (ps_if (pt_cmpR (op_eqStr hr.units) (pv 3) pe_str (nomark _)) (pss_one (ps_ret (pe_call GNums hr rfl hNums kNums bNums .nil pass0 (pa_cons (pv 0) (pa_cons (pv 1) (pa_cons (pv 4) pa_nil)))))) pss_nil)
      (pss_one (ps_ret (pe_and (pe_cmpR (op_eqStr hr.units) (pv 3) pe_str (nomark _)) (pe_one (pe_call GORing hr rfl hORing kORing bORing .nil pass0 (pa_cons (pv 0) (pa_cons (pv 1) (pa_cons (pv 4) pa_nil)))))))))), ?_⟩
    rcases tell.three with ⟨nt, rfl⟩ | ⟨r, xs, rfl, er, hl, rfl⟩ | ⟨r, w, t, rfl, er, hw, alt⟩
    · obtain ⟨ty, h1, h2⟩ := nt.tup (K := K)
      exact ⟨_, rfl, _, ty, "tuple", false, rfl, h1, h2, _, rfl, iteT (k H (same_refl _))⟩
    · refine ⟨_, rfl, .ref r, .type "tuple", "tuple", true, rfl, .tup er, rfl, _, rfl, iteF ?_⟩
      refine ⟨_, rfl, r, _, rfl, .inr (SqT.of er), rfl, _, rfl, ite2 (fun g => k H (same_refl _)) fun g => absurd ?_ g⟩
      rw [decide_eq_false (fun z => hl (by injection z with z; omega))]; rfl
    refine ⟨_, rfl, .ref r, .type "tuple", "tuple", true, rfl, .tup er, rfl, _, rfl, iteF ?_⟩
    refine ⟨_, rfl, r, _, rfl, .inr (SqT.of er), rfl, _, rfl, ite2 (fun g => absurd g (by simp)) fun _ => ?_⟩
    dsimp only [tNext]
    refine ⟨_, rfl, r, _, rfl, SqT.of er, rfl, _, _, rfl, _, _, rfl, rfl, ?_⟩
    refine ⟨_, rfl, .l _ rfl hw ⟨_, rfl, ?_⟩⟩
    by_cases g : w = .str (Str.ofString "sides")
    · rw [decide_eq_true g]
      refine iteT ⟨_, rfl, _, rfl, _, rfl, N, st, t, S, rfl, hst, SN, S100, ?_⟩
      rcases alt with ⟨nt, rfl⟩ | ⟨xs, tp, _, hb⟩
      · exact .inl ⟨nt, k⟩
      · refine .inr ⟨xs, tp, fun H' s' => ?_⟩
        have := k H' s'
        rw [hb _ g] at this
        unfold holdB at this
        rw [if_pos rfl] at this
        exact this
    rw [decide_eq_false g]
    refine iteF ?_
    dsimp only [tNext]
    refine ⟨_, rfl, .l _ rfl hw ⟨_, rfl, ?_⟩⟩
    by_cases g2 : w = .str (Str.ofString "ring")
    · rw [decide_eq_true g2]
      refine iteT ⟨_, rfl, _, rfl, _, rfl, N, st, t, S, rfl, hst, nd, N100, ?_⟩
      rcases alt with ⟨nt, rfl⟩ | ⟨xs, tp, _, hb⟩
      · exact .inl ⟨nt, k⟩
      · refine .inr ⟨xs, tp, fun H' s' => ?_⟩
        have := k H' s'
        rw [hb _ g2] at this
        unfold holdB at this
        rw [if_neg (by decide +kernel), if_pos rfl] at this
        exact this
    · rw [decide_eq_false g2]
      have kf : b = false := by
        rcases alt with ⟨_, rfl⟩ | ⟨xs, tp, h0, hb⟩
        · rfl
        · cases w with
          | str wd =>
            rw [hb wd rfl]
            unfold holdB
            rw [if_neg fun z => g (by rw [z]), if_neg fun z => g2 (by rw [z])]
          | _ => exact h0 rfl
      have := k H (same_refl _)
      rw [kf] at this
      exact iteF this
end
end K56
set_option maxHeartbeats 4000000
namespace K56
open PySem L2 Wk
theorem goV_strs {S : List T4} : ∀ {ws : List Str} {p : Nat}, goV S p (ws.map V.str) = goF S p ws
  | [], p => rfl
  | n :: ws, p => by
    show (match overF S p n with | none => none | some u => goV S u (ws.map V.str)) = match overF S p n with | none => none | some u => goF S u ws
    cases overF S p n with
    | none => rfl
    | some u => exact goV_strs
theorem odd_ring {N : Nat} {S : List T4} {ws : List Str} (h : Ring N S ws) (hl : ws.length ≤ 61) : oddV N S (ws.map V.str) = true := by
  obtain ⟨h1, p, hp, g⟩ := h
  unfold oddV
  rw [List.length_map, decide_eq_true h1, Bool.true_and, List.any_eq_true]
  refine ⟨p, List.mem_range.mpr hp, ?_⟩
  unfold wayV
  rw [List.length_map, decide_eq_true hl, Bool.true_and, goV_strs, decide_eq_true_eq]
  exact g
theorem odd_not {N : Nat} {S : List T4} {xs : List V} (h : xs.length % 2 = 0 ∨ 62 ≤ xs.length) : oddV N S xs = false := by
  unfold oddV
  rcases h with h | h
  · rw [decide_eq_false (by omega), Bool.false_and]
  · rw [show ((List.range N).any fun p => wayV S p xs p) = false from ?_, Bool.and_false]
    rw [List.any_eq_false]
    intro p _
    unfold wayV
    rw [decide_eq_false (show ¬ xs.length ≤ 61 by omega), Bool.false_and]
    decide
theorem getD_int {ns : List Int} {v : Nat} (h : v < ns.length) : (ns.map V.int).getD v .non = .int (ns.getD v 0) := by
  rw [List.getD_eq_getElem?_getD, List.getElem?_map, getq h, List.getD_eq_getElem?_getD, getq h]; rfl
theorem num_good {N : Nat} {S : List T4} {ns : List Int} (SN : InN N S) (h : Good N S ns) : numV N S (ns.map V.int) = true := by
  unfold numV
  rw [List.length_map, decide_eq_true h.len, Bool.true_and, Bool.and_eq_true, List.all_eq_true, List.all_eq_true]
  refine ⟨fun x hx => ?_, fun t ht => ?_⟩
  · obtain ⟨i, hi, rfl⟩ := List.mem_map.mp hx
    obtain ⟨v, hv, e⟩ := List.mem_iff_getElem.mp hi
    have := h.two v (by rw [← h.len]; exact hv)
    rw [List.getD_eq_getElem?_getD, getq hv, e] at this
    have this : i = 0 ∨ i = 1 := this
    show (decide (0 ≤ i) && decide (i ≤ 1)) = true
    rw [decide_eq_true (show 0 ≤ i by omega), decide_eq_true (show i ≤ 1 by omega)]; rfl
  · have tN := SN t ht
    rw [getD_int (by rw [h.len]; exact tN.1), getD_int (by rw [h.len]; exact tN.2), decide_eq_false fun e => h.ties t ht (by injection e)]; rfl
theorem inV_strs (x : Str) (zs : List Str) : inV (.str x) (zs.map V.str) = decide (x ∈ zs) := by
  unfold inV
  induction zs with
  | nil => simp
  | cons z zs ih =>
    rw [List.map_cons, List.any_cons, ih]
    have : eqV (.str z) (.str x) = decide (x = z) := by
      show (z == x) = _
      rw [Bool.eq_iff_iff, beq_iff_eq, decide_eq_true_eq]; exact eq_comm
    rw [this, Bool.eq_iff_iff]; simp
def isS : V → Bool
  | .str _ => true
  | _ => false
def asS : V → Str
  | .str n => n
  | _ => Str.ofString ""
theorem strs_of : ∀ {xs : List V}, xs.all isS = true → xs = (xs.map asS).map V.str
  | [], _ => rfl
  | x :: xs, h => by
    rw [List.all_cons, Bool.and_eq_true] at h
    rw [List.map_cons, List.map_cons, ← strs_of h.2]
    cases x with
    | str n => rfl
    | _ => cases h.1
theorem filter_len {α : Type} (p : α → Bool) : ∀ (xs : List α), (xs.filter p).length = xs.length ↔ xs.all p = true
  | [] => by simp
  | x :: xs => by
    have ih := filter_len p xs
    have le := List.length_filter_le p xs
    rw [List.all_cons]
    cases h : p x with
    | true => rw [List.filter_cons_of_pos h, List.length_cons, List.length_cons, Bool.true_and, ← ih]; omega
    | false => rw [List.filter_cons_of_neg (by rw [h]; decide), List.length_cons, Bool.false_and]; exact ⟨fun e => by omega, fun e => by cases e⟩
theorem goV_not {S : List T4} : ∀ {xs : List V} {p q : Nat}, goV S p xs = some q → xs.all isS = true
  | [], _, _, _ => rfl
  | x :: xs, p, q, g => by
    cases x with
    | str n =>
      have g : (match overF S p n with | none => none | some u => goV S u xs) = some q := g
      rw [List.all_cons]
      show (true && xs.all isS) = true
      cases h : overF S p n with
      | none => rw [h] at g; cases g
      | some u => rw [h] at g; rw [goV_not g]; rfl
    | _ => cases g
theorem odd_nots {N : Nat} {S : List T4} {xs : List V} (h : xs.all isS = false) : oddV N S xs = false := by
  unfold oddV
  rw [show ((List.range N).any fun p => wayV S p xs p) = false from ?_, Bool.and_false]
  rw [List.any_eq_false]
  intro p _ z
  unfold wayV at z
  rw [Bool.and_eq_true, decide_eq_true_eq, decide_eq_true_eq] at z
  rw [goV_not z.2] at h
  cases h
theorem odd_clos {N : Nat} {S : List T4} {ws : List Str} (h1 : ws.length % 2 = 1) (h2 : ws.length ≤ 61) : oddV N S (ws.map V.str) = closB N S ws := by
  unfold oddV closB
  rw [List.length_map, decide_eq_true h1, Bool.true_and]
  congr 1
  funext p
  unfold wayV
  rw [List.length_map, decide_eq_true h2, Bool.true_and, goV_strs]
def asI : V → Int
  | .int i => i
  | _ => 0
theorem ints01 : ∀ {xs : List V}, xs.all in01 = true → xs = (xs.map asI).map V.int
  | [], _ => rfl
  | x :: xs, h => by
    rw [List.all_cons, Bool.and_eq_true] at h
    rw [List.map_cons, List.map_cons, ← ints01 h.2]
    cases x with
    | int i => rfl
    | _ => cases h.1
theorem in_01 (i : Int) : inV (.int i) [.int 0, .int 1] = in01 (.int i) := by
  have := inV_ints i [0, 1]
  rw [show ([0, 1] : List Int).map V.int = [.int 0, .int 1] from rfl] at this
  rw [this, Bool.eq_iff_iff, decide_eq_true_eq]
  simp only [List.mem_cons, List.not_mem_nil, or_false]
  unfold in01
  simp
  try omega
theorem num_no1 {N : Nat} {S : List T4} {xs : List V} (h : xs.all in01 = false ∨ xs.length ≠ N) : numV N S xs = false := by
  unfold numV
  rcases h with h | h
  · rw [h, Bool.false_and, Bool.and_false]
  · rw [decide_eq_false h, Bool.false_and]
theorem num_ties {N : Nat} {S : List T4} {xs : List V} (h1 : xs.all in01 = true) (h2 : xs.length = N) : numV N S xs = S.all fun t => !decide (xs.getD t.2.1 .non = xs.getD t.2.2.1 .non) := by
  unfold numV
  rw [h1, decide_eq_true h2, Bool.true_and, Bool.true_and]
theorem st_is (x : V) : isSt x = isS x := by cases x <;> rfl
def in01b (x : V) : Bool := in01 x || isBl x
theorem filt_in (xs : List V) : (xs.filter in01b).filter in01 = xs.filter in01 := by
  rw [List.filter_filter]
  refine List.filter_congr fun x _ => ?_
  unfold in01b
  cases in01 x <;> simp
theorem bl_in (b : Bool) : inV (.bl b) [.int 0, .int 1] = true := by cases b <;> decide
def spDueOf : Sp := spHold
section
variable {P : Program} {w : World} {K : PySem.W.Frag} {mg : Str → Option Value} {base : Heap}
theorem scDueOf : FnScope ["_law_many", "_law_stand", "_law_thing", "_law_word", "_law_told", "_law_names", "_law_wholes"] ["_law_many", "_law_stand", "_law_thing"] (defScope sDueOf) := ⟨rfl, rfl, rfl, by decide +kernel, rfl, by decide +kernel, by decide +kernel⟩
theorem ok_DueOf {f : Addr} {fd : FuncData} (F : Fun K "_law_due_of" "_law_due_of" sDueOf f fd) (T : Txt mg)
    {gLLeads : Addr} {fLLeads : FuncData} (kLLeads : PySem.W.keepIn K (.ref gLLeads) = true) (bLLeads : Binds K fLLeads ["_law_ties", "_law_names"] []) (hLLeads : mg "_law_leads" = some (.ref gLLeads)) (GLLeads : FnOk P w K mg base CX0 1 gLLeads fLLeads ["_law_ties", "_law_names"] spLLeads) :
    FnOk P w K mg base CX0 2 f fd ["_law_many", "_law_stand", "_law_thing"] spDueOf := by
  refine F.ok scDueOf (fun vs H Q E h => ?_) (fun cdv A outer s H vs Q E hr h => ?_)
  · obtain ⟨_, _, _, _, _, rfl, _⟩ := h; rfl
  · obtain ⟨N, st, S, x0, b0, rfl, hst, SN, nd, S100, N100, tell, k⟩ := h
    refine ⟨_, pss_cons (ps_if (PW.pt (pw_or (pt_not (pt_val (pe_callB call_isi (by rfl) T.isinstance (by decide +kernel) (pa_cons (pv 2) (pa_cons (pe_ty (T := "tuple") (by rfl) T.tuple (by decide +kernel)) pa_nil))))) (pw_or (pt_cmpR op_ne (pe_callB call_len_seq (by rfl) T.len PySem.boot_len (pa_cons (pv 2) pa_nil)) pe_int (nomark _)) (pw_or1 (pt_not (pt_val (pe_callB call_isi (by rfl) T.isinstance (by decide +kernel) (pa_cons (pe_ix ix_tup (pv 2) pe_int (fun _ _ => rfl)) (pa_cons (pe_ty (T := "tuple") (by rfl) T.tuple (by decide +kernel)) pa_nil))))))))) (pss_one (ps_ret pe_bl)) pss_nil)
      (pss_cons (ps_asg (pv 2) (pg_tup rfl (pgs_cons (pg_name (i := 3) scDueOf.nd rfl (Or.inl rfl)) (pgs_cons (pg_name (i := 4) scDueOf.nd rfl (Or.inr rfl)) pgs_nil))))
      (pss_cons (ps_if (PW.pt (pw_or (pt_not (pt_val (pe_callB call_isi (by rfl) T.isinstance (by decide +kernel) (pa_cons (pv 3) (pa_cons (pe_ty (T := "str") (by rfl) T.str (by decide +kernel)) pa_nil))))) (pw_or1 (pt_cmpR op_notIn_seq (pv 3) (pe_tup (pa_cons pe_str (pa_cons pe_str pa_nil))) (by rfl))))) (pss_one (ps_ret pe_bl)) pss_nil)
      (pss_cons (ps_if (pt_cmpR op_eq (pv 3) pe_str (nomark _)) (pss_cons (ps_comp (i := 5) (T := ["_law_name"]) (F := []) (js := []) scDueOf.nd rfl (Or.inl rfl) (CS.to (osc := defScope sDueOf) ⟨by rfl, by decide +kernel, by decide +kernel, by decide +kernel, by decide +kernel, by decide +kernel, by decide +kernel⟩ rfl rfl) rfl (pi_tup (pv 4)) (fun _ _ _ _ _ => pg_name (i := 0) (show (["_law_name"] : List Str).Nodup by decide +kernel) rfl (Or.inl rfl)) (fun _ _ _ _ _ => pif_one (pt_val (pe_callB (r := rIsiK K) call_isi (by rfl) T.isinstance (by decide +kernel) (pa_cons (pv 0) (pa_cons (pe_ty (T := "str") (by rfl) T.str (by decide +kernel)) pa_nil))))) (fun _ _ _ _ _ => pv 0))
      (pss_cons (ps_if (PW.pt (pw_or (pt_cmpR op_ne (pe_callB call_len_seq (by rfl) T.len PySem.boot_len (pa_cons (pv 5) pa_nil)) (pe_callB call_len_seq (by rfl) T.len PySem.boot_len (pa_cons (pv 4) pa_nil)) (nomark _)) (pw_or (pt_cmpR op_eq (pe_op op_mod (pe_callB call_len_seq (by rfl) T.len PySem.boot_len (pa_cons (pv 4) pa_nil)) pe_int) pe_int (nomark _)) (pw_or1 (pt_cmpR op_gt (pe_callB call_len_seq (by rfl) T.len PySem.boot_len (pa_cons (pv 4) pa_nil)) pe_int (nomark _)))))) (pss_one (ps_ret pe_bl)) pss_nil)
      (pss_one (ps_ret (pe_call GLLeads hr rfl hLLeads kLLeads bLLeads .nil pass0 (pa_cons (pv 1) (pa_cons (pv 4) pa_nil))))))) pss_nil)
      (pss_cons (ps_comp (i := 6) (T := ["_law_one"]) (F := []) (js := []) scDueOf.nd rfl (Or.inl rfl) (CS.to (osc := defScope sDueOf) ⟨by rfl, by decide +kernel, by decide +kernel, by decide +kernel, by decide +kernel, by decide +kernel, by decide +kernel⟩ rfl rfl) rfl (pi_tup (pv 4)) (fun _ _ _ _ _ => pg_name (i := 0) (show (["_law_one"] : List Str).Nodup by decide +kernel) rfl (Or.inl rfl)) (fun _ _ _ _ _ => pif_one (PW.pt (pw_and (pt_val (pe_callB (r := rIsiK K) call_isi (by rfl) T.isinstance (by decide +kernel) (pa_cons (pv 0) (pa_cons (pe_ty (T := "int") (by rfl) T.int (by decide +kernel)) pa_nil)))) (pw_and1 (pt_cmpR (r := rIn K false) op_in_seq (pv 0) (pe_tup (pa_cons pe_int (pa_cons pe_int pa_nil))) (by rfl)))))) (fun _ _ _ _ _ => pv 0))
      (pss_cons (ps_comp (i := 6) (T := ["_law_one"]) (F := []) (js := []) scDueOf.nd rfl (Or.inl rfl) (CS.to (osc := defScope sDueOf) ⟨by rfl, by decide +kernel, by decide +kernel, by decide +kernel, by decide +kernel, by decide +kernel, by decide +kernel⟩ rfl rfl) rfl (pi_list (pv 6)) (fun _ _ _ _ _ => pg_name (i := 0) (show (["_law_one"] : List Str).Nodup by decide +kernel) rfl (Or.inl rfl)) (fun _ _ _ _ _ => pif_one (pt_not (pt_val (pe_callB (r := rIsiK K) call_isi (by rfl) T.isinstance (by decide +kernel) (pa_cons (pv 0) (pa_cons (pe_ty (T := "bool") (by rfl) T.bool (by decide +kernel)) pa_nil)))))) (fun _ _ _ _ _ => pv 0))
      (pss_cons (ps_if (PW.pt (pw_or (pt_cmpR op_ne (pe_callB call_len_seq (by rfl) T.len PySem.boot_len (pa_cons (pv 6) pa_nil)) (pe_callB call_len_seq (by rfl) T.len PySem.boot_len (pa_cons (pv 4) pa_nil)) (nomark _)) (pw_or1 (pt_cmpR op_ne (pe_callB call_len_seq (by rfl) T.len PySem.boot_len (pa_cons (pv 4) pa_nil)) (pv 0) (nomark _))))) (pss_one (ps_ret pe_bl)) pss_nil)
      (pss_one (ps_ret (pe_cmpR (op_eqNil hr.units) (pe_comp (T := ["_law_tie"]) (F := ["_law_told"]) (js := [4]) (CS.to (osc := defScope sDueOf) ⟨by rfl, by decide +kernel, by decide +kernel, by decide +kernel, by decide +kernel, by decide +kernel, by decide +kernel⟩ rfl rfl) rfl (pi_tup (pv 1)) (fun _ _ _ _ _ => pg_name (i := 0) (show (["_law_tie", "_law_told"] : List Str).Nodup by decide +kernel) rfl (Or.inl rfl)) (fun _ _ _ _ _ => pif_one (pt_cmpR op_eq (pe_ix (r := rIxT K) ix_tup (pv 1) (pe_ix (r := rIxT K) ix_tup (pv 0) pe_int (fun _ _ => rfl)) (fun _ _ => rfl)) (pe_ix (r := rIxT K) ix_tup (pv 1) (pe_ix (r := rIxT K) ix_tup (pv 0) pe_int (fun _ _ => rfl)) (fun _ _ => rfl)) (nomark _))) (fun _ _ _ _ _ => pv 0)) (pe_lst pa_nil) (nomark _)))))))))), ?_⟩
    rcases tell.three with ⟨nt, rfl⟩ | ⟨r, xs, rfl, er, hl, rfl⟩ | ⟨r, w0, t0, rfl, er, hwd, alt⟩
    · obtain ⟨ty, h1, h2⟩ := nt.tup (K := K)
      exact ⟨_, rfl, _, ty, "tuple", false, rfl, h1, h2, _, rfl, iteT (k H (same_refl _))⟩
    · refine ⟨_, rfl, .ref r, .type "tuple", "tuple", true, rfl, .tup er, rfl, _, rfl, iteF ?_⟩
      refine ⟨_, rfl, r, _, rfl, .inr (SqT.of er), rfl, _, rfl, ite2 (fun g => k H (same_refl _)) fun g => absurd ?_ g⟩
      rw [decide_eq_false (fun z => hl (by injection z with z; omega))]; rfl
    refine ⟨_, rfl, .ref r, .type "tuple", "tuple", true, rfl, .tup er, rfl, _, rfl, iteF ?_⟩
    refine ⟨_, rfl, r, _, rfl, .inr (SqT.of er), rfl, _, rfl, ite2 (fun g => absurd g (by simp)) fun _ => ?_⟩
    rcases alt with ⟨nt, rfl⟩ | ⟨xs, ⟨wa, rfl, hw, hi, x900⟩, b1, b2⟩
    · obtain ⟨ty, h1, h2⟩ := nt.tup (K := K)
      exact ⟨_, rfl, r, _, 1, _, rfl, rfl, SqT.of er, atI_nat (j := 1) rfl, _, ty, "tuple", false, rfl, h1, h2, _, rfl, iteT (k H (same_refl _))⟩
    refine ⟨_, rfl, r, _, 1, _, rfl, rfl, SqT.of er, atI_nat (j := 1) rfl, .ref wa, .type "tuple", "tuple", true, rfl, .tup hw, rfl, _, rfl, iteF ?_⟩
    dsimp only [tNext]
    refine ⟨_, rfl, r, _, rfl, SqT.of er, rfl, _, _, rfl, _, _, rfl, rfl, ?_⟩
    obtain ⟨ty, h1, h2⟩ := hwd.str (K := K)
    refine ⟨_, rfl, w0, ty, "str", isSt w0, rfl, h1, h2, _, rfl, ?_⟩
    cases hs : isSt w0 with
    | false =>
      rw [b1 hs] at k
      exact iteT (k H (same_refl _))
    | true =>
    obtain ⟨wd, rfl⟩ : ∃ wd, w0 = .str wd := by
      cases w0 with
      | str n => exact ⟨n, rfl⟩
      | _ => cases hs
    rw [b2 wd rfl] at k
    clear b1 b2 h1 h2 hwd hs tell
    refine iteF ?_
    refine ⟨_, rfl, small (by simp), fun c hc => ?_⟩
    have sc := same_new (o := .tup [.str (Str.ofString "sides"), .str (Str.ofString "ring")]) hc
    have c1 := upd_same (H := H) (a := c) (o := .tup [.str (Str.ofString "sides"), .str (Str.ofString "ring")])
    generalize upd H c (.tup [.str (Str.ofString "sides"), .str (Str.ofString "ring")]) = H1 at sc c1 ⊢
    refine ⟨c, _, rfl, .inr (SqT.of c1), rfl, rfl, _, rfl, ?_⟩
    show if (!inV (.str wd) [.str (Str.ofString "sides"), .str (Str.ofString "ring")]) = true then _ else _
    have ein : inV (.str wd) [.str (Str.ofString "sides"), .str (Str.ofString "ring")] = decide (wd = Str.ofString "sides" ∨ wd = Str.ofString "ring") := by
      have := inV_strs wd [Str.ofString "sides", Str.ofString "ring"]
      simp only [List.mem_cons, List.not_mem_nil, or_false] at this
      exact this
    rw [ein]
    by_cases gw : wd = Str.ofString "sides" ∨ wd = Str.ofString "ring"
    rotate_left
    · rw [decide_eq_false gw]
      refine iteT ?_
      have := k H1 sc
      unfold holdB at this
      rw [if_neg fun z => gw (.inl z), if_neg fun z => gw (.inr z)] at this
      exact this
    rw [decide_eq_true gw]
    refine iteF ?_
    dsimp only [tNext]
    have hw1 := sc _ _ hw
    refine ⟨_, rfl, rfl, _, rfl, ?_⟩
    rw [str_eq]
    by_cases gr : wd = Str.ofString "ring"
    · have ns : ¬ wd = Str.ofString "sides" := fun z => by rw [z] at gr; exact absurd gr (by decide +kernel)
      have k : ∀ H', Same H1 H' → Q (.bl (oddV N S xs)) H' := fun H' s' => by
        have := k H' (sc.trans s')
        unfold holdB at this
        rw [if_neg ns, if_pos gr] at this
        exact this
      rw [decide_eq_true gr]
      refine iteT ?_
      refine ⟨_, rfl, wa, rfl, ⟨_, SqT.of hw1⟩, fun D hD => comp_tup (K := K) (a := wa) (xs := xs) (fun j σ ys H6 => ∃ (u : Option V), σ = [u] ∧ ys = (xs.take j).filter isS ∧ H6 = upd H1 D (.lst ys)) ⟨none, rfl, rfl, rfl⟩ (fun j σ ys H6 _ ⟨_, _, e1, e⟩ => by rw [e]; exact ⟨SqT.of (by rw [upd_ne (ne_of_none hw1 hD)]; exact hw1), upd_same⟩) ?_ ?_⟩
      · rintro j x σ ys H6 hx ⟨u, rfl, rfl, rfl⟩
        have tk : xs.take (j + 1) = xs.take j ++ [x] := by rw [List.take_add_one, hx]; rfl
        have jl : ((xs.take j).filter isS).length ≤ 900 := Nat.le_trans (List.length_filter_le _ _) (by rw [List.length_take]; omega)
        obtain ⟨ty, h1, h2⟩ := ((hi x (List.mem_of_getElem? hx)).same (sc.trans (same_new hD))).str (K := K)
        refine ⟨_, rfl, x, ty, "str", isSt x, rfl, h1, h2, _, rfl, ?_⟩
        rw [st_is]
        cases hb : isS x with
        | true => exact iteT ⟨_, rfl, upd_same, small1000 (by omega), _, rfl, by rw [tk, List.filter_append, List.filter_cons_of_pos hb]; rfl, by rw [upd_upd]⟩
        | false => exact iteF ⟨_, rfl, by rw [tk, List.filter_append, List.filter_cons_of_neg (by rw [hb]; decide), List.filter_nil, List.append_nil], rfl⟩
      rintro σ ys H6 ⟨u, rfl, rfl, rfl⟩
      rw [List.take_length]
      have sD := same_new (o := .lst (xs.filter isS)) hD
      have D6 := upd_same (H := H1) (a := D) (o := .lst (xs.filter isS))
      generalize upd H1 D (.lst (xs.filter isS)) = H6 at sD D6 ⊢
      have hw6 := sD _ _ hw1
      refine ⟨_, rfl, D, _, rfl, .inl (SqL.of D6), _, rfl, wa, _, rfl, .inr (SqT.of hw6), rfl, _, rfl, ?_⟩
      cases hA : xs.all isS with
      | false =>
        have ne : ¬ (V.int ((xs.filter isS).length : Int) = V.int (xs.length : Int)) := fun z => by
          injection z with z
          have := (filter_len isS xs).mp (by omega)
          rw [hA] at this; cases this
        rw [decide_eq_false ne]
        refine iteT ?_
        have := k H6 sD
        rw [odd_nots hA] at this
        exact this
      | true =>
      rw [decide_eq_true (show V.int ((xs.filter isS).length : Int) = V.int (xs.length : Int) by rw [(filter_len isS xs).mpr hA])]
      refine iteF ⟨_, rfl, wa, _, rfl, .inr (SqT.of hw6), _, _, rfl, rfl, (by show (0 : Int) < 2; decide), rfl, _, rfl, ?_⟩
      by_cases ho : xs.length % 2 = 1
      rotate_left
      · rw [decide_eq_true (show V.int ((xs.length : Int) % 2) = V.int 0 by congr 1; omega)]
        refine iteT ?_
        have := k H6 sD
        rw [odd_not (.inl (by omega))] at this
        exact this
      rw [decide_eq_false (show ¬ V.int ((xs.length : Int) % 2) = V.int 0 from fun e => by injection e with e; omega)]
      refine iteF ⟨_, rfl, wa, _, rfl, .inr (SqT.of hw6), _, _, rfl, rfl, _, rfl, ite2 (fun g => ?_) fun g => ?_⟩
      · have := of_decide_eq_true g
        have t := k H6 sD
        rw [odd_not (.inr (by omega))] at t
        exact t
      have h61 : ¬ ((xs.length : Int) > 61) := fun h => g (decide_eq_true h)
      dsimp only [tNext]
      have exs := strs_of hA
      have kl : (xs.map asS).length = xs.length := List.length_map ..
      rw [exs] at hw6
      refine ⟨_, rfl, _, rfl, N, st, wa, S, xs.map asS, rfl, hst.same (sc.trans sD), SN, nd, S100, hw6, by omega, fun H7 s7 => ?_⟩
      have := k H7 (sD.trans s7)
      rw [exs, odd_clos (by omega) (by omega)] at this
      exact this
    have gs : wd = Str.ofString "sides" := gw.resolve_right gr
    have k2 : ∀ H', Same H1 H' → Q (.bl (numV N S xs)) H' := fun H' s' => by
      have := k H' (sc.trans s')
      unfold holdB at this
      rw [if_pos gs] at this
      exact this
    clear k
    rw [decide_eq_false gr]
    refine iteF ?_
    dsimp only [tNext]
    refine ⟨_, rfl, wa, rfl, ⟨_, SqT.of hw1⟩, fun D hD => comp_tup (K := K) (a := wa) (xs := xs) (fun j σ ys H6 => ∃ (u : Option V), σ = [u] ∧ ys = (xs.take j).filter in01b ∧ Same H1 H6 ∧ H6 D = some (.lst ys)) ⟨none, rfl, rfl, same_new hD, upd_same⟩ (fun j σ ys H6 _ ⟨_, _, e1, s6, e⟩ => ⟨SqT.of (s6 _ _ hw1), e⟩) ?_ ?_⟩
    · rintro j x σ ys H6 hx ⟨u, rfl, rfl, s6, e6⟩
      have tk : xs.take (j + 1) = xs.take j ++ [x] := by rw [List.take_add_one, hx]; rfl
      have jl : ((xs.take j).filter in01b).length ≤ 900 := Nat.le_trans (List.length_filter_le _ _) (by rw [List.length_take]; omega)
      obtain ⟨ty, h1, h2⟩ := ((hi x (List.mem_of_getElem? hx)).same (sc.trans s6)).int (K := K)
      refine ⟨_, rfl, x, ty, "int", _, rfl, h1, h2, _, rfl, ?_⟩
      cases x with
      | int i =>
        refine iteT ⟨_, rfl, small (by simp), fun c2 hc2 => ?_⟩
        have s7 := same_new (o := .tup [.int 0, .int 1]) hc2
        have c7 := upd_same (H := H6) (a := c2) (o := .tup [.int 0, .int 1])
        have e7 := s7 _ _ e6
        generalize upd H6 c2 (.tup [.int 0, .int 1]) = H7 at s7 c7 e7 ⊢
        refine ⟨c2, _, rfl, .inr (SqT.of c7), rfl, rfl, _, rfl, ?_⟩
        show if (inV (.int i) [.int 0, .int 1]) = true then _ else _
        rw [in_01]
        have e01 : in01b (.int i) = in01 (.int i) := by unfold in01b; simp [isBl]
        cases hb : in01 (.int i) with
        | true => exact iteT ⟨_, rfl, e7, small1000 (by omega), _, rfl, by rw [tk, List.filter_append, List.filter_cons_of_pos (by rw [e01]; exact hb)]; rfl, same_set (s6.trans s7) hD, upd_same⟩
        | false => exact iteF ⟨_, rfl, by rw [tk, List.filter_append, List.filter_cons_of_neg (by rw [e01, hb]; decide), List.filter_nil, List.append_nil], s6.trans s7, e7⟩
      | bl b =>
        refine iteT ⟨_, rfl, small (by simp), fun c2 hc2 => ?_⟩
        have s7 := same_new (o := .tup [.int 0, .int 1]) hc2
        have c7 := upd_same (H := H6) (a := c2) (o := .tup [.int 0, .int 1])
        have e7 := s7 _ _ e6
        generalize upd H6 c2 (.tup [.int 0, .int 1]) = H7 at s7 c7 e7 ⊢
        refine ⟨c2, _, rfl, .inr (SqT.of c7), rfl, rfl, _, rfl, ?_⟩
        show if (inV (.bl b) [.int 0, .int 1]) = true then _ else _
        rw [bl_in]
        exact iteT ⟨_, rfl, e7, small1000 (by omega), _, rfl, by rw [tk, List.filter_append, List.filter_cons_of_pos rfl]; rfl, same_set (s6.trans s7) hD, upd_same⟩
      | _ => exact iteF ⟨_, rfl, by rw [tk, List.filter_append, List.filter_cons_of_neg (by simp [in01b, in01, isBl]), List.filter_nil, List.append_nil], s6, e6⟩
    rintro σ ys H6 ⟨u, rfl, rfl, s6, e6⟩
    rw [List.take_length] at e6
    have hw6 := s6 _ _ hw1
    refine ⟨_, rfl, D, rfl, ⟨_, SqL.of e6⟩, fun G hG => comp_list (K := K) (a := D) (xs := xs.filter in01b) (fun j σ ys H7 => ∃ (u : Option V), σ = [u] ∧ ys = ((xs.filter in01b).take j).filter in01 ∧ H7 = upd H6 G (.lst ys)) ⟨none, rfl, rfl, rfl⟩ (fun j σ ys H7 _ ⟨_, _, _, e⟩ => by rw [e]; exact ⟨SqL.of (by rw [upd_ne (ne_of_none e6 hG)]; exact e6), upd_same⟩) ?_ ?_⟩
    · rintro j x σ ys H7 hx ⟨u, rfl, rfl, rfl⟩
      have tk : (xs.filter in01b).take (j + 1) = (xs.filter in01b).take j ++ [x] := by rw [List.take_add_one, hx]; rfl
      have jl : (((xs.filter in01b).take j).filter in01).length ≤ 900 := by
        have h0 := List.length_filter_le in01b xs
        have h1 := List.length_filter_le in01 ((xs.filter in01b).take j)
        rw [List.length_take] at h1; omega
      have hm := List.mem_filter.mp (List.mem_of_getElem? hx)
      obtain ⟨ty, h1, h2⟩ := ((hi x hm.1).same ((sc.trans s6).trans (same_new hG))).bool (K := K)
      refine ⟨_, rfl, x, ty, "bool", _, rfl, h1, h2, _, rfl, ?_⟩
      cases x with
      | int i =>
        have hb : in01 (.int i) = true := by have := hm.2; unfold in01b at this; simpa [isBl] using this
        exact iteT ⟨_, rfl, upd_same, small1000 (by omega), _, rfl, by rw [tk, List.filter_append, List.filter_cons_of_pos hb]; rfl, by rw [upd_upd]⟩
      | bl b => exact iteF ⟨_, rfl, by rw [tk, List.filter_append, List.filter_cons_of_neg (by simp [in01]), List.filter_nil, List.append_nil], rfl⟩
      | _ => cases hm.2
    rintro σ ys H7 ⟨u, rfl, rfl, rfl⟩
    rw [List.take_length, filt_in]
    have sG := same_new (o := .lst (xs.filter in01)) hG
    have g7 := upd_same (H := H6) (a := G) (o := .lst (xs.filter in01))
    generalize upd H6 G (.lst (xs.filter in01)) = H7 at sG g7 ⊢
    have hw7 := sG _ _ hw6
    have S7 := s6.trans sG
    refine ⟨_, rfl, G, _, rfl, .inl (SqL.of g7), _, rfl, wa, _, rfl, .inr (SqT.of hw7), rfl, _, rfl, ?_⟩
    cases hA : xs.all in01 with
    | false =>
      have ne : ¬ (V.int ((xs.filter in01).length : Int) = V.int (xs.length : Int)) := fun z => by
        injection z with z
        have := (filter_len in01 xs).mp (by omega)
        rw [hA] at this; cases this
      rw [decide_eq_false ne]
      refine iteT ?_
      have := k2 H7 S7
      rw [num_no1 (.inl hA)] at this
      exact this
    | true =>
    rw [decide_eq_true (show V.int ((xs.filter in01).length : Int) = V.int (xs.length : Int) by rw [(filter_len in01 xs).mpr hA])]
    refine iteF ⟨_, rfl, wa, _, rfl, .inr (SqT.of hw7), _, rfl, rfl, _, rfl, ?_⟩
    by_cases hN : xs.length = N
    rotate_left
    · rw [decide_eq_false (show ¬ V.int (xs.length : Int) = V.int (N : Int) from fun z => by injection z with z; omega)]
      refine iteT ?_
      have := k2 H7 S7
      rw [num_no1 (.inr hN)] at this
      exact this
    rw [decide_eq_true (show V.int (xs.length : Int) = V.int (N : Int) by rw [hN])]
    refine iteF ?_
    dsimp only [tNext]
    have exs := ints01 hA
    have nt := num_ties (S := S) hA hN
    have nl : (xs.map asI).length = N := by rw [List.length_map]; exact hN
    rw [nt] at k2
    clear nt hA hi g7 e6
    generalize xs.map asI = ns at exs nl
    subst exs
    obtain ⟨rs, est, hrs⟩ := id (hst.same (sc.trans S7))
    refine ⟨_, rfl, st, rfl, ⟨_, SqT.of est⟩, fun L hL => comp_tup (K := K) (a := st) (xs := rs.map V.ref) (fun j σ ys H8 => ∃ (u : Option V) (fs : List Addr), σ = [u, some (.ref wa)] ∧ ys = fs.map V.ref ∧ H8 = upd H7 L (.lst ys) ∧ fs.length ≤ j ∧ fs.isEmpty = (S.take j).all fun t => !decide ((ns.map V.int).getD t.2.1 .non = (ns.map V.int).getD t.2.2.1 .non)) ⟨none, [], rfl, rfl, rfl, Nat.le_refl _, rfl⟩ (fun j σ ys H8 _ ⟨_, _, _, _, e, _⟩ => by rw [e]; exact ⟨SqT.of (by rw [upd_ne (ne_of_none est hL)]; exact est), upd_same⟩) ?_ ?_⟩
    · rintro j x σ ys H8 hx ⟨u, fs, rfl, rfl, rfl, fl, fe⟩
      obtain ⟨r2, hr', rfl⟩ := map_some hx
      obtain ⟨t, ht, er2⟩ := hrs.get hr'
      have hj : j < S.length := (List.getElem?_eq_some_iff.mp ht).1
      have tN := SN t (List.mem_of_getElem? ht)
      have sL := same_new (o := .lst (fs.map V.ref)) hL
      have er8 := sL _ _ er2
      have hw8 := sL _ _ hw7
      have tk : (S.take (j + 1)).all (fun t => !decide ((ns.map V.int).getD t.2.1 .non = (ns.map V.int).getD t.2.2.1 .non)) = ((S.take j).all (fun t => !decide ((ns.map V.int).getD t.2.1 .non = (ns.map V.int).getD t.2.2.1 .non)) && !decide (V.int (ns.getD t.2.1 0) = V.int (ns.getD t.2.2.1 0))) := by
        rw [List.take_add_one, ht, List.all_append, ← getD_int (by omega), ← getD_int (by omega)]
        simp
      refine ⟨_, rfl, _, rfl, r2, _, 1, _, rfl, rfl, SqT.of er8, atI_nat (j := 1) rfl, wa, _, _, _, rfl, rfl, SqT.of hw8, int_at (by omega), _, rfl, _, rfl, r2, _, 2, _, rfl, rfl, SqT.of er8, atI_nat (j := 2) rfl, wa, _, _, _, rfl, rfl, SqT.of hw8, int_at (by omega), rfl, _, rfl, ?_⟩
      cases hg : decide (V.int (ns.getD t.2.1 0) = V.int (ns.getD t.2.2.1 0)) with
      | true =>
        refine iteT ⟨_, rfl, upd_same, small1000 (by rw [List.length_map]; omega), _, fs ++ [r2], rfl, by rw [List.map_append]; rfl, by rw [upd_upd], by rw [List.length_append]; show _ + 1 ≤ _; omega, ?_⟩
        rw [tk, hg]; simp
      | false =>
        refine iteF ⟨_, fs, rfl, rfl, rfl, by omega, ?_⟩
        rw [tk, hg, fe]; simp
    · rintro σ ys H8 ⟨u, fs, rfl, rfl, rfl, fl, fe⟩
      rw [List.length_map, hrs.1, List.take_length] at fe
      have sL := same_new (o := .lst (fs.map V.ref)) hL
      have L8 := upd_same (H := H7) (a := L) (o := .lst (fs.map V.ref))
      generalize upd H7 L (.lst (fs.map V.ref)) = H8 at sL L8 ⊢
      refine ⟨small (by simp), fun e he => ?_⟩
      have se := same_new (o := .lst []) he
      refine ⟨L, e, _, rfl, rfl, SqL.of (se _ _ L8), SqL.of upd_same, ?_⟩
      have := k2 _ ((S7.trans sL).trans se)
      rw [← fe] at this
      have ei : (fs.map V.ref).isEmpty = fs.isEmpty := by cases fs <;> rfl
      rw [ei]
      exact this
end
end K56
set_option maxHeartbeats 4000000
namespace K56
open PySem L2 Wk
abbrev Kw := List (Nat × Addr)
def kwK (ks : Kw) : List (Key × V) := ks.map fun p => (Sum.inl (p.1 : Int), V.ref p.2)
structure KwOk (N : Nat) (ks : Kw) : Prop where
  nd : (ks.map (·.1)).Nodup
  ok : ∀ p ∈ ks, p.1 < N
theorem kw_none {ks : Kw} {v : Nat} (h : v ∉ ks.map (·.1)) : valV (kwK ks) (Sum.inl (v : Int)) = none := by
  unfold kwK
  induction ks with
  | nil => rfl
  | cons p ks ih =>
    rw [List.map_cons, List.mem_cons, not_or] at h
    rw [List.map_cons, valV_neg (by intro e; exact h.1 (by injection e with e; omega))]
    exact ih h.2
theorem kw_some {ks : Kw} {v : Nat} (h : v ∈ ks.map (·.1)) : ∃ a, (v, a) ∈ ks ∧ valV (kwK ks) (Sum.inl (v : Int)) = some (.ref a) := by
  unfold kwK
  induction ks with
  | nil => cases h
  | cons p ks ih =>
    rw [List.map_cons]
    by_cases e : p.1 = v
    · exact ⟨p.2, by rw [← e]; exact List.mem_cons_self .., by rw [valV_pos (by rw [e])]⟩
    · rw [List.map_cons] at h
      obtain ⟨a, h1, h2⟩ := ih ((List.mem_cons.mp h).resolve_left (Ne.symm e))
      exact ⟨a, List.mem_cons_of_mem _ h1, by rw [valV_neg (by intro z; injection z with z; omega)]; exact h2⟩
theorem kw_put {ks : Kw} {v : Nat} {s : Addr} (h : v ∉ ks.map (·.1)) : putK (kwK ks) (Sum.inl (v : Int)) (.ref s) = kwK (ks ++ [(v, s)]) := by
  rw [putK_new _ (kw_none h)]
  unfold kwK
  rw [List.map_append]; rfl
theorem KwOk.len {N : Nat} {ks : Kw} (h : KwOk N ks) : ks.length ≤ N := by
  have := nodup_le (ks.map (·.1)) (List.range N) h.nd fun v hv => by
    obtain ⟨p, hp, rfl⟩ := List.mem_map.mp hv
    exact List.mem_range.mpr (h.ok p hp)
  rwa [List.length_map, List.length_range] at this
theorem KwOk.snoc {N : Nat} {ks : Kw} {v : Nat} {s : Addr} (h : KwOk N ks) (hv : v ∉ ks.map (·.1)) (vN : v < N) : KwOk N (ks ++ [(v, s)]) := by
  refine ⟨?_, fun p hp => ?_⟩
  · rw [List.map_append]
    refine List.nodup_append.mpr ⟨h.nd, List.nodup_cons.mpr ⟨by simp, List.nodup_nil⟩, fun x hx z hz e => ?_⟩
    rw [List.mem_singleton.mp hz] at e
    have e : x = v := e
    exact hv (e ▸ hx)
  · rcases List.mem_append.mp hp with h1 | h1
    · exact h.ok p h1
    · rw [List.mem_singleton.mp h1]; exact vN
def WyAt (N : Nat) (S : List T4) (m : Nat) (H : Hp) (v : Nat) (a : Addr) : Prop := ∃ ws : List Str, H a = some (.tup (ws.map V.str)) ∧ ws.length ≤ m ∧ ∃ b ∈ lsF N S, Lead S b ws v
theorem WyAt.tk {N m v : Nat} {S : List T4} {H H' : Hp} {a : Addr} (h : WyAt N S m H v a) (f : TK H H') : WyAt N S m H' v a := let ⟨ws, e, l, b⟩ := h; ⟨ws, f _ _ e, l, b⟩
theorem WyAt.mono {N m m' v : Nat} {S : List T4} {H : Hp} {a : Addr} (h : WyAt N S m H v a) (f : m ≤ m') : WyAt N S m' H v a := let ⟨ws, e, l, b⟩ := h; ⟨ws, e, by omega, b⟩
def RowW (N : Nat) (S : List T4) (ks : Kw) (H : Hp) (r : Addr) : Prop := ∃ (p : Nat) (wa : Addr), p < N ∧ (p ∈ ks.map (·.1) ∨ WyAt N S ks.length H p wa) ∧ H r = some (.tup [.int (p : Int), .ref wa])
theorem RowW.tk {N : Nat} {S : List T4} {ks : Kw} {H H' : Hp} {r : Addr} (h : RowW N S ks H r) (f : TK H H') : RowW N S ks H' r := let ⟨p, s, a, d, c⟩ := h; ⟨p, s, a, d.imp id fun z => z.tk f, f _ _ c⟩
theorem RowW.more {N : Nat} {S : List T4} {ks : Kw} {H : Hp} {r : Addr} {x : Nat × Addr} (h : RowW N S ks H r) : RowW N S (ks ++ [x]) H r := let ⟨p, s, a, d, c⟩ := h; ⟨p, s, a, d.imp (fun z => by rw [List.map_append]; exact List.mem_append_left _ z) fun z => z.mono (by rw [List.length_append]; omega), c⟩
def Nc (S : List T4) (ks : Kw) (v : Nat) : Prop := ∃ t ∈ S, (t.2.1 ∈ ks.map (·.1) ∧ v = t.2.2.1) ∨ (t.2.2.1 ∈ ks.map (·.1) ∧ v = t.2.1)
theorem Nc.snoc {S : List T4} {ks : Kw} {p v : Nat} {s : Addr} (h : Nc S (ks ++ [(p, s)]) v) : Nc S ks v ∨ Bs S p v := by
  obtain ⟨t, ht, ⟨a, b⟩ | ⟨a, b⟩⟩ := h
  · rw [List.map_append] at a
    rcases List.mem_append.mp a with z | z
    · exact .inl ⟨t, ht, .inl ⟨z, b⟩⟩
    · exact .inr ⟨t, ht, .inl ⟨(List.mem_singleton.mp z).symm, b⟩⟩
  · rw [List.map_append] at a
    rcases List.mem_append.mp a with z | z
    · exact .inl ⟨t, ht, .inr ⟨z, b⟩⟩
    · exact .inr ⟨t, ht, .inr ⟨(List.mem_singleton.mp z).symm, b⟩⟩
def lenW (H : Hp) (ks : Kw) (v : Nat) : Nat := match valV (kwK ks) (Sum.inl (v : Int)) with
  | some (.ref a) => match H a with
    | some (.tup xs) => xs.length
    | _ => 0
  | _ => 0
theorem lenW_at {H : Hp} {ks : Kw} {v : Nat} {a : Addr} {xs : List V} (h : valV (kwK ks) (Sum.inl (v : Int)) = some (.ref a)) (e : H a = some (.tup xs)) : lenW H ks v = xs.length := by
  unfold lenW
  rw [h]
  show (match H a with | some (.tup xs) => xs.length | _ => 0) = _
  rw [e]
theorem ring_of {N : Nat} {S : List T4} {t : T4} {x y : List Str} {b c : Nat} (hS : InN N S) (hN : N ≤ 60) (nd : (S.map (·.1)).Nodup) (ht : t ∈ S) (hb : b ∈ lsF N S) (hc : c ∈ lsF N S) (lx : Lead S b x t.2.1) (ly : Lead S c y t.2.2.1) (par : ((x.length : Int) - (y.length : Int)) % 2 = 0) : Ring N S (x.reverse ++ y ++ [t.1]) := by
  have e : b = c := ls_uniq hS hN hb hc (Reach.trans ⟨x ++ [t.1], .snoc lx (nb_of ht)⟩ (Reach.symm ⟨y, ly⟩))
  subst e
  refine ⟨?_, t.2.1, (hS t ht).1, ?_⟩
  · rw [List.length_append, List.length_append, List.length_reverse]
    show (x.length + y.length + 1) % 2 = 1
    omega
  · rw [List.append_assoc, goF_app (goF_rev nd (lead_go nd lx)), goF_app (lead_go nd ly)]
    exact goF_one (over_tie nd ht).2
def spLRing : Sp := fun vs H Q _ => ∃ (N : Nat) (st : Addr) (S : List T4), vs = [.int (N : Int), .ref st] ∧ StandAt H st S ∧ InN N S ∧ (S.map (·.1)).Nodup ∧ S.length ≤ 60 ∧ N ≤ 30 ∧ ¬ Two S ∧ ∀ (r : Addr) (ws : List Str) (H' : Hp), Same H H' → H' r = some (.tup (ws.map V.str)) → ws.length ≤ 61 → Ring N S ws → Q (.ref r) H'
section
variable {P : Program} {w : World} {K : PySem.W.Frag} {mg : Str → Option Value} {base : Heap}
theorem scLRing : FnScope ["_law_many", "_law_stand", "_law_ways", "_law_begin", "_law_line", "_law_place", "_law_way", "_law_tie", "_law_name", "_law_one", "_law_other", "_law_weight"] ["_law_many", "_law_stand"] (defScope sLRing) := ⟨rfl, rfl, rfl, by decide +kernel, rfl, by decide +kernel, by decide +kernel⟩
theorem ok_LRing {f : Addr} {fd : FuncData} (F : Fun K "_law_ring" "_law_ring" sLRing f fd) (T : Txt mg) :
    FnOk P w K mg base CX0 1 f fd ["_law_many", "_law_stand"] spLRing := by
  refine F.ok scLRing (fun vs H Q E h => ?_) (fun cdv A outer s H vs Q E hr h => ?_)
  · obtain ⟨_, _, _, rfl, _⟩ := h; rfl
  · obtain ⟨N, st, S, rfl, ⟨rs, hst, hrs⟩, SN, nd, S60, N30, odd, k⟩ := h
    refine ⟨_, pss_cons (ps_set (i := 2) scLRing.nd rfl (Or.inl rfl) pe_dnewK)
      (pss_cons (ps_for PassesOwn.never rfl (pi_range1 rfl T.range (pa_cons (pv 0) pa_nil)) (pg_name (i := 3) scLRing.nd rfl (Or.inl rfl)) (pss_cons (ps_set (i := 4) scLRing.nd rfl (Or.inl rfl) (pe_lst (pa_cons (pe_tup (pa_cons (pv 3) (pa_cons (pe_tup pa_nil) pa_nil))) pa_nil)))
      (pss_one (ps_while PassesOwn.never (pt_cmpR (op_neNil hr.units) (pv 4) (pe_lst pa_nil) (nomark _)) (pss_cons (ps_asg (pe_bm PySem.F.plainAttrs_list PySem.F.slot_list_pop PySem.F.type_list_pop mt_popAt (pv 4) (pa_cons pe_int pa_nil)) (pg_tup rfl (pgs_cons (pg_name (i := 5) scLRing.nd rfl (Or.inl rfl)) (pgs_cons (pg_name (i := 6) scLRing.nd rfl (Or.inl rfl)) pgs_nil))))
      (pss_one (ps_if (pt_cmp (pc_dnotin (hu_of hr) (pv 5) (pv 2))) (pss_cons (ps_dput (hu_of hr) (pv 2) (pv 5) (pv 6) rfl)
      (pss_one (ps_for PassesOwn.never rfl (pi_tup (pv 1)) (pg_name (i := 7) scLRing.nd rfl (Or.inl rfl)) (pss_one (ps_if (pt_cmpR op_in_seq (pv 5) (pe_slice sl_tup (pv 7) (po_some pe_int) (po_some pe_int)) (by rfl)) (pss_one (ps_expr (pe_bm PySem.F.plainAttrs_list PySem.F.slot_list_append PySem.F.type_list_append mt_append (pv 4) (pa_cons (pe_tup (pa_cons (pe_op op_sub (pe_op op_add (pe_ix ix_tup (pv 7) pe_int (fun _ _ => rfl)) (pe_ix ix_tup (pv 7) pe_int (fun _ _ => rfl))) (pv 5)) (pa_cons (pe_op op_catTT (pv 6) (pe_tup (pa_cons (pe_ix ix_tup (pv 7) pe_int (fun _ _ => rfl)) pa_nil))) pa_nil))) pa_nil)))) pss_nil))))) pss_nil)))))))
      (pss_cons (ps_for PassesOwn.never rfl (pi_tup (pv 1)) (pg_tup rfl (pgs_cons (pg_name (i := 8) scLRing.nd rfl (Or.inl rfl)) (pgs_cons (pg_name (i := 9) scLRing.nd rfl (Or.inl rfl)) (pgs_cons (pg_name (i := 10) scLRing.nd rfl (Or.inl rfl)) (pgs_cons (pg_name (i := 11) scLRing.nd rfl (Or.inl rfl)) pgs_nil))))) (pss_one (ps_if (pt_cmpR op_eq (pe_op op_mod (pe_op op_sub (pe_callB call_len_seq (by rfl) T.len PySem.boot_len (pa_cons (pe_dget (hu_of hr) (pv 2) (pv 9) (fun _ _ => rfl)) pa_nil)) (pe_callB call_len_seq (by rfl) T.len PySem.boot_len (pa_cons (pe_dget (hu_of hr) (pv 2) (pv 10) (fun _ _ => rfl)) pa_nil))) pe_int) pe_int (nomark _)) (pss_one (ps_ret (pe_op op_catTT (pe_op op_catTT (pe_revT (pe_dget (hu_of hr) (pv 2) (pv 9) (fun _ _ => rfl)) (po_some (pe_un un_neg pe_int)) (fun o i => [o, i]) (fun _ _ => by with_unfolding_all rfl)) (pe_dget (hu_of hr) (pv 2) (pv 10) (fun _ _ => rfl))) (pe_tup (pa_cons (pv 8) pa_nil))))) pss_nil)))
      (pss_one (ps_ret pe_non)))), ?_⟩
    have N60 : N ≤ 60 := by omega
    intro d hd
    have s1 := same_new (o := .dK []) hd
    have d1 := upd_same (H := H) (a := d) (o := .dK [])
    generalize upd H d (.dK []) = H1 at s1 d1
    refine ⟨_, rfl, (N : Int), rfl, by omega, by omega, for_range (lo := 0) (n := (N : Int).toNat) (fun i σ H5 => ∃ (u3 u4 u5 u6 u7 u8 u9 u10 u11 : Option V) (ks : Kw), σ = [some (.int (N : Int)), some (.ref st), some (.ref d), u3, u4, u5, u6, u7, u8, u9, u10, u11] ∧ Same H H5 ∧ H5 d = some (.dK (kwK ks)) ∧ KwOk N ks ∧ (∀ p ∈ ks, WyAt N S N H5 p.1 p.2) ∧ (∀ v, Nc S ks v → v ∈ ks.map (·.1)) ∧ ∀ v, v < i → v ∈ ks.map (·.1)) ⟨_, _, _, _, _, _, _, _, _, [], rfl, s1, d1, ⟨by simp, by simp⟩, by simp, (fun v ⟨t, _, h⟩ => by rcases h with ⟨z, _⟩ | ⟨z, _⟩ <;> cases z), fun v h => absurd h (by omega)⟩ ?_ ?_⟩
    · rintro i σ H5 hi ⟨u3, u4, u5, u6, u7, u8, u9, u10, u11, ks, rfl, s5, d5, K5, q5, c5, m5⟩
      have hi : i < N := by simpa using hi
      refine ⟨_, rfl, small (by simp), fun e0 he0 => ?_⟩
      have s50 := same_new (o := .tup []) he0
      have e50 := upd_same (H := H5) (a := e0) (o := .tup [])
      generalize upd H5 e0 (.tup []) = H50 at s50 e50
      refine ⟨small (by simp), fun t0 ht0 => ?_⟩
      have s6 := same_new (o := .tup [.int (0 + (i : Int)), .ref e0]) ht0
      have t6 : upd H50 t0 (.tup [.int (0 + (i : Int)), .ref e0]) t0 = some (.tup [.int (i : Int), .ref e0]) := by rw [upd_same, Int.zero_add]
      generalize upd H50 t0 (.tup [.int (0 + (i : Int)), .ref e0]) = H6 at s6 t6
      refine ⟨small (by simp), fun l hl => ?_⟩
      have s7 := same_new (o := .lst [.ref t0]) hl
      have l7 := upd_same (H := H6) (a := l) (o := .lst [.ref t0])
      have t7 := s7 _ _ t6
      have e7 := s7 _ _ (s6 _ _ e50)
      have S57 := (s50.trans s6).trans s7
      have S7 := s5.trans S57
      have d7 := S57 _ _ d5
      have hl0 : H l = none := none_of (s5.trans (s50.trans s6)) hl
      have q7 : ∀ p ∈ ks, WyAt N S N (upd H6 l (.lst [.ref t0])) p.1 p.2 := fun p hp => (q5 p hp).tk (TK.of S57)
      generalize upd H6 l (.lst [.ref t0]) = H7 at s7 l7 t7 S7 d7 e7 q7
      have nld : l ≠ d := (ne_of d7 l7 (by intro z; cases z)).symm
      have low : i ∈ ks.map (·.1) ∨ WyAt N S ks.length H7 i e0 := by
        by_cases hik : i ∈ ks.map (·.1)
        · exact .inl hik
        · exact .inr ⟨[], e7, Nat.zero_le _, i, next_least (M := fun v => v ∈ ks.map (·.1)) SN N60 hi (fun t ht => ⟨fun h => c5 _ ⟨t, ht, .inl ⟨h, rfl⟩⟩, fun h => c5 _ ⟨t, ht, .inr ⟨h, rfl⟩⟩⟩) m5 hik, .nil⟩
      dsimp only [gName, tSeq]
      refine while_gh (fun m σ H8 => ∃ (u5 u6 u7 : Option V) (ks : Kw) (qs : List Addr), σ = [some (.int (N : Int)), some (.ref st), some (.ref d), some (.int (0 + (i : Int))), some (.ref l), u5, u6, u7, u8, u9, u10, u11] ∧ Same H H8 ∧ H8 d = some (.dK (kwK ks)) ∧ KwOk N ks ∧ H8 l = some (.lst (qs.map V.ref)) ∧ (∀ q ∈ qs, RowW N S ks H8 q) ∧ (∀ p ∈ ks, WyAt N S N H8 p.1 p.2) ∧ (∀ v, v < i → v ∈ ks.map (·.1)) ∧ (∀ v, (v = i ∨ Nc S ks v) → v ∈ ks.map (·.1) ∨ ∃ q ∈ qs, ∃ s : Addr, H8 q = some (.tup [.int (v : Int), .ref s])) ∧ m = (N - ks.length) * (S.length + 1) + qs.length ∧ m ≤ 4000) (m0 := (N - ks.length) * (S.length + 1) + 1) ⟨_, _, _, ks, [t0], rfl, S7, d7, K5, l7, fun q hq => by rw [List.mem_singleton.mp hq]; exact ⟨i, e0, hi, low, t7⟩, q7, m5, fun v hv => hv.elim (fun e => .inr ⟨t0, List.mem_singleton.mpr rfl, e0, by rw [e]; exact t7⟩) fun nb => .inl (c5 v nb), rfl, ?_⟩ ?_ ?_
      · have : (N - ks.length) * (S.length + 1) ≤ 60 * 61 := Nat.mul_le_mul (by omega) (by omega)
        omega
      rotate_left
      · rintro σ H Q Q' f ⟨v4, e4, z0, h⟩
        exact ⟨v4, e4, z0, fun p hp => let ⟨a, b, xs, ea, eb, sa, sb, bb, ebb, q⟩ := h p hp; ⟨a, b, xs, ea, eb, sa, sb, bb, ebb, f _ _ q⟩⟩
      rintro m σ H8 ⟨u5, u6, u7, ks, qs, rfl, s8, d8, K8, l8, r8, q8, m8, i8, hm, m4⟩
      refine ⟨_, rfl, small (by simp), fun e he => ?_⟩
      have s9 := same_new (o := .lst []) he
      have e9 := upd_same (H := H8) (a := e) (o := .lst [])
      have S9 := s8.trans s9
      have d9 := s9 _ _ d8
      have l9 := s9 _ _ l8
      have r9 : ∀ q ∈ qs, RowW N S ks (upd H8 e (.lst [])) q := fun q hq => (r8 q hq).tk (TK.of s9)
      have q9 : ∀ p ∈ ks, WyAt N S N (upd H8 e (.lst [])) p.1 p.2 := fun p hp => (q8 p hp).tk (TK.of s9)
      have i9 : ∀ v, (v = i ∨ Nc S ks v) → v ∈ ks.map (·.1) ∨ ∃ q ∈ qs, ∃ s : Addr, upd H8 e (.lst []) q = some (.tup [.int (v : Int), .ref s]) := fun v hv => (i8 v hv).imp id fun ⟨q, hq, s, h⟩ => ⟨q, hq, s, s9 _ _ h⟩
      clear r8 i8 q8
      generalize upd H8 e (.lst []) = H9 at s9 e9 S9 d9 l9 r9 i9 q9
      refine ⟨l, e, _, rfl, rfl, SqL.of l9, SqL.of e9, _, rfl, ?_⟩
      cases qs with
      | nil =>
        refine iteF ⟨_, _, _, _, _, _, _, _, _, ks, rfl, S9, d9, K8, q9, (fun v nb => (i9 v (.inr nb)).resolve_right fun ⟨q, hq, _⟩ => by cases hq), fun v hv => ?_⟩
        rcases Nat.lt_succ_iff_lt_or_eq.mp hv with h | h
        · exact m8 v h
        · rw [h]
          exact (i9 i (.inl rfl)).resolve_right fun ⟨q, hq, _⟩ => by cases hq
      | cons r qs' =>
      refine iteT ?_
      obtain ⟨p, wa, pN, par, er⟩ := r9 r (List.mem_cons_self ..)
      refine ⟨_, rfl, .inl ⟨rfl, _, SqL.of l9⟩, l, _, 0, 0, .ref r, rfl, rfl, l9, by decide, by decide, by simp [seqIndex?], rfl, ?_⟩
      have eH : upd H9 l (.lst (List.eraseIdx (List.map V.ref (r :: qs')) 0)) = upd H9 l (.lst (qs'.map V.ref)) := rfl
      rw [eH]
      have tkA := TK.lst (o := .lst (qs'.map V.ref)) l9
      have lA := upd_same (H := H9) (a := l) (o := .lst (qs'.map V.ref))
      have SA : Same H (upd H9 l (.lst (qs'.map V.ref))) := same_set S9 hl0
      have dA : upd H9 l (.lst (qs'.map V.ref)) d = some (.dK (kwK ks)) := by rw [upd_ne nld.symm]; exact d9
      generalize upd H9 l (.lst (qs'.map V.ref)) = HA at tkA lA SA dA
      have rA : ∀ q ∈ qs', RowW N S ks HA q := fun q hq => (r9 q (List.mem_cons_of_mem _ hq)).tk tkA
      have qA : ∀ p ∈ ks, WyAt N S N HA p.1 p.2 := fun p hp => (q9 p hp).tk tkA
      have erA := tkA _ _ er
      have iA : ∀ v, (v = i ∨ Nc S ks v) → (v ∈ ks.map (·.1) ∨ p = v) ∨ ∃ q ∈ qs', ∃ s : Addr, HA q = some (.tup [.int (v : Int), .ref s]) := fun v hv => by
        rcases i9 v hv with h | ⟨q, hq, s', h⟩
        · exact .inl (.inl h)
        · rcases List.mem_cons.mp hq with rfl | h1
          · rw [er] at h
            injection h with h
            injection h with h
            injection h with h _
            injection h with h
            exact .inl (.inr (by omega))
          · exact .inr ⟨q, h1, s', tkA _ _ h⟩
      have lq : qs'.length + 1 = (r :: qs').length := rfl
      refine ⟨r, _, rfl, SqT.of erA, rfl, _, _, rfl, _, _, rfl, rfl, ?_⟩
      by_cases hp : p ∈ ks.map (·.1)
      · refine ⟨_, rfl, _, rfl, d, _, rfl, DGet.k (k := Sum.inl (p : Int)) dA, _, rfl, ?_⟩
        obtain ⟨a', _, ea'⟩ := kw_some hp
        rw [ea']
        refine iteF ⟨m - 1, by omega, _, _, _, ks, qs', rfl, SA, dA, K8, lA, rA, qA, m8, fun v hv => ?_, by omega, by omega⟩
        rcases iA v hv with (h | h) | h
        · exact .inl h
        · exact .inl (h ▸ hp)
        · exact .inr h
      refine ⟨_, rfl, _, rfl, d, _, rfl, DGet.k (k := Sum.inl (p : Int)) dA, _, rfl, ?_⟩
      rw [kw_none hp]
      refine iteT ?_
      have par := (par.resolve_left hp).tk tkA
      have KB := K8.snoc (s := wa) hp pN
      have kl := KB.len
      rw [List.length_append] at kl
      have kl : ks.length + 1 ≤ N := kl
      refine ⟨_, rfl, _, rfl, _, rfl, d, _, rfl, DPut.k (k := Sum.inl (p : Int)) dA (small1000 (by unfold kwK; rw [List.length_map]; omega)), ?_⟩
      rw [kw_put hp]
      have tkB := TK.dk (o := .dK (kwK (ks ++ [(p, wa)]))) dA
      have dB := upd_same (H := HA) (a := d) (o := .dK (kwK (ks ++ [(p, wa)])))
      have SB : Same H (upd HA d (.dK (kwK (ks ++ [(p, wa)])))) := same_set SA hd
      have lB : upd HA d (.dK (kwK (ks ++ [(p, wa)]))) l = some (.lst (qs'.map V.ref)) := by rw [upd_ne nld]; exact lA
      have rB : ∀ q ∈ qs', RowW N S (ks ++ [(p, wa)]) (upd HA d (.dK (kwK (ks ++ [(p, wa)])))) q := fun q hq => (rA q hq).more.tk tkB
      have qB : ∀ x ∈ ks ++ [(p, wa)], WyAt N S N (upd HA d (.dK (kwK (ks ++ [(p, wa)])))) x.1 x.2 := fun x hx => by
        rcases List.mem_append.mp hx with z | z
        · exact (qA x z).tk tkB
        · rw [List.mem_singleton.mp z]; exact (par.tk tkB).mono (by omega)
      have iB : ∀ v, (v = i ∨ Nc S ks v) → v ∈ (ks ++ [(p, wa)]).map (·.1) ∨ ∃ q ∈ qs', ∃ s' : Addr, upd HA d (.dK (kwK (ks ++ [(p, wa)]))) q = some (.tup [.int (v : Int), .ref s']) := fun v hv => by
        rw [List.map_append]
        rcases iA v hv with (h | h) | ⟨q, hq, s', h⟩
        · exact .inl (List.mem_append_left _ h)
        · exact .inl (List.mem_append_right _ (by rw [h]; exact List.mem_singleton.mpr rfl))
        · exact .inr ⟨q, hq, s', tkB _ _ h⟩
      have mB : ∀ v, v < i → v ∈ (ks ++ [(p, wa)]).map (·.1) := fun v hv => by rw [List.map_append]; exact List.mem_append_left _ (m8 v hv)
      obtain ⟨ws, ew, wl, b0, hb0, ld⟩ := par.tk tkB
      generalize upd HA d (.dK (kwK (ks ++ [(p, wa)]))) = HB at tkB dB SB lB rB iB qB ew
      have hmB : (N - (ks.length + 1)) * (S.length + 1) + (S.length + 1) + qs'.length + 1 = m := by rw [meas (by omega)]; omega
      have stB := SB _ _ hst
      refine ⟨_, rfl, st, rfl, ⟨_, SqT.of stB⟩, for_tup (K := K) (a := st) (xs := rs.map V.ref) (fun j σ HC => ∃ (u7 : Option V) (qs : List Addr), σ = [some (.int (N : Int)), some (.ref st), some (.ref d), some (.int (0 + (i : Int))), some (.ref l), some (.int (p : Int)), some (.ref wa), u7, u8, u9, u10, u11] ∧ Same H HC ∧ TK HB HC ∧ HC d = some (.dK (kwK (ks ++ [(p, wa)]))) ∧ HC l = some (.lst (qs.map V.ref)) ∧ (∀ q ∈ qs, RowW N S (ks ++ [(p, wa)]) HC q) ∧ (∀ v, ((v = i ∨ Nc S ks v) ∨ Bs (S.take j) p v) → v ∈ (ks ++ [(p, wa)]).map (·.1) ∨ ∃ q ∈ qs, ∃ s' : Addr, HC q = some (.tup [.int (v : Int), .ref s'])) ∧ qs.length ≤ qs'.length + j) ⟨_, qs', rfl, SB, fun _ _ h => h, dB, lB, rB, fun v hv => iB v (hv.resolve_right fun ⟨t, ht, _⟩ => by simp at ht), Nat.le_refl _⟩ (fun j σ HC _ ⟨_, _, _, s, _⟩ => SqT.of (s _ _ hst)) ?_ ?_⟩
      · rintro j x σ HC hx ⟨u7, ps, rfl, sC, tC, dC, lC, rC, iC, pl⟩
        obtain ⟨r2, hr', rfl⟩ := map_some hx
        obtain ⟨t, ht, er2⟩ := hrs.get hr'
        have tN := SN t (List.mem_of_getElem? ht)
        have hj : j < S.length := (List.getElem?_eq_some_iff.mp ht).1
        have erC := sC _ _ er2
        have tk : S.take (j + 1) = S.take j ++ [t] := by rw [List.take_add_one, ht]; rfl
        refine ⟨_, rfl, _, rfl, _, rfl, _, rfl, r2, _, rfl, SqT.of erC, (fun q => absurd (show (1 : Nat) = 0 from q.1) (by decide)), fun c2 hc2 => ?_⟩
        have ec : cutV (tieV t) (some 1) (some 3) = [.int (t.2.1 : Int), .int (t.2.2.1 : Int)] := rfl
        rw [ec]
        have sD := same_new (o := .tup [.int (t.2.1 : Int), .int (t.2.2.1 : Int)]) hc2
        have cD := upd_same (H := HC) (a := c2) (o := .tup [.int (t.2.1 : Int), .int (t.2.2.1 : Int)])
        generalize upd HC c2 (.tup [.int (t.2.1 : Int), .int (t.2.2.1 : Int)]) = HD at sD cD
        have SD := sC.trans sD
        have tD : TK HB HD := tC.trans (TK.of sD)
        have dD := sD _ _ dC
        have lD := sD _ _ lC
        have rD : ∀ q ∈ ps, RowW N S (ks ++ [(p, wa)]) HD q := fun q hq => (rC q hq).tk (TK.of sD)
        have iD : ∀ v, ((v = i ∨ Nc S ks v) ∨ Bs (S.take j) p v) → v ∈ (ks ++ [(p, wa)]).map (·.1) ∨ ∃ q ∈ ps, ∃ s' : Addr, HD q = some (.tup [.int (v : Int), .ref s']) := fun v hv => (iC v hv).imp id fun ⟨q, hq, s', h⟩ => ⟨q, hq, s', sD _ _ h⟩
        have erD := sD _ _ erC
        refine ⟨c2, _, rfl, .inr (SqT.of cD), rfl, rfl, _, rfl, ?_⟩
        show if (inV (.int (p : Int)) [.int (t.2.1 : Int), .int (t.2.2.1 : Int)]) = true then _ else _
        rw [in_ends]
        by_cases gv : p = t.2.1 ∨ p = t.2.2.1
        rotate_left
        · rw [decide_eq_false gv]
          refine iteF ?_
          refine ⟨_, ps, rfl, SD, tD, dD, lD, rD, fun v hv => iD v (hv.imp id fun ⟨t', ht', h⟩ => ?_), by omega⟩
          rw [tk] at ht'
          rcases List.mem_append.mp ht' with z | z
          · exact ⟨t', z, h⟩
          · rw [List.mem_singleton.mp z] at h
            exact absurd (h.imp And.left And.left) gv
        rw [decide_eq_true gv]
        refine iteT ?_
        obtain ⟨y, ey, yN, yp⟩ : ∃ y : Nat, (t.2.1 : Int) + (t.2.2.1 : Int) - (p : Int) = (y : Int) ∧ y < N ∧ Lead S b0 (ws ++ [t.1]) y := by
          rcases gv with e | e
          · exact ⟨t.2.2.1, by omega, tN.2, .snoc (e ▸ ld) (nb_of (List.mem_of_getElem? ht))⟩
          · exact ⟨t.2.1, by omega, tN.1, .snoc (e ▸ ld) (nb_symm (nb_of (List.mem_of_getElem? ht)))⟩
        refine ⟨_, rfl, .inl ⟨rfl, _, SqL.of lD⟩, _, rfl, r2, _, 1, _, rfl, rfl, SqT.of erD, atI_nat (j := 1) rfl, _, rfl, r2, _, 2, _, rfl, rfl, SqT.of erD, atI_nat (j := 2) rfl, _, _, rfl, rfl, _, rfl, _, _, rfl, rfl, _, rfl, _, rfl, r2, _, 0, _, rfl, rfl, SqT.of erD, atI_nat (j := 0) rfl, small (by simp), fun n1 hn1 => ?_⟩
        have s1' := same_new (o := .tup [.str t.1]) hn1
        have n1e := upd_same (H := HD) (a := n1) (o := .tup [.str t.1])
        refine cat_any (s1' _ _ (tD _ _ ew)) n1e (by rw [List.length_map]; simp; omega) fun n2 HE sE n2e => ?_
        have SE' := s1'.trans sE
        generalize upd HD n1 (.tup [.str t.1]) = HD1 at s1' n1e sE
        refine ⟨small (by simp), fun n hn => ?_⟩
        have sF := SE'.trans (same_new (o := .tup [.int ((t.2.1 : Int) + (t.2.2.1 : Int) - (p : Int)), .ref n2]) hn)
        have n2F := same_new (o := .tup [.int ((t.2.1 : Int) + (t.2.2.1 : Int) - (p : Int)), .ref n2]) hn _ _ n2e
        have nF := upd_same (H := HE) (a := n) (o := .tup [.int ((t.2.1 : Int) + (t.2.2.1 : Int) - (p : Int)), .ref n2])
        generalize upd HE n (.tup [.int ((t.2.1 : Int) + (t.2.2.1 : Int) - (p : Int)), .ref n2]) = HF at sF nF n2F
        rw [ey] at nF
        have SF := SD.trans sF
        have tF : TK HB HF := tD.trans (TK.of sF)
        have dF := sF _ _ dD
        have lF := sF _ _ lD
        have rF : ∀ q ∈ ps, RowW N S (ks ++ [(p, wa)]) HF q := fun q hq => (rD q hq).tk (TK.of sF)
        have iF : ∀ v, ((v = i ∨ Nc S ks v) ∨ Bs (S.take j) p v) → v ∈ (ks ++ [(p, wa)]).map (·.1) ∨ ∃ q ∈ ps, ∃ s' : Addr, HF q = some (.tup [.int (v : Int), .ref s']) := fun v hv => (iD v hv).imp id fun ⟨q, hq, s', h⟩ => ⟨q, hq, s', sF _ _ h⟩
        refine ⟨l, _, _, rfl, rfl, lF, small5 (by rw [List.length_map]; omega), _, ps ++ [n], rfl, same_set SF hl0, tF.trans (TK.lst lF), by rw [upd_ne nld.symm]; exact dF, by rw [upd_same, List.map_append]; rfl, fun q hq => ?_, fun v hv => ?_, by rw [List.length_append]; show _ + 1 ≤ _; omega⟩
        · rcases List.mem_append.mp hq with h | h
          · exact (rF q h).tk (TK.lst lF)
          · rw [List.mem_singleton.mp h]
            exact ⟨y, n2, yN, .inr ⟨ws ++ [t.1], by rw [List.map_append]; exact TK.lst lF _ _ n2F, by rw [List.length_append, List.length_append]; show _ + 1 ≤ _ + 1; omega, b0, hb0, yp⟩, TK.lst lF _ _ nF⟩
        · have old : ((v = i ∨ Nc S ks v) ∨ Bs (S.take j) p v) ∨ v = y := by
            rcases hv with h | ⟨t', ht', h⟩
            · exact .inl (.inl h)
            · rw [tk] at ht'
              rcases List.mem_append.mp ht' with z | z
              · exact .inl (.inr ⟨t', z, h⟩)
              · rw [List.mem_singleton.mp z] at h
                exact .inr (by omega)
          rcases old with h | rfl
          · exact (iF v h).imp id fun ⟨q, hq, s', h⟩ => ⟨q, List.mem_append_left _ hq, s', TK.lst lF _ _ h⟩
          · exact .inr ⟨n, List.mem_append_right _ (List.mem_singleton.mpr rfl), _, TK.lst lF _ _ nF⟩
      · rintro σ HC ⟨u7, ps, rfl, sC, tC, dC, lC, rC, iC, pl⟩
        rw [List.length_map, hrs.1] at pl iC
        rw [List.take_length] at iC
        exact ⟨(N - (ks.length + 1)) * (S.length + 1) + ps.length, by omega, _, _, _, ks ++ [(p, wa)], ps, rfl, sC, dC, KB, lC, rC, fun x hx => (qB x hx).tk tC, mB, fun v hv => iC v (hv.elim (fun e => .inl (.inl e)) fun nb => nb.snoc.imp .inr id), by rw [List.length_append]; rfl, by omega⟩
    · rintro σ H5 ⟨u3, u4, u5, u6, u7, u8, u9, u10, u11, ks, rfl, s5, d5, K5, q5, c5, m5⟩
      have m5 : ∀ v, v < N → v ∈ ks.map (·.1) := fun v hv => m5 v (by simpa using hv)
      have st5 := s5 _ _ hst
      refine ⟨_, rfl, st, rfl, ⟨_, SqT.of st5⟩, for_tup (K := K) (a := st) (xs := rs.map V.ref) (fun j σ H6 => ∃ (u8 u9 u10 u11 : Option V), σ = [some (.int (N : Int)), some (.ref st), some (.ref d), u3, u4, u5, u6, u7, u8, u9, u10, u11] ∧ H6 = H5 ∧ ∀ t ∈ S.take j, (lenW H5 ks t.2.1 : Int) % 2 ≠ (lenW H5 ks t.2.2.1 : Int) % 2) ⟨_, _, _, _, rfl, rfl, fun t ht => by simp at ht⟩ (fun j σ H6 _ ⟨_, _, _, _, _, e, _⟩ => by rw [e]; exact SqT.of st5) ?_ ?_⟩
      · rintro j x σ H6 hx ⟨v8, v9, v10, v11, rfl, e6, fa⟩
        obtain rfl := e6.symm
        obtain ⟨r, hr', rfl⟩ := map_some hx
        obtain ⟨t, ht, er⟩ := hrs.get hr'
        have tm := List.mem_of_getElem? ht
        have tN := SN t tm
        have tk : S.take (j + 1) = S.take j ++ [t] := by rw [List.take_add_one, ht]; rfl
        have er6 := s5 _ _ er
        obtain ⟨a1, h1, v1⟩ := kw_some (m5 _ tN.1)
        obtain ⟨a2, h2, v2⟩ := kw_some (m5 _ tN.2)
        have g1 := DGet.k (k := Sum.inl (t.2.1 : Int)) d5
        have g2 := DGet.k (k := Sum.inl (t.2.2.1 : Int)) d5
        rw [v1] at g1
        rw [v2] at g2
        obtain ⟨x, ex, lx, bx, hbx, lex⟩ := q5 _ h1
        obtain ⟨y, ey, ly, by', hby, ley⟩ := q5 _ h2
        have ex : H5 a1 = some (.tup (x.map V.str)) := ex
        have ey : H5 a2 = some (.tup (y.map V.str)) := ey
        have w1 := lenW_at v1 ex
        have w2 := lenW_at v2 ey
        rw [List.length_map] at w1 w2
        refine ⟨r, _, rfl, SqT.of er6, rfl, _, _, rfl, _, _, rfl, _, _, rfl, _, _, rfl, rfl, ?_⟩
        refine ⟨_, rfl, _, rfl, d, _, rfl, g1, a1, _, rfl, .inr (SqT.of ex), _, rfl, _, rfl, d, _, rfl, g2, a2, _, rfl, .inr (SqT.of ey), _, _, rfl, rfl, _, _, rfl, rfl, (by show (0 : Int) < 2; decide), rfl, _, rfl, ?_⟩
        rw [List.length_map, List.length_map]
        by_cases g : ((x.length : Int) - (y.length : Int)) % 2 = 0
        rotate_left
        · rw [decide_eq_false (show ¬ V.int (((x.length : Int) - (y.length : Int)) % 2) = V.int 0 from fun z => g (by injection z))]
          refine iteF ⟨_, _, _, _, rfl, rfl, fun t' ht' => ?_⟩
          rw [tk] at ht'
          rcases List.mem_append.mp ht' with h | h
          · exact fa t' h
          · rw [List.mem_singleton.mp h, w1, w2]; omega
        rw [decide_eq_true (show V.int (((x.length : Int) - (y.length : Int)) % 2) = V.int 0 by rw [g])]
        refine iteT ⟨_, rfl, _, rfl, d, _, rfl, g1, _, rfl, _, rfl, a1, _, rfl, rfl, SqT.of ex, by rw [List.length_map]; omega, fun z hz => ?_⟩
        have sz := same_new (o := .tup (x.map V.str).reverse) hz
        have ez := upd_same (H := H5) (a := z) (o := .tup (x.map V.str).reverse)
        generalize upd H5 z (.tup (x.map V.str).reverse) = H7 at sz ez
        refine ⟨_, rfl, _, rfl, d, _, rfl, (by have := DGet.k (k := Sum.inl (t.2.2.1 : Int)) (sz _ _ d5); rw [v2] at this; exact this), ?_⟩
        refine cat_any ez (sz _ _ ey) (by simp; omega) fun c1 H8 s8 e8 => ?_
        refine ⟨_, rfl, small (by simp), fun n1 hn1 => ?_⟩
        have sn := same_new (o := .tup [.str t.1]) hn1
        refine cat_any (sn _ _ e8) upd_same (by simp; omega) fun c3 H9 s9 e9 => ?_
        refine k c3 (x.reverse ++ y ++ [t.1]) H9 (s5.trans (sz.trans (s8.trans (sn.trans s9)))) ?_ ?_ (ring_of SN N60 nd tm hbx hby lex ley g)
        · rw [e9, List.map_append, List.map_append, List.map_reverse]; rfl
        · rw [List.length_append, List.length_append, List.length_reverse]
          show _ + 1 ≤ 61
          omega
      · rintro σ H6 ⟨v8, v9, v10, v11, rfl, e6, fa⟩
        obtain rfl := e6.symm
        rw [List.length_map, hrs.1, List.take_length] at fa
        refine absurd ⟨fun v => (lenW H5 ks v : Int) % 2, fun v => ?_, fun t ht => fa t ht⟩ odd
        have : (lenW H5 ks v : Int) % 2 = 0 ∨ (lenW H5 ks v : Int) % 2 = 1 := by omega
        exact this
end
end K56
set_option maxHeartbeats 4000000
namespace K56
open PySem L2 Wk
theorem go_names {S : List T4} : ∀ {ws : List Str} {p q : Nat}, goF S p ws = some q → ∀ n ∈ ws, ∃ t ∈ S, t.1 = n
  | [], _, _, _, n, hn => by cases hn
  | m :: ws, p, q, h, n, hn => by
    have h : (match overF S p m with | none => none | some u => goF S u ws) = some q := h
    cases g : overF S p m with
    | none => rw [g] at h; cases h
    | some z =>
      rw [g] at h
      rcases List.mem_cons.mp hn with rfl | hn
      · obtain ⟨t, ht, e, _⟩ := over_at g
        exact ⟨t, ht, e⟩
      · exact go_names h n hn
def SI (x : V) : Prop := (∃ i : Int, x = .int i ∧ (i = 0 ∨ i = 1)) ∨ ∃ n : Str, x = .str n ∧ Sht n
def spFound : Sp := fun vs H Q _ => ∃ (N : Nat) (st : Addr) (S : List T4), vs = [.int (N : Int), .ref st] ∧ StandAt H st S ∧ StS N S ∧ (∀ t ∈ S, Sht t.1) ∧ N ≤ 24 ∧ ∀ (r wa : Addr) (wd : Str) (xs : List V) (H' : Hp), Same H H' → H' r = some (.tup [.str wd, .ref wa]) → H' wa = some (.tup xs) → (∀ x ∈ xs, SI x) → xs.length ≤ 61 → (wd = Str.ofString "ring" ∨ wd = Str.ofString "sides") → holdB N S wd xs = true → Q (.ref r) H'
section
variable {P : Program} {w : World} {K : PySem.W.Frag} {mg : Str → Option Value} {base : Heap}
theorem scFound : FnScope ["_law_many", "_law_stand", "_law_sides"] ["_law_many", "_law_stand"] (defScope sFound) := ⟨rfl, rfl, rfl, by decide +kernel, rfl, by decide +kernel, by decide +kernel⟩
theorem ok_Found {f : Addr} {fd : FuncData} (F : Fun K "_law_found_here" "_law_found_here" sFound f fd) (T : Txt mg)
    {gParting : Addr} {fParting : FuncData} (kParting : PySem.W.keepIn K (.ref gParting) = true) (bParting : Binds K fParting ["_law_many", "_law_ties"] []) (hParting : mg "_law_parting" = some (.ref gParting)) (GParting : FnOk P w K mg base CX0 1 gParting fParting ["_law_many", "_law_ties"] spParting)
    {gLRing : Addr} {fLRing : FuncData} (kLRing : PySem.W.keepIn K (.ref gLRing) = true) (bLRing : Binds K fLRing ["_law_many", "_law_stand"] []) (hLRing : mg "_law_ring" = some (.ref gLRing)) (GLRing : FnOk P w K mg base CX0 1 gLRing fLRing ["_law_many", "_law_stand"] spLRing) :
    FnOk P w K mg base CX0 2 f fd ["_law_many", "_law_stand"] spFound := by
  refine F.ok scFound (fun vs H Q E h => ?_) (fun cdv A outer s H vs Q E hr h => ?_)
  · obtain ⟨_, _, _, rfl, _⟩ := h; rfl
  · obtain ⟨N, st, S, rfl, hst, hS, h9, N24, k⟩ := h
    refine ⟨_, pss_cons (ps_set (i := 2) scFound.nd rfl (Or.inl rfl) (pe_call GParting hr rfl hParting kParting bParting .nil pass0 (pa_cons (pv 0) (pa_cons (pv 1) pa_nil))))
      (pss_cons (ps_if (pt_cmpR op_isN (pv 2) pe_non (nomark _)) (pss_one (ps_ret (pe_tup (pa_cons pe_str (pa_cons (pe_call GLRing hr rfl hLRing kLRing bLRing .nil pass0 (pa_cons (pv 0) (pa_cons (pv 1) pa_nil))) pa_nil))))) pss_nil)
      (pss_one (ps_ret (pe_tup (pa_cons pe_str (pa_cons (pv 2) pa_nil)))))), ?_⟩
    refine ⟨_, rfl, _, rfl, N, st, S, rfl, hst, hS.inn, hS.len, by omega, fun H1 s1 notwo => ?_, fun r ns H1 s1 er good _ => ?_⟩
    · refine ⟨_, rfl, rfl, _, rfl, iteT ?_⟩
      refine ⟨_, rfl, _, rfl, N, st, S, rfl, hst.same s1, hS.inn, hS.nd, hS.len, by omega, notwo, fun wa ws H2 s2 ew w61 ring => ⟨small (by simp), fun r hr' => ?_⟩⟩
      have sr := same_new (o := .tup [.str (Str.ofString "ring"), .ref wa]) hr'
      refine k r wa (Str.ofString "ring") (ws.map V.str) _ (s1.trans (s2.trans sr)) upd_same (sr _ _ ew) (fun x hx => ?_) (by rw [List.length_map]; exact w61) (.inl rfl) ?_
      · obtain ⟨n, hn, rfl⟩ := List.mem_map.mp hx
        obtain ⟨p, _, hg⟩ := ring.2
        obtain ⟨t, ht, e⟩ := go_names hg n hn
        exact .inr ⟨n, rfl, e ▸ h9 t ht⟩
      · unfold holdB
        rw [if_neg (by decide +kernel), if_pos rfl]
        exact odd_ring ring w61
    · refine ⟨_, rfl, rfl, _, rfl, iteF ?_⟩
      dsimp only [tNext]
      refine ⟨_, rfl, small (by simp), fun r' hr' => ?_⟩
      have sr := same_new (o := .tup [.str (Str.ofString "sides"), .ref r]) hr'
      refine k r' r (Str.ofString "sides") (ns.map V.int) _ (s1.trans sr) upd_same (sr _ _ er) (fun x hx => ?_) (by rw [List.length_map, good.len]; omega) (.inr rfl) ?_
      · obtain ⟨n, hn, rfl⟩ := List.mem_map.mp hx
        obtain ⟨v, hv, rfl⟩ := List.mem_iff_getElem.mp hn
        have := good.two v (by rw [← good.len]; exact hv)
        rw [List.getD_eq_getElem?_getD, getq hv] at this
        exact .inl ⟨_, rfl, this⟩
      · unfold holdB
        rw [if_pos rfl]
        exact num_good hS.inn good
end
end K56
namespace L2
open PySem
theorem st_L {es rest : List Expr} {pos : Pos} {env : Env} : starEach (.List es pos :: rest) env = (false, eval (.List es pos) env) :: starEach rest env := rfl
theorem st_T {es rest : List Expr} {b} {pos : Pos} {env : Env} : starEach (.Tuple es b pos :: rest) env = (false, eval (.Tuple es b pos) env) :: starEach rest env := rfl
theorem st_D {ks vs} {rest : List Expr} {pos : Pos} {env : Env} : starEach (.Dict ks vs pos :: rest) env = (false, eval (.Dict ks vs pos) env) :: starEach rest env := rfl
theorem st_C {c j} {rest : List Expr} {pos : Pos} {env : Env} : starEach (.Constant c j pos :: rest) env = (false, eval (.Constant c j pos) env) :: starEach rest env := rfl
theorem st_N {x} {rest : List Expr} {pos : Pos} {env : Env} : starEach (.Name x pos :: rest) env = (false, eval (.Name x pos) env) :: starEach rest env := rfl
theorem st_K {f as ks} {rest : List Expr} {pos : Pos} {env : Env} : starEach (.Call f as ks pos :: rest) env = (false, eval (.Call f as ks pos) env) :: starEach rest env := rfl
theorem st_B {l o r} {rest : List Expr} {pos : Pos} {env : Env} : starEach (.BinOp l o r pos :: rest) env = (false, eval (.BinOp l o r pos) env) :: starEach rest env := rfl
theorem st_U {o r} {rest : List Expr} {pos : Pos} {env : Env} : starEach (.UnaryOp o r pos :: rest) env = (false, eval (.UnaryOp o r pos) env) :: starEach rest env := rfl
end L2
namespace L2
open PySem
structure PEw (X : Cx) (e : Expr) (t : TE) : Prop where
  out : PE X e t
structure PAw (X : Cx) (es : List Expr) (t : TA) : Prop where
  out : PA X es t
section
variable {X : Cx} {e a b : Expr} {es : List Expr} {te ta tb : TE} {t : TA} {pos : Pos} {op : Operator} {r : R2}
theorem w_of (h : PE X e te) : PEw X e te := ⟨h⟩
theorem w_nil : PAw X [] tNil := ⟨pa_nil⟩
theorem w_cons (h : PEw X e te) (g : PAw X es t) (hs : starEach (e :: es) X.env = (false, eval e X.env) :: starEach es X.env) : PAw X (e :: es) (tCons te t) := ⟨pa_cons h.out g.out hs⟩
theorem w_lst (h : PAw X es t) : PEw X (.List es pos) (tLst t) := ⟨pe_lst h.out⟩
theorem w_tup {k} (h : PAw X es t) : PEw X (.Tuple es k pos) (tTup t) := ⟨pe_tup h.out⟩
theorem w_op (ho : OpR X (binaryOp op) r) (ha : PEw X a ta) (hb : PEw X b tb) : PEw X (.BinOp a op b pos) (tOp r ta tb) := ⟨pe_op ho ha.out hb.out⟩
end
end L2
set_option maxHeartbeats 8000000
namespace K56
open PySem L2 Wk
open Rp in
def off (d : Addr) (H : Hp) : Hp := fun a => if a = d then none else H a
theorem off_some {d a : Addr} {H : Hp} {o : HO} (h : H a = some o) (n : a ≠ d) : off d H a = some o := by unfold off; rw [if_neg n]; exact h
theorem off_in {d : Addr} {H : Hp} : Same (off d H) H := fun a o h => by
  unfold off at h
  split at h
  · cases h
  · exact h
theorem off_ne {d a : Addr} {H : Hp} {o : HO} (h : off d H a = some o) : a ≠ d := fun z => by
  unfold off at h
  rw [if_pos z] at h; cases h
theorem off_but {d : Addr} {H H' : Hp} (b : But d H H') : Same (off d H) (off d H') := fun a o h => by
  unfold off at h
  split at h
  · cases h
  · rename_i n; exact off_some (b a o h n) n
def OnF (f : Bool) (n k : Nat) (d : Addr) (H : Hp) (x : V) : Prop := ∃ dd, Rp.RepH (off d H) f x dd ∧ Rp.Fine n k dd
theorem OnF.but {f : Bool} {n k : Nat} {d : Addr} {H H' : Hp} {x : V} (h : OnF f n k d H x) (b : But d H H') : OnF f n k d H' x := let ⟨dd, r, g⟩ := h; ⟨dd, r.same (off_but b), g⟩
theorem OnF.same {f : Bool} {n k : Nat} {d : Addr} {H H' : Hp} {x : V} (h : OnF f n k d H x) (s : Same H H') : OnF f n k d H' x := h.but (But.of s)
theorem OnF.mono {f : Bool} {n k n' k' : Nat} {d : Addr} {H : Hp} {x : V} (h : OnF f n k d H x) (h1 : n ≤ n') (h2 : k ≤ k') : OnF f n' k' d H x := let ⟨dd, r, g⟩ := h; ⟨dd, r, g.mono h1 h2⟩
theorem OnF.non {f : Bool} {d : Addr} {H : Hp} : OnF f 100 0 d H .non := ⟨_, .non, Rp.Fine.non.mono (by decide) (by decide)⟩
theorem OnF.bl {f : Bool} {d : Addr} {H : Hp} (b : Bool) : OnF f 100 0 d H (.bl b) := ⟨_, .bl b, (Rp.Fine.bl b).mono (by decide) (by decide)⟩
theorem OnF.int {f : Bool} {d : Addr} {H : Hp} {i : Int} (h : i.natAbs < 10 ^ 45) : OnF f 100 0 d H (.int i) := ⟨_, .int i, (Rp.Fine.int h).mono (by decide) (by decide)⟩
theorem OnF.str {f : Bool} {d : Addr} {H : Hp} {z : Str} (h : Sht z) : OnF f 100 0 d H (.str z) := ⟨_, .str z, (Rp.Fine.txt h.1 h.2).mono (by decide) (by decide)⟩
theorem reps_of {f : Bool} {n k : Nat} {d : Addr} {H : Hp} : ∀ {xs : List V}, (∀ x ∈ xs, OnF f n k d H x) → ∃ ds, Rp.RepHs (off d H) f xs ds ∧ (∀ dd ∈ ds, Rp.Fine n k dd) ∧ ds.length = xs.length
  | [], _ => ⟨[], .nil, by simp, rfl⟩
  | x :: xs, h => by
    obtain ⟨dd, r, g⟩ := h x (List.mem_cons_self ..)
    obtain ⟨ds, rs, gs, l⟩ := reps_of fun y hy => h y (List.mem_cons_of_mem _ hy)
    refine ⟨dd :: ds, .cons r rs, fun e he => ?_, by rw [List.length_cons, List.length_cons, l]⟩
    rcases List.mem_cons.mp he with rfl | he
    · exact g
    · exact gs e he
theorem OnF.tup {f : Bool} {n k l : Nat} {d a : Addr} {H : Hp} {xs : List V} (e : H a = some (.tup xs)) (na : a ≠ d) (hl : xs.length ≤ l) (l9 : l ≤ 900) (h : ∀ x ∈ xs, OnF f n k d H x) : OnF f (n * l + 2 * l + 3) (k + 1) d H (.ref a) := by
  obtain ⟨ds, rs, gs, len⟩ := reps_of h
  exact ⟨_, .tup (off_some e na) (Nat.le_trans hl l9) rs, Rp.Fine.tup gs (by rw [len]; exact hl)⟩
theorem OnF.lst {n k l : Nat} {d a : Addr} {H : Hp} {xs : List V} (e : H a = some (.lst xs)) (na : a ≠ d) (hl : xs.length ≤ l) (h : ∀ x ∈ xs, OnF false n k d H x) : OnF false (n * l + 2 * l + 3) (k + 1) d H (.ref a) := by
  obtain ⟨ds, rs, gs, len⟩ := reps_of h
  exact ⟨_, .lst (off_some e na) rs, Rp.Fine.lst gs (by rw [len]; exact hl)⟩
theorem OnF.dct {d a : Addr} {H : Hp} (e : H a = some (.dK [])) (na : a ≠ d) : OnF true 100 1 d H (.ref a) := ⟨_, .dct (off_some e na), Rp.Fine.dct.mono (by decide) (by decide)⟩
open PySem.Spec PyProof.Rows PySem.P in
theorem fine_dc {n k : Nat} {key : Key} {dd : PyData} (hk : Rp.Fine 46 0 (Rp.keyD key)) (h : Rp.Fine n k dd) : Rp.Fine (n + 60) (k + 1) (.dict [(Rp.keyD key, dd)]) := by
  refine ⟨?_, ?_, ?_⟩
  · have a := hk.sh
    have b := h.sh
    simp only [PyData.showable, PyData.showableKv, a, b]
    rfl
  · have h1 := hk.ln
    have h2 := h.ln
    have q := dictText_len_le [PyData.shown (Rp.keyD key) ++ ": " ++ PyData.shown dd]
    have e : (PyData.shown (Rp.keyD key) ++ ": " ++ PyData.shown dd).length = (PyData.shown (Rp.keyD key)).length + 2 + (PyData.shown dd).length := by rw [strLen_append, strLen_append]; rfl
    simp only [List.map_cons, List.map_nil, List.sum_cons, List.sum_nil, List.length_cons, List.length_nil] at q
    show (dictText [PyData.shown (Rp.keyD key) ++ ": " ++ PyData.shown dd]).length ≤ n + 60
    omega
  · have h1 := hk.dp
    have h2 := h.dp
    simp only [PyData.depth, PyData.depthKv] at *
    omega
theorem OnF.dc {n k : Nat} {d a : Addr} {H : Hp} {key : Key} {v : V} (hk : Rp.Fine 46 0 (Rp.keyD key)) (e : H a = some (.dK [(key, v)])) (na : a ≠ d) (h : OnF true n k d H v) : OnF true (n + 60) (k + 1) d H (.ref a) := by
  obtain ⟨dd, r, g⟩ := h
  exact ⟨_, .dc1 (off_some e na) r, fine_dc hk g⟩
theorem OnF.si {f : Bool} {d : Addr} {H : Hp} {x : V} (h : SI x) : OnF f 100 0 d H x := by
  rcases h with ⟨i, rfl, h⟩ | ⟨n, rfl, h⟩
  · exact .int (by rcases h with rfl | rfl <;> decide)
  · exact .str h
theorem fine_a : Rp.Fine 46 0 (Rp.keyD (Sum.inr (Str.ofString "a"))) := ⟨rfl, by decide +kernel, Nat.le_refl _⟩
theorem fine_0 : Rp.Fine 46 0 (Rp.keyD (Sum.inl 0)) := Rp.Fine.int (i := 0) (by decide)
def wayB (way : Nat) : Bool := way == 2
open Rp in
mutual
theorem rep_two {d e : Addr} {H H' : Hp} (s : But e H H') : ∀ {f f' : Bool} {v : V} {x x' : PyData}, RepH (off d H) f v x → RepH (off e H) f' v x' → RepH (off d H') f v x
  | _, _, _, _, _, .non, _ => .non
  | _, _, _, _, _, .bl b, _ => .bl b
  | _, _, _, _, _, .int i, _ => .int i
  | _, _, _, _, _, .str x, _ => .str x
  | _, _, _, _, _, .tup e1 l h, r => by
    have q1 := off_in _ _ e1
    cases r with
    | tup e2 _ h2 =>
      have q2 := off_in _ _ e2
      rw [q1] at q2
      injection q2 with q2; injection q2 with q2; subst q2
      exact .tup (off_some (s _ _ q1 (off_ne e2)) (off_ne e1)) l (reps_two s h h2)
    | lst e2 _ => rw [off_in _ _ e2] at q1; cases q1
    | dct e2 => rw [off_in _ _ e2] at q1; cases q1
    | dc1 e2 _ => rw [off_in _ _ e2] at q1; cases q1
  | _, _, _, _, _, .lst e1 h, r => by
    have q1 := off_in _ _ e1
    cases r with
    | lst e2 h2 =>
      have q2 := off_in _ _ e2
      rw [q1] at q2
      injection q2 with q2; injection q2 with q2; subst q2
      exact .lst (off_some (s _ _ q1 (off_ne e2)) (off_ne e1)) (reps_two s h h2)
    | tup e2 _ _ => rw [off_in _ _ e2] at q1; cases q1
    | dct e2 => rw [off_in _ _ e2] at q1; cases q1
    | dc1 e2 _ => rw [off_in _ _ e2] at q1; cases q1
  | _, _, _, _, _, .dct e1, r => by
    have q1 := off_in _ _ e1
    refine .dct (off_some (s _ _ q1 ?_) (off_ne e1))
    cases r with
    | lst e2 h2 => exact off_ne e2
    | tup e2 _ _ => exact off_ne e2
    | dct e2 => exact off_ne e2
    | dc1 e2 _ => exact off_ne e2
  | _, _, _, _, _, .dc1 e1 h, r => by
    have q1 := off_in _ _ e1
    cases r with
    | dc1 e2 h2 =>
      have q2 := off_in _ _ e2
      rw [q1] at q2
      injection q2 with q2; injection q2 with q2; injection q2 with q2 _; injection q2 with q1' q2; subst q1' q2
      exact .dc1 (off_some (s _ _ q1 (off_ne e2)) (off_ne e1)) (rep_two s h h2)
    | tup e2 _ _ => rw [off_in _ _ e2] at q1; cases q1
    | dct e2 => rw [off_in _ _ e2] at q1; cases q1
    | lst e2 _ => rw [off_in _ _ e2] at q1; cases q1
theorem reps_two {d e : Addr} {H H' : Hp} (s : But e H H') : ∀ {f f' : Bool} {v : List V} {x x' : List PyData}, RepHs (off d H) f v x → RepHs (off e H) f' v x' → RepHs (off d H') f v x
  | _, _, _, _, _, .nil, _ => .nil
  | _, _, _, _, _, .cons h t, .cons h2 t2 => .cons (rep_two s h h2) (reps_two s t t2)
end
theorem OnF.two {f f' : Bool} {n k n' k' : Nat} {d e : Addr} {H H' : Hp} {x : V} (h : OnF f n k d H x) (g : OnF f' n' k' e H x) (s : But e H H') : OnF f n k d H' x := let ⟨_, r, q⟩ := h; let ⟨_, r', _⟩ := g; ⟨_, rep_two s r r', q⟩
def spDeep : Sp := fun vs H Q _ => ∃ (x : V) (m way n k : Nat), vs = [x, .int (m : Int), .int (way : Int)] ∧ way < 3 ∧ m ≤ 16 ∧ ∀ (y : V) (H' : Hp), Same H H' → (∃ f, ∀ d o, H d = some o → (∀ f, OnF f n k d H x) → OnF f (n + 60 * m) (k + m) d H' y) → Q y H'
section
variable {P : Program} {w : World} {K : PySem.W.Frag} {mg : Str → Option Value} {base : Heap}
theorem scDeep : FnScope ["_law_thing", "_law_many", "_law_way", "_law_k"] ["_law_thing", "_law_many", "_law_way"] (defScope sDeep) := ⟨rfl, rfl, rfl, by decide +kernel, rfl, by decide +kernel, by decide +kernel⟩
theorem ok_Deep {f : Addr} {fd : FuncData} (F : Fun K "_law_deep" "_law_deep" sDeep f fd) (T : Txt mg) :
    FnOk P w K mg base CX0 1 f fd ["_law_thing", "_law_many", "_law_way"] spDeep := by
  refine F.ok scDeep (fun vs H Q E h => ?_) (fun cdv A outer s H vs Q E hr h => ?_)
  · obtain ⟨_, _, _, _, _, rfl, _⟩ := h; rfl
  · obtain ⟨x, m, way, n, k, rfl, w3, m16, kk⟩ := h
    refine ⟨_, pss_cons (ps_for PassesOwn.never rfl (pi_range1 rfl T.range (pa_cons (pv 1) pa_nil)) (pg_name (i := 3) scDeep.nd rfl (Or.inl rfl)) (pss_one (ps_set (i := 0) scDeep.nd rfl (Or.inl rfl) (pe_ix ix_list (pe_lst (pa_cons (pe_tup (pa_cons (pv 0) pa_nil)) (pa_cons (pe_lst (pa_cons (pv 0) pa_nil)) (pa_cons (pe_disp (pps_cons pe_str (pv 0) pps_nil) rfl rfl (by simp) (by simp)) pa_nil)))) (pv 2) (fun _ _ => rfl)))))
      (pss_one (ps_ret (pv 0))), ?_⟩
    refine ⟨_, rfl, (m : Int), rfl, by omega, by omega, for_range (lo := 0) (n := (m : Int).toNat) (fun i σ H5 => ∃ (v : V) (u3 : Option V), σ = [some v, some (.int (m : Int)), some (.int (way : Int)), u3] ∧ Same H H5 ∧ ∀ d o, H d = some o → (∀ f, OnF f n k d H x) → OnF (wayB way) (n + 60 * i) (k + i) d H5 v) ⟨x, _, rfl, same_refl _, fun _ _ _ on => on _⟩ ?_ ?_⟩
    · rintro i σ H5 hi ⟨v, u3, rfl, s5, o5⟩
      refine ⟨_, rfl, small (by simp), fun t1 ht1 => ?_⟩
      have s6 := same_new (o := .tup [v]) ht1
      have e6 := upd_same (H := H5) (a := t1) (o := .tup [v])
      generalize upd H5 t1 (.tup [v]) = H6 at s6 e6
      refine ⟨_, rfl, small (by simp), fun t2 ht2 => ?_⟩
      have s7 := same_new (o := .lst [v]) ht2
      have e7 := upd_same (H := H6) (a := t2) (o := .lst [v])
      generalize upd H6 t2 (.lst [v]) = H7 at s7 e7
      refine fun t3 ht3 => ?_
      refine ⟨_, rfl, upd_same, [(.inr (Str.ofString "a"), v)], rfl, by simp, ?_⟩
      have ez : upd (upd H7 t3 (.dK [])) t3 (.dK (mergeK [] [(Sum.inr (Str.ofString "a"), v)])) = upd H7 t3 (.dK [(.inr (Str.ofString "a"), v)]) := by rw [upd_upd]; rfl
      rw [ez]
      have s8 := same_new (o := .dK [(.inr (Str.ofString "a"), v)]) ht3
      have e8 := upd_same (H := H7) (a := t3) (o := .dK [(.inr (Str.ofString "a"), v)])
      generalize upd H7 t3 (.dK [(.inr (Str.ofString "a"), v)]) = H8 at s8 e8
      refine ⟨small (by simp), fun l hl => ?_⟩
      have s9 := same_new (o := .lst [.ref t1, .ref t2, .ref t3]) hl
      have l9 := upd_same (H := H8) (a := l) (o := .lst [.ref t1, .ref t2, .ref t3])
      change TVarP _ _ _ _
      generalize upd H8 l (.lst [.ref t1, .ref t2, .ref t3]) = H9 at s9 l9
      have S9 := ((s6.trans s7).trans s8).trans s9
      obtain ⟨y, hy, oy⟩ : ∃ y, atI [V.ref t1, .ref t2, .ref t3] (way : Int) = some y ∧ ∀ d o, H d = some o → (∀ f, OnF f n k d H x) → OnF (wayB way) (n + 60 * (i + 1)) (k + (i + 1)) d H9 y := by
        match way, w3, o5 with
        | 0, _, o5 => exact ⟨.ref t1, rfl, fun d o hd on => (OnF.tup (l := 1) (s9 _ _ (s8 _ _ (s7 _ _ e6))) ((ne_of_none (s5 _ _ hd) ht1).symm) (by simp) (by decide) (fun z hz => by rw [List.mem_singleton.mp hz]; exact (o5 d o hd on).same S9)).mono (by omega) (by omega)⟩
        | 1, _, o5 => exact ⟨.ref t2, rfl, fun d o hd on => (OnF.lst (l := 1) (s9 _ _ (s8 _ _ e7)) ((ne_of_none (s6 _ _ (s5 _ _ hd)) ht2).symm) (by simp) (fun z hz => by rw [List.mem_singleton.mp hz]; exact (o5 d o hd on).same S9)).mono (by omega) (by omega)⟩
        | 2, _, o5 => exact ⟨.ref t3, rfl, fun d o hd on => (OnF.dc fine_a (s9 _ _ e8) ((ne_of_none (s7 _ _ (s6 _ _ (s5 _ _ hd))) ht3).symm) ((o5 d o hd on).same S9)).mono (by omega) (by omega)⟩
      exact ⟨_, rfl, l, _, _, _, rfl, rfl, SqL.of l9, hy, y, _, rfl, s5.trans S9, oy⟩
    · rintro σ H5 ⟨v, u3, rfl, s5, o5⟩
      rw [show (m : Int).toNat = m by simp] at o5
      exact ⟨_, rfl, kk v H5 s5 ⟨_, o5⟩⟩
end
end K56
set_option maxHeartbeats 16000000
namespace K56
open PySem L2 Wk
def OnB (d : Addr) (H : Hp) (x : V) : Prop := ∃ f, OnF f 13000 17 d H x
theorem OnB.same {d : Addr} {H H' : Hp} {x : V} (h : OnB d H x) (s : Same H H') : OnB d H' x := let ⟨f, g⟩ := h; ⟨f, g.same s⟩
theorem OnB.but {d : Addr} {H H' : Hp} {x : V} (h : OnB d H x) (s : But d H H') : OnB d H' x := let ⟨f, g⟩ := h; ⟨f, g.but s⟩
theorem OnF.b {f : Bool} {n k : Nat} {d : Addr} {H : Hp} {x : V} (h : OnF f n k d H x) (h1 : n ≤ 13000) (h2 : k ≤ 17) : OnB d H x := ⟨f, h.mono h1 h2⟩
theorem sht_of {z : Str} (h : decide (z.length ≤ 9 ∧ ∀ c ∈ z.cps.toList, c < 16 ^ 8) = true) : Sht z := by
  have h := of_decide_eq_true h
  exact ⟨h.1, h.2⟩
theorem OnF.nilT {f : Bool} {d a : Addr} {H : Hp} (e : H a = some (.tup [])) (na : a ≠ d) : OnF f 100 1 d H (.ref a) := (OnF.tup (n := 100) (k := 0) (l := 0) e na (by simp) (by decide) (fun x hx => by simp at hx)).mono (by decide) (by decide)
theorem OnF.tup1 {f : Bool} {n k : Nat} {d a : Addr} {H : Hp} {x : V} (e : H a = some (.tup [x])) (na : a ≠ d) (h : OnF f n k d H x) : OnF f (n + 5) (k + 1) d H (.ref a) := (OnF.tup (l := 1) e na (by simp) (by decide) (fun y hy => by rw [List.mem_singleton.mp hy]; exact h)).mono (by omega) (by omega)
theorem OnF.tup2 {f : Bool} {n k : Nat} {d a : Addr} {H : Hp} {x y : V} (e : H a = some (.tup [x, y])) (na : a ≠ d) (h : OnF f n k d H x) (g : OnF f n k d H y) : OnF f (2 * n + 7) (k + 1) d H (.ref a) := (OnF.tup (l := 2) e na (by simp) (by decide) (fun z hz => by
  simp only [List.mem_cons, List.not_mem_nil, or_false] at hz
  rcases hz with rfl | rfl
  · exact h
  · exact g)).mono (by omega) (by omega)
theorem OnF.lst0 {d a : Addr} {H : Hp} (e : H a = some (.lst [])) (na : a ≠ d) : OnF false 100 1 d H (.ref a) := (OnF.lst (n := 100) (k := 0) (l := 0) e na (by simp) (fun x hx => by simp at hx)).mono (by decide) (by decide)
theorem OnF.lst1 {n k : Nat} {d a : Addr} {H : Hp} {x : V} (e : H a = some (.lst [x])) (na : a ≠ d) (h : OnF false n k d H x) : OnF false (n + 5) (k + 1) d H (.ref a) := (OnF.lst (l := 1) e na (by simp) (fun y hy => by rw [List.mem_singleton.mp hy]; exact h)).mono (by omega) (by omega)
theorem OnF.lst2 {n k : Nat} {d a : Addr} {H : Hp} {x y : V} (e : H a = some (.lst [x, y])) (na : a ≠ d) (h : OnF false n k d H x) (g : OnF false n k d H y) : OnF false (2 * n + 7) (k + 1) d H (.ref a) := (OnF.lst (l := 2) e na (by simp) (fun z hz => by
  simp only [List.mem_cons, List.not_mem_nil, or_false] at hz
  rcases hz with rfl | rfl
  · exact h
  · exact g)).mono (by omega) (by omega)
theorem OnF.many {f : Bool} {n k m : Nat} {d a : Addr} {H : Hp} {x : V} (e : H a = some (.tup (List.replicate m x))) (na : a ≠ d) (hm : m ≤ 60) (h : OnF f n k d H x) : OnF f (n * 60 + 123) (k + 1) d H (.ref a) := (OnF.tup (l := 60) e na (by rw [List.length_replicate]; exact hm) (by decide) (fun y hy => by rw [List.eq_of_mem_replicate hy]; exact h)).mono (by omega) (by omega)
theorem call_boolA {X : Cx} : CallR X (.type "bool") (fun xs H Q => (∃ i, xs = [.int i] ∧ ∀ b, Q (.bl b) H) ∨ ∃ z : Str, xs = [.str z] ∧ z.length ≤ 10000 ∧ ∀ b, Q (.bl b) H) := by
  intro pins s σ H xs us Q I r h
  rcases h with ⟨i, rfl, q⟩ | ⟨z, rfl, hz, q⟩
  · obtain ⟨u, rfl, t, rfl⟩ := vals1 r
    exact call_bool_int ⟨.bl _, H, I, rfl, q _⟩
  · obtain ⟨u, rfl, t, rfl⟩ := vals1 r
    exact call_bool_str (by omega) ⟨.bl _, H, I.tok _, rfl, q _⟩
def spOdd : Sp := fun vs H Q _ => ∃ (d g wa : Addr) (N b : Nat) (wd : Str) (xs : List V), vs = [.ref d, .int (N : Int), .ref g] ∧ DeckAt H d (b + 3) ∧ 2 ≤ N ∧ N ≤ 24 ∧ H g = some (.tup [.str wd, .ref wa]) ∧ H wa = some (.tup xs) ∧ (∀ x ∈ xs, SI x) ∧ xs.length ≤ 61 ∧ Sht wd ∧ ∀ (l : Addr) (zs : List V) (H' : Hp), But d H H' → DeckAt H' d b → l ≠ d → H' l = some (.lst zs) → zs.length ≤ 60 → (∀ z ∈ zs, OnB d H' z) → Q (.ref l) H'
section
variable {P : Program} {w : World} {K : PySem.W.Frag} {mg : Str → Option Value} {base : Heap}
theorem scOdd : FnScope ["_law_deck", "_law_many", "_law_good", "_law_far", "_law_word", "_law_told", "_law_some"] ["_law_deck", "_law_many", "_law_good"] (defScope sOdd) := ⟨rfl, rfl, rfl, by decide +kernel, rfl, by decide +kernel, by decide +kernel⟩
theorem ok_Odd {f : Addr} {fd : FuncData} (F : Fun K "_law_odd" "_law_odd" sOdd f fd) (T : Txt mg)
    {gDraw : Addr} {fDraw : FuncData} (kDraw : PySem.W.keepIn K (.ref gDraw) = true) (bDraw : Binds K fDraw ["_law_deck", "_law_most"] []) (hDraw : mg "_law_draw" = some (.ref gDraw)) (GDraw : FnOk P w K mg base CX0 1 gDraw fDraw ["_law_deck", "_law_most"] spDrawW)
    {gDeep : Addr} {fDeep : FuncData} (kDeep : PySem.W.keepIn K (.ref gDeep) = true) (bDeep : Binds K fDeep ["_law_thing", "_law_many", "_law_way"] []) (hDeep : mg "_law_deep" = some (.ref gDeep)) (GDeep : FnOk P w K mg base CX0 1 gDeep fDeep ["_law_thing", "_law_many", "_law_way"] spDeep) :
    FnOk P w K mg base CX0 2 f fd ["_law_deck", "_law_many", "_law_good"] spOdd := by
  refine F.ok scOdd (fun vs H Q E h => ?_) (fun cdv A outer s H vs Q E hr h => ?_)
  · obtain ⟨_, _, _, _, _, _, _, rfl, _⟩ := h; rfl
  · obtain ⟨d, g, wa, N, b, wd, xs, rfl, hD, N2, N24, hg, hw, hi, x61, hwd, k⟩ := h
    refine ⟨_, pss_cons (ps_set (i := 3) scOdd.nd rfl (Or.inl rfl) (pe_call GDraw hr rfl hDraw kDraw bDraw .nil pass0 (pa_cons (pv 0) (pa_cons (pe_op op_pow pe_int pe_int) pa_nil))))
      (pss_cons (ps_asg (pv 2) (pg_tup rfl (pgs_cons (pg_name (i := 4) scOdd.nd rfl (Or.inl rfl)) (pgs_cons (pg_name (i := 5) scOdd.nd rfl (Or.inl rfl)) pgs_nil))))
      (pss_cons (ps_set (i := 6) scOdd.nd rfl (Or.inl rfl) (w_lst (w_cons (w_of pe_non) (w_cons (w_of pe_bl) (w_cons (w_of pe_bl) (w_cons (w_of pe_str) (w_cons (w_of pe_str) (w_cons (w_of pe_str) (w_cons (w_of pe_str) (w_cons (w_of pe_str) (w_cons (w_of pe_str) w_nil st_C) st_C) st_C) st_C) st_C) st_C) st_C) st_C) st_C)).out)
      (pss_cons (ps_set (i := 6) scOdd.nd rfl (Or.inl rfl) (w_op op_cat (w_of (pv 6)) (w_lst (w_cons (w_of pe_int) (w_cons (w_of pe_int) (w_cons (w_of (pe_un un_neg pe_int)) (w_cons (w_of pe_int) (w_cons (w_of (pv 3)) (w_cons (w_of (pe_op op_sub pe_int (pv 3))) (w_cons (w_tup w_nil) (w_cons (w_tup (w_cons (w_of pe_int) w_nil st_C)) (w_cons (w_tup (w_cons (w_of pe_int) (w_cons (w_of pe_int) w_nil st_C) st_C)) (w_cons (w_lst w_nil) (w_cons (w_lst (w_cons (w_of pe_int) w_nil st_C)) (w_cons (w_lst (w_cons (w_of pe_int) (w_cons (w_of pe_int) w_nil st_C) st_C)) w_nil st_L) st_L) st_L) st_T) st_T) st_T) st_B) st_N) st_C) st_U) st_C) st_C))).out)
      (pss_cons (ps_set (i := 6) scOdd.nd rfl (Or.inl rfl) (w_op op_cat (w_of (pv 6)) (w_lst (w_cons (w_lst (w_cons (w_of pe_str) w_nil st_C)) (w_cons (w_of pe_dnewK) (w_cons (w_of (pe_disp (pps_cons pe_int pe_int pps_nil) rfl rfl (by simp) (by simp))) (w_cons (w_of (pe_disp (pps_cons pe_str (pe_tup pa_nil) pps_nil) rfl rfl (by simp) (by simp))) (w_cons (w_tup (w_cons (w_tup w_nil) w_nil st_T)) (w_cons (w_tup (w_cons (w_of pe_non) (w_cons (w_of pe_non) w_nil st_C) st_C)) w_nil st_T) st_T) st_D) st_D) st_D) st_L))).out)
      (pss_cons (ps_set (i := 6) scOdd.nd rfl (Or.inl rfl) (w_op op_cat (w_of (pv 6)) (w_lst (w_cons (w_tup (w_cons (w_of pe_str) (w_cons (w_tup w_nil) w_nil st_T) st_C)) (w_cons (w_tup (w_cons (w_of pe_str) (w_cons (w_tup w_nil) w_nil st_T) st_C)) (w_cons (w_of (pv 2)) (w_cons (w_of (pv 5)) (w_cons (w_of (pe_callTy call_list_of (by rfl) T.list (by decide +kernel) (pa_cons (pv 5) pa_nil))) (w_cons (w_lst (w_cons (w_of (pv 4)) w_nil st_N)) w_nil st_L) st_K) st_N) st_N) st_T) st_T))).out)
      (pss_cons (ps_expr (pe_bm PySem.F.plainAttrs_list PySem.F.slot_list_append PySem.F.type_list_append mt_append (pv 6) (pa_cons (pe_call GDeep hr rfl hDeep kDeep bDeep .nil pass0 (pa_cons (pv 5) (pa_cons (pe_op op_add pe_int (pe_call GDraw hr rfl hDraw kDraw bDraw .nil pass0 (pa_cons (pv 0) (pa_cons pe_int pa_nil)))) (pa_cons (pe_call GDraw hr rfl hDraw kDraw bDraw .nil pass0 (pa_cons (pv 0) (pa_cons pe_int pa_nil))) pa_nil)))) pa_nil)))
      (pss_cons (ps_expr (pe_bm PySem.F.plainAttrs_list PySem.F.slot_list_append PySem.F.type_list_append mt_append (pv 6) (pa_cons (pe_callTy call_tuple_of (by rfl) T.tuple (by decide +kernel) (pa_cons (pe_comp (T := ["_law_one"]) (F := []) (js := []) (CS.to (osc := defScope sOdd) ⟨by rfl, by decide +kernel, by decide +kernel, by decide +kernel, by decide +kernel, by decide +kernel, by decide +kernel⟩ rfl rfl) rfl (pi_tup (pv 5)) (fun _ _ _ _ _ => pg_name (i := 0) (show (["_law_one"] : List Str).Nodup by decide +kernel) rfl (Or.inl rfl)) (fun _ _ _ _ _ => pif_nil) (fun _ _ _ _ _ => pe_callTy call_boolA (by rfl) T.bool (by decide +kernel) (pa_cons (pv 0) pa_nil))) pa_nil)) pa_nil)))
      (pss_one (ps_ret (w_op op_cat (w_of (pv 6)) (w_lst (w_cons (w_op op_repT2 (w_tup (w_cons (w_of pe_int) w_nil st_C)) (w_of (pe_op op_add (pv 1) pe_int))) (w_cons (w_op op_repT2 (w_tup (w_cons (w_of pe_int) w_nil st_C)) (w_of (pv 1))) (w_cons (w_op op_repT2 (w_tup (w_cons (w_of pe_str) w_nil st_C)) (w_of pe_int)) (w_cons (w_op op_repT2 (w_tup (w_cons (w_tup (w_cons (w_of pe_str) w_nil st_C)) w_nil st_T)) (w_of pe_int)) w_nil st_B) st_B) st_B) st_B))).out))))))))), ?_⟩
    refine ⟨_, rfl, _, _, rfl, rfl, ⟨by decide, by decide, by decide⟩, d, _, b + 2, rfl, hD, (by show (0 : Int) < 10 ^ 39; decide +kernel), (by show (10 : Int) ^ 39 < 2 ^ 200; decide +kernel), fun far H1 v10 v11 b1 D1 => ?_⟩
    have v11 : far < 10 ^ 39 := v11
    have hg1 := b1.tup hD hg
    have hw1 := b1.tup hD hw
    refine ⟨_, rfl, g, _, rfl, SqT.of hg1, rfl, _, _, rfl, _, _, rfl, rfl, ?_⟩
    have fi : far.natAbs < 10 ^ 45 := Nat.lt_of_lt_of_le (show far.natAbs < 10 ^ 39 by omega) (by decide +kernel)
    have fi2 : (0 - far).natAbs < 10 ^ 45 := Nat.lt_of_lt_of_le (show (0 - far).natAbs < 10 ^ 39 by omega) (by decide +kernel)
    refine ⟨small (by simp), fun qa hqa => ?_⟩
    have s2 := same_new (o := .lst [.non, .bl true, .bl false, .str (Str.ofString ""), .str (Str.ofString "sides"), .str (Str.ofString "ring"), .str (Str.ofString "sidesring"), .str (Str.ofString "a"), .str (Str.ofString "0")]) hqa
    have xqa := upd_same (H := H1) (a := qa) (o := .lst [.non, .bl true, .bl false, .str (Str.ofString ""), .str (Str.ofString "sides"), .str (Str.ofString "ring"), .str (Str.ofString "sidesring"), .str (Str.ofString "a"), .str (Str.ofString "0")])
    have nqa := D1.ne hqa
    change _
    generalize upd H1 qa (.lst [.non, .bl true, .bl false, .str (Str.ofString ""), .str (Str.ofString "sides"), .str (Str.ofString "ring"), .str (Str.ofString "sidesring"), .str (Str.ofString "a"), .str (Str.ofString "0")]) = H2 at s2 xqa
    have D2 := D1.same s2
    have A1 : ∀ z ∈ ([.non, .bl true, .bl false, .str (Str.ofString ""), .str (Str.ofString "sides"), .str (Str.ofString "ring"), .str (Str.ofString "sidesring"), .str (Str.ofString "a"), .str (Str.ofString "0")] : List V), OnB d H2 z := fun z hz => by
      simp only [List.mem_cons, List.not_mem_nil, or_false] at hz
      rcases hz with rfl | rfl | rfl | rfl | rfl | rfl | rfl | rfl | rfl
      · exact (OnF.non (f := true)).b (by decide) (by decide)
      · exact (OnF.bl (f := true) _).b (by decide) (by decide)
      · exact (OnF.bl (f := true) _).b (by decide) (by decide)
      · exact (OnF.str (f := true) (sht_of (by decide +kernel))).b (by decide) (by decide)
      · exact (OnF.str (f := true) (sht_of (by decide +kernel))).b (by decide) (by decide)
      · exact (OnF.str (f := true) (sht_of (by decide +kernel))).b (by decide) (by decide)
      · exact (OnF.str (f := true) (sht_of (by decide +kernel))).b (by decide) (by decide)
      · exact (OnF.str (f := true) (sht_of (by decide +kernel))).b (by decide) (by decide)
      · exact (OnF.str (f := true) (sht_of (by decide +kernel))).b (by decide) (by decide)
    have la : ([.non, .bl true, .bl false, .str (Str.ofString ""), .str (Str.ofString "sides"), .str (Str.ofString "ring"), .str (Str.ofString "sidesring"), .str (Str.ofString "a"), .str (Str.ofString "0")] : List V).length ≤ 9 := by decide
    generalize ([.non, .bl true, .bl false, .str (Str.ofString ""), .str (Str.ofString "sides"), .str (Str.ofString "ring"), .str (Str.ofString "sidesring"), .str (Str.ofString "a"), .str (Str.ofString "0")] : List V) = za at xqa A1 la
    refine ⟨_, rfl, _, rfl, _, rfl, _, rfl, _, _, rfl, rfl, small (by simp), fun ta hta => ?_⟩
    have s3 := same_new (o := .tup []) hta
    have xta := upd_same (H := H2) (a := ta) (o := .tup [])
    have nta := D2.ne hta
    change _
    generalize upd H2 ta (.tup []) = H3 at s3 xta
    have D3 := D2.same s3
    refine ⟨small (by simp), fun tb htb => ?_⟩
    have s4 := same_new (o := .tup [.int 0]) htb
    have xtb := upd_same (H := H3) (a := tb) (o := .tup [.int 0])
    have ntb := D3.ne htb
    change _
    generalize upd H3 tb (.tup [.int 0]) = H4 at s4 xtb
    have D4 := D3.same s4
    refine ⟨small (by simp), fun tc htc => ?_⟩
    have s5 := same_new (o := .tup [.int 1, .int 0]) htc
    have xtc := upd_same (H := H4) (a := tc) (o := .tup [.int 1, .int 0])
    have ntc := D4.ne htc
    change _
    generalize upd H4 tc (.tup [.int 1, .int 0]) = H5 at s5 xtc
    have D5 := D4.same s5
    refine ⟨small (by simp), fun lb hlb => ?_⟩
    have s6 := same_new (o := .lst []) hlb
    have xlb := upd_same (H := H5) (a := lb) (o := .lst [])
    have nlb := D5.ne hlb
    change _
    generalize upd H5 lb (.lst []) = H6 at s6 xlb
    have D6 := D5.same s6
    refine ⟨small (by simp), fun lc hlc => ?_⟩
    have s7 := same_new (o := .lst [.int 0]) hlc
    have xlc := upd_same (H := H6) (a := lc) (o := .lst [.int 0])
    have nlc := D6.ne hlc
    change _
    generalize upd H6 lc (.lst [.int 0]) = H7 at s7 xlc
    have D7 := D6.same s7
    refine ⟨small (by simp), fun ld hld => ?_⟩
    have s8 := same_new (o := .lst [.int 0, .int 1]) hld
    have xld := upd_same (H := H7) (a := ld) (o := .lst [.int 0, .int 1])
    have nld := D7.ne hld
    change _
    generalize upd H7 ld (.lst [.int 0, .int 1]) = H8 at s8 xld
    have D8 := D7.same s8
    refine ⟨small (by simp), fun qb hqb => ?_⟩
    have s9 := same_new (o := .lst [.int 0, .int 1, .int (-1), .int 2, .int far, .int (0 - far), .ref ta, .ref tb, .ref tc, .ref lb, .ref lc, .ref ld]) hqb
    have xqb := upd_same (H := H8) (a := qb) (o := .lst [.int 0, .int 1, .int (-1), .int 2, .int far, .int (0 - far), .ref ta, .ref tb, .ref tc, .ref lb, .ref lc, .ref ld])
    have nqb := D8.ne hqb
    change _
    generalize upd H8 qb (.lst [.int 0, .int 1, .int (-1), .int 2, .int far, .int (0 - far), .ref ta, .ref tb, .ref tc, .ref lb, .ref lc, .ref ld]) = H9 at s9 xqb
    have D9 := D8.same s9
    have A2 : ∀ z ∈ ([.int 0, .int 1, .int (-1), .int 2, .int far, .int (0 - far), .ref ta, .ref tb, .ref tc, .ref lb, .ref lc, .ref ld] : List V), OnB d H9 z := fun z hz => by
      simp only [List.mem_cons, List.not_mem_nil, or_false] at hz
      rcases hz with rfl | rfl | rfl | rfl | rfl | rfl | rfl | rfl | rfl | rfl | rfl | rfl
      · exact (OnF.int (f := false) (by decide)).b (by decide) (by decide)
      · exact (OnF.int (f := false) (by decide)).b (by decide) (by decide)
      · exact (OnF.int (f := false) (by decide)).b (by decide) (by decide)
      · exact (OnF.int (f := false) (by decide)).b (by decide) (by decide)
      · exact (OnF.int (f := false) fi).b (by decide) (by decide)
      · exact (OnF.int (f := false) fi2).b (by decide) (by decide)
      · exact (OnF.nilT (f := true) (s9 _ _ (s8 _ _ (s7 _ _ (s6 _ _ (s5 _ _ (s4 _ _ xta)))))) nta).b (by decide) (by decide)
      · exact (OnF.tup1 (s9 _ _ (s8 _ _ (s7 _ _ (s6 _ _ (s5 _ _ xtb))))) ntb (OnF.int (f := true) (by decide))).b (by decide) (by decide)
      · exact (OnF.tup2 (s9 _ _ (s8 _ _ (s7 _ _ (s6 _ _ xtc)))) ntc (OnF.int (f := true) (by decide)) (OnF.int (f := true) (by decide))).b (by decide) (by decide)
      · exact (OnF.lst0 (s9 _ _ (s8 _ _ (s7 _ _ xlb))) nlb).b (by decide) (by decide)
      · exact (OnF.lst1 (s9 _ _ (s8 _ _ xlc)) nlc (OnF.int (f := false) (by decide))).b (by decide) (by decide)
      · exact (OnF.lst2 (s9 _ _ xld) nld (OnF.int (f := false) (by decide)) (OnF.int (f := false) (by decide))).b (by decide) (by decide)
    have l2 : ([.int 0, .int 1, .int (-1), .int 2, .int far, .int (0 - far), .ref ta, .ref tb, .ref tc, .ref lb, .ref lc, .ref ld] : List V).length ≤ 12 := by simp
    generalize ([.int 0, .int 1, .int (-1), .int 2, .int far, .int (0 - far), .ref ta, .ref tb, .ref tc, .ref lb, .ref lc, .ref ld] : List V) = z2 at xqb A2 l2
    refine ⟨qa, qb, _, _, rfl, rfl, (s9 _ _ (s8 _ _ (s7 _ _ (s6 _ _ (s5 _ _ (s4 _ _ (s3 _ _ xqa))))))), xqb, small (n := za.length + z2.length) (by omega), fun qc hqc => ?_⟩
    have s10 := same_new (o := .lst (za ++ z2)) hqc
    have xqc := upd_same (H := H9) (a := qc) (o := .lst (za ++ z2))
    have nqc := D9.ne hqc
    change _
    generalize upd H9 qc (.lst (za ++ z2)) = H10 at s10 xqc
    have D10 := D9.same s10
    have Ac : ∀ z ∈ za ++ z2, OnB d H10 z := fun z hz => (List.mem_append.mp hz).elim (fun h => (A1 z h).same ((((((((s3).trans s4).trans s5).trans s6).trans s7).trans s8).trans s9).trans s10)) fun h => (A2 z h).same s10
    have lc0 : (za ++ z2).length ≤ 21 := by rw [List.length_append]; omega
    generalize za ++ z2 = zc at xqc Ac lc0
    refine ⟨_, rfl, small (by simp), fun le hle => ?_⟩
    have s11 := same_new (o := .lst [.str (Str.ofString "ring")]) hle
    have xle := upd_same (H := H10) (a := le) (o := .lst [.str (Str.ofString "ring")])
    have nle := D10.ne hle
    change _
    generalize upd H10 le (.lst [.str (Str.ofString "ring")]) = H11 at s11 xle
    have D11 := D10.same s11
    refine fun da hda => ?_
    have s12 := same_new (o := .dK []) hda
    have xda := upd_same (H := H11) (a := da) (o := .dK [])
    have nda := D11.ne hda
    generalize upd H11 da (.dK []) = H12 at s12 xda
    have D12 := D11.same s12
    refine fun db hdb => ?_
    refine ⟨upd_same, [(.inl 0, .int 1)], rfl, by simp, ?_⟩
    have edb : upd (upd H12 db (.dK [])) db (.dK (mergeK [] [((Sum.inl 0 : Key), V.int 1)])) = upd H12 db (.dK [(.inl 0, .int 1)]) := by rw [upd_upd]; rfl
    rw [edb]
    have s13 := same_new (o := .dK [(.inl 0, .int 1)]) hdb
    have xdb := upd_same (H := H12) (a := db) (o := .dK [(.inl 0, .int 1)])
    have ndb := D12.ne hdb
    generalize upd H12 db (.dK [(.inl 0, .int 1)]) = H13 at s13 xdb
    have D13 := D12.same s13
    refine fun dc hdc => ?_
    have ndc := D13.ne hdc
    have s14 := same_new (o := .dK []) hdc
    have xdc0 := upd_same (H := H13) (a := dc) (o := .dK [])
    refine ⟨small (by simp), fun td htd => ?_⟩
    generalize upd H13 dc (.dK []) = H14 at s14 xdc0 htd
    have D14 := D13.same s14
    have ntd := D14.ne htd
    have s15 := same_new (o := .tup []) htd
    have xtd := upd_same (H := H14) (a := td) (o := .tup [])
    generalize upd H14 td (.tup []) = H15 at s15 xtd
    have D15 := D14.same s15
    have xdc1 := s15 _ _ xdc0
    refine ⟨xdc1, [(.inr (Str.ofString "a"), .ref td)], rfl, by simp, ?_⟩
    change _
    have D16 := D15.upd (o := .dK [(.inr (Str.ofString "a"), .ref td)]) ndc
    have xdc := upd_same (H := H15) (a := dc) (o := .dK [(.inr (Str.ofString "a"), .ref td)])
    have ytd : upd H15 dc (.dK [(.inr (Str.ofString "a"), .ref td)]) td = some (.tup []) := by rw [upd_ne (ne_of xtd xdc1 (by intro z; cases z))]; exact xtd
    have s16 : Same H13 (upd H15 dc (.dK [(.inr (Str.ofString "a"), .ref td)])) := same_set ((s14).trans s15) hdc
    have eE : upd H15 dc (.dK (mergeK [] [((Sum.inr (Str.ofString "a") : Key), V.ref td)])) = upd H15 dc (.dK [(.inr (Str.ofString "a"), .ref td)]) := rfl
    rw [eE]
    generalize upd H15 dc (.dK [(.inr (Str.ofString "a"), .ref td)]) = H16 at D16 xdc ytd s16
    refine ⟨small (by simp), fun tf htf => ?_⟩
    have s17 := same_new (o := .tup []) htf
    have xtf := upd_same (H := H16) (a := tf) (o := .tup [])
    have ntf := D16.ne htf
    change _
    generalize upd H16 tf (.tup []) = H17 at s17 xtf
    have D17 := D16.same s17
    refine ⟨small (by simp), fun tg htg => ?_⟩
    have s18 := same_new (o := .tup [.ref tf]) htg
    have xtg := upd_same (H := H17) (a := tg) (o := .tup [.ref tf])
    have ntg := D17.ne htg
    change _
    generalize upd H17 tg (.tup [.ref tf]) = H18 at s18 xtg
    have D18 := D17.same s18
    refine ⟨small (by simp), fun th hth => ?_⟩
    have s19 := same_new (o := .tup [.non, .non]) hth
    have xth := upd_same (H := H18) (a := th) (o := .tup [.non, .non])
    have nth := D18.ne hth
    change _
    generalize upd H18 th (.tup [.non, .non]) = H19 at s19 xth
    have D19 := D18.same s19
    refine ⟨small (by simp), fun qd hqd => ?_⟩
    have s20 := same_new (o := .lst [.ref le, .ref da, .ref db, .ref dc, .ref tg, .ref th]) hqd
    have xqd := upd_same (H := H19) (a := qd) (o := .lst [.ref le, .ref da, .ref db, .ref dc, .ref tg, .ref th])
    have nqd := D19.ne hqd
    change _
    generalize upd H19 qd (.lst [.ref le, .ref da, .ref db, .ref dc, .ref tg, .ref th]) = H20 at s20 xqd
    have D20 := D19.same s20
    have A3 : ∀ z ∈ ([.ref le, .ref da, .ref db, .ref dc, .ref tg, .ref th] : List V), OnB d H20 z := fun z hz => by
      simp only [List.mem_cons, List.not_mem_nil, or_false] at hz
      rcases hz with rfl | rfl | rfl | rfl | rfl | rfl
      · exact (OnF.lst1 (s20 _ _ (s19 _ _ (s18 _ _ (s17 _ _ (s16 _ _ (s13 _ _ (s12 _ _ xle))))))) nle (OnF.str (f := false) (sht_of (by decide +kernel)))).b (by decide) (by decide)
      · exact (OnF.dct (s20 _ _ (s19 _ _ (s18 _ _ (s17 _ _ (s16 _ _ (s13 _ _ xda)))))) nda).b (by decide) (by decide)
      · exact (OnF.dc fine_0 (s20 _ _ (s19 _ _ (s18 _ _ (s17 _ _ (s16 _ _ xdb))))) ndb (OnF.int (f := true) (by decide))).b (by decide) (by decide)
      · exact (OnF.dc fine_a (s20 _ _ (s19 _ _ (s18 _ _ (s17 _ _ xdc)))) ndc (OnF.nilT (s20 _ _ (s19 _ _ (s18 _ _ (s17 _ _ ytd)))) ntd)).b (by decide) (by decide)
      · exact (OnF.tup1 (f := true) (s20 _ _ (s19 _ _ xtg)) ntg (OnF.nilT (s20 _ _ (s19 _ _ (s18 _ _ xtf))) ntf)).b (by decide) (by decide)
      · exact (OnF.tup2 (f := true) (s20 _ _ xth) nth .non .non).b (by decide) (by decide)
    have l3 : ([.ref le, .ref da, .ref db, .ref dc, .ref tg, .ref th] : List V).length ≤ 6 := by simp
    generalize ([.ref le, .ref da, .ref db, .ref dc, .ref tg, .ref th] : List V) = z3 at xqd A3 l3
    refine ⟨qc, qd, _, _, rfl, rfl, (s20 _ _ (s19 _ _ (s18 _ _ (s17 _ _ (s16 _ _ (s13 _ _ (s12 _ _ (s11 _ _ xqc)))))))), xqd, small (n := zc.length + z3.length) (by omega), fun qe hqe => ?_⟩
    have s21 := same_new (o := .lst (zc ++ z3)) hqe
    have xqe := upd_same (H := H20) (a := qe) (o := .lst (zc ++ z3))
    have nqe := D20.ne hqe
    change _
    generalize upd H20 qe (.lst (zc ++ z3)) = H21 at s21 xqe
    have D21 := D20.same s21
    have Ae : ∀ z ∈ zc ++ z3, OnB d H21 z := fun z hz => (List.mem_append.mp hz).elim (fun h => (Ac z h).same (((((((((s11).trans s12).trans s13).trans s16).trans s17).trans s18).trans s19).trans s20).trans s21)) fun h => (A3 z h).same s21
    have le0 : (zc ++ z3).length ≤ 27 := by rw [List.length_append]; omega
    generalize zc ++ z3 = ze at xqe Ae le0
    refine ⟨_, rfl, small (by simp), fun ti hti => ?_⟩
    have s22 := same_new (o := .tup []) hti
    have xti := upd_same (H := H21) (a := ti) (o := .tup [])
    have nti := D21.ne hti
    change _
    generalize upd H21 ti (.tup []) = H22 at s22 xti
    have D22 := D21.same s22
    refine ⟨small (by simp), fun tj htj => ?_⟩
    have s23 := same_new (o := .tup [.str (Str.ofString "ring"), .ref ti]) htj
    have xtj := upd_same (H := H22) (a := tj) (o := .tup [.str (Str.ofString "ring"), .ref ti])
    have ntj := D22.ne htj
    change _
    generalize upd H22 tj (.tup [.str (Str.ofString "ring"), .ref ti]) = H23 at s23 xtj
    have D23 := D22.same s23
    refine ⟨small (by simp), fun tk htk => ?_⟩
    have s24 := same_new (o := .tup []) htk
    have xtk := upd_same (H := H23) (a := tk) (o := .tup [])
    have ntk := D23.ne htk
    change _
    generalize upd H23 tk (.tup []) = H24 at s24 xtk
    have D24 := D23.same s24
    refine ⟨small (by simp), fun tl htl => ?_⟩
    have s25 := same_new (o := .tup [.str (Str.ofString "sides"), .ref tk]) htl
    have xtl := upd_same (H := H24) (a := tl) (o := .tup [.str (Str.ofString "sides"), .ref tk])
    have ntl := D24.ne htl
    change _
    generalize upd H24 tl (.tup [.str (Str.ofString "sides"), .ref tk]) = H25 at s25 xtl
    have D25 := D24.same s25
    have hgk := ((((((((((((((((((((((s2).trans s3).trans s4).trans s5).trans s6).trans s7).trans s8).trans s9).trans s10).trans s11).trans s12).trans s13).trans s16).trans s17).trans s18).trans s19).trans s20).trans s21).trans s22).trans s23).trans s24).trans s25) _ _ hg1
    have hwk := ((((((((((((((((((((((s2).trans s3).trans s4).trans s5).trans s6).trans s7).trans s8).trans s9).trans s10).trans s11).trans s12).trans s13).trans s16).trans s17).trans s18).trans s19).trans s20).trans s21).trans s22).trans s23).trans s24).trans s25) _ _ hw1
    refine ⟨_, rfl, _, rfl, _, rfl, wa, _, rfl, .inr (SqT.of hwk), fun lf hlf => ?_⟩
    have s26 := same_new (o := .lst xs) hlf
    have xlf := upd_same (H := H25) (a := lf) (o := .lst xs)
    have nlf := D25.ne hlf
    generalize upd H25 lf (.lst xs) = H26 at s26 xlf
    have D26 := D25.same s26
    refine ⟨_, rfl, small (by simp), fun lg hlg => ?_⟩
    have s27 := same_new (o := .lst [.str wd]) hlg
    have xlg := upd_same (H := H26) (a := lg) (o := .lst [.str wd])
    have nlg := D26.ne hlg
    change _
    generalize upd H26 lg (.lst [.str wd]) = H27 at s27 xlg
    have D27 := D26.same s27
    refine ⟨small (by simp), fun qf hqf => ?_⟩
    have s28 := same_new (o := .lst [.ref tj, .ref tl, .ref g, .ref wa, .ref lf, .ref lg]) hqf
    have xqf := upd_same (H := H27) (a := qf) (o := .lst [.ref tj, .ref tl, .ref g, .ref wa, .ref lf, .ref lg])
    have nqf := D27.ne hqf
    change _
    generalize upd H27 qf (.lst [.ref tj, .ref tl, .ref g, .ref wa, .ref lf, .ref lg]) = H28 at s28 xqf
    have D28 := D27.same s28
    have hgq := (((((((((((((((((((((((((s2).trans s3).trans s4).trans s5).trans s6).trans s7).trans s8).trans s9).trans s10).trans s11).trans s12).trans s13).trans s16).trans s17).trans s18).trans s19).trans s20).trans s21).trans s22).trans s23).trans s24).trans s25).trans s26).trans s27).trans s28) _ _ hg1
    have hwq := (((((((((((((((((((((((((s2).trans s3).trans s4).trans s5).trans s6).trans s7).trans s8).trans s9).trans s10).trans s11).trans s12).trans s13).trans s16).trans s17).trans s18).trans s19).trans s20).trans s21).trans s22).trans s23).trans s24).trans s25).trans s26).trans s27).trans s28) _ _ hw1
    have ng : g ≠ d := (by obtain ⟨_, _, _, h, _⟩ := hD; exact ne_of hg h (by intro z; cases z))
    have nw : wa ≠ d := (by obtain ⟨_, _, _, h, _⟩ := hD; exact ne_of hw h (by intro z; cases z))
    have told : ∀ f, OnF f 6225 1 d H28 (.ref wa) := fun f => OnF.tup (n := 100) (k := 0) (l := 61) hwq nw x61 (by decide) fun x hx => .si (hi x hx)
    have A4 : ∀ z ∈ ([.ref tj, .ref tl, .ref g, .ref wa, .ref lf, .ref lg] : List V), OnB d H28 z := fun z hz => by
      simp only [List.mem_cons, List.not_mem_nil, or_false] at hz
      rcases hz with rfl | rfl | rfl | rfl | rfl | rfl
      · exact (OnF.tup2 (f := true) (s28 _ _ (s27 _ _ (s26 _ _ (s25 _ _ (s24 _ _ xtj))))) ntj ((OnF.str (f := true) (sht_of (by decide +kernel))).mono (n' := 100) (k' := 1) (by decide) (by decide)) (OnF.nilT (s28 _ _ (s27 _ _ (s26 _ _ (s25 _ _ (s24 _ _ (s23 _ _ xti)))))) nti)).b (by decide) (by decide)
      · exact (OnF.tup2 (f := true) (s28 _ _ (s27 _ _ (s26 _ _ xtl))) ntl ((OnF.str (f := true) (sht_of (by decide +kernel))).mono (n' := 100) (k' := 1) (by decide) (by decide)) (OnF.nilT (s28 _ _ (s27 _ _ (s26 _ _ (s25 _ _ xtk)))) ntk)).b (by decide) (by decide)
      · exact (OnF.tup2 (f := true) hgq ng ((OnF.str hwd).mono (n' := 6225) (k' := 1) (by decide) (by decide)) (told _)).b (by decide) (by decide)
      · exact (told true).b (by decide) (by decide)
      · exact (OnF.lst (n := 100) (k := 0) (l := 61) (s28 _ _ (s27 _ _ xlf)) nlf x61 (fun x hx => .si (hi x hx))).b (by decide) (by decide)
      · exact (OnF.lst1 (s28 _ _ xlg) nlg (.str hwd)).b (by decide) (by decide)
    have l4 : ([.ref tj, .ref tl, .ref g, .ref wa, .ref lf, .ref lg] : List V).length ≤ 6 := by simp
    generalize ([.ref tj, .ref tl, .ref g, .ref wa, .ref lf, .ref lg] : List V) = z4 at xqf A4 l4
    refine ⟨qe, qf, _, _, rfl, rfl, (s28 _ _ (s27 _ _ (s26 _ _ (s25 _ _ (s24 _ _ (s23 _ _ (s22 _ _ xqe))))))), xqf, small (n := ze.length + z4.length) (by omega), fun qg hqg => ?_⟩
    have s29 := same_new (o := .lst (ze ++ z4)) hqg
    have xqg := upd_same (H := H28) (a := qg) (o := .lst (ze ++ z4))
    have nqg := D28.ne hqg
    change _
    generalize upd H28 qg (.lst (ze ++ z4)) = H29 at s29 xqg
    have D29 := D28.same s29
    have Ag : ∀ z ∈ ze ++ z4, OnB d H28 z := fun z hz => (List.mem_append.mp hz).elim (fun h => (Ae z h).same (((((((s22).trans s23).trans s24).trans s25).trans s26).trans s27).trans s28)) fun h => A4 z h
    have lg0 : (ze ++ z4).length ≤ 33 := by rw [List.length_append]; omega
    generalize ze ++ z4 = zg at xqg Ag lg0
    have told2 : ∀ f, OnF f 6225 1 d H29 (.ref wa) := fun f => (told f).same s29
    have hq0 : H qg = none := (b1.trans (But.of (((((((((((((((((((((((((s2).trans s3).trans s4).trans s5).trans s6).trans s7).trans s8).trans s9).trans s10).trans s11).trans s12).trans s13).trans s16).trans s17).trans s18).trans s19).trans s20).trans s21).trans s22).trans s23).trans s24).trans s25).trans s26).trans s27).trans s28))).none D28 hqg
    have hwr := s29 _ _ hwq
    refine ⟨_, rfl, .inl ⟨rfl, _, SqL.of xqg⟩, _, rfl, _, rfl, d, 16, b + 1, rfl, D29, by decide, by decide, fun v2 HA v20 v21 bA DA => ⟨_, _, rfl, rfl, _, rfl, d, 3, b, rfl, DA, by decide, by decide, fun v3 HB v30 v31 bB DB => ?_⟩⟩
    obtain ⟨v2, rfl⟩ := nat_of v20
    obtain ⟨v3, rfl⟩ := nat_of v30
    have bAB := bA.trans bB
    have xqB := bAB _ _ xqg nqg
    have hwB := bAB _ _ hwr nw
    have nwq : wa ≠ qg := ne_of hwB xqB (by intro z; cases z)
    refine ⟨.ref wa, 1 + v2, v3, 6225, 1, by rw [show ((1 + v2 : Nat) : Int) = 1 + (v2 : Int) by omega]; rfl, by omega, by omega, fun y HC sC onC => ?_⟩
    obtain ⟨fy, onC⟩ := onC
    have yd : OnF fy (6225 + 60 * (1 + v2)) (1 + (1 + v2)) d HC y := by
      obtain ⟨_, _, _, h, _⟩ := id DB
      exact onC d _ h fun f => (told2 f).but bAB
    have yq := onC qg _ xqB fun f => OnF.tup (n := 100) (k := 0) (l := 61) hwB nwq x61 (by decide) fun x hx => .si (hi x hx)
    have qgC := sC _ _ xqB
    refine ⟨qg, _, _, rfl, rfl, qgC, small1000 (by omega), ?_⟩
    have DE := (DB.same sC).upd (o := .lst (zg ++ [y])) nqg
    have xqE := upd_same (H := HC) (a := qg) (o := .lst (zg ++ [y]))
    have hwE : upd HC qg (.lst (zg ++ [y])) wa = some (.tup xs) := by rw [upd_ne nwq]; exact sC _ _ hwB
    have qE : But qg HC (upd HC qg (.lst (zg ++ [y]))) := fun a o h n => by rw [upd_ne n]; exact h
    have b28 : But d H28 (upd HC qg (.lst (zg ++ [y]))) := ((But.of (d := d) s29).trans (bAB.trans (But.of sC))).set hqg
    generalize upd HC qg (.lst (zg ++ [y])) = HE at DE xqE hwE qE b28
    refine ⟨_, rfl, .inl ⟨rfl, _, SqL.of xqE⟩, _, rfl, wa, rfl, ⟨_, SqT.of hwE⟩, fun D hD' => comp_tup (K := K) (a := wa) (xs := xs) (fun j σ ys H6 => ∃ (u : Option V) (bs : List Bool), σ = [u] ∧ ys = bs.map V.bl ∧ bs.length = j ∧ H6 = upd HE D (.lst ys)) ⟨none, [], rfl, rfl, rfl, rfl⟩ (fun j σ ys H6 _ ⟨_, _, _, _, _, e⟩ => by rw [e]; exact ⟨SqT.of (same_new hD' _ _ hwE), upd_same⟩) ?_ ?_⟩
    · rintro j x σ ys H6 hx ⟨u, bs, rfl, rfl, hb, rfl⟩
      have hj : j < xs.length := (List.getElem?_eq_some_iff.mp hx).1
      rcases hi x (List.mem_of_getElem? hx) with ⟨i, rfl, _⟩ | ⟨n, rfl, hn⟩
      · exact ⟨_, rfl, .inl ⟨i, rfl, fun bb => ⟨upd_same, small1000 (by rw [List.length_map]; omega), _, bs ++ [bb], rfl, by rw [List.map_append]; rfl, by rw [List.length_append, hb]; rfl, by rw [upd_upd]⟩⟩⟩
      · exact ⟨_, rfl, .inr ⟨n, rfl, by have := hn.1; omega, fun bb => ⟨upd_same, small1000 (by rw [List.length_map]; omega), _, bs ++ [bb], rfl, by rw [List.map_append]; rfl, by rw [List.length_append, hb]; rfl, by rw [upd_upd]⟩⟩⟩
    rintro σ ys H6 ⟨u, bs, rfl, rfl, hb, rfl⟩
    have sG := same_new (o := .lst (bs.map V.bl)) hD'
    have xDG := upd_same (H := HE) (a := D) (o := .lst (bs.map V.bl))
    generalize upd HE D (.lst (bs.map V.bl)) = HG at sG xDG ⊢
    refine ⟨D, _, rfl, .inl ⟨SqL.of xDG, fun pb hpb => ?_⟩⟩
    have sI := sG.trans (same_new (o := .tup (bs.map V.bl)) hpb)
    have xpb := upd_same (H := HG) (a := pb) (o := .tup (bs.map V.bl))
    have npb := (DE.same sG).ne hpb
    generalize upd HG pb (.tup (bs.map V.bl)) = HI at sI xpb ⊢
    have xqI := sI _ _ xqE
    have pbq : pb ≠ qg := ne_of xpb xqI (by intro z; cases z)
    refine ⟨qg, _, _, rfl, rfl, xqI, small1000 (by rw [List.length_append]; simp; omega), ?_⟩
    have DJ := (DE.same sI).upd (o := .lst (zg ++ [y] ++ [.ref pb])) nqg
    have xqJ := upd_same (H := HI) (a := qg) (o := .lst (zg ++ [y] ++ [.ref pb]))
    have xpJ : upd HI qg (.lst (zg ++ [y] ++ [.ref pb])) pb = some (.tup (bs.map V.bl)) := by rw [upd_ne pbq]; exact xpb
    have qJ : But qg HC (upd HI qg (.lst (zg ++ [y] ++ [.ref pb]))) := fun a o h n => by rw [upd_ne n]; exact sI _ _ (qE a o h n)
    have b28' := (b28.trans (But.of sI)).set (o := .lst (zg ++ [y] ++ [.ref pb])) hqg
    generalize upd HI qg (.lst (zg ++ [y] ++ [.ref pb])) = HJ at DJ xqJ xpJ qJ b28' ⊢
    have BJ : But d H HJ := (b1.trans (But.of (((((((((((((((((((((((((s2).trans s3).trans s4).trans s5).trans s6).trans s7).trans s8).trans s9).trans s10).trans s11).trans s12).trans s13).trans s16).trans s17).trans s18).trans s19).trans s20).trans s21).trans s22).trans s23).trans s24).trans s25).trans s26).trans s27).trans s28))).trans b28'
    have AJ : ∀ z ∈ zg ++ [y] ++ [.ref pb], OnB d HJ z := fun z hz => by
      rcases List.mem_append.mp hz with h | h
      · rcases List.mem_append.mp h with h | h
        · exact (Ag z h).but b28'
        · rw [List.mem_singleton.mp h]; exact (yd.two yq qJ).b (by omega) (by omega)
      · rw [List.mem_singleton.mp h]
        exact (OnF.tup (f := true) (n := 100) (k := 0) (l := 61) xpJ npb (by rw [List.length_map]; omega) (by decide) fun x hx => by obtain ⟨bb, _, rfl⟩ := List.mem_map.mp hx; exact .bl bb).b (by decide) (by decide)
    have lJ : (zg ++ [y] ++ [V.ref pb]).length ≤ 35 := by rw [List.length_append, List.length_append]; simp; omega
    generalize zg ++ [y] ++ [V.ref pb] = zj at xqJ AJ lJ
    have nt : ∀ {H9 : Hp} {p : Addr} {ls : List V}, DeckAt H9 d b → H9 p = some (.tup ls) → p ≠ d := fun D e => by obtain ⟨_, _, _, h, _⟩ := D; exact ne_of e h (by intro z; cases z)
    refine ⟨_, rfl, small (by simp), fun p1 hp1 => ?_⟩
    have t1 := same_new (o := .tup [.int 0]) hp1
    have y1 := upd_same (H := HJ) (a := p1) (o := .tup [.int 0])
    change _
    generalize upd HJ p1 (.tup [.int 0]) = J1 at t1 y1
    refine ⟨_, rfl, _, _, rfl, rfl, p1, _, _, rfl, rfl, y1, by omega, by omega, fun r1 J2 t2 z1 => ?_⟩
    refine ⟨small (by simp), fun p2 hp2 => ?_⟩
    have t3 := same_new (o := .tup [.int 1]) hp2
    have y2 := upd_same (H := J2) (a := p2) (o := .tup [.int 1])
    change _
    generalize upd J2 p2 (.tup [.int 1]) = J3 at t3 y2
    refine ⟨_, rfl, p2, _, _, rfl, rfl, y2, by omega, by omega, fun r2 J4 t4 z2 => ?_⟩
    refine ⟨small (by simp), fun p3 hp3 => ?_⟩
    have t5 := same_new (o := .tup [.str (Str.ofString "a")]) hp3
    have y3 := upd_same (H := J4) (a := p3) (o := .tup [.str (Str.ofString "a")])
    change _
    generalize upd J4 p3 (.tup [.str (Str.ofString "a")]) = J5 at t5 y3
    refine ⟨p3, _, _, rfl, rfl, y3, by decide, by decide, fun r3 J6 t6 z3 => ?_⟩
    refine ⟨small (by simp), fun p4 hp4 => ?_⟩
    have t7 := same_new (o := .tup [.str (Str.ofString "a")]) hp4
    have y4 := upd_same (H := J6) (a := p4) (o := .tup [.str (Str.ofString "a")])
    change _
    generalize upd J6 p4 (.tup [.str (Str.ofString "a")]) = J7 at t7 y4
    refine ⟨small (by simp), fun p5 hp5 => ?_⟩
    have t8 := same_new (o := .tup [.ref p4]) hp5
    have y5 := upd_same (H := J7) (a := p5) (o := .tup [.ref p4])
    change _
    generalize upd J7 p5 (.tup [.ref p4]) = J8 at t8 y5
    refine ⟨p5, _, _, rfl, rfl, y5, by decide, by decide, fun r4 J9 t9 z4 => ?_⟩
    refine ⟨small (by simp), fun q hq => ?_⟩
    have t10 := same_new (o := .lst [.ref r1, .ref r2, .ref r3, .ref r4]) hq
    have yq' := upd_same (H := J9) (a := q) (o := .lst [.ref r1, .ref r2, .ref r3, .ref r4])
    change _
    generalize upd J9 q (.lst [.ref r1, .ref r2, .ref r3, .ref r4]) = JA at t10 yq'
    have u9 := t9.trans t10
    have u6 := (t7.trans t8).trans u9
    have u4 := (t5.trans t6).trans u6
    have u2 := (t3.trans t4).trans u4
    have uJ := (t1.trans t2).trans u2
    have DA' := DJ.same uJ
    refine ⟨qg, q, _, _, rfl, rfl, uJ _ _ xqJ, yq', small (n := zj.length + 4) (by omega), fun l hl => ?_⟩
    have sl := same_new (o := .lst (zj ++ [.ref r1, .ref r2, .ref r3, .ref r4])) hl
    have z1' := u2 _ _ z1
    have z2' := u4 _ _ z2
    have z3' := u6 _ _ z3
    have z4' := t10 _ _ z4
    have y4' := (t8.trans u9) _ _ y4
    refine k l _ _ ((BJ.trans (But.of uJ)).trans (But.of sl)) (DA'.same sl) (DA'.ne hl) upd_same (by rw [List.length_append]; simp; omega) fun z hz => ?_
    rcases List.mem_append.mp hz with h | h
    · exact ((AJ z h).same uJ).same sl
    · refine OnB.same ?_ sl
      simp only [List.mem_cons, List.not_mem_nil, or_false] at h
      rcases h with rfl | rfl | rfl | rfl
      · exact (OnF.many (f := true) z1' (nt DA' z1') (by omega) (.int (by decide))).b (by decide) (by decide)
      · exact (OnF.many (f := true) z2' (nt DA' z2') (by omega) (.int (by decide))).b (by decide) (by decide)
      · exact (OnF.many (f := true) z3' (nt DA' z3') (by decide) (.str (sht_of (by decide +kernel)))).b (by decide) (by decide)
      · exact (OnF.many (f := true) z4' (nt DA' z4') (by decide) (OnF.tup1 y4' (nt DA' y4') (.str (sht_of (by decide +kernel))))).b (by decide) (by decide)
end
end K56
set_option maxHeartbeats 16000000
namespace K56
open PySem L2 Wk
def OnC (d : Addr) (H : Hp) (x : V) : Prop := ∃ f, OnF f 3300000 19 d H x
theorem OnC.same {d : Addr} {H H' : Hp} {x : V} (h : OnC d H x) (s : Same H H') : OnC d H' x := let ⟨f, g⟩ := h; ⟨f, g.same s⟩
theorem OnF.c {f : Bool} {n k : Nat} {d : Addr} {H : Hp} {x : V} (h : OnF f n k d H x) (h1 : n ≤ 3300000) (h2 : k ≤ 19) : OnC d H x := ⟨f, h.mono h1 h2⟩
theorem OnF.tup3 {f : Bool} {n k : Nat} {d a : Addr} {H : Hp} {x y z : V} (e : H a = some (.tup [x, y, z])) (na : a ≠ d) (h : OnF f n k d H x) (g : OnF f n k d H y) (i : OnF f n k d H z) : OnF f (3 * n + 9) (k + 1) d H (.ref a) := (OnF.tup (l := 3) e na (by simp) (by decide) (fun z hz => by
  simp only [List.mem_cons, List.not_mem_nil, or_false] at hz
  rcases hz with rfl | rfl | rfl
  · exact h
  · exact g
  · exact i)).mono (by omega) (by omega)
theorem cut_mem {xs : List V} {lo hi : Option Int} {x : V} (h : x ∈ cutV xs lo hi) : x ∈ xs := List.mem_of_mem_drop (List.mem_of_mem_take h)
theorem cut_len {xs : List V} {lo hi : Option Int} : (cutV xs lo hi).length ≤ xs.length := by unfold cutV; simp; omega
theorem OnF.mid {f : Bool} {d a : Addr} {H : Hp} {xs : List V} {l1 h1 l2 h2 : Option Int} {x : V} (e : H a = some (.tup (cutV xs l1 h1 ++ [x] ++ cutV xs l2 h2))) (na : a ≠ d) (hl : xs.length ≤ 61) (hi : ∀ x ∈ xs, SI x) (h : OnF f 13000 17 d H x) : OnF f 1599249 18 d H (.ref a) := by
  refine (OnF.tup (n := 13000) (k := 17) (l := 123) e na ?_ (by decide) fun y hy => ?_).mono (by decide) (by decide)
  · have a1 := cut_len (xs := xs) (lo := l1) (hi := h1)
    have a2 := cut_len (xs := xs) (lo := l2) (hi := h2)
    rw [List.length_append, List.length_append, List.length_singleton]; omega
  · rcases List.mem_append.mp hy with hy | hy
    · rcases List.mem_append.mp hy with hy | hy
      · exact (OnF.si (hi y (cut_mem hy))).mono (by decide) (by decide)
      · rw [List.mem_singleton.mp hy]; exact h
    · exact (OnF.si (hi y (cut_mem hy))).mono (by decide) (by decide)
def spOddT : Sp := fun vs H Q _ => ∃ (d g wa : Addr) (N : Int) (b : Nat) (wd : Str) (xs : List V) (one : V), vs = [.ref d, .int N, .ref g, one] ∧ DeckAt H d (b + 1) ∧ H g = some (.tup [.str wd, .ref wa]) ∧ H wa = some (.tup xs) ∧ (∀ x ∈ xs, SI x) ∧ xs.length ≤ 61 ∧ Sht wd ∧ OnB d H one ∧ ∀ (l : Addr) (zs : List V) (H' : Hp), But d H H' → DeckAt H' d b → l ≠ d → H' l = some (.lst zs) → zs.length ≤ 20 → (∀ z ∈ zs, OnC d H' z) → Q (.ref l) H'
section
variable {P : Program} {w : World} {K : PySem.W.Frag} {mg : Str → Option Value} {base : Heap}
theorem scOddT : FnScope ["_law_deck", "_law_many", "_law_good", "_law_one", "_law_word", "_law_told", "_law_at", "_law_things"] ["_law_deck", "_law_many", "_law_good", "_law_one"] (defScope sOddT) := ⟨rfl, rfl, rfl, by decide +kernel, rfl, by decide +kernel, by decide +kernel⟩
theorem ok_OddT {f : Addr} {fd : FuncData} (F : Fun K "_law_odd_things" "_law_odd_things" sOddT f fd) (T : Txt mg)
    {gDraw : Addr} {fDraw : FuncData} (kDraw : PySem.W.keepIn K (.ref gDraw) = true) (bDraw : Binds K fDraw ["_law_deck", "_law_most"] []) (hDraw : mg "_law_draw" = some (.ref gDraw)) (GDraw : FnOk P w K mg base CX0 1 gDraw fDraw ["_law_deck", "_law_most"] spDrawW) :
    FnOk P w K mg base CX0 2 f fd ["_law_deck", "_law_many", "_law_good", "_law_one"] spOddT := by
  refine F.ok scOddT (fun vs H Q E h => ?_) (fun cdv A outer s H vs Q E hr h => ?_)
  · obtain ⟨_, _, _, _, _, _, _, _, rfl, _⟩ := h; rfl
  · obtain ⟨d, g, wa, N, b, wd, xs, one, rfl, hD, hg, hw, hi, x61, hwd, hone, k⟩ := h
    refine ⟨_, pss_cons (ps_asg (pv 2) (pg_tup rfl (pgs_cons (pg_name (i := 4) scOddT.nd rfl (Or.inl rfl)) (pgs_cons (pg_name (i := 5) scOddT.nd rfl (Or.inl rfl)) pgs_nil))))
      (pss_cons (ps_set (i := 6) scOddT.nd rfl (Or.inl rfl) (pe_call GDraw hr rfl hDraw kDraw bDraw .nil pass0 (pa_cons (pv 0) (pa_cons (pe_op op_add (pe_callB call_len_seq (by rfl) T.len PySem.boot_len (pa_cons (pv 5) pa_nil)) pe_int) pa_nil))))
      (pss_cons (ps_set (i := 7) scOddT.nd rfl (Or.inl rfl) (pe_lst (pa_cons (pv 3) (pa_cons (pe_tup (pa_cons (pv 4) (pa_cons (pv 3) pa_nil))) (pa_cons (pe_tup (pa_cons (pv 3) (pa_cons (pv 5) pa_nil))) (pa_cons (pe_tup (pa_cons (pv 3) (pa_cons (pv 3) pa_nil))) (pa_cons (pe_tup (pa_cons (pv 4) pa_nil)) pa_nil)))))))
      (pss_cons (ps_set (i := 7) scOddT.nd rfl (Or.inl rfl) (pe_op op_cat (pv 7) (pe_lst (pa_cons (pe_tup (pa_cons (pv 4) (pa_cons (pv 5) (pa_cons (pv 3) pa_nil)))) (pa_cons (pe_lst (pa_cons (pv 4) (pa_cons (pv 5) pa_nil))) (pa_cons (pe_tup (pa_cons (pv 2) pa_nil)) pa_nil))))))
      (pss_cons (ps_expr (pe_bm PySem.F.plainAttrs_list PySem.F.slot_list_append PySem.F.type_list_append mt_append (pv 7) (pa_cons (pe_tup (pa_cons (pv 4) (pa_cons (pe_callTy call_list_of (by rfl) T.list (by decide +kernel) (pa_cons (pv 5) pa_nil)) pa_nil))) pa_nil)))
      (pss_cons (ps_expr (pe_bm PySem.F.plainAttrs_list PySem.F.slot_list_append PySem.F.type_list_append mt_append (pv 7) (pa_cons (pe_tup (pa_cons (pv 4) (pa_cons (pe_op op_catTT (pe_op op_catTT (pe_slice sl_tupA (pv 5) po_none (po_some (pv 6))) (pe_tup (pa_cons (pv 3) pa_nil))) (pe_slice sl_tupA (pv 5) (po_some (pe_op op_add (pv 6) pe_int)) po_none)) pa_nil))) pa_nil)))
      (pss_one (ps_ret (pe_op op_cat (pv 7) (pe_lst (pa_cons (pe_tup (pa_cons (pv 4) (pa_cons (pe_op op_catTT (pe_op op_catTT (pe_slice sl_tupA (pv 5) po_none (po_some (pv 6))) (pe_tup (pa_cons (pv 3) pa_nil))) (pe_slice sl_tupA (pv 5) (po_some (pv 6)) po_none)) pa_nil))) pa_nil)))))))))), ?_⟩
    obtain ⟨f, hone⟩ := hone
    refine ⟨_, rfl, g, _, rfl, SqT.of hg, rfl, _, _, rfl, _, _, rfl, rfl, ?_⟩
    refine ⟨_, rfl, _, rfl, wa, _, rfl, .inr (SqT.of hw), _, _, rfl, rfl, d, _, b, rfl, hD, by omega, Int.lt_trans (show ((xs.length : Int) + 1) < 100 by omega) (by decide +kernel), fun at' H1 v10 v11 b1 D1 => ?_⟩
    have hg1 := b1.tup hD hg
    have hw1 := b1.tup hD hw
    have ng : g ≠ d := (by obtain ⟨_, _, _, h, _⟩ := hD; exact ne_of hg h (by intro z; cases z))
    have nw : wa ≠ d := (by obtain ⟨_, _, _, h, _⟩ := hD; exact ne_of hw h (by intro z; cases z))
    have hone := hone.but b1
    refine ⟨_, rfl, _, rfl, _, rfl, small (by simp), fun aa haa => ?_⟩
    have s2 := same_new (o := .tup [.str wd, one]) haa
    have xaa := upd_same (H := H1) (a := aa) (o := .tup [.str wd, one])
    have naa := D1.ne haa
    change _
    generalize upd H1 aa (.tup [.str wd, one]) = H2 at s2 xaa
    have D2 := D1.same s2
    refine ⟨_, rfl, _, rfl, small (by simp), fun ab hab => ?_⟩
    have s3 := same_new (o := .tup [one, .ref wa]) hab
    have xab := upd_same (H := H2) (a := ab) (o := .tup [one, .ref wa])
    have nab := D2.ne hab
    change _
    generalize upd H2 ab (.tup [one, .ref wa]) = H3 at s3 xab
    have D3 := D2.same s3
    refine ⟨_, rfl, _, rfl, small (by simp), fun ac hac => ?_⟩
    have s4 := same_new (o := .tup [one, one]) hac
    have xac := upd_same (H := H3) (a := ac) (o := .tup [one, one])
    have nac := D3.ne hac
    change _
    generalize upd H3 ac (.tup [one, one]) = H4 at s4 xac
    have D4 := D3.same s4
    refine ⟨_, rfl, small (by simp), fun ad had => ?_⟩
    have s5 := same_new (o := .tup [.str wd]) had
    have xad := upd_same (H := H4) (a := ad) (o := .tup [.str wd])
    have nad := D4.ne had
    change _
    generalize upd H4 ad (.tup [.str wd]) = H5 at s5 xad
    have D5 := D4.same s5
    refine ⟨small (by simp), fun la hla => ?_⟩
    have s6 := same_new (o := .lst [one, .ref aa, .ref ab, .ref ac, .ref ad]) hla
    have xla := upd_same (H := H5) (a := la) (o := .lst [one, .ref aa, .ref ab, .ref ac, .ref ad])
    have nla := D5.ne hla
    change _
    generalize upd H5 la (.lst [one, .ref aa, .ref ab, .ref ac, .ref ad]) = H6 at s6 xla
    have D6 := D5.same s6
    have told6 : ∀ f, OnF f 13000 17 d H6 (.ref wa) := fun f => (OnF.tup (f := f) (n := 100) (k := 0) (l := 61) (s6 _ _ (s5 _ _ (s4 _ _ (s3 _ _ (s2 _ _ hw1))))) nw x61 (by decide) fun x hx => .si (hi x hx)).mono (by decide) (by decide)
    have one6 : OnF f 13000 17 d H6 one := (hone.same (((((s2).trans s3).trans s4).trans s5).trans s6))
    have A1 : ∀ z ∈ ([one, .ref aa, .ref ab, .ref ac, .ref ad] : List V), OnC d H6 z := fun z hz => by
      simp only [List.mem_cons, List.not_mem_nil, or_false] at hz
      rcases hz with rfl | rfl | rfl | rfl | rfl
      · exact one6.c (by decide) (by decide)
      · exact (OnF.tup2 (s6 _ _ (s5 _ _ (s4 _ _ (s3 _ _ xaa)))) naa ((OnF.str (f := f) (d := d) (H := H6) hwd).mono (n' := 13000) (k' := 17) (by decide) (by decide)) one6).c (by decide) (by decide)
      · exact (OnF.tup2 (s6 _ _ (s5 _ _ (s4 _ _ xab))) nab one6 (told6 f)).c (by decide) (by decide)
      · exact (OnF.tup2 (s6 _ _ (s5 _ _ xac)) nac one6 one6).c (by decide) (by decide)
      · exact (OnF.tup1 (s6 _ _ xad) nad ((OnF.str (f := f) (d := d) (H := H6) hwd).mono (n' := 13000) (k' := 17) (by decide) (by decide))).c (by decide) (by decide)
    have l1 : ([one, .ref aa, .ref ab, .ref ac, .ref ad] : List V).length ≤ 5 := by simp
    generalize ([one, .ref aa, .ref ab, .ref ac, .ref ad] : List V) = z1 at xla A1 l1
    refine ⟨_, rfl, _, rfl, _, rfl, _, rfl, small (by simp), fun ae hae => ?_⟩
    have s7 := same_new (o := .tup [.str wd, .ref wa, one]) hae
    have xae := upd_same (H := H6) (a := ae) (o := .tup [.str wd, .ref wa, one])
    have nae := D6.ne hae
    change _
    generalize upd H6 ae (.tup [.str wd, .ref wa, one]) = H7 at s7 xae
    have D7 := D6.same s7
    refine ⟨_, rfl, _, rfl, small (by simp), fun ca hca => ?_⟩
    have s8 := same_new (o := .lst [.str wd, .ref wa]) hca
    have xca := upd_same (H := H7) (a := ca) (o := .lst [.str wd, .ref wa])
    have nca := D7.ne hca
    change _
    generalize upd H7 ca (.lst [.str wd, .ref wa]) = H8 at s8 xca
    have D8 := D7.same s8
    refine ⟨_, rfl, small (by simp), fun af haf => ?_⟩
    have s9 := same_new (o := .tup [.ref g]) haf
    have xaf := upd_same (H := H8) (a := af) (o := .tup [.ref g])
    have naf := D8.ne haf
    change _
    generalize upd H8 af (.tup [.ref g]) = H9 at s9 xaf
    have D9 := D8.same s9
    refine ⟨small (by simp), fun lb hlb => ?_⟩
    have s10 := same_new (o := .lst [.ref ae, .ref ca, .ref af]) hlb
    have xlb := upd_same (H := H9) (a := lb) (o := .lst [.ref ae, .ref ca, .ref af])
    have nlb := D9.ne hlb
    change _
    generalize upd H9 lb (.lst [.ref ae, .ref ca, .ref af]) = H10 at s10 xlb
    have D10 := D9.same s10
    have told10 : ∀ f, OnF f 13000 17 d H10 (.ref wa) := fun f => (OnF.tup (f := f) (n := 100) (k := 0) (l := 61) (s10 _ _ (s9 _ _ (s8 _ _ (s7 _ _ (s6 _ _ (s5 _ _ (s4 _ _ (s3 _ _ (s2 _ _ hw1))))))))) nw x61 (by decide) fun x hx => .si (hi x hx)).mono (by decide) (by decide)
    have one10 : OnF f 13000 17 d H10 one := (hone.same (((((((((s2).trans s3).trans s4).trans s5).trans s6).trans s7).trans s8).trans s9).trans s10))
    have A2 : ∀ z ∈ ([.ref ae, .ref ca, .ref af] : List V), OnC d H10 z := fun z hz => by
      simp only [List.mem_cons, List.not_mem_nil, or_false] at hz
      rcases hz with rfl | rfl | rfl
      · exact (OnF.tup3 (s10 _ _ (s9 _ _ (s8 _ _ xae))) nae ((OnF.str (f := f) (d := d) (H := H10) hwd).mono (n' := 13000) (k' := 17) (by decide) (by decide)) (told10 f) one10).c (by decide) (by decide)
      · exact (OnF.lst2 (s10 _ _ (s9 _ _ xca)) nca ((OnF.str (f := false) (d := d) (H := H10) hwd).mono (n' := 13000) (k' := 17) (by decide) (by decide)) (told10 false)).c (by decide) (by decide)
      · exact (OnF.tup1 (s10 _ _ xaf) naf (OnF.tup2 (s10 _ _ (s9 _ _ (s8 _ _ (s7 _ _ (s6 _ _ (s5 _ _ (s4 _ _ (s3 _ _ (s2 _ _ hg1))))))))) ng ((OnF.str (f := f) (d := d) (H := H10) hwd).mono (n' := 13000) (k' := 17) (by decide) (by decide)) (told10 f))).c (by decide) (by decide)
    have l2 : ([.ref ae, .ref ca, .ref af] : List V).length ≤ 3 := by simp
    generalize ([.ref ae, .ref ca, .ref af] : List V) = z2 at xlb A2 l2
    refine ⟨la, lb, _, _, rfl, rfl, (s10 _ _ (s9 _ _ (s8 _ _ (s7 _ _ xla)))), xlb, small (n := z1.length + z2.length) (by omega), fun lc hlc => ?_⟩
    have A3 : ∀ z ∈ z1 ++ z2, OnC d H10 z := fun z hz => (List.mem_append.mp hz).elim (fun h => (A1 z h).same ((((s7).trans s8).trans s9).trans s10)) fun h => A2 z h
    have l3 : (z1 ++ z2).length ≤ 8 := by rw [List.length_append]; omega
    generalize z1 ++ z2 = z3 at A3 l3
    have s11 := same_new (o := .lst z3) hlc
    have xlc := upd_same (H := H10) (a := lc) (o := .lst z3)
    have nlc := D10.ne hlc
    change _
    generalize upd H10 lc (.lst z3) = H11 at s11 xlc
    have D11 := D10.same s11
    have hq0 : H lc = none := (b1.trans (But.of (((((((((s2).trans s3).trans s4).trans s5).trans s6).trans s7).trans s8).trans s9).trans s10))).none D10 hlc
    refine ⟨_, rfl, .inl ⟨rfl, _, SqL.of xlc⟩, _, rfl, _, rfl, wa, _, rfl, .inr (SqT.of (s11 _ _ (s10 _ _ (s9 _ _ (s8 _ _ (s7 _ _ (s6 _ _ (s5 _ _ (s4 _ _ (s3 _ _ (s2 _ _ hw1))))))))))), fun cb hcb => ?_⟩
    have s12 := same_new (o := .lst xs) hcb
    have xcb := upd_same (H := H11) (a := cb) (o := .lst xs)
    have ncb := D11.ne hcb
    change _
    generalize upd H11 cb (.lst xs) = H12 at s12 xcb
    have D12 := D11.same s12
    refine ⟨small (by simp), fun ag hag => ?_⟩
    have s13 := same_new (o := .tup [.str wd, .ref cb]) hag
    have xag := upd_same (H := H12) (a := ag) (o := .tup [.str wd, .ref cb])
    have nag := D12.ne hag
    change _
    generalize upd H12 ag (.tup [.str wd, .ref cb]) = H13 at s13 xag
    have D13 := D12.same s13
    refine ⟨lc, _, _, rfl, rfl, (s13 _ _ (s12 _ _ xlc)), small1000 (by omega), ?_⟩
    have s14 : Same H10 (upd H13 lc (.lst (z3 ++ [.ref ag]))) := same_set (((s11).trans s12).trans s13) hlc
    have D14 := D13.upd (o := .lst (z3 ++ [.ref ag])) nlc
    have xlc14 := upd_same (H := H13) (a := lc) (o := .lst (z3 ++ [.ref ag]))
    have xag14 : upd H13 lc (.lst (z3 ++ [.ref ag])) ag = some (.tup [.str wd, .ref cb]) := by rw [upd_ne (ne_of xag (s13 _ _ (s12 _ _ xlc)) (by intro z; cases z))]; exact xag
    have ncl : cb ≠ lc := (ne_of_none xlc hcb).symm
    have xcb14 : upd H13 lc (.lst (z3 ++ [.ref ag])) cb = some (.lst xs) := by rw [upd_ne ncl]; exact (s13 _ _ xcb)
    generalize upd H13 lc (.lst (z3 ++ [.ref ag])) = H14 at s14 D14 xlc14 xag14 xcb14
    have hwC : H14 wa = some (.tup xs) := s14 _ _ (s10 _ _ (s9 _ _ (s8 _ _ (s7 _ _ (s6 _ _ (s5 _ _ (s4 _ _ (s3 _ _ (s2 _ _ hw1)))))))))
    have oneC : OnF f 13000 17 d H14 one := one10.same s14
    have A4 : ∀ z ∈ z3 ++ [.ref ag], OnC d H14 z := fun z hz => by
      rcases List.mem_append.mp hz with h | h
      · exact (A3 z h).same s14
      · rw [List.mem_singleton.mp h]; exact (OnF.tup2 xag14 nag ((OnF.str (f := false) hwd).mono (n' := 6225) (k' := 1) (by decide) (by decide)) (OnF.lst (n := 100) (k := 0) (l := 61) xcb14 ncb x61 fun x hx => .si (hi x hx))).c (by decide) (by decide)
    have l4 : (z3 ++ [V.ref ag]).length ≤ 9 := by rw [List.length_append]; simp; omega
    refine ⟨_, rfl, .inl ⟨rfl, _, SqL.of xlc14⟩, _, rfl, _, rfl, _, rfl, _, rfl, cut_any hwC fun m1 H15 s15 xm1 => ?_⟩
    have D15 := D14.same s15
    refine ⟨_, rfl, small (by simp), fun m2 hm2 => ?_⟩
    have s16 := same_new (o := .tup [one]) hm2
    have xm2 := upd_same (H := H15) (a := m2) (o := .tup [one])
    have nm2 := D15.ne hm2
    change _
    generalize upd H15 m2 (.tup [one]) = H16 at s16 xm2
    have D16 := D15.same s16
    refine cat_any (s16 _ _ xm1) xm2 (by have := cut_len (xs := xs) (lo := none) (hi := some at'); rw [List.length_singleton]; omega) fun m3 H17 s17 xm3 => ?_
    have D17 := D16.same s17
    refine ⟨_, rfl, _, rfl, _, _, rfl, rfl, _, rfl, noPart (cut_any ((((s15).trans s16).trans s17) _ _ hwC) fun m4 H18 s18 xm4 => ?_)⟩
    have D18 := D17.same s18
    refine cat_any (s18 _ _ xm3) xm4 (by have := cut_len (xs := xs) (lo := none) (hi := some at'); have := @cut_len xs; rw [List.length_append, List.length_singleton]; have h2 := cut_len (xs := xs) (lo := some (at' + 1)) (hi := none); omega) fun m5 H19 s19 xm5 => ?_
    have D19 := D18.same s19
    have nm5 : m5 ≠ d := by obtain ⟨_, _, _, h, _⟩ := D19; exact ne_of xm5 h (by intro z; cases z)
    refine ⟨small (by simp), fun m hm => ?_⟩
    have s20 := same_new (o := .tup [.str wd, .ref m5]) hm
    have xm := upd_same (H := H19) (a := m) (o := .tup [.str wd, .ref m5])
    have nm := D19.ne hm
    change _
    generalize upd H19 m (.tup [.str wd, .ref m5]) = H20 at s20 xm
    have D20 := D19.same s20
    refine ⟨lc, _, _, rfl, rfl, (((((((s15).trans s16).trans s17).trans s18).trans s19).trans s20) _ _ xlc14), small1000 (by omega), ?_⟩
    have s21 : Same H10 (upd H20 lc (.lst (z3 ++ [V.ref ag] ++ [V.ref m]))) := same_set (s14.trans ((((((s15).trans s16).trans s17).trans s18).trans s19).trans s20)) hlc
    have D21 := D20.upd (o := .lst (z3 ++ [V.ref ag] ++ [V.ref m])) nlc
    have xlz := upd_same (H := H20) (a := lc) (o := .lst (z3 ++ [V.ref ag] ++ [V.ref m]))
    have yag : upd H20 lc (.lst (z3 ++ [V.ref ag] ++ [V.ref m])) ag = some (.tup [.str wd, .ref cb]) := by rw [upd_ne (ne_of (((((((s15).trans s16).trans s17).trans s18).trans s19).trans s20) _ _ xag14) (((((((s15).trans s16).trans s17).trans s18).trans s19).trans s20) _ _ xlc14) (by intro z; cases z))]; exact (((((((s15).trans s16).trans s17).trans s18).trans s19).trans s20) _ _ xag14)
    have ym5 : upd H20 lc (.lst (z3 ++ [V.ref ag] ++ [V.ref m])) m5 = some (.tup (cutV xs none (some at') ++ [one] ++ cutV xs (some (at' + 1)) none)) := by rw [upd_ne (ne_of (s20 _ _ xm5) (((((((s15).trans s16).trans s17).trans s18).trans s19).trans s20) _ _ xlc14) (by intro z; cases z))]; exact (s20 _ _ xm5)
    have ym : upd H20 lc (.lst (z3 ++ [V.ref ag] ++ [V.ref m])) m = some (.tup [.str wd, .ref m5]) := by rw [upd_ne (ne_of xm (((((((s15).trans s16).trans s17).trans s18).trans s19).trans s20) _ _ xlc14) (by intro z; cases z))]; exact xm
    have ycb : upd H20 lc (.lst (z3 ++ [V.ref ag] ++ [V.ref m])) cb = some (.lst xs) := by rw [upd_ne ncl]; exact ((((((s15).trans s16).trans s17).trans s18).trans s19).trans s20) _ _ xcb14
    generalize upd H20 lc (.lst (z3 ++ [V.ref ag] ++ [V.ref m])) = H21 at s21 D21 xlz yag ym5 ym ycb
    have hwE : H21 wa = some (.tup xs) := s21 _ _ (s10 _ _ (s9 _ _ (s8 _ _ (s7 _ _ (s6 _ _ (s5 _ _ (s4 _ _ (s3 _ _ (s2 _ _ hw1)))))))))
    have oneE : OnF f 13000 17 d H21 one := one10.same s21
    have A5 : ∀ z ∈ z3 ++ [V.ref ag] ++ [V.ref m], OnC d H21 z := fun z hz => by
      rcases List.mem_append.mp hz with h | h
      · rcases List.mem_append.mp h with h | h
        · exact (A3 z h).same s21
        · rw [List.mem_singleton.mp h]; exact (OnF.tup2 yag nag ((OnF.str (f := false) hwd).mono (n' := 6225) (k' := 1) (by decide) (by decide)) (OnF.lst (n := 100) (k := 0) (l := 61) ycb ncb x61 fun x hx => .si (hi x hx))).c (by decide) (by decide)
      · rw [List.mem_singleton.mp h]; exact (OnF.tup2 ym nm ((OnF.str hwd).mono (n' := 1599249) (k' := 18) (by decide) (by decide)) (OnF.mid ym5 nm5 x61 hi oneE)).c (by decide) (by decide)
    have l5 : (z3 ++ [V.ref ag] ++ [V.ref m]).length ≤ 10 := by rw [List.length_append]; simp; omega
    generalize z3 ++ [V.ref ag] ++ [V.ref m] = z5 at xlz A5 l5
    refine ⟨_, rfl, _, rfl, _, rfl, _, rfl, _, rfl, cut_any hwE fun p1 H22 s22 xp1 => ?_⟩
    have D22 := D21.same s22
    refine ⟨_, rfl, small (by simp), fun p2 hp2 => ?_⟩
    have s23 := same_new (o := .tup [one]) hp2
    have xp2 := upd_same (H := H22) (a := p2) (o := .tup [one])
    have np2 := D22.ne hp2
    change _
    generalize upd H22 p2 (.tup [one]) = H23 at s23 xp2
    have D23 := D22.same s23
    refine cat_any (s23 _ _ xp1) xp2 (by have := cut_len (xs := xs) (lo := none) (hi := some at'); rw [List.length_singleton]; omega) fun p3 H24 s24 xp3 => ?_
    have D24 := D23.same s24
    refine ⟨_, rfl, _, rfl, _, rfl, noPart (cut_any ((((s22).trans s23).trans s24) _ _ hwE) fun p4 H25 s25 xp4 => ?_)⟩
    have D25 := D24.same s25
    refine cat_any (s25 _ _ xp3) xp4 (by have := cut_len (xs := xs) (lo := none) (hi := some at'); have := @cut_len xs; rw [List.length_append, List.length_singleton]; have h2 := cut_len (xs := xs) (lo := some at') (hi := none); omega) fun p5 H26 s26 xp5 => ?_
    have D26 := D25.same s26
    have np5 : p5 ≠ d := by obtain ⟨_, _, _, h, _⟩ := D26; exact ne_of xp5 h (by intro z; cases z)
    refine ⟨small (by simp), fun p hp => ?_⟩
    have s27 := same_new (o := .tup [.str wd, .ref p5]) hp
    have xp := upd_same (H := H26) (a := p) (o := .tup [.str wd, .ref p5])
    have np := D26.ne hp
    change _
    generalize upd H26 p (.tup [.str wd, .ref p5]) = H27 at s27 xp
    have D27 := D26.same s27
    refine ⟨small (by simp), fun lp hlp => ?_⟩
    have s28 := same_new (o := .lst [.ref p]) hlp
    have xlp := upd_same (H := H27) (a := lp) (o := .lst [.ref p])
    have nlp := D27.ne hlp
    change _
    generalize upd H27 lp (.lst [.ref p]) = H28 at s28 xlp
    have D28 := D27.same s28
    refine ⟨lc, lp, _, _, rfl, rfl, (((((((s22).trans s23).trans s24).trans s25).trans s26).trans s27).trans s28) _ _ xlz, xlp, small (n := z5.length + 1) (by omega), fun l hl => ?_⟩
    have sl := same_new (o := .lst (z5 ++ [.ref p])) hl
    have BE : But d H H28 := (b1.trans (But.of (((((((((s2).trans s3).trans s4).trans s5).trans s6).trans s7).trans s8).trans s9).trans s10))).trans (But.of (s21.trans (((((((s22).trans s23).trans s24).trans s25).trans s26).trans s27).trans s28)))
    refine k l _ _ (BE.trans (But.of sl)) (D28.same sl) (D28.ne hl) upd_same (by rw [List.length_append]; simp; omega) fun z hz => OnC.same ?_ sl
    rcases List.mem_append.mp hz with h | h
    · exact (A5 z h).same (((((((s22).trans s23).trans s24).trans s25).trans s26).trans s27).trans s28)
    · rw [List.mem_singleton.mp h]; exact (OnF.tup2 (s28 _ _ xp) np ((OnF.str hwd).mono (n' := 1599249) (k' := 18) (by decide) (by decide)) (OnF.mid (s28 _ _ (s27 _ _ xp5)) np5 x61 hi (oneE.same (((((((s22).trans s23).trans s24).trans s25).trans s26).trans s27).trans s28)))).c (by decide) (by decide)
end
end K56
set_option maxHeartbeats 16000000
namespace K56
open PySem L2 Wk
open Rp in
theorem an_of {H : Hp} {f : Bool} {x : V} {dd : PyData} (h : RepH H f x dd) : An H x := by
  cases h with
  | non => exact .inl (.inl (.inl rfl))
  | bl b => exact .inl (.inl (.inr (.inl ⟨b, rfl⟩)))
  | int i => exact .inl (.inl (.inr (.inr (.inl ⟨i, rfl⟩))))
  | str n => exact .inl (.inl (.inr (.inr (.inr ⟨n, rfl⟩))))
  | tup e _ _ => exact .inr ⟨_, _, rfl, e⟩
  | lst e _ => exact .inl (.inr (.inl ⟨_, _, rfl, e⟩))
  | dct e => exact .inl (.inr (.inr ⟨_, _, rfl, e⟩))
  | dc1 e _ => exact .inl (.inr (.inr ⟨_, _, rfl, e⟩))
open Rp in
theorem ans_of {H : Hp} {f : Bool} : ∀ {xs : List V} {ds : List PyData}, RepHs H f xs ds → ∀ y ∈ xs, An H y
  | [], _, _, y, hy => by simp at hy
  | x :: xs, _, .cons h t, y, hy => by
    rcases List.mem_cons.mp hy with rfl | hy
    · exact an_of h
    · exact ans_of t y hy
open Rp in
theorem tuq_of {H : Hp} {f : Bool} {x : V} {dd : PyData} (h : RepH H f x dd) : NotT H x ∨ ∃ xs, Tup H x xs := by
  cases h with
  | non => exact .inl (.inl (.inl rfl))
  | bl b => exact .inl (.inl (.inr (.inl ⟨b, rfl⟩)))
  | int i => exact .inl (.inl (.inr (.inr (.inl ⟨i, rfl⟩))))
  | str n => exact .inl (.inl (.inr (.inr (.inr ⟨n, rfl⟩))))
  | tup e l h => exact .inr ⟨_, _, rfl, e, ans_of h, l⟩
  | lst e _ => exact .inl (.inr (.inl ⟨_, _, rfl, e⟩))
  | dct e => exact .inl (.inr (.inr ⟨_, _, rfl, e⟩))
  | dc1 e _ => exact .inl (.inr (.inr ⟨_, _, rfl, e⟩))
open Rp in
theorem tell_of {H : Hp} {f : Bool} {x : V} {dd : PyData} (h : RepH H f x dd) (N : Nat) (S : List T4) : ∃ b, Tell H N S x b := by
  rcases tuq_of h with h0 | ⟨xs, wa, rfl, e0, _, _⟩
  · exact ⟨_, .no h0⟩
  cases h with
  | lst e _ => rw [e] at e0; cases e0
  | dct e => rw [e] at e0; cases e0
  | dc1 e _ => rw [e] at e0; cases e0
  | tup e l h =>
    cases h with
    | nil => exact ⟨_, .len e (by simp)⟩
    | cons h1 t1 =>
      cases t1 with
      | nil => exact ⟨_, .len e (by simp)⟩
      | cons h2 t2 =>
        cases t2 with
        | cons _ _ => exact ⟨_, .len e (by simp)⟩
        | nil =>
          rcases tuq_of h2 with n2 | ⟨ys, tu⟩
          · exact ⟨_, .odd1 e (an_of h1) n2⟩
          · rename_i w _ _ _
            cases hw : isSt w with
            | false => exact ⟨_, .odd2 e (an_of h1) hw tu⟩
            | true =>
              cases w with
              | str wd => exact ⟨_, .good e tu⟩
              | _ => cases hw
theorem si_an {H : Hp} {x : V} (h : SI x) : An H x := by
  rcases h with ⟨i, rfl, _⟩ | ⟨n, rfl, _⟩
  · exact .inl (.inl (.inr (.inr (.inl ⟨i, rfl⟩))))
  · exact .inl (.inl (.inr (.inr (.inr ⟨n, rfl⟩))))
theorem sz1 : 46 * 5 + 2 * 5 + 3 ≤ sizeLine := by unfold sizeLine; omega
theorem sz2 : 3300000 ≤ sizeLine := by unfold sizeLine; omega
structure SJ (X : Cx) (ss : List Stmt) (t : TS) : Prop where
  out : PSs X ss t
structure SB (X : Cx) (st : Stmt) (t : TS) : Prop where
  out : PS X st t
theorem sj_cons {X : Cx} {st : Stmt} {rest : List Stmt} {t u : TS} (h1 : SB X st t) (h2 : SJ X rest u) : SJ X (st :: rest) (tSeq t u) := ⟨pss_cons h1.out h2.out⟩
theorem sj_one {X : Cx} {st : Stmt} {t : TS} (h1 : SB X st t) : SJ X [st] t := ⟨pss_one h1.out⟩
theorem sb_comp {X : Cx} {scope : Scope} {T F : List Str} {js : List Nat} {i : Nat} {x : Str} {pos' spos : Pos} {tg elt iter : Expr} {ifs : List Expr} {pos : Pos} {g : TG} {ti : TT} {te tl : TE} (hN : X.N.Nodup) (hx1 : X.N[i]? = some x) (hx2 : Loc X.env.scope x) (S : CScope X scope T F js) (hc : X.calm = true)
    (hi : PEw X iter tl) (hg : ∀ C s H ex pins, PG (compCx X scope (T ++ F) C s H ex pins) tg g) (hif : ∀ C s H ex pins, PIf (compCx X scope (T ++ F) C s H ex pins) ifs ti) (he : ∀ C s H ex pins, PEw (compCx X scope (T ++ F) C s H ex pins) elt te)
    (hsw : swapsWith (.ListComp elt [⟨tg, iter, ifs, 0⟩] scope pos) (some (.Name x pos')) spos.line X.env = pure true := by rfl)
    (hf : X.fn x = true ∨ X.env.scope.names.lookup x = some .local := by first | exact .inl rfl | exact .inr rfl | assumption)
    (hs : ∀ x, foldedSetIterable iter X.env x = pure x := by intro _; rfl) : SB X (.Assign [.Name x pos'] (.ListComp elt [⟨tg, iter, ifs, 0⟩] scope pos) spos) (tAsg (tComp (iList X.K tl) g ti te T.length js) (gName i)) := ⟨ps_comp hN hx1 hx2 S hc (pi_list hi.out) hg hif (fun C s H ex pins => (he C s H ex pins).out) hsw hf hs⟩
theorem sb_ret {X : Cx} {e : Expr} {te : TE} {pos : Pos} (he : PEw X e te) : SB X (.Return (some e) pos) (tRet te) := ⟨ps_ret he.out⟩
def five : List Bool := [true, true, false, false, false]
def dFive : PyData := .list (five.map PyData.bool)
theorem fine_five : Rp.Fine (46 * 5 + 2 * 5 + 3) 1 dFive := Rp.Fine.lst (fun d hd => by obtain ⟨b, _, rfl⟩ := List.mem_map.mp hd; exact .bl b) (by decide)
theorem rep_five {H : Hp} {l : Addr} (h : H l = some (.lst (five.map V.bl))) : Rp.RepH H false (.ref l) dFive := .lst h (.cons (.bl _) (.cons (.bl _) (.cons (.bl _) (.cons (.bl _) (.cons (.bl _) .nil)))))
def spLaw (K : PySem.W.Frag) : Sp := fun vs H Q _ => ∃ (s : Addr) (ns : List Int), vs = [.ref s] ∧ SqL K H s (ns.map V.int) ∧ ns.length ≤ 63 ∧ ∀ H', Q (.bl true) H'
section
variable {P : Program} {w : World} {K : PySem.W.Frag} {mg : Str → Option Value} {base : Heap}
theorem scLaw : FnScope ["_law_script", "_law_k", "_law_deck", "_law_many", "_law_stand", "_law_good", "_law_some", "_law_turn", "_law_thing", "_law_kept", "_law_found", "_law_alone"] ["_law_script"] (defScope sLaw) := ⟨rfl, rfl, rfl, by decide +kernel, rfl, by decide +kernel, by decide +kernel⟩
theorem ok_Law {f : Addr} {fd : FuncData} (F : Fun K "law" "law" sLaw f fd) (T : Txt mg)
    {gDraw : Addr} {fDraw : FuncData} (kDraw : PySem.W.keepIn K (.ref gDraw) = true) (bDraw : Binds K fDraw ["_law_deck", "_law_most"] []) (hDraw : mg "_law_draw" = some (.ref gDraw)) (GDraw : FnOk P w K mg base CX0 5 gDraw fDraw ["_law_deck", "_law_most"] spDraw)
    {gOpened : Addr} {fOpened : FuncData} (kOpened : PySem.W.keepIn K (.ref gOpened) = true) (bOpened : Binds K fOpened ["_law_cell"] []) (hOpened : mg "_law_opened" = some (.ref gOpened)) (GOpened : FnOk P w K mg base CX0 5 gOpened fOpened ["_law_cell"] spOpened)
    {gCell : Addr} {fCell : FuncData} (kCell : PySem.W.keepIn K (.ref gCell) = true) (bCell : Binds K fCell ["_law_script", "_law_k"] []) (hCell : mg "_law_cell_at" = some (.ref gCell)) (GCell : FnOk P w K mg base CX0 5 gCell fCell ["_law_script", "_law_k"] (spCell K))
    {gDStand : Addr} {fDStand : FuncData} (kDStand : PySem.W.keepIn K (.ref gDStand) = true) (bDStand : Binds K fDStand ["_law_deck", "_law_many", "_law_few", "_law_great"] []) (hDStand : mg "_law_drawn_stand" = some (.ref gDStand)) (GDStand : FnOk P w K mg base CX0 5 gDStand fDStand ["_law_deck", "_law_many", "_law_few", "_law_great"] spDStand)
    {gFound : Addr} {fFound : FuncData} (kFound : PySem.W.keepIn K (.ref gFound) = true) (bFound : Binds K fFound ["_law_many", "_law_stand"] []) (hFound : mg "_law_found_here" = some (.ref gFound)) (GFound : FnOk P w K mg base CX0 5 gFound fFound ["_law_many", "_law_stand"] spFound)
    {gOdd : Addr} {fOdd : FuncData} (kOdd : PySem.W.keepIn K (.ref gOdd) = true) (bOdd : Binds K fOdd ["_law_deck", "_law_many", "_law_good"] []) (hOdd : mg "_law_odd" = some (.ref gOdd)) (GOdd : FnOk P w K mg base CX0 5 gOdd fOdd ["_law_deck", "_law_many", "_law_good"] spOdd)
    {gOddT : Addr} {fOddT : FuncData} (kOddT : PySem.W.keepIn K (.ref gOddT) = true) (bOddT : Binds K fOddT ["_law_deck", "_law_many", "_law_good", "_law_one"] []) (hOddT : mg "_law_odd_things" = some (.ref gOddT)) (GOddT : FnOk P w K mg base CX0 5 gOddT fOddT ["_law_deck", "_law_many", "_law_good", "_law_one"] spOddT)
    {gDueOf : Addr} {fDueOf : FuncData} (kDueOf : PySem.W.keepIn K (.ref gDueOf) = true) (bDueOf : Binds K fDueOf ["_law_many", "_law_stand", "_law_thing"] []) (hDueOf : mg "_law_due_of" = some (.ref gDueOf)) (GDueOf : FnOk P w K mg base CX0 5 gDueOf fDueOf ["_law_many", "_law_stand", "_law_thing"] spDueOf)
    {gHold : Addr} {fHold : FuncData} (kHold : PySem.W.keepIn K (.ref gHold) = true) (bHold : Binds K fHold ["many", "stand", "thing"] []) (hHold : mg "sides_hold" = some (.ref gHold)) (GHold : FnOk P w K mg base CX0 5 gHold fHold ["many", "stand", "thing"] spHold) :
    FnOk P w K mg base CX0 6 f fd ["_law_script"] (spLaw K) := by
  refine F.ok scLaw (fun vs H Q E h => ?_) (fun cdv A outer s H vs Q E hr h => ?_)
  · obtain ⟨_, _, rfl, _⟩ := h; rfl
  · obtain ⟨s, ns, rfl, hS, hl, k⟩ := h
    refine ⟨_, SJ.out (sj_cons (SB.mk (ps_for PassesOwn.never rfl (pi_range1 rfl T.range (pa_cons (pe_callB (call_max2 rfl) (by rfl) T.max (by decide +kernel) (pa_cons pe_int (pa_cons (pe_callB (call_min2 rfl) (by rfl) T.min (by decide +kernel) (pa_cons pe_int (pa_cons (pe_callB call_len_seq (by rfl) T.len PySem.boot_len (pa_cons (pv 0) pa_nil)) pa_nil))) pa_nil))) pa_nil)) (pg_name (i := 1) scLaw.nd rfl (Or.inl rfl)) (pss_cons (ps_set (i := 2) scLaw.nd rfl (Or.inl rfl) (pe_call GOpened hr rfl hOpened kOpened bOpened .nil pass0 (pa_cons (pe_call GCell hr rfl hCell kCell bCell .nil pass0 (pa_cons (pv 0) (pa_cons (pv 1) pa_nil))) pa_nil)))
      (pss_cons (ps_set (i := 3) scLaw.nd rfl (Or.inl rfl) (pe_op op_add pe_int (pe_call GDraw hr rfl hDraw kDraw bDraw .nil pass0 (pa_cons (pv 2) (pa_cons pe_int pa_nil)))))
      (pss_cons (ps_set (i := 4) scLaw.nd rfl (Or.inl rfl) (pe_call GDStand hr rfl hDStand kDStand bDStand .nil pass0 (pa_cons (pv 2) (pa_cons (pv 3) (pa_cons pe_int (pa_cons pe_int pa_nil))))))
      (pss_cons (ps_set (i := 5) scLaw.nd rfl (Or.inl rfl) (pe_call GFound hr rfl hFound kFound bFound .nil pass0 (pa_cons (pv 3) (pa_cons (pv 4) pa_nil))))
      (pss_cons (ps_set (i := 6) scLaw.nd rfl (Or.inl rfl) (pe_call GOdd hr rfl hOdd kOdd bOdd .nil pass0 (pa_cons (pv 2) (pa_cons (pv 3) (pa_cons (pv 5) pa_nil)))))
      (pss_cons (ps_for PassesOwn.never rfl (pi_range1 rfl T.range (pa_cons (pe_callB call_len_seq (by rfl) T.len PySem.boot_len (pa_cons (pv 6) pa_nil)) pa_nil)) (pg_name (i := 7) scLaw.nd rfl (Or.inl rfl)) (pss_one (ps_for PassesOwn.never rfl (pi_list (pe_call GOddT hr rfl hOddT kOddT bOddT .nil pass0 (pa_cons (pv 2) (pa_cons (pv 3) (pa_cons (pv 5) (pa_cons (pe_ix ix_list (pv 6) (pv 7) (fun _ _ => rfl)) pa_nil)))))) (pg_name (i := 8) scLaw.nd rfl (Or.inl rfl)) (pss_cons (ps_set (i := 9) scLaw.nd rfl (Or.inl rfl) (pe_callB (call_reprH hr.units hr.gd) (by rfl) T.repr (by decide +kernel) (pa_cons (pv 8) pa_nil)))
      (pss_cons (ps_set (i := 10) scLaw.nd rfl (Or.inl rfl) (pe_call GHold hr rfl hHold kHold bHold .nil pass0 (pa_cons (pv 3) (pa_cons (pv 4) (pa_cons (pv 8) pa_nil)))))
      (pss_cons (ps_if (PW.pt (pw_or (pt_not (pt_val (pe_callB call_isi (by rfl) T.isinstance (by decide +kernel) (pa_cons (pv 10) (pa_cons (pe_ty (T := "bool") (by rfl) T.bool (by decide +kernel)) pa_nil))))) (pw_or1 (pt_cmpR op_ne (pe_callB (call_reprH hr.units hr.gd) (by rfl) T.repr (by decide +kernel) (pa_cons (pv 8) pa_nil)) (pv 9) (nomark _))))) (pss_one (ps_ret pe_bl)) pss_nil)
      (pss_one (ps_if (pt_cmpR op_ne (pv 10) (pe_call GDueOf hr rfl hDueOf kDueOf bDueOf .nil pass0 (pa_cons (pv 3) (pa_cons (pv 4) (pa_cons (pv 8) pa_nil)))) (nomark _)) (pss_one (ps_ret pe_bl)) pss_nil))))))))
      (pss_one (ps_if (pt_cmpR op_isnotB (pe_call GHold hr rfl hHold kHold bHold .nil pass0 (pa_cons (pv 3) (pa_cons (pv 4) (pa_cons (pv 5) pa_nil)))) pe_bl (nomark _)) (pss_one (ps_ret pe_bl)) pss_nil))))))))))
      (sj_cons (sb_comp (i := 11) (T := ["_law_row"]) (F := []) (js := []) scLaw.nd rfl (Or.inl rfl) (CS.to (osc := defScope sLaw) ⟨by rfl, by decide +kernel, by decide +kernel, by decide +kernel, by decide +kernel, by decide +kernel, by decide +kernel⟩ rfl rfl) rfl (w_lst (w_cons (w_tup (w_cons (w_of pe_int) w_nil st_C)) (w_cons (w_tup (w_cons (w_of pe_int) w_nil st_C)) (w_cons (w_tup w_nil) (w_cons (w_tup (w_cons (w_of pe_int) w_nil st_C)) (w_cons (w_tup (w_cons (w_of pe_int) (w_cons (w_of pe_int) w_nil st_C) st_C)) w_nil st_T) st_T) st_T) st_T) st_T)) (fun _ _ _ _ _ => pg_name (i := 0) (show (["_law_row"] : List Str).Nodup by decide +kernel) rfl (Or.inl rfl)) (fun _ _ _ _ _ => pif_nil) (fun _ _ _ _ _ => w_of (pe_call GHold hr rfl hHold kHold bHold .nil pass0 (pa_cons pe_int (pa_cons (pe_tup pa_nil) (pa_cons (pe_tup (pa_cons pe_str (pa_cons (pv 0) pa_nil))) pa_nil))))))
      (sj_one (sb_ret (w_of (pe_cmpR op_eq (pe_callB (call_reprH hr.units hr.gd) (by rfl) T.repr (by decide +kernel) (pa_cons (pv 11) pa_nil)) (pe_callB (call_reprH hr.units hr.gd) (by rfl) T.repr (by decide +kernel) (pa_cons (pe_lst (pa_cons pe_bl (pa_cons pe_bl (pa_cons pe_bl (pa_cons pe_bl (pa_cons pe_bl pa_nil)))))) pa_nil)) (nomark _))))))), ?_⟩
    refine ⟨_, rfl, s, _, rfl, .inl hS, _, _, rfl, _, _, rfl, _, rfl, by split <;> split <;> omega, by split <;> split <;> omega, for_range (lo := 0) (fun i σ H5 => ∃ (u1 u2 u3 u4 u5 u6 u7 u8 u9 u10 : Option V), σ = [some (.ref s), u1, u2, u3, u4, u5, u6, u7, u8, u9, u10, none] ∧ Same H H5) ⟨_, _, _, _, _, _, _, _, _, _, rfl, same_refl _⟩ ?_ ?_⟩
    rotate_left
    · rintro σ H5 ⟨u1, u2, u3, u4, u5, u6, u7, u8, u9, u10, rfl, s5⟩
      have zr : ∀ ls : List V, (∃ a b c d e : V, ls = [a, b, c, d, e]) → ls.length ≤ 5 := fun ls h => by obtain ⟨_, _, _, _, _, rfl⟩ := h; simp
      refine ⟨small (by simp), fun r1 h1 => ?_⟩
      have t1 := same_new (o := .tup [.int 0]) h1
      have e1 := upd_same (H := H5) (a := r1) (o := .tup [.int 0])
      change _
      generalize upd H5 r1 (.tup [.int 0]) = J1 at t1 e1
      refine ⟨small (by simp), fun r2 h2 => ?_⟩
      have t2 := same_new (o := .tup [.int 1]) h2
      have e2 := upd_same (H := J1) (a := r2) (o := .tup [.int 1])
      change _
      generalize upd J1 r2 (.tup [.int 1]) = J2 at t2 e2
      refine ⟨small (by simp), fun r3 h3 => ?_⟩
      have t3 := same_new (o := .tup []) h3
      have e3 := upd_same (H := J2) (a := r3) (o := .tup [])
      change _
      generalize upd J2 r3 (.tup []) = J3 at t3 e3
      refine ⟨small (by simp), fun r4 h4 => ?_⟩
      have t4 := same_new (o := .tup [.int 2]) h4
      have e4 := upd_same (H := J3) (a := r4) (o := .tup [.int 2])
      change _
      generalize upd J3 r4 (.tup [.int 2]) = J4 at t4 e4
      refine ⟨small (by simp), fun r5 h5 => ?_⟩
      have t5 := same_new (o := .tup [.int 0, .int 0]) h5
      have e5 := upd_same (H := J4) (a := r5) (o := .tup [.int 0, .int 0])
      change _
      generalize upd J4 r5 (.tup [.int 0, .int 0]) = J5 at t5 e5
      refine ⟨small (by simp), fun lr hlr => ?_⟩
      have t6 := same_new (o := .lst [.ref r1, .ref r2, .ref r3, .ref r4, .ref r5]) hlr
      have e6 := upd_same (H := J5) (a := lr) (o := .lst [.ref r1, .ref r2, .ref r3, .ref r4, .ref r5])
      change _
      generalize upd J5 lr (.lst [.ref r1, .ref r2, .ref r3, .ref r4, .ref r5]) = J6 at t6 e6
      have rows : ∀ (j : Nat) (x : V), [V.ref r1, .ref r2, .ref r3, .ref r4, .ref r5][j]? = some x → ∃ (q : Addr) (ws : List V) (b : Bool), x = .ref q ∧ J6 q = some (.tup ws) ∧ (∀ y ∈ ws, ∃ i : Int, y = .int i) ∧ ws.length ≤ 900 ∧ numV 1 [] ws = b ∧ five.take (j + 1) = five.take j ++ [b] := by
        intro j x hx
        match j, hx with
        | 0, hx => cases hx; exact ⟨r1, _, true, rfl, t6 _ _ (t5 _ _ (t4 _ _ (t3 _ _ (t2 _ _ e1)))), by simp, by simp, by decide, rfl⟩
        | 1, hx => cases hx; exact ⟨r2, _, true, rfl, t6 _ _ (t5 _ _ (t4 _ _ (t3 _ _ e2))), by simp, by simp, by decide, rfl⟩
        | 2, hx => cases hx; exact ⟨r3, _, false, rfl, t6 _ _ (t5 _ _ (t4 _ _ e3)), by simp, by simp, by decide, rfl⟩
        | 3, hx => cases hx; exact ⟨r4, _, false, rfl, t6 _ _ (t5 _ _ e4), by simp, by simp, by decide, rfl⟩
        | 4, hx => cases hx; exact ⟨r5, _, false, rfl, t6 _ _ e5, by simp, by simp, by decide, rfl⟩
        | j + 5, hx => simp at hx
      have l5 : ([V.ref r1, .ref r2, .ref r3, .ref r4, .ref r5] : List V).length = 5 := rfl
      generalize [V.ref r1, .ref r2, .ref r3, .ref r4, .ref r5] = rws at e6 rows l5
      refine ⟨lr, rfl, ⟨_, SqL.of e6⟩, fun D hD => comp_list (K := K) (a := lr) (xs := rws) (fun j σ ys H6 => ∃ (u : Option V), σ = [u] ∧ ys = (five.take j).map V.bl ∧ Same J6 H6 ∧ H6 D = some (.lst ys)) ⟨none, rfl, rfl, same_new hD, upd_same⟩ (fun j σ ys H6 _ ⟨_, _, _, e, g⟩ => ⟨SqL.of (e _ _ e6), g⟩) ?_ ?_⟩
      · rintro j x σ ys H6 hx ⟨u, rfl, rfl, s6, D6⟩
        obtain ⟨q, ws, bb, rfl, eq, hi, wl, hb, tk⟩ := rows j x hx
        refine ⟨small (by simp), fun ep hep => ?_⟩
        have v1 := same_new (o := .tup []) hep
        have w1 := upd_same (H := H6) (a := ep) (o := .tup [])
        change _
        generalize upd H6 ep (.tup []) = G1 at v1 w1
        refine ⟨_, rfl, small (by simp), fun gp hgp => ?_⟩
        have v2 := same_new (o := .tup [.str (Str.ofString "sides"), .ref q]) hgp
        have w2 := upd_same (H := G1) (a := gp) (o := .tup [.str (Str.ofString "sides"), .ref q])
        change _
        generalize upd G1 gp (.tup [.str (Str.ofString "sides"), .ref q]) = G2 at v2 w2
        have sg := (s6.trans v1).trans v2
        have tl : Tell G2 1 [] (.ref gp) bb := by
          have := Tell.good (N := 1) (S := []) w2 ⟨q, rfl, sg _ _ eq, (fun y hy => by obtain ⟨i, rfl⟩ := hi y hy; exact .inl (.inl (.inr (.inr (.inl ⟨i, rfl⟩))))), wl⟩
          unfold holdB at this
          rw [if_pos rfl, hb] at this
          exact this
        refine ⟨1, ep, [], .ref gp, bb, rfl, ⟨[], v2 _ _ w1, rfl, fun i r t e => by simp at e⟩, (fun t ht => by simp at ht), by simp, by simp, by decide, tl, fun G3 s3 => ?_⟩
        have j5 : j < 5 := by have := (List.getElem?_eq_some_iff.mp hx).1; omega
        refine ⟨s3 _ _ (v2 _ _ (v1 _ _ D6)), small1000 (by rw [List.length_map, List.length_take]; omega), _, rfl, by rw [tk, List.map_append]; rfl, same_set (sg.trans s3) hD, upd_same⟩
      rintro σ ys H6 ⟨u, rfl, rfl, s6, D6⟩
      rw [l5] at D6
      have D6 : H6 D = some (.lst (five.map V.bl)) := D6
      have f5 := fine_five
      refine ⟨_, rfl, .ref D, dFive, false, rfl, rep_five D6, f5.sh, Nat.le_trans f5.dp (by decide), Nat.le_trans f5.ln sz1, small (by simp), fun lq hlq => ?_⟩
      exact ⟨.ref lq, dFive, false, rfl, rep_five upd_same, f5.sh, Nat.le_trans f5.dp (by decide), Nat.le_trans f5.ln sz1, rfl, by rw [decide_eq_true rfl]; exact k _⟩
    rintro i σ H5 hi ⟨u1, u2, u3, u4, u5, u6, u7, u8, u9, u10, rfl, s5⟩
    refine ⟨_, rfl, _, rfl, s, ns, i, by rw [Int.zero_add]; rfl, sqL_same hS s5, fun c => ⟨c, rfl, fun d H6 s6 dn D6 => ?_⟩⟩
    refine ⟨_, rfl, d, 8, 99999, rfl, D6, by decide, by decide, fun n H8 v0 v1 b8 D8 => ?_⟩
    obtain ⟨n, rfl⟩ := nat_of v0
    refine ⟨_, _, rfl, rfl, ?_⟩
    have e2 : (2 : Int) + (n : Int) = ((2 + n : Nat) : Int) := by omega
    rw [e2]
    have N2 : 2 ≤ 2 + n := by omega
    have N24 : 2 + n ≤ 24 := by omega
    generalize 2 + n = N at N2 N24
    refine ⟨_, rfl, _, rfl, d, N, 10, 30, 99000, rfl, D8.mono (by omega), by omega, N24, by decide, by decide, fun st S H9 b9 D9 hst hSt hne h9 => ?_⟩
    have S9 : ∀ x o, H5 x = some o → H9 x = some o ∧ x ≠ d := fun x o e => ⟨b9 _ _ (b8 _ _ (s6 _ _ e) (ne_of_none e dn)) (ne_of_none e dn), ne_of_none e dn⟩
    clear b8 b9 D6 D8 s6
    have S60 := hSt.len
    refine ⟨_, rfl, _, rfl, N, st, S, rfl, hst, hSt, h9, N24, fun r wa wd xs HA sA erA ewA hxA xlA hwd hold => ?_⟩
    have DA := D9.same sA
    have stA := hst.same sA
    have swd : Sht wd := by rcases hwd with rfl | rfl <;> exact sht_of (by decide +kernel)
    refine ⟨_, rfl, _, rfl, _, rfl, d, r, wa, N, 98997, wd, xs, rfl, DA.mono (by omega), N2, N24, erA, ewA, hxA, xlA, swd, fun lz zs HB bB DB nlz hlz zl hz => ?_⟩
    have erB := bB.tup DA erA
    have ewB := bB.tup DA ewA
    have stB := stA.tk (bB.tk DA)
    refine ⟨_, rfl, lz, _, rfl, .inl (SqL.of hlz), _, rfl, by omega, by omega, for_range (lo := 0) (n := zs.length) (fun t σ HC => ∃ (u7 u8 u9 u10 : Option V), σ = [some (.ref s), some (.int (0 + (i : Int))), some (.ref d), some (.int (N : Int)), some (.ref st), some (.ref r), some (.ref lz), u7, u8, u9, u10, none] ∧ But d HB HC ∧ DeckAt HC d (98997 - t)) ⟨_, _, _, _, rfl, But.refl, DB⟩ ?_ ?_⟩
    · rintro t σ HC ht ⟨u7, u8, u9, u10, rfl, bC, DC⟩
      have hlC := bC _ _ hlz nlz
      have erC := bC.tup DB erB
      have ewC := bC.tup DB ewB
      have stC := stB.tk (bC.tk DB)
      refine ⟨_, rfl, _, rfl, _, rfl, _, rfl, _, rfl, lz, _, _, zs[t], rfl, rfl, SqL.of hlC, by rw [Int.zero_add]; exact atI_nat (getq ht), d, r, wa, (N : Int), 98997 - (t + 1), wd, xs, zs[t], rfl, DC.mono (by omega), erC, ewC, hxA, xlA, swd, (hz _ (List.getElem_mem ht)).but bC, fun l2 ys HD bD DD nl2 hl2 yl hy => ?_⟩
      have erD := bD.tup DC erC
      have ewD := bD.tup DC ewC
      have stD := stC.tk (bD.tk DC)
      refine ⟨l2, rfl, ⟨_, SqL.of hl2⟩, for_list (K := K) (a := l2) (xs := ys) (fun j σ HE => ∃ (u8 u9 u10 : Option V), σ = [some (.ref s), some (.int (0 + (i : Int))), some (.ref d), some (.int (N : Int)), some (.ref st), some (.ref r), some (.ref lz), some (.int (0 + (t : Int))), u8, u9, u10, none] ∧ Same HD HE) ⟨_, _, _, rfl, same_refl _⟩ (fun j σ HE _ ⟨_, _, _, _, sE⟩ => SqL.of (sE _ _ hl2)) ?_ ?_⟩
      rotate_left
      · rintro σ HE ⟨u8, u9, u10, rfl, sE⟩
        exact ⟨_, _, _, _, rfl, (bC.trans bD).trans (But.of sE), DD.same sE⟩
      rintro j x σ HE hj ⟨u8, u9, u10, rfl, sE⟩
      obtain ⟨fx, dd, rx, gx⟩ := (hy x (List.mem_of_getElem? hj)).same sE
      have rx := rx.same off_in
      have stE := stD.same sE
      obtain ⟨bb, tl⟩ := tell_of rx N S
      refine ⟨_, rfl, _, dd, fx, rfl, rx, gx.sh, Nat.le_trans gx.dp (by decide), Nat.le_trans gx.ln sz2, ?_⟩
      refine ⟨_, rfl, _, rfl, _, rfl, N, st, S, x, bb, rfl, stE, hSt.inn, hSt.nd, by omega, by omega, tl, fun HF sF => ?_⟩
      refine ⟨_, rfl, .bl _, .type "bool", "bool", true, rfl, .bl _, rfl, _, rfl, iteF ?_⟩
      refine ⟨_, rfl, _, dd, fx, rfl, rx.same sF, gx.sh, Nat.le_trans gx.dp (by decide), Nat.le_trans gx.ln sz2, _, rfl, rfl, _, rfl, ite2 (fun g => absurd g (by simp)) fun _ => ?_⟩
      dsimp only [tNext]
      refine ⟨_, rfl, _, rfl, _, rfl, _, rfl, N, st, S, x, bb, rfl, stE.same sF, hSt.inn, hSt.nd, by omega, by omega, tl.same sF, fun HG sG => ?_⟩
      refine ⟨rfl, _, rfl, ite2 (fun g => absurd g (by simp)) fun _ => ?_⟩
      exact ⟨_, _, _, rfl, sE.trans (sF.trans sG)⟩
    rintro σ HC ⟨u7, u8, u9, u10, rfl, bC, DC⟩
    have stC := stB.tk (bC.tk DB)
    have tl : Tell HC N S (.ref r) true := by
      have := Tell.good (N := N) (S := S) (bC.tup DB erB) ⟨wa, rfl, bC.tup DB ewB, (fun y hy => si_an (hxA y hy)), by omega⟩
      rw [hold] at this
      exact this
    refine ⟨_, rfl, _, rfl, _, rfl, N, st, S, .ref r, true, rfl, stC, hSt.inn, hSt.nd, by omega, by omega, tl, fun HG sG => ?_⟩
    exact ⟨_, _, rfl, rfl, _, rfl, iteF ⟨_, _, _, _, _, _, _, _, _, _, rfl, fun x o e => let ⟨e1, e2⟩ := S9 x o (s5 _ _ e); sG _ _ (bC _ _ (bB _ _ (sA _ _ e1) e2) e2)⟩⟩
end
end K56
set_option maxHeartbeats 4000000
namespace K56
open PySem L2 Wk
theorem us1 {fd : FuncData} {ps : List Str} (hp : ps.length = 1) (h : ∀ a0 : Value, bindArgs fd ⟨[a0], []⟩ = pure (ps.zip [a0])) : ∀ us : List Value, us.length = ps.length → bindArgs fd ⟨us, []⟩ = pure (ps.zip us) := fun us hl => match us, hl.trans hp with | [a0], _ => h a0
theorem us2 {fd : FuncData} {ps : List Str} (hp : ps.length = 2) (h : ∀ a0 a1 : Value, bindArgs fd ⟨[a0, a1], []⟩ = pure (ps.zip [a0, a1])) : ∀ us : List Value, us.length = ps.length → bindArgs fd ⟨us, []⟩ = pure (ps.zip us) := fun us hl => match us, hl.trans hp with | [a0, a1], _ => h a0 a1
theorem us3 {fd : FuncData} {ps : List Str} (hp : ps.length = 3) (h : ∀ a0 a1 a2 : Value, bindArgs fd ⟨[a0, a1, a2], []⟩ = pure (ps.zip [a0, a1, a2])) : ∀ us : List Value, us.length = ps.length → bindArgs fd ⟨us, []⟩ = pure (ps.zip us) := fun us hl => match us, hl.trans hp with | [a0, a1, a2], _ => h a0 a1 a2
theorem us4 {fd : FuncData} {ps : List Str} (hp : ps.length = 4) (h : ∀ a0 a1 a2 a3 : Value, bindArgs fd ⟨[a0, a1, a2, a3], []⟩ = pure (ps.zip [a0, a1, a2, a3])) : ∀ us : List Value, us.length = ps.length → bindArgs fd ⟨us, []⟩ = pure (ps.zip us) := fun us hl => match us, hl.trans hp with | [a0, a1, a2, a3], _ => h a0 a1 a2 a3
theorem all_mk {l : PySem.W.OpenLaw} {w : World} {K : PySem.W.Frag} {h : Heap} {mg : Str → Option Value} {fa f0 f1 f2 f3 f4 f5 f6 f7 f8 f9 f10 f11 f12 f13 f14 f15 f16 f17 f18 f19 f20 f21 f22 f23 f24 : Addr} (X : K.In h) (G : h.Ns mainGlobals mg) (hfa : mg "law" = some (.ref fa))
    {od0 an0 od1 an1 od2 an2 od3 an3 od4 an4 od5 an5 od6 an6 od7 an7 od8 an8 od9 an9 od10 an10 od11 an11 od12 an12 od13 an13 od14 an14 od15 an15 od16 an16 od17 an17 od18 an18 od19 an19 od20 an20 od21 an21 od22 an22 od23 an23 od24 an24 : Option Addr} {sl0 sl1 sl2 sl3 sl4 sl5 sl6 sl7 sl8 sl9 sl10 sl11 sl12 sl13 sl14 sl15 sl16 sl17 sl18 sl19 sl20 sl21 sl22 sl23 sl24 : Array (Option Value)} {oc0 kV0 dc0 pm0 cd0 ct0 oc1 kV1 dc1 pm1 cd1 ct1 oc2 kV2 dc2 pm2 cd2 ct2 oc3 kV3 dc3 pm3 cd3 ct3 oc4 kV4 dc4 pm4 cd4 ct4 oc5 kV5 dc5 pm5 cd5 ct5 oc6 kV6 dc6 pm6 cd6 ct6 oc7 kV7 dc7 pm7 cd7 ct7 oc8 kV8 dc8 pm8 cd8 ct8 oc9 kV9 dc9 pm9 cd9 ct9 oc10 kV10 dc10 pm10 cd10 ct10 oc11 kV11 dc11 pm11 cd11 ct11 oc12 kV12 dc12 pm12 cd12 ct12 oc13 kV13 dc13 pm13 cd13 ct13 oc14 kV14 dc14 pm14 cd14 ct14 oc15 kV15 dc15 pm15 cd15 ct15 oc16 kV16 dc16 pm16 cd16 ct16 oc17 kV17 dc17 pm17 cd17 ct17 oc18 kV18 dc18 pm18 cd18 ct18 oc19 kV19 dc19 pm19 cd19 ct19 oc20 kV20 dc20 pm20 cd20 ct20 oc21 kV21 dc21 pm21 cd21 ct21 oc22 kV22 dc22 pm22 cd22 ct22 oc23 kV23 dc23 pm23 cd23 ct23 oc24 kV24 dc24 pm24 cd24 ct24 : Value}
    {t0 : Tok}
    (a0 : PySem.W.nsIn K mainGlobals "place_over" = some (some (.ref f0))) (l0 : K.lookup f0 = some ⟨oc0, od0, .func (PySem.W.fnOf "place_over" "place_over" (defArgs sOver) (defBody sOver) (defScope sOver) .none kV0 dc0 pm0 an0 cd0 ct0), sl0⟩) (c0 : PySem.W.codeIn K cd0 "place_over" = true) (k0 : PySem.W.keepIn K (.ref f0) = true)
    (a1 : PySem.W.nsIn K mainGlobals "leads" = some (some (.ref f1))) (l1 : K.lookup f1 = some ⟨oc1, od1, .func (PySem.W.fnOf "leads" "leads" (defArgs sLeads) (defBody sLeads) (defScope sLeads) .none kV1 dc1 pm1 an1 cd1 ct1), sl1⟩) (c1 : PySem.W.codeIn K cd1 "leads" = true) (k1 : PySem.W.keepIn K (.ref f1) = true)
    (a2 : PySem.W.nsIn K mainGlobals "is_whole" = some (some (.ref f2))) (l2 : K.lookup f2 = some ⟨oc2, od2, .func (PySem.W.fnOf "is_whole" "is_whole" (defArgs sWhole) (defBody sWhole) (defScope sWhole) .none kV2 dc2 pm2 an2 cd2 ct2), sl2⟩) (c2 : PySem.W.codeIn K cd2 "is_whole" = true) (k2 : PySem.W.keepIn K (.ref f2) = true)
    (a3 : PySem.W.nsIn K mainGlobals "is_within" = some (some (.ref f3))) (l3 : K.lookup f3 = some ⟨oc3, od3, .func (PySem.W.fnOf "is_within" "is_within" (defArgs sWithin) (defBody sWithin) (defScope sWithin) .none kV3 dc3 pm3 an3 cd3 ct3), sl3⟩) (c3 : PySem.W.codeIn K cd3 "is_within" = true) (k3 : PySem.W.keepIn K (.ref f3) = true)
    (a4 : PySem.W.nsIn K mainGlobals "is_way" = some (some (.ref f4))) (l4 : K.lookup f4 = some ⟨oc4, od4, .func (PySem.W.fnOf "is_way" "is_way" (defArgs sIsWay) (defBody sIsWay) (defScope sIsWay) .none kV4 dc4 pm4 an4 cd4 ct4), sl4⟩) (c4 : PySem.W.codeIn K cd4 "is_way" = true) (k4 : PySem.W.keepIn K (.ref f4) = true)
    (a5 : PySem.W.nsIn K mainGlobals "are_numbers" = some (some (.ref f5))) (l5 : K.lookup f5 = some ⟨oc5, od5, .func (PySem.W.fnOf "are_numbers" "are_numbers" (defArgs sNums) (defBody sNums) (defScope sNums) .none kV5 dc5 pm5 an5 cd5 ct5), sl5⟩) (c5 : PySem.W.codeIn K cd5 "are_numbers" = true) (k5 : PySem.W.keepIn K (.ref f5) = true)
    (a6 : PySem.W.nsIn K mainGlobals "is_odd_ring" = some (some (.ref f6))) (l6 : K.lookup f6 = some ⟨oc6, od6, .func (PySem.W.fnOf "is_odd_ring" "is_odd_ring" (defArgs sORing) (defBody sORing) (defScope sORing) .none kV6 dc6 pm6 an6 cd6 ct6), sl6⟩) (c6 : PySem.W.codeIn K cd6 "is_odd_ring" = true) (k6 : PySem.W.keepIn K (.ref f6) = true)
    (a7 : PySem.W.nsIn K mainGlobals "sides_hold" = some (some (.ref f7))) (l7 : K.lookup f7 = some ⟨oc7, od7, .func (PySem.W.fnOf "sides_hold" "sides_hold" (defArgs sHold) (defBody sHold) (defScope sHold) .none kV7 dc7 pm7 an7 cd7 ct7), sl7⟩) (c7 : PySem.W.codeIn K cd7 "sides_hold" = true) (k7 : PySem.W.keepIn K (.ref f7) = true)
    (a8 : PySem.W.nsIn K mainGlobals "_law_cell_at" = some (some (.ref f8))) (l8 : K.lookup f8 = some ⟨oc8, od8, .func (PySem.W.fnOf "_law_cell_at" "_law_cell_at" (defArgs sCell) (defBody sCell) (defScope sCell) .none kV8 dc8 pm8 an8 cd8 ct8), sl8⟩) (c8 : PySem.W.codeIn K cd8 "_law_cell_at" = true) (k8 : PySem.W.keepIn K (.ref f8) = true)
    (a9 : PySem.W.nsIn K mainGlobals "_law_opened" = some (some (.ref f9))) (l9 : K.lookup f9 = some ⟨oc9, od9, .func (PySem.W.fnOf "_law_opened" "_law_opened" (defArgs sOpened) (defBody sOpened) (defScope sOpened) .none kV9 dc9 pm9 an9 cd9 ct9), sl9⟩) (c9 : PySem.W.codeIn K cd9 "_law_opened" = true) (k9 : PySem.W.keepIn K (.ref f9) = true)
    (a10 : PySem.W.nsIn K mainGlobals "_law_draw" = some (some (.ref f10))) (l10 : K.lookup f10 = some ⟨oc10, od10, .func (PySem.W.fnOf "_law_draw" "_law_draw" (defArgs sDraw) (defBody sDraw) (defScope sDraw) .none kV10 dc10 pm10 an10 cd10 ct10), sl10⟩) (c10 : PySem.W.codeIn K cd10 "_law_draw" = true) (k10 : PySem.W.keepIn K (.ref f10) = true)
    (a11 : PySem.W.nsIn K mainGlobals "_law_rare" = some (some (.ref f11))) (l11 : K.lookup f11 = some ⟨oc11, od11, .func (PySem.W.fnOf "_law_rare" "_law_rare" (defArgs sRare) (defBody sRare) (defScope sRare) .none kV11 dc11 pm11 an11 cd11 ct11), sl11⟩) (c11 : PySem.W.codeIn K cd11 "_law_rare" = true) (k11 : PySem.W.keepIn K (.ref f11) = true)
    (a12 : PySem.W.nsIn K mainGlobals "_law_two_of" = some (some (.ref f12))) (l12 : K.lookup f12 = some ⟨oc12, od12, .func (PySem.W.fnOf "_law_two_of" "_law_two_of" (defArgs sTwo) (defBody sTwo) (defScope sTwo) .none kV12 dc12 pm12 an12 cd12 ct12), sl12⟩) (c12 : PySem.W.codeIn K cd12 "_law_two_of" = true) (k12 : PySem.W.keepIn K (.ref f12) = true)
    (a13 : PySem.W.nsIn K mainGlobals "_law_named" = some (some (.ref f13))) (l13 : K.lookup f13 = some ⟨oc13, od13, .func (PySem.W.fnOf "_law_named" "_law_named" (defArgs sNamed) (defBody sNamed) (defScope sNamed) .none kV13 dc13 pm13 an13 cd13 ct13), sl13⟩) (c13 : PySem.W.codeIn K cd13 "_law_named" = true) (k13 : PySem.W.keepIn K (.ref f13) = true)
    (a14 : PySem.W.nsIn K mainGlobals "_law_heavy" = some (some (.ref f14))) (l14 : K.lookup f14 = some ⟨oc14, od14, .func (PySem.W.fnOf "_law_heavy" "_law_heavy" (defArgs sHeavy) (defBody sHeavy) (defScope sHeavy) .none kV14 dc14 pm14 an14 cd14 ct14), sl14⟩) (c14 : PySem.W.codeIn K cd14 "_law_heavy" = true) (k14 : PySem.W.keepIn K (.ref f14) = true)
    (a15 : PySem.W.nsIn K mainGlobals "_law_drawn_stand" = some (some (.ref f15))) (l15 : K.lookup f15 = some ⟨oc15, od15, .func (PySem.W.fnOf "_law_drawn_stand" "_law_drawn_stand" (defArgs sDStand) (defBody sDStand) (defScope sDStand) .none kV15 dc15 pm15 an15 cd15 ct15), sl15⟩) (c15 : PySem.W.codeIn K cd15 "_law_drawn_stand" = true) (k15 : PySem.W.keepIn K (.ref f15) = true)
    (a16 : PySem.W.nsIn K mainGlobals "_law_parting" = some (some (.ref f16))) (l16 : K.lookup f16 = some ⟨oc16, od16, .func (PySem.W.fnOf "_law_parting" "_law_parting" (defArgs sParting) (defBody sParting) (defScope sParting) .none kV16 dc16 pm16 an16 cd16 ct16), sl16⟩) (c16 : PySem.W.codeIn K cd16 "_law_parting" = true) (k16 : PySem.W.keepIn K (.ref f16) = true)
    (a17 : PySem.W.nsIn K mainGlobals "_law_leads" = some (some (.ref f17))) (l17 : K.lookup f17 = some ⟨oc17, od17, .func (PySem.W.fnOf "_law_leads" "_law_leads" (defArgs sLLeads) (defBody sLLeads) (defScope sLLeads) .none kV17 dc17 pm17 an17 cd17 ct17), sl17⟩) (c17 : PySem.W.codeIn K cd17 "_law_leads" = true) (k17 : PySem.W.keepIn K (.ref f17) = true)
    (a18 : PySem.W.nsIn K mainGlobals "_law_ring" = some (some (.ref f18))) (l18 : K.lookup f18 = some ⟨oc18, od18, .func (PySem.W.fnOf "_law_ring" "_law_ring" (defArgs sLRing) (defBody sLRing) (defScope sLRing) .none kV18 dc18 pm18 an18 cd18 ct18), sl18⟩) (c18 : PySem.W.codeIn K cd18 "_law_ring" = true) (k18 : PySem.W.keepIn K (.ref f18) = true)
    (a19 : PySem.W.nsIn K mainGlobals "_law_due_of" = some (some (.ref f19))) (l19 : K.lookup f19 = some ⟨oc19, od19, .func (PySem.W.fnOf "_law_due_of" "_law_due_of" (defArgs sDueOf) (defBody sDueOf) (defScope sDueOf) .none kV19 dc19 pm19 an19 cd19 ct19), sl19⟩) (c19 : PySem.W.codeIn K cd19 "_law_due_of" = true) (k19 : PySem.W.keepIn K (.ref f19) = true)
    (a20 : PySem.W.nsIn K mainGlobals "_law_deep" = some (some (.ref f20))) (l20 : K.lookup f20 = some ⟨oc20, od20, .func (PySem.W.fnOf "_law_deep" "_law_deep" (defArgs sDeep) (defBody sDeep) (defScope sDeep) .none kV20 dc20 pm20 an20 cd20 ct20), sl20⟩) (c20 : PySem.W.codeIn K cd20 "_law_deep" = true) (k20 : PySem.W.keepIn K (.ref f20) = true)
    (a21 : PySem.W.nsIn K mainGlobals "_law_odd" = some (some (.ref f21))) (l21 : K.lookup f21 = some ⟨oc21, od21, .func (PySem.W.fnOf "_law_odd" "_law_odd" (defArgs sOdd) (defBody sOdd) (defScope sOdd) .none kV21 dc21 pm21 an21 cd21 ct21), sl21⟩) (c21 : PySem.W.codeIn K cd21 "_law_odd" = true) (k21 : PySem.W.keepIn K (.ref f21) = true)
    (a22 : PySem.W.nsIn K mainGlobals "_law_odd_things" = some (some (.ref f22))) (l22 : K.lookup f22 = some ⟨oc22, od22, .func (PySem.W.fnOf "_law_odd_things" "_law_odd_things" (defArgs sOddT) (defBody sOddT) (defScope sOddT) .none kV22 dc22 pm22 an22 cd22 ct22), sl22⟩) (c22 : PySem.W.codeIn K cd22 "_law_odd_things" = true) (k22 : PySem.W.keepIn K (.ref f22) = true)
    (a23 : PySem.W.nsIn K mainGlobals "_law_found_here" = some (some (.ref f23))) (l23 : K.lookup f23 = some ⟨oc23, od23, .func (PySem.W.fnOf "_law_found_here" "_law_found_here" (defArgs sFound) (defBody sFound) (defScope sFound) .none kV23 dc23 pm23 an23 cd23 ct23), sl23⟩) (c23 : PySem.W.codeIn K cd23 "_law_found_here" = true) (k23 : PySem.W.keepIn K (.ref f23) = true)
    (a24 : PySem.W.nsIn K mainGlobals "law" = some (some (.ref f24))) (l24 : K.lookup f24 = some ⟨oc24, od24, .func (PySem.W.fnOf "law" "law" (defArgs sLaw) (defBody sLaw) (defScope sLaw) .none kV24 dc24 pm24 an24 cd24 ct24), sl24⟩) (c24 : PySem.W.codeIn K cd24 "law" = true) (k24 : PySem.W.keepIn K (.ref f24) = true)
    (i0 : PySem.W.nsIn K mainGlobals "MOST_STEPS" = some (some (.int 61 t0)))
    (z0 : PySem.W.nsIn K mainGlobals "isinstance" = some none) (z1 : PySem.W.nsIn K mainGlobals "int" = some none) (z2 : PySem.W.nsIn K mainGlobals "bool" = some none) (z3 : PySem.W.nsIn K mainGlobals "tuple" = some none) (z4 : PySem.W.nsIn K mainGlobals "len" = some none) (z5 : PySem.W.nsIn K mainGlobals "range" = some none) (z6 : PySem.W.nsIn K mainGlobals "sum" = some none) (z7 : PySem.W.nsIn K mainGlobals "str" = some none) (z8 : PySem.W.nsIn K mainGlobals "max" = some none) (z9 : PySem.W.nsIn K mainGlobals "min" = some none) (z10 : PySem.W.nsIn K mainGlobals "all" = some none) (z11 : PySem.W.nsIn K mainGlobals "any" = some none) (z12 : PySem.W.nsIn K mainGlobals "sorted" = some none) (z13 : PySem.W.nsIn K mainGlobals "list" = some none) (z14 : PySem.W.nsIn K mainGlobals "dict" = some none) (z15 : PySem.W.nsIn K mainGlobals "repr" = some none) :
    ∃ fd : FuncData, (∀ (s : Shared) (v : Value), BindsTo s fd ⟨[v], []⟩ [("_law_script", v)]) ∧ ∀ base : Heap, K.In base → base.Ns mainGlobals mg → FnOk l.prog w K mg base CX0 6 fa fd ["_law_script"] (spLaw K) := by
  have e := hfa.symm.trans (PySem.W.mg_of X G a24)
  cases e
  have T : Txt mg := ⟨⟨_, PySem.W.mg_of X G i0⟩, PySem.W.mg_none_of X G z0, PySem.W.mg_none_of X G z1, PySem.W.mg_none_of X G z2, PySem.W.mg_none_of X G z3, PySem.W.mg_none_of X G z4, PySem.W.mg_none_of X G z5, PySem.W.mg_none_of X G z6, PySem.W.mg_none_of X G z7, PySem.W.mg_none_of X G z8, PySem.W.mg_none_of X G z9, PySem.W.mg_none_of X G z10, PySem.W.mg_none_of X G z11, PySem.W.mg_none_of X G z12, PySem.W.mg_none_of X G z13, PySem.W.mg_none_of X G z14, PySem.W.mg_none_of X G z15⟩
  have F0 := fun_mk (st := sOver) l0 c0 k0
  have b0 := F0.binds (ps := ["stand", "place", "thing"]) fun _ _ _ _ _ _ => us3 rfl fun _ _ _ => rfl
  have m0 := PySem.W.mg_of X G a0
  have F1 := fun_mk (st := sLeads) l1 c1 k1
  have b1 := F1.binds (ps := ["stand", "one", "other", "thing"]) fun _ _ _ _ _ _ => us4 rfl fun _ _ _ _ => rfl
  have m1 := PySem.W.mg_of X G a1
  have F2 := fun_mk (st := sWhole) l2 c2 k2
  have b2 := F2.binds (ps := ["thing"]) fun _ _ _ _ _ _ => us1 rfl fun _ => rfl
  have m2 := PySem.W.mg_of X G a2
  have F3 := fun_mk (st := sWithin) l3 c3 k3
  have b3 := F3.binds (ps := ["thing", "low", "high"]) fun _ _ _ _ _ _ => us3 rfl fun _ _ _ => rfl
  have m3 := PySem.W.mg_of X G a3
  have F4 := fun_mk (st := sIsWay) l4 c4 k4
  have b4 := F4.binds (ps := ["stand", "one", "other", "thing"]) fun _ _ _ _ _ _ => us4 rfl fun _ _ _ _ => rfl
  have m4 := PySem.W.mg_of X G a4
  have F5 := fun_mk (st := sNums) l5 c5 k5
  have b5 := F5.binds (ps := ["many", "stand", "thing"]) fun _ _ _ _ _ _ => us3 rfl fun _ _ _ => rfl
  have m5 := PySem.W.mg_of X G a5
  have F6 := fun_mk (st := sORing) l6 c6 k6
  have b6 := F6.binds (ps := ["many", "stand", "thing"]) fun _ _ _ _ _ _ => us3 rfl fun _ _ _ => rfl
  have m6 := PySem.W.mg_of X G a6
  have F7 := fun_mk (st := sHold) l7 c7 k7
  have b7 := F7.binds (ps := ["many", "stand", "thing"]) fun _ _ _ _ _ _ => us3 rfl fun _ _ _ => rfl
  have m7 := PySem.W.mg_of X G a7
  have F8 := fun_mk (st := sCell) l8 c8 k8
  have b8 := F8.binds (ps := ["_law_script", "_law_k"]) fun _ _ _ _ _ _ => us2 rfl fun _ _ => rfl
  have m8 := PySem.W.mg_of X G a8
  have F9 := fun_mk (st := sOpened) l9 c9 k9
  have b9 := F9.binds (ps := ["_law_cell"]) fun _ _ _ _ _ _ => us1 rfl fun _ => rfl
  have m9 := PySem.W.mg_of X G a9
  have F10 := fun_mk (st := sDraw) l10 c10 k10
  have b10 := F10.binds (ps := ["_law_deck", "_law_most"]) fun _ _ _ _ _ _ => us2 rfl fun _ _ => rfl
  have m10 := PySem.W.mg_of X G a10
  have F11 := fun_mk (st := sRare) l11 c11 k11
  have b11 := F11.binds (ps := ["_law_deck", "_law_often", "_law_great"]) fun _ _ _ _ _ _ => us3 rfl fun _ _ _ => rfl
  have m11 := PySem.W.mg_of X G a11
  have F12 := fun_mk (st := sTwo) l12 c12 k12
  have b12 := F12.binds (ps := ["_law_deck", "_law_many"]) fun _ _ _ _ _ _ => us2 rfl fun _ _ => rfl
  have m12 := PySem.W.mg_of X G a12
  have F13 := fun_mk (st := sNamed) l13 c13 k13
  have b13 := F13.binds (ps := ["_law_deck", "_law_many"]) fun _ _ _ _ _ _ => us2 rfl fun _ _ => rfl
  have m13 := PySem.W.mg_of X G a13
  have F14 := fun_mk (st := sHeavy) l14 c14 k14
  have b14 := F14.binds (ps := ["_law_deck"]) fun _ _ _ _ _ _ => us1 rfl fun _ => rfl
  have m14 := PySem.W.mg_of X G a14
  have F15 := fun_mk (st := sDStand) l15 c15 k15
  have b15 := F15.binds (ps := ["_law_deck", "_law_many", "_law_few", "_law_great"]) fun _ _ _ _ _ _ => us4 rfl fun _ _ _ _ => rfl
  have m15 := PySem.W.mg_of X G a15
  have F16 := fun_mk (st := sParting) l16 c16 k16
  have b16 := F16.binds (ps := ["_law_many", "_law_ties"]) fun _ _ _ _ _ _ => us2 rfl fun _ _ => rfl
  have m16 := PySem.W.mg_of X G a16
  have F17 := fun_mk (st := sLLeads) l17 c17 k17
  have b17 := F17.binds (ps := ["_law_ties", "_law_names"]) fun _ _ _ _ _ _ => us2 rfl fun _ _ => rfl
  have m17 := PySem.W.mg_of X G a17
  have F18 := fun_mk (st := sLRing) l18 c18 k18
  have b18 := F18.binds (ps := ["_law_many", "_law_stand"]) fun _ _ _ _ _ _ => us2 rfl fun _ _ => rfl
  have m18 := PySem.W.mg_of X G a18
  have F19 := fun_mk (st := sDueOf) l19 c19 k19
  have b19 := F19.binds (ps := ["_law_many", "_law_stand", "_law_thing"]) fun _ _ _ _ _ _ => us3 rfl fun _ _ _ => rfl
  have m19 := PySem.W.mg_of X G a19
  have F20 := fun_mk (st := sDeep) l20 c20 k20
  have b20 := F20.binds (ps := ["_law_thing", "_law_many", "_law_way"]) fun _ _ _ _ _ _ => us3 rfl fun _ _ _ => rfl
  have m20 := PySem.W.mg_of X G a20
  have F21 := fun_mk (st := sOdd) l21 c21 k21
  have b21 := F21.binds (ps := ["_law_deck", "_law_many", "_law_good"]) fun _ _ _ _ _ _ => us3 rfl fun _ _ _ => rfl
  have m21 := PySem.W.mg_of X G a21
  have F22 := fun_mk (st := sOddT) l22 c22 k22
  have b22 := F22.binds (ps := ["_law_deck", "_law_many", "_law_good", "_law_one"]) fun _ _ _ _ _ _ => us4 rfl fun _ _ _ _ => rfl
  have m22 := PySem.W.mg_of X G a22
  have F23 := fun_mk (st := sFound) l23 c23 k23
  have b23 := F23.binds (ps := ["_law_many", "_law_stand"]) fun _ _ _ _ _ _ => us2 rfl fun _ _ => rfl
  have m23 := PySem.W.mg_of X G a23
  have F24 := fun_mk (st := sLaw) l24 c24 k24
  have b24 := F24.binds (ps := ["_law_script"]) fun _ _ _ _ _ _ => us1 rfl fun _ => rfl
  have m24 := PySem.W.mg_of X G a24
  refine ⟨PySem.W.fnOf "law" "law" (defArgs sLaw) (defBody sLaw) (defScope sLaw) .none kV24 dc24 pm24 an24 cd24 ct24, fun s v => .of_eq rfl, fun base _ _ => ?_⟩
  have Q0 : FnOk l.prog w K mg base CX0 1 f0 _ ["stand", "place", "thing"] spOver := ok_Over F0 T 
  have Q1 : FnOk l.prog w K mg base CX0 2 f1 _ ["stand", "one", "other", "thing"] spLeads := ok_Leads F1 T k0 b0 m0 (Q0.mono (by decide))
  have Q2 : FnOk l.prog w K mg base CX0 1 f2 _ ["thing"] spWhole := ok_Whole F2 T 
  have Q3 : FnOk l.prog w K mg base CX0 2 f3 _ ["thing", "low", "high"] spWithin := ok_Within F3 T k2 b2 m2 (Q2.mono (by decide))
  have Q4 : FnOk l.prog w K mg base CX0 3 f4 _ ["stand", "one", "other", "thing"] spIsWay := ok_IsWay F4 T k1 b1 m1 (Q1.mono (by decide))
  have Q5 : FnOk l.prog w K mg base CX0 3 f5 _ ["many", "stand", "thing"] spNums := ok_Nums F5 T k3 b3 m3 (Q3.mono (by decide))
  have Q6 : FnOk l.prog w K mg base CX0 4 f6 _ ["many", "stand", "thing"] spORing := ok_ORing F6 T k4 b4 m4 (Q4.mono (by decide))
  have Q7 : FnOk l.prog w K mg base CX0 5 f7 _ ["many", "stand", "thing"] spHold := ok_Hold F7 T k5 b5 m5 (Q5.mono (by decide)) k6 b6 m6 (Q6.mono (by decide))
  have Q8 : FnOk l.prog w K mg base CX0 1 f8 _ ["_law_script", "_law_k"] (spCell K) := ok_Cell F8 T 
  have Q9 : FnOk l.prog w K mg base CX0 1 f9 _ ["_law_cell"] spOpened := ok_Opened F9 T 
  have Q10 : FnOk l.prog w K mg base CX0 1 f10 _ ["_law_deck", "_law_most"] spDraw := ok_Draw F10 T 
  have QL : FnOk l.prog w K mg base CX0 1 f10 _ ["_law_deck", "_law_most"] spDrawW := ok_DrawW F10 T 
  have Q11 : FnOk l.prog w K mg base CX0 2 f11 _ ["_law_deck", "_law_often", "_law_great"] spRare := ok_Rare F11 T k10 b10 m10 (Q10.mono (by decide))
  have Q12 : FnOk l.prog w K mg base CX0 2 f12 _ ["_law_deck", "_law_many"] spTwo := ok_Two F12 T k10 b10 m10 (Q10.mono (by decide))
  have Q13 : FnOk l.prog w K mg base CX0 2 f13 _ ["_law_deck", "_law_many"] spNamed := ok_Named F13 T k10 b10 m10 (Q10.mono (by decide))
  have Q14 : FnOk l.prog w K mg base CX0 2 f14 _ ["_law_deck"] spHeavy := ok_Heavy F14 T k10 b10 m10 (Q10.mono (by decide))
  have Q15 : FnOk l.prog w K mg base CX0 3 f15 _ ["_law_deck", "_law_many", "_law_few", "_law_great"] spDStand := ok_DStand F15 T k10 b10 m10 (Q10.mono (by decide)) k11 b11 m11 (Q11.mono (by decide)) k13 b13 m13 (Q13.mono (by decide)) k12 b12 m12 (Q12.mono (by decide)) k14 b14 m14 (Q14.mono (by decide))
  have Q16 : FnOk l.prog w K mg base CX0 1 f16 _ ["_law_many", "_law_ties"] spParting := ok_Parting F16 T 
  have Q17 : FnOk l.prog w K mg base CX0 1 f17 _ ["_law_ties", "_law_names"] spLLeads := ok_LLeads F17 T 
  have Q18 : FnOk l.prog w K mg base CX0 1 f18 _ ["_law_many", "_law_stand"] spLRing := ok_LRing F18 T 
  have Q19 : FnOk l.prog w K mg base CX0 2 f19 _ ["_law_many", "_law_stand", "_law_thing"] spDueOf := ok_DueOf F19 T k17 b17 m17 (Q17.mono (by decide))
  have Q20 : FnOk l.prog w K mg base CX0 1 f20 _ ["_law_thing", "_law_many", "_law_way"] spDeep := ok_Deep F20 T 
  have Q21 : FnOk l.prog w K mg base CX0 2 f21 _ ["_law_deck", "_law_many", "_law_good"] spOdd := ok_Odd F21 T k10 b10 m10 (QL.mono (by decide)) k20 b20 m20 (Q20.mono (by decide))
  have Q22 : FnOk l.prog w K mg base CX0 2 f22 _ ["_law_deck", "_law_many", "_law_good", "_law_one"] spOddT := ok_OddT F22 T k10 b10 m10 (QL.mono (by decide))
  have Q23 : FnOk l.prog w K mg base CX0 2 f23 _ ["_law_many", "_law_stand"] spFound := ok_Found F23 T k16 b16 m16 (Q16.mono (by decide)) k18 b18 m18 (Q18.mono (by decide))
  exact ok_Law F24 T k10 b10 m10 (Q10.mono (by decide)) k9 b9 m9 (Q9.mono (by decide)) k8 b8 m8 (Q8.mono (by decide)) k15 b15 m15 (Q15.mono (by decide)) k23 b23 m23 (Q23.mono (by decide)) k21 b21 m21 (Q21.mono (by decide)) k22 b22 m22 (Q22.mono (by decide)) k19 b19 m19 (Q19.mono (by decide)) k7 b7 m7 (Q7.mono (by decide))
theorem walk {l : PySem.W.OpenLaw} {q : Program} {loose : List Str} {XP : (Str → Option Value) → Heap → Prop} {YP : World → Heap → Prop} {d : DefRec} {K : Params → PySem.W.Frag} (hn : l.most = some 63) (hdf : d.params.defaults = [])
    (hY : ∀ (w : World) (h : Heap), YP w h → (K w.params).In h)
    (F : ∀ (w : World) (mg : Str → Option Value) (fa : Addr) (h : Heap), (K w.params).In h → h.Ns mainGlobals mg → mg d.name = some (.ref fa) →
      ∃ fd : FuncData, (∀ (s : Shared) (u : Value), BindsTo s fd ⟨[u], []⟩ [("_law_script", u)]) ∧ ∀ base : Heap, (K w.params).In base → base.Ns mainGlobals mg → FnOk l.prog w (K w.params) mg base CX0 6 fa fd ["_law_script"] (spLaw (K w.params))) :
    PySem.W.WalkO q loose XP YP l.row.toRowW d [] (fun f vs => PySem.call f vs) :=
  L2.walk_of (n := 63) (k := 6) (x := "_law_script") (CX := fun _ => CX0) (sp := fun w => spLaw (K w.params)) hn (by decide) hdf ⟨rfl, by decide, by decide, rfl⟩ hY F (fun _ _ a ns hl _ hS => ⟨a, ns, rfl, hS, hl, fun _ => rfl⟩) fun _ _ _ _ _ z => z
end K56
open PySem PySem.W PyProof.Rows
set_option maxRecDepth 100000 in
set_option maxHeartbeats 0 in
theorem PySem.Challenge.cw_joinedever_k56_things_that_are_no_tellin_holds : PySem.Challenge.rw_joinedever_k56_things_that_are_no_tellin.Holds := by
  w_on; o_law; k_head; (case hw => w_witness2)
  k_fill
  refine K56.walk (l := PySem.Challenge.rw_joinedever_k56_things_that_are_no_tellin) rfl rfl (fun w h Y => PySem.W.kIn_of Y) ?F
  case F =>
    intro w mg fa h KX G hmg
    refine' K56.all_mk KX G hmg ?a0 ?l0 ?c0 ?k0 ?a1 ?l1 ?c1 ?k1 ?a2 ?l2 ?c2 ?k2 ?a3 ?l3 ?c3 ?k3 ?a4 ?l4 ?c4 ?k4 ?a5 ?l5 ?c5 ?k5 ?a6 ?l6 ?c6 ?k6 ?a7 ?l7 ?c7 ?k7 ?a8 ?l8 ?c8 ?k8 ?a9 ?l9 ?c9 ?k9 ?a10 ?l10 ?c10 ?k10 ?a11 ?l11 ?c11 ?k11 ?a12 ?l12 ?c12 ?k12 ?a13 ?l13 ?c13 ?k13 ?a14 ?l14 ?c14 ?k14 ?a15 ?l15 ?c15 ?k15 ?a16 ?l16 ?c16 ?k16 ?a17 ?l17 ?c17 ?k17 ?a18 ?l18 ?c18 ?k18 ?a19 ?l19 ?c19 ?k19 ?a20 ?l20 ?c20 ?k20 ?a21 ?l21 ?c21 ?k21 ?a22 ?l22 ?c22 ?k22 ?a23 ?l23 ?c23 ?k23 ?a24 ?l24 ?c24 ?k24 ?i0 ?z0 ?z1 ?z2 ?z3 ?z4 ?z5 ?z6 ?z7 ?z8 ?z9 ?z10 ?z11 ?z12 ?z13 ?z14 ?z15
    (case a0 => k_is)
    (case l0 => k_is)
    (case c0 => k_is)
    (case k0 => k_is)
    (case a1 => k_is)
    (case l1 => k_is)
    (case c1 => k_is)
    (case k1 => k_is)
    (case a2 => k_is)
    (case l2 => k_is)
    (case c2 => k_is)
    (case k2 => k_is)
    (case a3 => k_is)
    (case l3 => k_is)
    (case c3 => k_is)
    (case k3 => k_is)
    (case a4 => k_is)
    (case l4 => k_is)
    (case c4 => k_is)
    (case k4 => k_is)
    (case a5 => k_is)
    (case l5 => k_is)
    (case c5 => k_is)
    (case k5 => k_is)
    (case a6 => k_is)
    (case l6 => k_is)
    (case c6 => k_is)
    (case k6 => k_is)
    (case a7 => k_is)
    (case l7 => k_is)
    (case c7 => k_is)
    (case k7 => k_is)
    (case a8 => k_is)
    (case l8 => k_is)
    (case c8 => k_is)
    (case k8 => k_is)
    (case a9 => k_is)
    (case l9 => k_is)
    (case c9 => k_is)
    (case k9 => k_is)
    (case a10 => k_is)
    (case l10 => k_is)
    (case c10 => k_is)
    (case k10 => k_is)
    (case a11 => k_is)
    (case l11 => k_is)
    (case c11 => k_is)
    (case k11 => k_is)
    (case a12 => k_is)
    (case l12 => k_is)
    (case c12 => k_is)
    (case k12 => k_is)
    (case a13 => k_is)
    (case l13 => k_is)
    (case c13 => k_is)
    (case k13 => k_is)
    (case a14 => k_is)
    (case l14 => k_is)
    (case c14 => k_is)
    (case k14 => k_is)
    (case a15 => k_is)
    (case l15 => k_is)
    (case c15 => k_is)
    (case k15 => k_is)
    (case a16 => k_is)
    (case l16 => k_is)
    (case c16 => k_is)
    (case k16 => k_is)
    (case a17 => k_is)
    (case l17 => k_is)
    (case c17 => k_is)
    (case k17 => k_is)
    (case a18 => k_is)
    (case l18 => k_is)
    (case c18 => k_is)
    (case k18 => k_is)
    (case a19 => k_is)
    (case l19 => k_is)
    (case c19 => k_is)
    (case k19 => k_is)
    (case a20 => k_is)
    (case l20 => k_is)
    (case c20 => k_is)
    (case k20 => k_is)
    (case a21 => k_is)
    (case l21 => k_is)
    (case c21 => k_is)
    (case k21 => k_is)
    (case a22 => k_is)
    (case l22 => k_is)
    (case c22 => k_is)
    (case k22 => k_is)
    (case a23 => k_is)
    (case l23 => k_is)
    (case c23 => k_is)
    (case k23 => k_is)
    (case a24 => k_is)
    (case l24 => k_is)
    (case c24 => k_is)
    (case k24 => k_is)
    (case i0 => k_is)
    (case z0 => k_is)
    (case z1 => k_is)
    (case z2 => k_is)
    (case z3 => k_is)
    (case z4 => k_is)
    (case z5 => k_is)
    (case z6 => k_is)
    (case z7 => k_is)
    (case z8 => k_is)
    (case z9 => k_is)
    (case z10 => k_is)
    (case z11 => k_is)
    (case z12 => k_is)
    (case z13 => k_is)
    (case z14 => k_is)
    (case z15 => k_is)
