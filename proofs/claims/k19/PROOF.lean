import PyProof.Rows.All
import Wide.All
import OpenK.AllK
import Wide.FinOn
import Lean
import PyProof.EqAt
import PyProof.EqKinds
import PyProof.TupleCall
import PySem.Challenge.RW_joinedever_k19_marks_refused
import PyProof.Draws
import PyProof.ZipIter
import PyProof.TupleIter
import PyProof.ListRange
import PyProof.CollectWalk
import KE.KSortTup
import KE.KDictSum
import PyProof.Rows.Range3
import KE.KEqDict
import KE.KRevIter
import PyProof.EnumStmt
import Flt.Len
import PyProof.CallStr
import PyProof.ReprLen
import PyProof.StrLawsRepr
set_option Elab.async false
set_option linter.all false
set_option maxRecDepth 100000
namespace L2
open PySem PySem.Spec PyProof.Rows
abbrev Key := Sum Int Str
def keyIs : Key → Value → Bool
  | .inl k, v => Value.isInt k v
  | .inr x, v => Value.isStrOf x v
def keyH (w : World) : Key → Int
  | .inl k => hashInt k
  | .inr x => hashStr w x
theorem keyIs_shape : ∀ {k : Key} {v : Value}, keyIs k v = true → (∃ i t, k = Sum.inl i ∧ v = Value.int i t) ∨ (∃ x t, k = Sum.inr x ∧ v = Value.str x t)
  | .inl i, v, h => by
    obtain ⟨t, e⟩ := Value.isInt_shape (k := i) (v := v) h
    exact .inl ⟨i, t, rfl, e⟩
  | .inr x, v, h => by
    obtain ⟨t, e⟩ := Value.isStrOf_shape (x := x) (v := v) h
    exact .inr ⟨x, t, rfl, e⟩
theorem keyIs_int (i : Int) (t : Tok) : keyIs (.inl i) (.int i t) = true := by simp [keyIs, Value.isInt]
theorem keyIs_str (x : Str) (t : Tok) : keyIs (.inr x) (.str x t) = true := by simp [keyIs, Value.isStrOf]
theorem key_ll (a b : Int) : decide ((Sum.inl a : Key) = Sum.inl b) = (a == b) := by
  by_cases e : a = b
  · subst e; simp
  · have h : ¬ (Sum.inl a : Key) = Sum.inl b := fun q => e (Sum.inl.inj q)
    rw [decide_eq_false h]
    exact (beq_eq_false_iff_ne.mpr e).symm
theorem key_rr (a b : Str) : decide ((Sum.inr a : Key) = Sum.inr b) = decide (a = b) := by
  by_cases e : a = b
  · subst e; simp
  · have h : ¬ (Sum.inr a : Key) = Sum.inr b := fun q => e (Sum.inr.inj q)
    rw [decide_eq_false h, decide_eq_false e]
theorem key_lr (a : Int) (b : Str) : decide ((Sum.inl a : Key) = Sum.inr b) = false := decide_eq_false (fun q => nomatch q)
theorem key_rl (a : Str) (b : Int) : decide ((Sum.inr a : Key) = Sum.inl b) = false := decide_eq_false (fun q => nomatch q)
def mixKind (prog : Program) (w : World) : PySem.KeyKind prog w Key where
  is := keyIs
  hash := keyH w
  inj := fun v a b ha hb => by
    rcases keyIs_shape ha with ⟨i, t, rfl, rfl⟩ | ⟨x, t, rfl, rfl⟩
    · rcases keyIs_shape hb with ⟨j, u, rfl, e⟩ | ⟨y, u, rfl, e⟩
      · injection e with e1 _; rw [e1]
      · exact nomatch e
    · rcases keyIs_shape hb with ⟨j, u, rfl, e⟩ | ⟨y, u, rfl, e⟩
      · exact nomatch e
      · injection e with e1 _; rw [e1]
  byValue := fun k v h => by
    rcases keyIs_shape h with ⟨i, t, rfl, rfl⟩ | ⟨x, t, rfl, rfl⟩ <;> rfl
  pyHash := fun hv h => by
    rcases keyIs_shape hv with ⟨i, t, rfl, rfl⟩ | ⟨x, t, rfl, rfl⟩
    · exact wpAny_pyHash_int h
    · exact wpAny_pyHash_str h
  eqBool := fun hu hv h => by
    rcases keyIs_shape hu with ⟨i, t, rfl, rfl⟩ | ⟨x, t, rfl, rfl⟩
    · rcases keyIs_shape hv with ⟨j, u, rfl, rfl⟩ | ⟨y, u, rfl, rfl⟩
      · rw [key_ll] at h; exact wpAny_eqBool_int h
      · rw [key_lr] at h; exact SeqAt.EqAt.int_str i t y u _ _ _ _ h
    · rcases keyIs_shape hv with ⟨j, u, rfl, rfl⟩ | ⟨y, u, rfl, rfl⟩
      · rw [key_rl] at h; exact SeqAt.EqAt.str_int x t j u _ _ _ _ h
      · rw [key_rr] at h; exact wpAny_eqBool_str h
  «strs» := fun k x t v h => by
    rcases keyIs_shape h with ⟨i, u, rfl, e⟩ | ⟨y, u, rfl, e⟩
    · exact nomatch e
    · injection e with e1 _
      subst e1
      cases v <;> rfl
theorem mixKind_int (prog : Program) (w : World) (i : Int) (t : Tok) : (mixKind prog w).is (.inl i) (.int i t) = true := keyIs_int i t
theorem mixKind_str (prog : Program) (w : World) (x : Str) (t : Tok) : (mixKind prog w).is (.inr x) (.str x t) = true := keyIs_str x t
end L2
namespace L2
open PySem PySem.Spec PyProof.Rows
inductive V where
  | non | bl (b : Bool) | int (i : Int) | str (x : Str) | byt (b : Array UInt8) | flt (b : UInt64) | ref (a : Addr) | ty (n : String)
  deriving DecidableEq
def RelV : V → Value → Prop
  | .non, u => u = Value.none
  | .bl b, u => u = Value.bool b
  | .int i, u => ∃ t, u = Value.int i t
  | .str x, u => ∃ t, u = Value.str x t
  | .byt b, u => ∃ t, u = Value.bytes b t
  | .flt b, u => ∃ t, u = Value.float b t
  | .ref a, u => u = Value.ref a
  | .ty n, u => u = Value.type n
abbrev Vals : List V → List Value → Prop := Paired RelV
theorem Vals.length {xs : List V} {us : List Value} (r : Vals xs us) : xs.length = us.length := Paired.length r
theorem Vals.get : ∀ {xs : List V} {us : List Value} {i : Nat} {x : V}, Vals xs us → xs[i]? = some x → ∃ u, us[i]? = some u ∧ RelV x u
  | _, _, _, _, .nil, e => by simp at e
  | _, _, 0, _, .cons r _, e => by simp at e; subst e; exact ⟨_, rfl, r⟩
  | _, _, i + 1, x, .cons _ t, e => by
    obtain ⟨u, h1, h2⟩ := Vals.get (i := i) (x := x) t (by simpa using e)
    exact ⟨u, by simpa using h1, h2⟩
theorem Vals.set {x : V} {u : Value} (r : RelV x u) : ∀ {xs : List V} {us : List Value} (i : Nat), Vals xs us → Vals (xs.set i x) (us.set i u)
  | _, _, _, .nil => .nil
  | _, _, 0, .cons _ t => .cons r t
  | _, _, i + 1, .cons q t => .cons q (Vals.set r i t)
theorem Vals.append : ∀ {xs ys : List V} {us ws : List Value}, Vals xs us → Vals ys ws → Vals (xs ++ ys) (us ++ ws)
  | _, _, _, _, .nil, s => s
  | _, _, _, _, .cons r t, s => .cons r (Vals.append t s)
theorem Vals.take : ∀ {xs : List V} {us : List Value} (n : Nat), Vals xs us → Vals (xs.take n) (us.take n)
  | _, _, 0, _ => .nil
  | _, _, _ + 1, .nil => .nil
  | _, _, n + 1, .cons r t => .cons r (Vals.take n t)
theorem Vals.drop : ∀ {xs : List V} {us : List Value} (n : Nat), Vals xs us → Vals (xs.drop n) (us.drop n)
  | _, _, 0, r => r
  | _, _, _ + 1, .nil => .nil
  | _, _, n + 1, .cons _ t => Vals.drop n t
def RelO : Option V → Option Value → Prop
  | some v, some u => RelV v u
  | none, none => True
  | _, _ => False
def KV {κ : Type} : List (κ × V) → List (κ × Value) → Prop := Paired fun (p : κ × V) (q : κ × Value) => p.1 = q.1 ∧ RelV p.2 q.2
def kV : Key → V
  | .inl i => .int i
  | .inr x => .str x
inductive HO where
  | lst (xs : List V)
  | tup (xs : List V)
  | dK (kvs : List (Key × V)) | dT (kvs : List (List Key × V))
  | set (S : Int → Bool) (n : Nat)
  | ins (C dx : Addr) (fs : List (Str × V))
  | own (x : Addr)
  | xd (fs : List (Str × V))
  | met (f x : Addr)
  | rng (lo hi : Int)
  | frz (o : Obj) (u : HO)
  | tbl (ps : Array Value)
  | ext (φ : Heap → Prop)
abbrev Hp := Addr → Option HO
def upd (H : Hp) (a : Addr) (o : HO) : Hp := fun b => if b = a then some o else H b
theorem upd_same {H : Hp} {a : Addr} {o : HO} : upd H a o a = some o := by unfold upd; rw [if_pos rfl]
theorem upd_ne {H : Hp} {a b : Addr} {o : HO} (h : b ≠ a) : upd H a o b = H b := by unfold upd; rw [if_neg h]
theorem upd_upd {H : Hp} {a : Addr} {o u : HO} : upd (upd H a o) a u = upd H a u := by
  funext b; unfold upd; split <;> rfl
theorem ne_of {H : Hp} {a b : Addr} {o u : HO} (h : H a = some o) (h' : H b = some u) (d : o ≠ u) : a ≠ b := by
  intro e; subst e; rw [h] at h'; exact d (Option.some.inj h')
theorem ne_of_none {H : Hp} {a b : Addr} {o : HO} (h : H a = some o) (h' : H b = none) : a ≠ b := by
  intro e; subst e; rw [h] at h'; cases h'
def IsTupN (h : Heap) (a : Addr) (items : Array Value) : Prop := ∃ o, h.get? a = some o ∧ o.cls = .type "tuple" ∧ o.dict = none ∧ ∃ n, o.data = .seq items n
theorem IsTupN.new (h : Heap) (items : Array Value) : IsTupN (h.push { cls := .type "tuple", data := .seq items }) h.objs.size items := ⟨_, Heap.get?_push_size _ rfl, rfl, rfl, _, rfl⟩
theorem IsTupN.tup {h : Heap} {a : Addr} {items : Array Value} (x : IsTupN h a items) : IsTup h a items := let ⟨o, e, c, _, n, d⟩ := x; ⟨o, e, c, n, d⟩
section
variable (P : Program) (w : World)
def ObjOk (H : Hp) (h : Heap) (a : Addr) : HO → Prop
  | .lst xs => xs.length ≤ sizeLine ∧ ∃ (its : List Value) (n : Nat), Vals xs its ∧ h.get? a = some { cls := .type "list", data := .seq its.toArray n }
  | .tup xs => xs.length ≤ sizeLine ∧ ∃ its : List Value, Vals xs its ∧ IsTupN h a its.toArray
  | .dK kvs => kvs.length ≤ sizeLine ∧ (a == sysModules) = false ∧ ∃ vs, KV kvs vs ∧ h.DictOf (mixKind P w) a vs
  | .dT kvs => kvs.length ≤ sizeLine ∧ (a == sysModules) = false ∧ ∃ xs : List (List Key × Addr × Value),
      Paired (fun (p : List Key × V) (q : List Key × Addr × Value) => p.1 = q.1 ∧ H q.2.1 = some (.tup (p.1.map kV)) ∧ RelV p.2 q.2.2) kvs xs ∧
      ∃ o es ep, h.get? a = some o ∧ o.ExactDict ∧ o.data = .dict es ep ∧ es.toList = xs.map (entryOfKey (tupleKind (mixKind P w))) ∧ (xs.map (·.1)).Nodup
  | .set S n => h.SetOf (intKind P w) a S n
  | .ins C dx fs => H dx = some (.own a) ∧ fs.length ≤ 1000 ∧ dx ≠ a ∧ h.get? a = some (PySem.W.instObj C dx) ∧
      ∃ mA, h.Ns1 dx mA ∧ (∀ f, RelO (fs.lookup f) (mA f)) ∧ PySem.Within mA (fs.map (·.1))
  | .own _ => ∃ o, h.get? a = some o
  | .xd fs => ∃ mA, h.Ns1 a mA ∧ ∀ f, RelO (fs.lookup f) (mA f)
  | .rng lo hi => ∃ t u v, h.get? a = some { cls := .type "range", data := .fields #[.int lo t, .int hi u, .int 1 v] }
  | .frz o u => h.get? a = some o ∧ ObjOk H h a u
  | .tbl ps => h.get? a = some { cls := .none, data := .fields ps }
  | .met f x => h.get? a = some (PySem.W.methodObj (.ref f) (.ref x))
  | .ext φ => φ h ∧ (∃ o, h.get? a = some o) ∧ ∀ h1 h2 : Heap, φ h1 → (∀ o, h1.get? a = some o → h2.get? a = some o) → φ h2
def HOk (H : Hp) (h : Heap) : Prop := ∀ a o, H a = some o → ObjOk P w H h a o
end
section
variable {P : Program} {w : World} {H H' : Hp} {h h' : Heap} {a : Addr} {o : HO}
theorem ObjOk.lt (x : ObjOk P w H h a o) : a < h.objs.size := by
  cases o with
  | lst xs => obtain ⟨_, _, _, _, e⟩ := x; exact Heap.lt_size e
  | tup xs => obtain ⟨_, _, _, p⟩ := x; exact p.tup.lt
  | dK kvs => obtain ⟨_, _, _, _, o, _, _, e, _⟩ := x; exact Heap.lt_size e
  | dT kvs => obtain ⟨_, _, _, _, o, _, _, e, _⟩ := x; exact Heap.lt_size e
  | set S n => obtain ⟨o, _, _, _, e, _⟩ := x; exact Heap.lt_size e
  | ins C dx fs => obtain ⟨_, _, _, e, _⟩ := x; exact Heap.lt_size e
  | own y => obtain ⟨_, e⟩ := x; exact Heap.lt_size e
  | xd fs => obtain ⟨_, ⟨_, _, _, e, _⟩, _⟩ := x; exact Heap.lt_size e
  | rng lo hi => obtain ⟨_, _, _, e⟩ := x; exact Heap.lt_size e
  | frz ob u => obtain ⟨e, _⟩ := x; exact Heap.lt_size e
  | tbl ps => exact Heap.lt_size (show h.get? a = some _ from x)
  | met f y => exact Heap.lt_size (show h.get? a = some _ from x)
  | ext φ => obtain ⟨_, ⟨_, e⟩, _⟩ := x; exact Heap.lt_size e
theorem Paired.mapP {α β : Type} {F G : α → β → Prop} : ∀ {l₁ : List α} {l₂ : List β}, Paired F l₁ l₂ → (∀ a b, F a b → G a b) → Paired G l₁ l₂
  | _, _, .nil, _ => .nil
  | _, _, .cons r t, f => .cons (f _ _ r) (Paired.mapP t f)
theorem ObjOk.stay (x : ObjOk P w H h a o) (k : ∀ b u, (b = a ∨ H b = some (.own a)) → h.get? b = some u → h'.get? b = some u)
    (ho : ∀ b, H b = some (.own a) → H' b = some (.own a)) (ht : ∀ b xs, H b = some (.tup xs) → H' b = some (.tup xs)) : ObjOk P w H' h' a o := by
  induction o with
  | lst xs => obtain ⟨z, its, n, r, e⟩ := x; exact ⟨z, its, n, r, k _ _ (.inl rfl) e⟩
  | tup xs => obtain ⟨z, its, r, ob, e, c⟩ := x; exact ⟨z, its, r, ob, k _ _ (.inl rfl) e, c⟩
  | dK kvs => obtain ⟨z, y, vs, r, ob, es, ep, e, c⟩ := x; exact ⟨z, y, vs, r, ob, es, ep, k _ _ (.inl rfl) e, c⟩
  | dT kvs =>
    obtain ⟨z, y, xs, r, ob, es, ep, e, c⟩ := x
    exact ⟨z, y, xs, Paired.mapP r fun p q z => ⟨z.1, ht _ _ z.2.1, z.2.2⟩, ob, es, ep, k _ _ (.inl rfl) e, c⟩
  | set S n => obtain ⟨ob, es, ep, t, e, c⟩ := x; exact ⟨ob, es, ep, t, k _ _ (.inl rfl) e, c⟩
  | ins C dx fs =>
    obtain ⟨d, z, ne, e, mA, ⟨od, es, ep, e2, c⟩, r⟩ := x
    exact ⟨ho _ d, z, ne, k _ _ (.inl rfl) e, mA, ⟨od, es, ep, k _ _ (.inr d) e2, c⟩, r⟩
  | own y => obtain ⟨ob, e⟩ := x; exact ⟨ob, k _ _ (.inl rfl) e⟩
  | xd fs => obtain ⟨mA, ⟨od, es, ep, e, c⟩, r⟩ := x; exact ⟨mA, ⟨od, es, ep, k _ _ (.inl rfl) e, c⟩, r⟩
  | rng lo hi => obtain ⟨t, u, v, e⟩ := x; exact ⟨t, u, v, k _ _ (.inl rfl) e⟩
  | frz ob u ih => obtain ⟨e, q⟩ := x; exact ⟨k _ _ (.inl rfl) e, ih q⟩
  | tbl ps =>
    have e : h.get? a = some { cls := .none, data := .fields ps } := x
    show h'.get? a = some { cls := .none, data := .fields ps }
    exact k a _ (.inl rfl) e
  | met f y =>
    have e : h.get? a = some (PySem.W.methodObj (.ref f) (.ref y)) := x
    show h'.get? a = some (PySem.W.methodObj (.ref f) (.ref y))
    exact k a _ (.inl rfl) e
  | ext φ => obtain ⟨p, ⟨o, e⟩, st⟩ := x; exact ⟨st _ _ p fun o q => k _ _ (.inl rfl) q, ⟨o, k _ _ (.inl rfl) e⟩, st⟩
theorem HOk.lt (x : HOk P w H h) (e : H a = some o) : a < h.objs.size := (x a o e).lt
theorem HOk.fresh (x : HOk P w H h) (e : h.objs.size ≤ a) : H a = none := by
  cases q : H a with
  | none => rfl
  | some u => exact absurd (Nat.lt_of_lt_of_le (x.lt q) e) (Nat.lt_irrefl _)
theorem HOk.kept (x : HOk P w H h) (k : ∀ b u, h.get? b = some u → h'.get? b = some u) : HOk P w H h' := fun a o e =>
  (x a o e).stay (fun b u _ q => k b u q) (fun _ q => q) fun _ _ q => q
theorem HOk.laid (x : HOk P w H h) (k : ∀ b u, h.get? b = some u → h'.get? b = some u) (hp : h.objs.size ≤ a) (new : ObjOk P w (upd H a o) h' a o) : HOk P w (upd H a o) h' := fun b u e => by
  have hn := x.fresh hp
  by_cases hb : b = a
  · subst hb; rw [upd_same] at e; cases e; exact new
  · rw [upd_ne hb] at e
    exact (x b u e).stay (fun c v _ q => k c v q) (fun c q => by rw [upd_ne (ne_of_none q hn)]; exact q) fun c xs q => by rw [upd_ne (ne_of_none q hn)]; exact q
end
def Rd (H : Hp) (a : Addr) (u : HO) : Prop := H a = some u ∨ ∃ o, H a = some (.frz o u)
theorem Rd.ok {P : Program} {w : World} {H : Hp} {h : Heap} {a : Addr} {u : HO} (r : Rd H a u) (x : HOk P w H h) : ObjOk P w H h a u := by
  rcases r with r | ⟨o, r⟩
  · exact x a u r
  · obtain ⟨_, q⟩ := x a _ r
    exact q
def Mut : Option HO → Prop
  | some (.lst _) => True
  | some (.dK _) => True
  | some (.dT _) => True
  | some (.set _ _) => True
  | some (.ins _ _ _) => True
  | some (.ext _) => True
  | _ => False
section
variable {P : Program} {w : World} {H : Hp} {h h' : Heap} {x e : Addr} {o' : HO}
theorem HOk.write (ok : HOk P w H h) (mu : Mut (H x)) (he : e = x ∨ H e = some (.own x)) (k : ∀ b u, b ≠ e → h.get? b = some u → h'.get? b = some u) (heo : ∃ u, h'.get? e = some u)
    (new : ObjOk P w (upd H x o') h' x o') : HOk P w (upd H x o') h' := fun b u q => by
  have nown : ∀ c y, H c = some (.own y) → c ≠ x := fun c y r z => by subst z; rw [r] at mu; exact mu
  have ntup : ∀ c xs, H c = some (.tup xs) → c ≠ x := fun c xs r z => by subst z; rw [r] at mu; exact mu
  by_cases hb : b = x
  · subst hb; rw [upd_same] at q; cases q; exact new
  · rw [upd_ne hb] at q
    by_cases hbe : b = e
    · have q' : H b = some (.own x) := by
        rcases he with z | z
        · exact absurd (hbe.trans z) hb
        · rw [hbe]; exact z
      rw [q] at q'; cases q'
      obtain ⟨v, hv⟩ := heo
      exact ⟨v, by rw [hbe]; exact hv⟩
    · refine (ok b u q).stay (fun c v hc r => k c v ?_ r) (fun c r => by rw [upd_ne (nown c b r)]; exact r) fun c xs r => by rw [upd_ne (ntup c xs r)]; exact r
      rcases hc with rfl | hc
      · exact hbe
      · rintro rfl
        rcases he with z | z
        · exact nown c b hc z
        · rw [hc] at z; cases z; exact hb rfl
end
structure Un (fs ex : List Addr) (H H' : Hp) (h h' : Heap) : Prop where
  keep : ∀ b o, h.get? b = some o → H b = none → b ∉ fs → b ∉ ex → h'.get? b = some o
  slot : ∀ b o, h.get? b = some o → H b = none → b ∈ fs → b ∉ ex → ∃ sl, h'.get? b = some { o with slots := sl }
  free : ∀ b o, h.get? b = some o → H b = none → b ∉ ex → H' b = none
  there : ∀ b o, h.get? b = some o → b ∉ ex → ∃ o', h'.get? b = some o'
  tups : ∀ b xs, H b = some (.tup xs) → H' b = some (.tup xs)
  frzs : ∀ b o u, H b = some (.frz o u) → H' b = some (.frz o u)
  tbls : ∀ b ps, H b = some (.tbl ps) → ∃ more, H' b = some (.tbl (ps ++ more))
section
variable {fs fs' ex ex' : List Addr} {H H1 H2 : Hp} {h h1 h2 h' : Heap} {a x e : Addr} {o : HO}
theorem Un.any (u : Un fs ex H H1 h h1) {b : Addr} {ob : Obj} (q : h.get? b = some ob) (n : H b = none) (hx : b ∉ ex) : ∃ sl, h1.get? b = some { ob with slots := sl } := by
  by_cases hb : b ∈ fs
  · exact u.slot b ob q n hb hx
  · exact ⟨ob.slots, u.keep b ob q n hb hx⟩
theorem Un.trans (a : Un fs ex H H1 h h1) (b : Un fs ex H1 H2 h1 h2) : Un fs ex H H2 h h2 where
  keep := fun c ob q n hc hx => b.keep c ob (a.keep c ob q n hc hx) (a.free c ob q n hx) hc hx
  slot := fun c ob q n hc hx => by
    obtain ⟨sl, e1⟩ := a.slot c ob q n hc hx
    obtain ⟨sl', e2⟩ := b.slot c _ e1 (a.free c ob q n hx) hc hx
    exact ⟨sl', e2⟩
  free := fun c ob q n hx => by
    obtain ⟨o', e1⟩ := a.there c ob q hx
    exact b.free c o' e1 (a.free c ob q n hx) hx
  there := fun c ob q hx => by
    obtain ⟨o', e1⟩ := a.there c ob q hx
    exact b.there c o' e1 hx
  tups := fun c xs q => b.tups c xs (a.tups c xs q)
  frzs := fun c ob xs q => b.frzs c ob xs (a.frzs c ob xs q)
  tbls := fun c ps q => by
    obtain ⟨m1, e1⟩ := a.tbls c ps q
    obtain ⟨m2, e2⟩ := b.tbls c _ e1
    exact ⟨m1 ++ m2, by rw [e2, Array.append_assoc]⟩
theorem Un.kept (k : ∀ b u, h.get? b = some u → h'.get? b = some u) : Un fs ex H H h h' :=
  ⟨fun b ob q _ _ _ => k b ob q, fun b ob q _ _ _ => ⟨ob.slots, k b ob q⟩, fun _ _ _ n _ => n, fun b ob q _ => ⟨ob, k b ob q⟩, fun _ _ q => q, fun _ _ _ q => q, fun _ ps q => ⟨#[], by rw [q]; simp⟩⟩
theorem Un.refl : Un fs ex H H h h := Un.kept fun _ _ q => q
theorem Un.laid (k : ∀ b u, h.get? b = some u → h'.get? b = some u) (hp : h.objs.size ≤ a) (hn : H a = none) : Un fs ex H (upd H a o) h h' where
  keep := fun b u q _ _ _ => k b u q
  slot := fun b u q _ _ _ => ⟨u.slots, k b u q⟩
  free := fun b u q n _ => by rw [upd_ne (Nat.ne_of_lt (Nat.lt_of_lt_of_le (Heap.lt_size q) hp))]; exact n
  there := fun b u q _ => ⟨u, k b u q⟩
  tups := fun b xs q => by rw [upd_ne (ne_of_none q hn)]; exact q
  frzs := fun b u xs q => by rw [upd_ne (ne_of_none q hn)]; exact q
  tbls := fun b ps q => ⟨#[], by rw [upd_ne (ne_of_none q hn), q]; simp⟩
theorem Un.write (mu : Mut (H x)) (he : e = x ∨ H e = some (.own x)) (k : ∀ b u, b ≠ e → h.get? b = some u → h'.get? b = some u) (heo : ∃ u, h'.get? e = some u) : Un fs ex H (upd H x o) h h' := by
  have hx : ∀ b, H b = none → b ≠ x := fun b n z => by subst z; rw [n] at mu; exact mu
  have hb : ∀ b, H b = none → b ≠ e := fun b n z => by
    subst z
    rcases he with r | r
    · exact hx b n r
    · rw [n] at r; cases r
  have hm : ∀ b u, H b = some u → ¬ Mut (some u) → b ≠ x := fun b u q nm z => by subst z; rw [q] at mu; exact nm mu
  refine ⟨fun b u q n _ _ => k b u (hb b n) q, fun b u q n _ _ => ⟨u.slots, k b u (hb b n) q⟩, fun b u q n _ => by rw [upd_ne (hx b n)]; exact n, fun b u q _ => ?_,
    fun b xs q => by rw [upd_ne (hm b _ q fun z => z)]; exact q, fun b u xs q => by rw [upd_ne (hm b _ q fun z => z)]; exact q, fun b ps q => ⟨#[], by rw [upd_ne (hm b _ q fun z => z), q]; simp⟩⟩
  by_cases hbe : b = e
  · subst hbe; exact heo
  · exact ⟨u, k b u hbe q⟩
end
def trk (h : Heap) (H : Hp) : List Addr := (List.range h.objs.size).filter fun a => (H a).isSome
def hidT (h : Heap) (H : Hp) : Heap := PySem.W.hideAll h (trk h H)
theorem hidT_size (h : Heap) (H : Hp) : (hidT h H).objs.size = h.objs.size := PySem.W.hideAll_size _ _
theorem hidT_get {h : Heap} {H : Hp} {b : Addr} {o : Obj} (e : h.get? b = some o) (n : H b = none) : (hidT h H).get? b = some o :=
  PySem.W.hideAll_get _ e fun hm => by
    have q : (H b).isSome = true := (List.mem_filter.mp hm).2
    rw [n] at q; simp at q
theorem of_hidT {h : Heap} {H : Hp} {b : Addr} {o : Obj} (e : (hidT h H).get? b = some o) : h.get? b = some o ∧ H b = none := by
  have e' : h.get? b = some o := PySem.W.of_hideAll (trk h H) e
  refine ⟨e', ?_⟩
  cases q : H b with
  | none => rfl
  | some x =>
    have hm : b ∈ trk h H := List.mem_filter.mpr ⟨List.mem_range.mpr (Heap.lt_size e'), by simp [q]⟩
    have z : (hidT h H).get? b = none := PySem.W.hideAll_none (trk h H) hm
    rw [z] at e; cases e
end L2
namespace L2
open PySem PySem.Spec PyProof.Rows
structure Mod (K : PySem.W.Frag) (mg : Str → Option Value) (base : Heap) : Prop where
  kin : K.In base
  glob : base.Ns mainGlobals mg
  blt : ∃ mb, base.Ns builtinsNs mb ∧ ∀ x : Str, x ≠ "__name__" → mb x = bootBuiltins x
  nolimit : base.NoLimit
structure Cx where
  prog : Program
  w : World
  K : PySem.W.Frag
  mg : Str → Option Value
  base : Heap
  A : Around
  N : List Str
  s₀ : Shared
  H₀ : Hp
  env : Env
  outer : List Env
  stack : List Env
  ex : List Addr
  fn : Str → Bool
  calm : Bool
  pn : List (Addr × Obj)
  xe : Value → Shared → Prop
def frs (l : List Env) : List Addr := l.filterMap (·.frame)
abbrev Cx.fs (X : Cx) : List Addr := frs X.outer
def Vis (sc : Scope) (x : Str) : Prop := sc.names.lookup x = some .local ∨ sc.names.lookup x = some .cell ∨ sc.names.lookup x = some .free
def Loc (sc : Scope) (x : Str) : Prop := sc.names.lookup x = some .local ∨ sc.names.lookup x = some .cell
def Look (env : Env) (h : Heap) (m : Str → Option Value) (x : Str) (u : Value) : Prop :=
  (env.kindOf x = some .local ∧ m x = some u) ∨ ((env.kindOf x = some .cell ∨ env.kindOf x = some .free) ∧ ∃ c, env.cells.lookup x = some c ∧ h.IsCell c (some u))
structure Cx.Ok (X : Cx) : Prop where
  mod : Mod X.K X.mg X.base
  kind : X.env.scope.kind = .function
  glob : X.env.globals = mainGlobals
  blt : X.env.builtins = builtinsNs
  above : X.s₀.heap.objs.size ≤ X.env.locals
  inj : ∀ x y c, X.env.cells.lookup x = some c → X.env.cells.lookup y = some c → x = y
  has : ∀ x, (X.env.kindOf x = some .cell ∨ X.env.kindOf x = some .free) → ∃ c, X.env.cells.lookup x = some c
  cab : ∀ x c, X.fn x = true → X.env.cells.lookup x = some c → X.s₀.heap.objs.size ≤ c
  hd : X.calm = true → X.A.handled = none
  frames : X.A.frames = some X.stack
  stk : X.stack = X.outer ∨ (X.stack = X.env :: X.outer ∧ X.env.frame = some X.env.locals)
  exf : ∀ b ∈ X.ex, b ≠ X.env.locals ∧ ∀ x c, X.env.cells.lookup x = some c → c ≠ b
  bs : ∀ b o, X.base.get? b = some o → X.s₀.heap.get? b = some o ∧ X.H₀ b = none
  bsz : X.base.objs.size ≤ X.s₀.heap.objs.size
  noex : ∀ b o, X.base.get? b = some o → b ∉ X.ex
  exfs : ∀ b ∈ X.ex, b ∉ X.fs
  funs : X.s₀.heap.FunFrames X.base X.outer
  frf : ∀ b ∈ X.fs, X.H₀ b = none
structure Inv (X : Cx) (pins : List (Addr × Obj)) (σ : List (Option V)) (H : Hp) (s : Shared) : Prop where
  ok : X.Ok
  os : s.os = X.s₀.os
  bare : AllBare s.gens
  base : Un X.fs X.ex X.H₀ H X.s₀.heap s.heap
  loc : ∃ m, s.heap.Ns X.env.locals m ∧ ∀ (i : Nat) (x : Str) (v : V), X.N[i]? = some x → σ[i]? = some (some v) → Vis X.env.scope x → ∃ u, RelV v u ∧ Look X.env s.heap m x u
  cell : ∀ x c, X.env.cells.lookup x = some c → ∃ v, s.heap.IsCell c v
  free : H X.env.locals = none
  freeC : ∀ x c, X.env.cells.lookup x = some c → H c = none
  pin : ∀ p ∈ X.pn ++ pins, s.heap.get? p.1 = some p.2 ∧ H p.1 = none ∧ p.1 ≠ X.env.locals ∧ p.1 ∉ X.fs ∧ ∀ v, p.2.data ≠ .cell v
  hok : HOk X.prog X.w H s.heap
  len : σ.length = X.N.length
section
variable {X : Cx} {pins : List (Addr × Obj)} {σ : List (Option V)} {H H' : Hp} {s : Shared} {h' : Heap}
theorem Cx.Ok.nofr (ok : X.Ok) {b : Addr} {o : Obj} (e : X.base.get? b = some o) : b ∉ X.fs := fun hb => by
  have := (ok.funs.mem hb).1
  rw [e] at this; cases this
theorem Inv.bs (I : Inv X pins σ H s) : ∀ b o, X.base.get? b = some o → s.heap.get? b = some o ∧ H b = none := fun b o e =>
  ⟨I.base.keep b o (I.ok.bs b o e).1 (I.ok.bs b o e).2 (I.ok.nofr e) (I.ok.noex b o e), I.base.free b o (I.ok.bs b o e).1 (I.ok.bs b o e).2 (I.ok.noex b o e)⟩
theorem Inv.bk (I : Inv X pins σ H s) : ∀ b o, X.base.get? b = some o → s.heap.get? b = some o := fun b o e => (I.bs b o e).1
theorem Inv.mod (I : Inv X pins σ H s) : Mod X.K X.mg X.base := I.ok.mod
theorem Inv.kIn (I : Inv X pins σ H s) : X.K.In s.heap := I.ok.mod.kin.keeps I.bk
theorem Inv.lt (I : Inv X pins σ H s) : X.env.locals < s.heap.objs.size := let ⟨_, hn, _⟩ := I.loc; hn.lt
theorem Inv.sz (I : Inv X pins σ H s) : X.s₀.heap.objs.size ≤ s.heap.objs.size := Nat.le_trans I.ok.above (Nat.le_of_lt I.lt)
theorem Inv.nofs (I : Inv X pins σ H s) {a : Addr} (h : s.heap.objs.size ≤ a) : a ∉ X.fs := fun hb => by
  obtain ⟨_, o, ho, _⟩ := I.ok.funs.mem hb
  exact absurd (Nat.lt_of_lt_of_le (Heap.lt_size ho) (Nat.le_trans I.sz h)) (Nat.lt_irrefl _)
theorem Inv.cne (I : Inv X pins σ H s) : ∀ x c, X.env.cells.lookup x = some c → c ≠ X.env.locals := fun x c e z => by
  obtain ⟨v, o, ho, hd⟩ := I.cell x c e
  obtain ⟨m, ⟨o', es, ep, ho', hd', _⟩, _⟩ := I.loc
  rw [z, ho'] at ho; cases ho; rw [hd'] at hd; cases hd
theorem Inv.funs (I : Inv X pins σ H s) : s.heap.FunFrames X.base X.outer := by
  have all : ∀ (l : List Env), (∀ b ∈ frs l, b ∈ X.fs) → X.s₀.heap.FunFrames X.base l → s.heap.FunFrames X.base l := by
    intro l
    induction l with
    | nil => intro _ _; trivial
    | cons env r ih =>
      intro hs hl
      obtain ⟨hk, ⟨L, o, hf, hn, ho, hd⟩, hr⟩ := hl
      have hL : L ∈ X.fs := hs L (by unfold frs; rw [List.filterMap_cons, hf]; exact List.mem_cons_self)
      obtain ⟨sl, e⟩ := I.base.slot L o ho (I.ok.frf L hL) hL fun z => I.ok.exfs L z hL
      exact ⟨hk, ⟨L, _, hf, hn, e, hd⟩, ih (fun b hb => hs b (by unfold frs; rw [List.filterMap_cons, hf]; exact List.mem_cons_of_mem _ hb)) hr⟩
  exact all X.outer (fun _ hb => hb) I.ok.funs
theorem Inv.stack (I : Inv X pins σ H s) : s.heap.FunFrames X.base X.stack := by
  rcases I.ok.stk with e | ⟨e, hf⟩
  · rw [e]; exact I.funs
  · rw [e]
    obtain ⟨m, hn, _⟩ := I.loc
    refine .cons (by rw [I.ok.kind]; decide) hf hn ?_ I.funs
    exact Heap.get?_none_of_le (Nat.le_trans I.ok.bsz I.ok.above)
theorem Inv.stkSub (I : Inv X pins σ H s) : ∀ b ∈ frs X.stack, b ∈ X.env.locals :: X.fs := fun b hb => by
  rcases I.ok.stk with e | ⟨e, hf⟩
  · rw [e] at hb; exact List.mem_cons_of_mem _ hb
  · rw [e] at hb
    unfold frs at hb
    rw [List.filterMap_cons, hf] at hb
    exact hb
theorem Inv.stkFree (I : Inv X pins σ H s) : ∀ b ∈ frs X.stack, H b = none := fun b hb => by
  rcases List.mem_cons.mp (I.stkSub b hb) with e | hb
  · rw [e]; exact I.free
  · obtain ⟨_, o, ho, _⟩ := I.ok.funs.mem hb
    exact I.base.free b o ho (I.ok.frf b hb) fun z => I.ok.exfs b z hb
theorem Inv.step {g' : Array GenState} {t' : Nat} {d' : Drawn} {ch : List Addr} (I : Inv X pins σ H s)
    (hch : ∀ b ∈ ch, (b ∈ X.ex ∨ X.s₀.heap.objs.size ≤ b) ∧ b ≠ X.env.locals ∧ (∀ x c, X.env.cells.lookup x = some c → c ≠ b) ∧ ∀ p ∈ X.pn ++ pins, p.1 ≠ b)
    (keep : ∀ b o, b ≠ X.env.locals → b ∉ X.fs → b ∉ ch → s.heap.get? b = some o → H b = none → h'.get? b = some o)
    (slot : ∀ b o, b ≠ X.env.locals → b ∈ X.fs → b ∉ ch → s.heap.get? b = some o → H b = none → ∃ sl, h'.get? b = some { o with slots := sl }) (free : ∀ b o, b ∉ ch → s.heap.get? b = some o → H b = none → H' b = none)
    (there : ∀ b o, b ∉ ch → s.heap.get? b = some o → ∃ o', h'.get? b = some o')
    (tups : ∀ b xs, H b = some (.tup xs) → H' b = some (.tup xs)) (frzs : ∀ b o u, H b = some (.frz o u) → H' b = some (.frz o u)) (tbls : ∀ b ps, H b = some (.tbl ps) → ∃ more, H' b = some (.tbl (ps ++ more)))
    (ns : ∀ m, s.heap.Ns X.env.locals m → h'.Ns X.env.locals m) (hok : HOk X.prog X.w H' h') (hg : AllBare g') :
    Inv X pins σ H' { s with heap := h', gens := g', drawn := d', toks := t' } := by
  have neL : ∀ b o, X.s₀.heap.get? b = some o → b ≠ X.env.locals := fun b o e => Nat.ne_of_lt (Nat.lt_of_lt_of_le (Heap.lt_size e) I.ok.above)
  have neC : ∀ b o, X.s₀.heap.get? b = some o → b ∉ X.ex → b ∉ ch := fun b o e hx hb => by
    rcases (hch b hb).1 with z | z
    · exact hx z
    · exact absurd (Nat.lt_of_lt_of_le (Heap.lt_size e) z) (Nat.lt_irrefl _)
  have cellK : ∀ x c, X.env.cells.lookup x = some c → ∀ v, s.heap.IsCell c v → h'.IsCell c v := fun x c e v ⟨o, ho, hd⟩ => by
    have nch : c ∉ ch := fun z => (hch c z).2.2.1 x c e rfl
    by_cases hc : c ∈ X.fs
    · obtain ⟨sl, q⟩ := slot c o (I.cne x c e) hc nch ho (I.freeC x c e)
      exact ⟨_, q, hd⟩
    · exact ⟨o, keep c o (I.cne x c e) hc nch ho (I.freeC x c e), hd⟩
  refine ⟨I.ok, I.os, hg, ⟨fun b o e n hb hx => ?_, fun b o e n hb hx => ?_, fun b o e n hx => ?_, fun b o e hx => ?_, fun b xs e => tups b xs (I.base.tups b xs e), fun b o xs e => frzs b o xs (I.base.frzs b o xs e), fun b ps e => ?_⟩, ?_, fun x c e => ?_, ?_, fun x c e => ?_, fun p hp => ?_, hok, I.len⟩
  · exact keep b o (neL b o e) hb (neC b o e hx) (I.base.keep b o e n hb hx) (I.base.free b o e n hx)
  · obtain ⟨sl, e1⟩ := I.base.slot b o e n hb hx
    obtain ⟨sl', e2⟩ := slot b _ (neL b o e) hb (neC b o e hx) e1 (I.base.free b o e n hx)
    exact ⟨sl', e2⟩
  · obtain ⟨o', e1⟩ := I.base.there b o e hx
    exact free b o' (neC b o e hx) e1 (I.base.free b o e n hx)
  · obtain ⟨o', e1⟩ := I.base.there b o e hx
    exact there b o' (neC b o e hx) e1
  · obtain ⟨m1, e1⟩ := I.base.tbls b ps e
    obtain ⟨m2, e2⟩ := tbls b _ e1
    exact ⟨m1 ++ m2, by rw [e2, Array.append_assoc]⟩
  · obtain ⟨m, hn, hl⟩ := I.loc
    refine ⟨m, ns m hn, fun i x v e1 e2 e3 => ?_⟩
    obtain ⟨u, r, l⟩ := hl i x v e1 e2 e3
    refine ⟨u, r, ?_⟩
    rcases l with l | ⟨k, c, e, z⟩
    · exact .inl l
    · exact .inr ⟨k, c, e, cellK x c e _ z⟩
  · obtain ⟨v, z⟩ := I.cell x c e
    exact ⟨v, cellK x c e v z⟩
  · obtain ⟨m, ⟨o, _, _, ho, _⟩, _⟩ := I.loc
    exact free _ o (fun z => (hch _ z).2.1 rfl) ho I.free
  · obtain ⟨v, o, ho, hd⟩ := I.cell x c e
    exact free c o (fun z => (hch c z).2.2.1 x c e rfl) ho (I.freeC x c e)
  · obtain ⟨e, n, ne, nf, d⟩ := I.pin p hp
    have nch : p.1 ∉ ch := fun z => (hch p.1 z).2.2.2 p hp rfl
    exact ⟨keep p.1 p.2 ne nf nch e n, free p.1 p.2 nch e n, ne, nf, d⟩
theorem Inv.un {t' : Nat} (I : Inv X pins σ H s) (u : Un X.fs [] H H' s.heap h') (hok : HOk X.prog X.w H' h') : Inv X pins σ H' { s with heap := h', toks := t' } := by
  obtain ⟨m, ⟨o, es, ep, ho, r⟩, _⟩ := id I.loc
  obtain ⟨sl, hL⟩ := u.any ho I.free (by simp)
  exact I.step (g' := s.gens) (d' := s.drawn) (ch := []) (fun _ z => nomatch z) (fun b o _ hb _ e n => u.keep b o e n hb (by simp)) (fun b o _ hb _ e n => u.slot b o e n hb (by simp)) (fun b o _ e n => u.free b o e n (by simp)) (fun b o _ e => u.there b o e (by simp)) u.tups u.frzs u.tbls (fun m' hm => by
    obtain ⟨o', es', ep', ho', r'⟩ := hm
    rw [ho] at ho'; cases ho'
    exact ⟨_, es', ep', hL, r'⟩) hok I.bare
theorem Inv.call {g' : Array GenState} {t' : Nat} {d' : Drawn} {ch : List Addr} (I : Inv X pins σ H s) (u : Un (frs X.stack) ch H H' s.heap h') (hok : HOk X.prog X.w H' h') (hg : AllBare g')
    (hch : ∀ b ∈ ch, (b ∈ X.ex ∨ X.s₀.heap.objs.size ≤ b) ∧ b ≠ X.env.locals ∧ (∀ x c, X.env.cells.lookup x = some c → c ≠ b) ∧ ∀ p ∈ X.pn ++ pins, p.1 ≠ b) :
    Inv X pins σ H' { s with heap := h', gens := g', drawn := d', toks := t' } := by
  obtain ⟨m, ⟨o, es, ep, ho, r⟩, _⟩ := id I.loc
  obtain ⟨sl, hL⟩ := u.any ho I.free fun z => (hch _ z).2.1 rfl
  exact I.step (ch := ch) hch (fun b o hL hb hc e n => u.keep b o e n (fun z => (List.mem_cons.mp (I.stkSub b z)).elim hL hb) hc) (fun b o _ _ hc e n => u.any e n hc) (fun b o hc e n => u.free b o e n hc) (fun b o hc e => u.there b o e hc) u.tups u.frzs u.tbls (fun m' hm => by
    obtain ⟨o', es', ep', ho', r'⟩ := hm
    rw [ho] at ho'; cases ho'
    exact ⟨_, es', ep', hL, r'⟩) hok hg
theorem Inv.turned {t' : Nat} {it : Addr} (I : Inv X pins σ H s) (k : ∀ b o, b ≠ it → s.heap.get? b = some o → h'.get? b = some o) (hn : H it = none) (hL : it ≠ X.env.locals)
    (h1 : it ∈ X.ex ∨ X.s₀.heap.objs.size ≤ it) (h2 : ∀ x c, X.env.cells.lookup x = some c → c ≠ it) (h3 : ∀ p ∈ X.pn ++ pins, p.1 ≠ it) : Inv X pins σ H { s with heap := h', toks := t' } := by
  have nit : ∀ b u, H b = some u → b ≠ it := fun b u e z => by rw [z, hn] at e; cases e
  refine I.step (g' := s.gens) (d' := s.drawn) (ch := [it]) (fun b hb => ?_) (fun b o _ _ hc e _ => k b o (fun z => hc (by simp [z])) e) (fun b o _ _ hc e _ => ⟨o.slots, k b o (fun z => hc (by simp [z])) e⟩) (fun _ _ _ _ n => n)
    (fun b o hc e => ⟨o, k b o (fun z => hc (by simp [z])) e⟩) (fun _ _ e => e) (fun _ _ _ e => e) (fun b ps e => ⟨#[], by rw [e]; simp⟩) (fun m hm => ?_) (fun b u e => ?_) I.bare
  · have e : b = it := by simpa using hb
    subst e
    exact ⟨h1, hL, h2, h3⟩
  · obtain ⟨o, es, ep, ho, r⟩ := hm
    exact ⟨o, es, ep, k _ o (Ne.symm hL) ho, r⟩
  · refine (I.hok b u e).stay (fun c v hc q => k c v ?_ q) (fun _ q => q) fun _ _ q => q
    rcases hc with z | z
    · rw [z]; exact nit b u e
    · exact nit c _ z
theorem Inv.tok (I : Inv X pins σ H s) (t : Nat) : Inv X pins σ H { s with toks := t } := I.un (h' := s.heap) (t' := t) Un.refl I.hok
theorem Inv.kept {t' : Nat} (I : Inv X pins σ H s) (k : ∀ b u, s.heap.get? b = some u → h'.get? b = some u) : Inv X pins σ H { s with heap := h', toks := t' } := I.un (Un.kept k) (I.hok.kept k)
theorem Inv.laid {a : Addr} {o : HO} {t' : Nat} (I : Inv X pins σ H s) (k : ∀ b u, s.heap.get? b = some u → h'.get? b = some u) (hp : s.heap.objs.size ≤ a) (new : ObjOk X.prog X.w (upd H a o) h' a o) :
    Inv X pins σ (upd H a o) { s with heap := h', toks := t' } := I.un (Un.laid k hp (I.hok.fresh hp)) (I.hok.laid k hp new)
theorem Inv.write {x e : Addr} {o : HO} {t' : Nat} (I : Inv X pins σ H s) (mu : Mut (H x)) (he : e = x ∨ H e = some (.own x)) (k : ∀ b u, b ≠ e → s.heap.get? b = some u → h'.get? b = some u) (heo : ∃ u, h'.get? e = some u)
    (new : ObjOk X.prog X.w (upd H x o) h' x o) : Inv X pins σ (upd H x o) { s with heap := h', toks := t' } := I.un (Un.write mu he k heo) (I.hok.write mu he k heo new)
theorem Inv.pins_of {pins' : List (Addr × Obj)} (I : Inv X pins σ H s) (h : ∀ p ∈ pins', s.heap.get? p.1 = some p.2 ∧ H p.1 = none ∧ p.1 ≠ X.env.locals ∧ p.1 ∉ X.fs ∧ ∀ v, p.2.data ≠ .cell v) : Inv X pins' σ H s :=
  ⟨I.ok, I.os, I.bare, I.base, I.loc, I.cell, I.free, I.freeC, fun p hp => (List.mem_append.mp hp).elim (fun z => I.pin p (List.mem_append_left _ z)) (h p), I.hok, I.len⟩
theorem nodup_ix {N : List Str} (hN : N.Nodup) {i j : Nat} {x : Str} (a : N[i]? = some x) (b : N[j]? = some x) : i = j := by
  obtain ⟨h1, e1⟩ := List.getElem?_eq_some_iff.mp a
  obtain ⟨h2, e2⟩ := List.getElem?_eq_some_iff.mp b
  exact (List.getElem_inj hN).mp (e1.trans e2.symm)
theorem store_ok2 {M : Model} {A : Around} {E : Value → Shared → Prop} {i : Nat} {x : Str} {v : V} {u : Value} {Q : Unit → Shared → Prop} (I : Inv X pins σ H s) (hN : X.N.Nodup) (hi : X.N[i]? = some x) (hx : Loc X.env.scope x) (r : RelV v u)
    (h : ∀ s', Inv X pins (σ.set i (some v)) H s' → (∃ a, Heap.SameBut a s.heap s'.heap ∧ (a = X.env.locals ∨ X.env.cells.lookup x = some a)) → Q () s') (hf : X.fn x = true ∨ X.env.scope.names.lookup x = some .local := by first | exact .inl rfl | exact .inr rfl | assumption) : wpAny M A (storeName X.env x u) Q E s := by
  obtain ⟨m, hn, hl⟩ := id I.loc
  have hcls : (X.env.scope.kind == .class || (X.env.scope.kind == .module && X.env.locals != X.env.globals)) = false := by rw [I.ok.kind]; rfl
  have hiσ : i < σ.length := by rw [I.len]; exact (List.getElem?_eq_some_iff.mp hi).1
  have cne := I.cne
  have tracked : ∀ {a : Addr} {h' : Heap}, (∃ o, s.heap.get? a = some o ∧ H a = none) → Heap.SameBut a s.heap h' → HOk X.prog X.w H h' := fun {a h'} ha hs b ob e => by
    obtain ⟨_, _, hfree⟩ := ha
    refine (I.hok b ob e).stay (fun c w' hc q => (hs.2 c ?_).trans q) (fun _ q => q) fun _ _ q => q
    rintro rfl
    rcases hc with rfl | hc
    · rw [hfree] at e; cases e
    · rw [hfree] at hc; cases hc
  rcases hx with hk | hk
  · refine wpAny_storeName_local hk hn (fun h' hn' hs => ?_) hcls
    obtain ⟨oL, _, _, hoL, _⟩ := id hn
    refine h _ ⟨I.ok, I.os, I.bare, ⟨fun b o e n hb hx => ?_, fun b o e n hb hx => ?_, I.base.free, fun b o e hx => ?_, I.base.tups, I.base.frzs, I.base.tbls⟩, ⟨_, hn', fun j y v' e1 e2 e3 => ?_⟩, fun y c e => ?_, I.free, I.freeC, fun p hp => ?_, tracked ⟨oL, hoL, I.free⟩ hs, by simpa using I.len⟩ ⟨_, hs, .inl rfl⟩
    · exact (hs.2 b (Nat.ne_of_lt (Nat.lt_of_lt_of_le (Heap.lt_size e) I.ok.above))).trans (I.base.keep b o e n hb hx)
    · obtain ⟨sl, e1⟩ := I.base.slot b o e n hb hx
      exact ⟨sl, (hs.2 b (Nat.ne_of_lt (Nat.lt_of_lt_of_le (Heap.lt_size e) I.ok.above))).trans e1⟩
    · obtain ⟨o', e1⟩ := I.base.there b o e hx
      exact ⟨o', (hs.2 b (Nat.ne_of_lt (Nat.lt_of_lt_of_le (Heap.lt_size e) I.ok.above))).trans e1⟩
    · by_cases hj : j = i
      · subst hj
        rw [hi] at e1; cases e1
        rw [List.getElem?_set_self hiσ] at e2
        cases e2
        exact ⟨u, r, .inl ⟨hk, by simp⟩⟩
      · rw [List.getElem?_set_ne (Ne.symm hj)] at e2
        obtain ⟨u', r', q⟩ := hl j y v' e1 e2 e3
        refine ⟨u', r', ?_⟩
        rcases q with ⟨k, e⟩ | ⟨k, c, e, z⟩
        · refine .inl ⟨k, ?_⟩
          have : y ≠ x := fun e => hj (nodup_ix hN e1 (e ▸ hi))
          simp [this, e]
        · exact .inr ⟨k, c, e, z.sameBut hs (cne y c e)⟩
    · obtain ⟨w', z⟩ := I.cell y c e
      exact ⟨w', z.sameBut hs (cne y c e)⟩
    · obtain ⟨e, n, ne, nf, d⟩ := I.pin p hp
      exact ⟨(hs.2 p.1 ne).trans e, n, ne, nf, d⟩
  · have hfn : X.fn x = true := by
      rcases hf with z | z
      · exact z
      · rw [z] at hk; cases hk
    obtain ⟨c, hc⟩ := I.ok.has x (.inl hk)
    obtain ⟨w', z⟩ := I.cell x c hc
    refine wpAny_storeName_cell I.ok.kind hk hc z (fun h' hc' hs => ?_)
    obtain ⟨oc, hoc, hocd⟩ := id z
    refine h { s with heap := h' } ⟨I.ok, I.os, I.bare, ⟨fun b o e n hb hx => ?_, fun b o e n hb hx => ?_, I.base.free, fun b o e hx => ?_, I.base.tups, I.base.frzs, I.base.tbls⟩, ⟨m, hn.sameBut hs (Ne.symm (cne x c hc)), fun j y v' e1 e2 e3 => ?_⟩, fun y c' e => ?_, I.free, I.freeC, fun p hp => ?_, tracked ⟨oc, hoc, I.freeC x c hc⟩ hs, by simpa using I.len⟩ ⟨c, hs, .inr hc⟩
    · exact (hs.2 b (Nat.ne_of_lt (Nat.lt_of_lt_of_le (Heap.lt_size e) (I.ok.cab x c hfn hc)))).trans (I.base.keep b o e n hb hx)
    · obtain ⟨sl, e1⟩ := I.base.slot b o e n hb hx
      exact ⟨sl, (hs.2 b (Nat.ne_of_lt (Nat.lt_of_lt_of_le (Heap.lt_size e) (I.ok.cab x c hfn hc)))).trans e1⟩
    · obtain ⟨o', e1⟩ := I.base.there b o e hx
      exact ⟨o', (hs.2 b (Nat.ne_of_lt (Nat.lt_of_lt_of_le (Heap.lt_size e) (I.ok.cab x c hfn hc)))).trans e1⟩
    · by_cases hj : j = i
      · subst hj
        rw [hi] at e1; cases e1
        rw [List.getElem?_set_self hiσ] at e2
        cases e2
        exact ⟨u, r, .inr ⟨.inl hk, c, hc, hc'⟩⟩
      · rw [List.getElem?_set_ne (Ne.symm hj)] at e2
        obtain ⟨u', r', q⟩ := hl j y v' e1 e2 e3
        refine ⟨u', r', ?_⟩
        rcases q with q | ⟨k, c', e, z'⟩
        · exact .inl q
        · refine .inr ⟨k, c', e, z'.sameBut hs ?_⟩
          rintro rfl
          exact hj (nodup_ix hN e1 (I.ok.inj _ _ _ e hc ▸ hi))
    · by_cases hcc : c' = c
      · subst hcc; exact ⟨_, hc'⟩
      · obtain ⟨w2, z2⟩ := I.cell y c' e
        exact ⟨w2, z2.sameBut hs hcc⟩
    · obtain ⟨e, n, ne, nf, d⟩ := I.pin p hp
      refine ⟨(hs.2 p.1 ?_).trans e, n, ne, nf, d⟩
      intro q
      rw [q, hoc] at e
      have q' : oc = p.2 := Option.some.inj e
      exact d w' (by rw [← q']; exact hocd)
theorem store_ok {M : Model} {A : Around} {E : Value → Shared → Prop} {i : Nat} {x : Str} {v : V} {u : Value} {Q : Unit → Shared → Prop} (I : Inv X pins σ H s) (hN : X.N.Nodup) (hi : X.N[i]? = some x) (hx : Loc X.env.scope x) (r : RelV v u)
    (h : ∀ s', Inv X pins (σ.set i (some v)) H s' → Q () s') (hf : X.fn x = true ∨ X.env.scope.names.lookup x = some .local := by first | exact .inl rfl | exact .inr rfl | assumption) : wpAny M A (storeName X.env x u) Q E s :=
  store_ok2 I hN hi hx r (fun s' I' _ => h s' I') hf
theorem Inv.call' {s' : Shared} {ch : List Addr} (I : Inv X pins σ H s) (ho : s'.os = s.os) (u : Un (frs X.stack) ch H H' s.heap s'.heap) (hok : HOk X.prog X.w H' s'.heap) (hg : AllBare s'.gens)
    (hch : ∀ b ∈ ch, (b ∈ X.ex ∨ X.s₀.heap.objs.size ≤ b) ∧ b ≠ X.env.locals ∧ (∀ x c, X.env.cells.lookup x = some c → c ≠ b) ∧ ∀ p ∈ X.pn ++ pins, p.1 ≠ b) : Inv X pins σ H' s' := by
  obtain ⟨h', g', d', t', o'⟩ := s'
  have e : o' = s.os := ho
  subst e
  exact I.call (g' := g') (t' := t') (d' := d') u hok hg hch
end
abbrev XK := Value → Option Addr → Hp → Prop
abbrev St := List (Option V)
abbrev VK := V → Hp → Prop
abbrev TE := St → Hp → VK → Prop
abbrev TT := St → Hp → (Bool → Hp → Prop) → Prop
abbrev TA := St → Hp → (List V → Hp → Prop) → Prop
structure Ends where
  nx : St → Hp → Prop
  rt : VK
  bk : St → Hp → Prop := fun _ _ => False
  ct : St → Hp → Prop := fun _ _ => False
abbrev TS := Ends → St → Hp → Prop
def EP (X : Cx) (pins : List (Addr × Obj)) (σ : St) (Q : VK) (u : Value) (s' : Shared) : Prop := ∃ v H', Inv X pins σ H' s' ∧ RelV v u ∧ Q v H'
def TP (X : Cx) (pins : List (Addr × Obj)) (σ : St) (Q : Bool → Hp → Prop) (b : Bool) (s' : Shared) : Prop := ∃ H', Inv X pins σ H' s' ∧ Q b H'
def AP (X : Cx) (pins : List (Addr × Obj)) (σ : St) (Q : List V → Hp → Prop) (us : List Value) (s' : Shared) : Prop := ∃ vs H', Inv X pins σ H' s' ∧ Vals vs us ∧ Q vs H'
def SP (X : Cx) (pins : List (Addr × Obj)) (D : Ends) (f : Flow) (s' : Shared) : Prop :=
  match f with
  | .next => ∃ σ' H', Inv X pins σ' H' s' ∧ D.nx σ' H'
  | .brk => ∃ σ' H', Inv X pins σ' H' s' ∧ D.bk σ' H'
  | .cont => ∃ σ' H', Inv X pins σ' H' s' ∧ D.ct σ' H'
  | .ret u => ∃ v σ' H', Inv X pins σ' H' s' ∧ RelV v u ∧ D.rt v H'
def PE (X : Cx) (e : Expr) (t : TE) : Prop :=
  ∀ (pins : List (Addr × Obj)) (s : Shared) (σ : St) (H : Hp) (Q : VK), Inv X pins σ H s → t σ H Q → wpAny (model X.prog X.w) X.A (eval e X.env) (EP X pins σ Q) X.xe s
def PT (X : Cx) (e : Expr) (t : TT) : Prop :=
  ∀ (pins : List (Addr × Obj)) (s : Shared) (σ : St) (H : Hp) (Q : Bool → Hp → Prop), Inv X pins σ H s → t σ H Q → wpAny (model X.prog X.w) X.A (isTrue e X.env (eval e X.env)) (TP X pins σ Q) X.xe s
def PW (X : Cx) (e : Expr) (t : TT) : Prop :=
  ∀ (whole : Sem Value) (pins : List (Addr × Obj)) (s : Shared) (σ : St) (H : Hp) (Q : Bool → Hp → Prop), Inv X pins σ H s → t σ H Q → wpAny (model X.prog X.w) X.A (isTrue e X.env whole) (TP X pins σ Q) X.xe s
theorem PW.pt {X : Cx} {e : Expr} {t : TT} (h : PW X e t) : PT X e t := h _
def PA (X : Cx) (es : List Expr) (t : TA) : Prop :=
  ∀ (pos : Pos) (pins : List (Addr × Obj)) (s : Shared) (σ : St) (H : Hp) (Q : List V → Hp → Prop), Inv X pins σ H s → t σ H Q → wpAny (model X.prog X.w) X.A (spliced (backTo pos (starEach es X.env))) (AP X pins σ Q) X.xe s
def PS (X : Cx) (st : Stmt) (t : TS) : Prop :=
  ∀ (pins : List (Addr × Obj)) (s : Shared) (σ : St) (H : Hp) (D : Ends), Inv X pins σ H s → t D σ H → wpAny (model X.prog X.w) X.A (exec st X.env) (SP X pins D) X.xe s
def PSs (X : Cx) (st : List Stmt) (t : TS) : Prop :=
  ∀ (pins : List (Addr × Obj)) (s : Shared) (σ : St) (H : Hp) (D : Ends), Inv X pins σ H s → t D σ H → wpAny (model X.prog X.w) X.A (execs st X.env) (SP X pins D) X.xe s
theorem thn {α : Type} {t : Sem α} {Q Q' : α → Shared → Prop} {M : Model} {A : Around} {E : Value → Shared → Prop} {s : Shared} (h : wpAny M A t Q E s) (hQ : ∀ a s, Q a s → Q' a s) : wpAny M A t Q' E s := wpAny_mono h hQ fun _ _ x => x
end L2
namespace L2
open PySem PySem.Spec PyProof.Rows
section
variable {X : Cx}
inductive TVarP (i : Nat) (σ : St) (H : Hp) (Q : VK) : Prop
  | mk (v : _) : (σ[i]? = some (some v)) → (Q v H) → TVarP i σ H Q
def tVar (i : Nat) : TE := fun σ H Q => TVarP i σ H Q
def tC (v : V) : TE := fun _ H Q => Q v H
theorem pe_var {i : Nat} {x : Str} {pos : Pos} (hN : X.N[i]? = some x) (hv : Vis X.env.scope x) (hd : (x == ("__debug__" : Str)) = false := by decide) (hcd : (x == ("__classdict__" : Str)) = false := by decide) : PE X (.Name x pos) (tVar i) := by
  intro pins s σ H Q I h
  obtain ⟨v, e, h⟩ := h
  obtain ⟨m, hn, hl⟩ := I.loc
  obtain ⟨u, r, l⟩ := hl i x v hN e hv
  have fin : EP X pins σ Q u s := ⟨v, H, I, r, h⟩
  rcases l with ⟨hk, hm⟩ | ⟨hk, c, hc, hcell⟩
  · exact wpAny_Name (wpAny_loadName_local I.ok.kind hk hn hm fin) hd
  · rcases hk with hk | hk
    · exact wpAny_Name (wpAny_loadName_cell I.ok.kind hk hc hcell fin) hd
    · exact wpAny_Name (wpAny_loadName_free I.ok.kind hk hc hcell fin hcd) hd
theorem pe_int {i j pos} : PE X (.Constant (.int i) j pos) (tC (.int i)) := fun _ _ _ H _ I h => wpAny_Constant_int ⟨.int i, H, I.tok _, ⟨_, rfl⟩, h⟩
theorem pe_bl {b j pos} : PE X (.Constant (.bool b) j pos) (tC (.bl b)) := fun _ _ _ H _ I h => Constant_bool ⟨.bl b, H, I, rfl, h⟩
theorem pe_non {j pos} : PE X (.Constant .none j pos) (tC .non) := fun _ _ _ H _ I h => Constant_none ⟨.non, H, I, rfl, h⟩
theorem pe_str {x j pos} : PE X (.Constant (.str x) j pos) (tC (.str x)) := fun _ _ _ H _ I h => Calls.Constant_str ⟨.str x, H, I.tok _, ⟨_, rfl⟩, h⟩
def Gl (X : Cx) (x : Str) : Prop := X.env.kindOf x = some .globalImplicit
theorem ld_glob {E : Value → Shared → Prop} {pins : List (Addr × Obj)} {s : Shared} {σ : St} {H : Hp} {x : Str} {u : Value} {pos : Pos} {Q : Value → Shared → Prop} (I : Inv X pins σ H s) (hg : Gl X x) (hm : X.mg x = some u) (h : Q u s)
    (hd : (x == ("__debug__" : Str)) = false := by decide) : wpAny (model X.prog X.w) X.A (eval (.Name x pos) X.env) Q E s :=
  Calls.Name_function_global I.ok.kind hg (Calls.loadGlobal_global (by rw [I.ok.glob]; exact I.mod.glob.keeps I.bk) hm h) hd
theorem ld_blt {E : Value → Shared → Prop} {pins : List (Addr × Obj)} {s : Shared} {σ : St} {H : Hp} {x : Str} {u : Value} {pos : Pos} {Q : Value → Shared → Prop} (I : Inv X pins σ H s) (hg : Gl X x) (hm : X.mg x = none) (hv : bootBuiltins x = some u) (h : Q u s)
    (hn : x ≠ "__name__" := by decide) (hd : (x == ("__debug__" : Str)) = false := by decide) : wpAny (model X.prog X.w) X.A (eval (.Name x pos) X.env) Q E s := by
  obtain ⟨mb, h1, h2⟩ := I.mod.blt
  exact Calls.Name_function_global I.ok.kind hg (Calls.loadGlobal_builtin (by rw [I.ok.glob]; exact I.mod.glob.keeps I.bk) hm (by rw [I.ok.blt]; exact h1.keeps I.bk) ((h2 x hn).trans hv) h) hd
theorem pe_glob {x : Str} {v : V} {u : Value} {pos : Pos} (hg : Gl X x) (hm : X.mg x = some u) (r : RelV v u) (hd : (x == ("__debug__" : Str)) = false := by decide) : PE X (.Name x pos) (tC v) :=
  fun _ _ _ H _ I h => ld_glob I hg hm ⟨v, H, I, r, h⟩ hd
variable {a b : Expr} {ta tb : TE} {pos : Pos}
inductive BlP (x : V) (H : Hp) (Q : Bool → Hp → Prop) : Prop
  | mk (c : Bool) : (x = .bl c) → (Q c H) → BlP x H Q
def tB (t : TE) : TT := fun σ H Q => t σ H fun x H1 => BlP x H1 Q
theorem pt_val {e : Expr} {t : TE} (h : PE X e t) (he : ∀ whole, isTrue e X.env whole = (do let v ← whole; standAt e.pos; holding [v] (truthy v)) := by intro _; rfl) : PT X e (tB t) := by
  intro pins s σ H Q I hw
  refine isTrue_plain (thn (h pins s σ H _ I hw) fun v s1 ⟨x, H1, I1, r1, q1⟩ => ?_) (he _)
  obtain ⟨d, rfl, q⟩ := q1
  cases r1
  exact wpAny_truthy_bool ⟨H1, I1, q⟩
variable {tA tB' : TT} {rest : List Expr}
def tOr (t u : TT) : TT := fun σ H Q => t σ H fun c H1 => if c = true then Q true H1 else u σ H1 Q
def tNot (t : TT) : TT := fun σ H Q => t σ H fun c H1 => Q (!c) H1
theorem pw_or1 (ha : PT X a tA) : PW X (.BoolOp .Or [a] pos) tA := by
  intro wh pins s σ H Q I h
  refine isTrue_or (thn (ha pins s σ H Q I h) fun c s1 e => ?_)
  cases c with
  | false => exact isTrue_or_nil e
  | true => exact e
theorem pw_or (ha : PT X a tA) (hb : PW X (.BoolOp .Or (b :: rest) pos) tB') : PW X (.BoolOp .Or (a :: b :: rest) pos) (tOr tA tB') := by
  intro wh pins s σ H Q I h
  refine isTrue_or (thn (ha pins s σ H _ I h) fun c s1 ⟨H1, I1, q1⟩ => ?_)
  cases c with
  | true => exact ⟨H1, I1, q1⟩
  | false => exact hb wh pins s1 σ H1 Q I1 q1
theorem pt_not (ha : PT X a tA) : PT X (.UnaryOp .Not a pos) (tNot tA) := by
  intro pins s σ H Q I h
  exact isTrue_not (ha pins s σ H (fun c H1 => Q (!c) H1) I h)
def tAndV (ta tb : TE) : TE := fun σ H Q => ta σ H fun x H1 => ∃ c, x = .bl c ∧ if c = true then tb σ H1 Q else Q (.bl false) H1
def tOrV (ta tb : TE) : TE := fun σ H Q => ta σ H fun x H1 => ∃ c, x = .bl c ∧ if c = true then Q (.bl true) H1 else tb σ H1 Q
def tNotV (ta : TE) : TE := fun σ H Q => ta σ H fun x H1 => ∃ c, x = .bl c ∧ Q (.bl (!c)) H1
theorem pe_one {op} {t : TE} (h : PE X a t) : PE X (.BoolOp op [a] pos) t := fun pins s σ H Q I hw => BoolOp_one (h pins s σ H Q I hw)
theorem pe_and (ha : PE X a ta) (hb : PE X (.BoolOp .And (b :: rest) pos) tb) : PE X (.BoolOp .And (a :: b :: rest) pos) (tAndV ta tb) := by
  intro pins s σ H Q I h
  refine BoolOp_and (thn (ha pins s σ H _ I h) fun v s1 ⟨x, H1, I1, r1, q1⟩ => ?_)
  obtain ⟨c, rfl, q1⟩ := q1
  cases r1
  refine wpAny_truthy_bool ?_
  cases c with
  | true => exact hb pins s1 σ H1 Q I1 q1
  | false => exact ⟨.bl false, H1, I1, rfl, q1⟩
theorem pe_or (ha : PE X a ta) (hb : PE X (.BoolOp .Or (b :: rest) pos) tb) : PE X (.BoolOp .Or (a :: b :: rest) pos) (tOrV ta tb) := by
  intro pins s σ H Q I h
  refine BoolOp_or (thn (ha pins s σ H _ I h) fun v s1 ⟨x, H1, I1, r1, q1⟩ => ?_)
  obtain ⟨c, rfl, q1⟩ := q1
  cases r1
  refine wpAny_truthy_bool ?_
  cases c with
  | false => exact hb pins s1 σ H1 Q I1 q1
  | true => exact ⟨.bl true, H1, I1, rfl, q1⟩
theorem pe_not (ha : PE X a ta) : PE X (.UnaryOp .Not a pos) (tNotV ta) := by
  intro pins s σ H Q I h
  refine UnaryOp_ (thn (ha pins s σ H _ I h) fun v s1 ⟨x, H1, I1, r1, q1⟩ => ?_)
  obtain ⟨c, rfl, q1⟩ := q1
  cases r1
  exact not_of (wpAny_truthy_bool ⟨.bl (!c), H1, I1, rfl, q1⟩)
def tIf (t : TT) (ta tb : TE) : TE := fun σ H Q => t σ H fun c H1 => if c = true then ta σ H1 Q else tb σ H1 Q
theorem pe_ifExp {c : Expr} (hc : PT X c tA) (ha : PE X a ta) (hb : PE X b tb) : PE X (.IfExp c a b pos) (tIf tA ta tb) := by
  intro pins s σ H Q I h
  refine wpAny_IfExp (thn (hc pins s σ H _ I h) fun d s1 ⟨H1, I1, q1⟩ => ?_)
  cases d with
  | true => exact ha pins s1 σ H1 Q I1 q1
  | false => exact hb pins s1 σ H1 Q I1 q1
end
end L2
namespace L2
open PySem PySem.Spec PyProof.Rows
def SqL (K : PySem.W.Frag) (H : Hp) (a : Addr) (xs : List V) : Prop :=
  Rd H a (.lst xs) ∨
    ∃ (o : Obj) (its : Array Value) (n : Nat), K.lookup a = some o ∧ o.cls = .type "list" ∧ o.dict = none ∧ o.data = .seq its n ∧ its.size ≤ sizeLine ∧ Vals xs its.toList
def SqT (K : PySem.W.Frag) (H : Hp) (a : Addr) (xs : List V) : Prop :=
  Rd H a (.tup xs) ∨
    ∃ (o : Obj) (its : Array Value) (n : Nat), K.lookup a = some o ∧ o.cls = .type "tuple" ∧ o.data = .seq its n ∧ its.size ≤ sizeLine ∧ Vals xs its.toList
def absV : Value → Option V
  | .none => some .non
  | .bool b => some (.bl b)
  | .int i _ => some (.int i)
  | .str x _ => some (.str x)
  | .bytes b _ => some (.byt b)
  | .float b _ => some (.flt b)
  | .ref a => some (.ref a)
  | .type n => some (.ty n)
  | _ => none
theorem RelV.abs {x : V} {u : Value} (r : RelV x u) : absV u = some x := by
  cases x with
  | non => cases r; rfl
  | bl _ => cases r; rfl
  | int _ => obtain ⟨t, rfl⟩ := r; rfl
  | str _ => obtain ⟨t, rfl⟩ := r; rfl
  | byt _ => obtain ⟨t, rfl⟩ := r; rfl
  | flt _ => obtain ⟨t, rfl⟩ := r; rfl
  | ref _ => cases r; rfl
  | ty _ => cases r; rfl
theorem RelV.inj {x y : V} {u : Value} (r : RelV x u) (q : RelV y u) : x = y := Option.some.inj (r.abs.symm.trans q.abs)
theorem Vals.inj : ∀ {xs ys : List V} {us : List Value}, Vals xs us → Vals ys us → xs = ys
  | _, _, _, .nil, .nil => rfl
  | _, _, _, .cons r t, .cons r' t' => by rw [r.inj r', Vals.inj t t']
section
variable {X : Cx} {pins : List (Addr × Obj)} {σ : St} {H : Hp} {s : Shared} {a : Addr} {xs ys : List V}
theorem SqL.of {K : PySem.W.Frag} (h : H a = some (.lst xs)) : SqL K H a xs := .inl (.inl h)
theorem SqT.of {K : PySem.W.Frag} (h : H a = some (.tup xs)) : SqT K H a xs := .inl (.inl h)
theorem Inv.list (I : Inv X pins σ H s) (h : SqL X.K H a xs) : ∃ its : List Value, Vals xs its ∧ PlainL s.heap a its.toArray ∧ xs.length ≤ sizeLine := by
  rcases h with h | ⟨o, its, n, hk, hc, hd, hs, hz, r⟩
  · obtain ⟨z, its, n, r, e⟩ := h.ok I.hok
    exact ⟨its, r, ⟨_, n, e, rfl, rfl, rfl⟩, z⟩
  · refine ⟨its.toList, r, ⟨o, n, I.kIn a o hk, hc, hd, by simpa using hs⟩, ?_⟩
    have e := r.length
    simp only [Array.length_toList] at e
    omega
theorem Inv.tuple (I : Inv X pins σ H s) (h : SqT X.K H a xs) : ∃ its : List Value, Vals xs its ∧ IsTup s.heap a its.toArray ∧ xs.length ≤ sizeLine := by
  rcases h with h | ⟨o, its, n, hk, hc, hs, hz, r⟩
  · obtain ⟨z, its, r, p⟩ := h.ok I.hok
    exact ⟨its, r, p.tup, z⟩
  · refine ⟨its.toList, r, ⟨o, I.kIn a o hk, hc, n, by simpa using hs⟩, ?_⟩
    have e := r.length
    simp only [Array.length_toList] at e
    omega
theorem Inv.list_inj (I : Inv X pins σ H s) (h : SqL X.K H a xs) (h' : SqL X.K H a ys) : xs = ys := by
  obtain ⟨its, r, ⟨o, n, e, _, _, d⟩, _⟩ := I.list h
  obtain ⟨its', r', ⟨o', n', e', _, _, d'⟩, _⟩ := I.list h'
  rw [e] at e'; cases e'
  rw [d] at d'
  injection d' with d1 _
  have : its = its' := by simpa using congrArg Array.toList d1
  subst this
  exact r.inj r'
theorem Inv.tuple_inj (I : Inv X pins σ H s) (h : SqT X.K H a xs) (h' : SqT X.K H a ys) : xs = ys := by
  obtain ⟨its, r, ⟨o, e, _, n, d⟩, _⟩ := I.tuple h
  obtain ⟨its', r', ⟨o', e', _, n', d'⟩, _⟩ := I.tuple h'
  rw [e] at e'; cases e'
  rw [d] at d'
  injection d' with d1 _
  have : its = its' := by simpa using congrArg Array.toList d1
  subst this
  exact r.inj r'
end
abbrev Cx.wish (X : Cx) (E : Value → Shared → Prop) : Cx := { X with xe := E }
abbrev Cx.nox (X : Cx) : Cx := X.wish fun _ _ => False
theorem Cx.Ok.wish {X : Cx} (ok : X.Ok) (E : Value → Shared → Prop) : (X.wish E).Ok :=
  ⟨ok.mod, ok.kind, ok.glob, ok.blt, ok.above, ok.inj, ok.has, ok.cab, ok.hd, ok.frames, ok.stk, ok.exf, ok.bs, ok.bsz, ok.noex, ok.exfs, ok.funs, ok.frf⟩
theorem Cx.Ok.unwish {X : Cx} {E : Value → Shared → Prop} (ok : (X.wish E).Ok) : X.Ok :=
  ⟨ok.mod, ok.kind, ok.glob, ok.blt, ok.above, ok.inj, ok.has, ok.cab, ok.hd, ok.frames, ok.stk, ok.exf, ok.bs, ok.bsz, ok.noex, ok.exfs, ok.funs, ok.frf⟩
section
variable {X : Cx} {pins : List (Addr × Obj)} {σ : St} {H : Hp} {s : Shared} {E : Value → Shared → Prop}
theorem Inv.wish (I : Inv X pins σ H s) (E : Value → Shared → Prop) : Inv (X.wish E) pins σ H s := ⟨I.ok.wish E, I.os, I.bare, I.base, I.loc, I.cell, I.free, I.freeC, I.pin, I.hok, I.len⟩
theorem Inv.unwish (I : Inv (X.wish E) pins σ H s) : Inv X pins σ H s := ⟨I.ok.unwish, I.os, I.bare, I.base, I.loc, I.cell, I.free, I.freeC, I.pin, I.hok, I.len⟩
theorem SP.unwish {D : Ends} {f : Flow} {s' : Shared} (h : SP (X.wish E) pins D f s') : SP X pins D f s' := by
  cases f with
  | next => obtain ⟨σ', H', I, q⟩ := h; exact ⟨σ', H', I.unwish, q⟩
  | brk => obtain ⟨σ', H', I, q⟩ := h; exact ⟨σ', H', I.unwish, q⟩
  | cont => obtain ⟨σ', H', I, q⟩ := h; exact ⟨σ', H', I.unwish, q⟩
  | ret u => obtain ⟨v, σ', H', I, r, q⟩ := h; exact ⟨v, σ', H', I.unwish, r, q⟩
theorem PSs.nox {st : List Stmt} {t : TS} (h : PSs X.nox st t) : PSs X st t := fun pins s σ H D I hw =>
  wpAny_mono (h pins s σ H D (I.wish _) hw) (fun _ _ q => q.unwish) fun _ _ z => False.elim z
end
section
variable {X : Cx} {st : Stmt} {rest : List Stmt} {t u : TS} {e : Expr} {te : TE} {pos : Pos}
def tNext : TS := fun D σ H => D.nx σ H
def tSeq (t u : TS) : TS := fun D σ H => t { D with nx := u D } σ H
theorem pss_nil : PSs X [] tNext := fun _ _ σ H _ I h => wpAny_execs_nil ⟨σ, H, I, h⟩
theorem pss_cons (h1 : PS X st t) (h2 : PSs X rest u) : PSs X (st :: rest) (tSeq t u) := by
  intro pins s σ H D I h
  refine wpAny_execs_cons (thn (h1 pins s σ H { D with nx := u D } I h) fun f s1 q => ?_)
  cases f with
  | next =>
    obtain ⟨σ', H', I', q⟩ := q
    exact h2 pins s1 σ' H' D I' q
  | ret v => exact q
  | brk => exact q
  | cont => exact q
theorem pss_one (h1 : PS X st t) : PSs X [st] t := by
  intro pins s σ H D I h
  refine wpAny_execs_cons (thn (h1 pins s σ H D I h) fun f s1 q => ?_)
  cases f with
  | next => exact wpAny_execs_nil q
  | ret v => exact q
  | brk => exact q
  | cont => exact q
theorem Inv.quiet {pins : List (Addr × Obj)} {σ : St} {H : Hp} {s : Shared} (I : Inv X pins σ H s) : interactive X.env = false := by simp [interactive, I.ok.kind]
def tDrop (te : TE) : TS := fun D σ H => te σ H fun _ H1 => D.nx σ H1
theorem ps_expr (he : PE X e te) (hs : swapsWith e none pos.line X.env = pure false := by rfl) : PS X (.Expr e pos) (tDrop te) := by
  intro pins s σ H D I h
  exact wpAny_Expr_any (thn (he pins s σ H _ I h) fun v s1 ⟨x, H1, I1, r1, q1⟩ => ⟨σ, H1, I1, q1⟩) I.quiet hs
def tRet (te : TE) : TS := fun D σ H => te σ H D.rt
theorem ps_ret (he : PE X e te) : PS X (.Return (some e) pos) (tRet te) := by
  intro pins s σ H D I h
  exact wpAny_Return_some (thn (he pins s σ H _ I h) fun v s1 ⟨x, H1, I1, r1, q1⟩ => ⟨x, σ, H1, I1, r1, q1⟩)
def tIfS (c : TT) (t u : TS) : TS := fun D σ H => c σ H fun b H1 => if b = true then t D σ H1 else u D σ H1
theorem ps_if {c : Expr} {a b : List Stmt} {tc : TT} (hc : PT X c tc) (ha : PSs X a t) (hb : PSs X b u) : PS X (.If c a b pos) (tIfS tc t u) := by
  intro pins s σ H D I h
  refine wpAny_If (thn (hc pins s σ H _ I h) fun d s1 ⟨H1, I1, q1⟩ => ?_)
  cases d with
  | true => exact ha pins s1 σ H1 D I1 q1
  | false => exact hb pins s1 σ H1 D I1 q1
def tNever : TS := fun _ _ _ => False
theorem ps_never : PS X st tNever := fun _ _ _ _ _ _ h => h.elim
theorem pss_never {sts : List Stmt} : PSs X sts tNever := fun _ _ _ _ _ _ h => h.elim
end
abbrev TG := V → St → Hp → (St → Hp → Prop) → Prop
abbrev TGs := List V → St → Hp → (St → Hp → Prop) → Prop
def PG (X : Cx) (target : Expr) (t : TG) : Prop :=
  ∀ (pins : List (Addr × Obj)) (s : Shared) (σ : St) (H : Hp) (v : V) (u : Value) (Q : St → Hp → Prop), Inv X pins σ H s → RelV v u → t v σ H Q →
    wpAny (model X.prog X.w) X.A (assign target X.env u) (fun _ s' => ∃ σ' H', Inv X pins σ' H' s' ∧ Q σ' H') X.xe s
def PGs (X : Cx) (ts : List Expr) (t : TGs) : Prop :=
  ∀ (pins : List (Addr × Obj)) (s : Shared) (σ : St) (H : Hp) (vs : List V) (us : List Value) (Q : St → Hp → Prop), Inv X pins σ H s → Vals vs us → t vs σ H Q →
    wpAny (model X.prog X.w) X.A (assignInOrder ((assignEach ts X.env).map (·.2)) us) (fun _ s' => ∃ σ' H', Inv X pins σ' H' s' ∧ Q σ' H') X.xe s
abbrev TSet := V → V → V → Hp → (Hp → Prop) → Prop
def PSet (X : Cx) (t : TSet) : Prop :=
  ∀ (pins : List (Addr × Obj)) (s : Shared) (σ : St) (H : Hp) (o i v : V) (ov iv u : Value) (Q : Hp → Prop), Inv X pins σ H s → RelV o ov → RelV i iv → RelV v u → t o i v H Q →
    wpAny (model X.prog X.w) X.A (setItem ov iv u) (fun _ s' => ∃ H', Inv X pins σ H' s' ∧ Q H') X.xe s
abbrev TIp := V → V → Hp → VK → Prop
def PIp (X : Cx) (op : Operator) (t : TIp) : Prop :=
  ∀ (pins : List (Addr × Obj)) (s : Shared) (σ : St) (H : Hp) (x y : V) (v u : Value) (Q : VK), Inv X pins σ H s → RelV x v → RelV y u → t x y H Q →
    wpAny (model X.prog X.w) X.A (inplaceOp op v u) (EP X pins σ Q) X.xe s
section
variable {X : Cx} {pos : Pos}
def gName (i : Nat) : TG := fun v σ H Q => Q (σ.set i (some v)) H
theorem pg_name {i : Nat} {x : Str} (hN : X.N.Nodup) (hi : X.N[i]? = some x) (hx : Loc X.env.scope x) (hf : X.fn x = true ∨ X.env.scope.names.lookup x = some .local := by first | exact .inl rfl | exact .inr rfl | assumption) : PG X (.Name x pos) (gName i) := by
  intro pins s σ H v u Q I r h
  exact wpAny_assign_Name (store_ok I hN hi hx r (fun s' I' => ⟨_, H, I', h⟩) hf)
def gNil : TGs := fun vs σ H Q => vs = [] ∧ Q σ H
def gCons (t : TG) (u : TGs) : TGs := fun vs σ H Q => ∃ v r, vs = v :: r ∧ t v σ H fun σ' H' => u r σ' H' Q
theorem pgs_nil : PGs X [] gNil := by
  intro pins s σ H vs us Q I r h
  obtain ⟨e, h⟩ := h
  subst e
  cases r
  exact assignInOrder_nil ⟨σ, H, I, h⟩
theorem pgs_cons {e : Expr} {es : List Expr} {t : TG} {u : TGs} (h1 : PG X e t) (h2 : PGs X es u)
    (hs : (assignEach (e :: es) X.env).map (·.2) = assign e X.env :: (assignEach es X.env).map (·.2) := by rfl) : PGs X (e :: es) (gCons t u) := by
  intro pins s σ H vs us Q I r h
  obtain ⟨v, vr, e1, h⟩ := h
  subst e1
  cases r with
  | cons r rr =>
    rw [hs]
    refine assignInOrder_cons (thn (h1 pins s σ H _ _ _ I r h) fun _ s1 ⟨σ1, H1, I1, q1⟩ => ?_)
    exact h2 pins s1 σ1 H1 _ _ Q I1 rr q1
def gTup (K : PySem.W.Frag) (n : Nat) (t : TGs) : TG := fun v σ H Q => ∃ a xs, v = .ref a ∧ SqT K H a xs ∧ xs.length = n ∧ t xs σ H Q
theorem pg_tup {es : List Expr} {k : Nat} {t : TGs} {n : Nat} (hc : X.calm = true) (h : PGs X es t)
    (hn : (assignEach es X.env).length = n := by rfl) (hst : (assignEach es X.env).findIdx? (·.1) = none := by rfl) : PG X (.Tuple es k pos) (gTup X.K n t) := by
  intro pins s σ H v u Q I r hw
  obtain ⟨a, xs, e1, hq, hl, hw⟩ := hw
  subst e1
  cases r
  obtain ⟨its, rv, ht, hz⟩ := I.tuple hq
  refine assign_Tuple_tuple (I.ok.hd hc) ht (by simp [hn, ← hl, rv.length]) hst fun h' hx => ?_
  have I1 : Inv X pins σ H { s with heap := h' } := I.kept (t' := s.toks) fun b o e => hx b o (Nat.ne_of_lt (Heap.lt_size e)) e
  exact h pins _ σ H xs _ Q I1 (by simpa using rv) hw
def gSub (to ti : TE) (t : TSet) : TG := fun v σ H Q => to σ H fun o H1 => ti σ H1 fun i H2 => t o i v H2 fun H3 => Q σ H3
theorem pg_sub {o i : Expr} {to ti : TE} {t : TSet} (ho : PE X o to) (hi : PE X i ti) (hs : PSet X t)
    (ha : ∀ v, assign (.Subscript o i pos) X.env v = (do
      let ov ← holding [v] (eval o X.env)
      let iv ← holding [v, ov] (eval i X.env)
      standAt pos
      holding [v, ov, iv] (setItem ov iv v)
      release [v, ov, iv] []) := by intro _; rfl) : PG X (.Subscript o i pos) (gSub to ti t) := by
  intro pins s σ H v u Q I r h
  rw [ha]
  refine wpAny_bind (wpAny_holding (thn (ho pins s σ H _ I h) fun ov s1 ⟨x, H1, I1, r1, q1⟩ => ?_))
  refine wpAny_bind (wpAny_holding (thn (hi pins s1 σ H1 _ I1 q1) fun iv s2 ⟨y, H2, I2, r2, q2⟩ => ?_))
  refine wpAny_bind (wpAny_standAt (wpAny_bind (wpAny_holding (thn (hs pins s2 σ H2 x y v ov iv u _ I2 r1 r2 r q2) fun _ s3 ⟨H3, I3, q3⟩ => ?_))))
  exact wpAny_release ⟨σ, H3, I3, q3⟩
def tAsg (te : TE) (g : TG) : TS := fun D σ H => te σ H fun x H1 => g x σ H1 D.nx
theorem ps_asg {tg e : Expr} {te : TE} {g : TG} (he : PE X e te) (hg : PG X tg g) (hs : swapsWithSole [tg] e pos.line X.env = pure false := by rfl) (hw : swappedStores [tg] e X.env = pure none := by rfl)
    (h1 : (assignEach [tg] X.env).map (·.2) = [assign tg X.env] := by rfl) : PS X (.Assign [tg] e pos) (tAsg te g) := by
  intro pins s σ H D I h
  refine wpAny_Assign_stores (thn (he pins s σ H _ I h) fun v s1 ⟨x, H1, I1, r1, q1⟩ => ?_) hs hw
  rw [h1]
  exact thn (hg pins s1 σ H1 x v _ I1 r1 q1) fun _ s2 q => q
theorem ps_set {i : Nat} {x : Str} {e : Expr} {te : TE} {pos' : Pos} (hN : X.N.Nodup) (hi : X.N[i]? = some x) (hx : Loc X.env.scope x) (he : PE X e te) (hs : swapsWith e (some (.Name x pos')) pos.line X.env = pure false := by rfl) (hf : X.fn x = true ∨ X.env.scope.names.lookup x = some .local := by first | exact .inl rfl | exact .inr rfl | assumption) :
    PS X (.Assign [.Name x pos'] e pos) (tAsg te (gName i)) := by
  intro pins s σ H D I h
  refine wpAny_Assign_Name (thn (he pins s σ H _ I h) fun v s1 ⟨y, H1, I1, r1, q1⟩ => ?_) hs
  exact store_ok I1 hN hi hx r1 (fun s2 I2 => ⟨_, H1, I2, q1⟩) hf
def tAug (i : Nat) (te : TE) (ti : TIp) : TS := fun D σ H => ∃ x, σ[i]? = some (some x) ∧ te σ H fun y H1 => ti x y H1 fun z H2 => D.nx (σ.set i (some z)) H2
theorem ps_aug {i : Nat} {x : Str} {e : Expr} {te : TE} {op : Operator} {ti : TIp} {pos' : Pos} (hN : X.N.Nodup) (hi : X.N[i]? = some x) (hx : Loc X.env.scope x) (he : PE X e te) (ho : PIp X op ti) (hf : X.fn x = true ∨ X.env.scope.names.lookup x = some .local := by first | exact .inl rfl | exact .inr rfl | assumption) :
    PS X (.AugAssign (.Name x pos') op e pos) (tAug i te ti) := by
  intro pins s σ H D I h
  obtain ⟨v, e1, h⟩ := h
  obtain ⟨m, hn, hl⟩ := I.loc
  have vis : Vis X.env.scope x := by rcases hx with k | k; exact .inl k; exact .inr (.inl k)
  obtain ⟨u, r, l⟩ := hl i x v hi e1 vis
  refine wpAny_AugAssign_Name ?_
  have go : wpAny (model X.prog X.w) X.A (eval e X.env) (fun w s₂ => wpAny (model X.prog X.w) X.A (inplaceOp op u w) (fun r s₃ => wpAny (model X.prog X.w) X.A (storeName X.env x r) (fun _ => SP X pins D .next) X.xe s₃) X.xe s₂) X.xe s := by
    refine thn (he pins s σ H _ I h) fun w s1 ⟨y, H1, I1, r1, q1⟩ => ?_
    refine thn (ho pins s1 σ H1 v y u w _ I1 r r1 q1) fun z s2 ⟨zv, H2, I2, r2, q2⟩ => ?_
    exact store_ok I2 hN hi hx r2 (fun s3 I3 => ⟨_, H2, I3, q2⟩) hf
  rcases l with ⟨hk, hm⟩ | ⟨hk, c, hc, hcell⟩
  · exact wpAny_loadName_local I.ok.kind hk hn hm go
  · rcases hk with hk | hk
    · exact wpAny_loadName_cell I.ok.kind hk hc hcell go
    · rcases hx with k | k
      · have : X.env.scope.names.lookup x = some .free := hk
        rw [k] at this; cases this
      · have : X.env.scope.names.lookup x = some .free := hk
        rw [k] at this; cases this
def ipI (f : Int → Int → Int) : TIp := fun x y H Q => ∃ i j, x = .int i ∧ y = .int j ∧ Q (.int (f i j)) H
theorem ip_add : PIp X .Add (ipI fun i j => i + j) := by
  intro pins s σ H x y v u Q I r1 r2 h
  obtain ⟨i, j, e1, e2, q⟩ := h
  subst e1; subst e2
  obtain ⟨t, rfl⟩ := r1
  obtain ⟨t', rfl⟩ := r2
  exact iadd_int ⟨.int _, H, I.tok _, ⟨_, rfl⟩, q⟩
end
structure It where
  go : Nat → Hp → Prop
  yld : Nat → Hp → V → Hp → Prop
  stop : Nat → Hp → Prop
def FpOk (X : Cx) (pins : List (Addr × Obj)) (H : Hp) (b : Addr) : Prop :=
  H b = none ∧ b ≠ X.env.locals ∧ b ∉ X.fs ∧ (b ∈ X.ex ∨ X.s₀.heap.objs.size ≤ b) ∧ (∀ x c, X.env.cells.lookup x = some c → c ≠ b) ∧ ∀ p ∈ X.pn ++ pins, p.1 ≠ b
theorem Inv.fpOk {X : Cx} {pins : List (Addr × Obj)} {σ : St} {H H' : Hp} {s : Shared} {b : Addr} (I : Inv X pins σ H s) (hb : s.heap.objs.size ≤ b) (hn : H' b = none) : FpOk X pins H' b := by
  refine ⟨hn, Nat.ne_of_gt (Nat.lt_of_lt_of_le I.lt hb), I.nofs hb, .inr (Nat.le_trans I.sz hb), fun x c e z => ?_, fun p hp z => ?_⟩
  · obtain ⟨v, q⟩ := I.cell x c e
    exact absurd (Nat.lt_of_lt_of_le q.lt (by rw [z]; exact hb)) (Nat.lt_irrefl _)
  · exact absurd (Nat.lt_of_lt_of_le (Heap.lt_size (I.pin p hp).1) (by rw [z]; exact hb)) (Nat.lt_irrefl _)
structure Turn (P : Program) (w : World) (K : PySem.W.Frag) (tg : Expr) (J : It) (fp : List Addr) (it : Addr) (tn : Nat → Heap → Prop) : Prop where
  mem : it ∈ fp
  obj : ∀ i h, tn i h → ∀ b ∈ fp, ∃ o, h.get? b = some o ∧ ∀ v, o.data ≠ .cell v
  keep : ∀ i h h', tn i h → (∀ b ∈ fp, ∀ o, h.get? b = some o → h'.get? b = some o) → tn i h'
  item : ∀ (X : Cx), X.prog = P → X.w = w → X.K = K → X.calm = true → ∀ (i : Nat) (pins : List (Addr × Obj)) (s : Shared) (σ : St) (H : Hp) (E : Value → Shared → Prop), Inv X pins σ H s → (∀ b ∈ fp, FpOk X pins H b) → tn i s.heap → J.go i H →
    wpAny (model P w) X.A (pyNext (.ref it)) (fun r s1 => ∃ u, r = some u ∧
      wpAny (model P w) X.A (letOwnedTupleGo tg (.ref it) u) (fun _ s2 => ∃ x H', Inv X pins σ H' s2 ∧ RelV x u ∧ J.yld i H x H' ∧ tn (i + 1) s2.heap ∧ ∀ b ∈ fp, H' b = none) E s1) E s
  done : ∀ (X : Cx), X.prog = P → X.w = w → X.K = K → X.calm = true → ∀ (i : Nat) (pins : List (Addr × Obj)) (s : Shared) (σ : St) (H : Hp) (E : Value → Shared → Prop), Inv X pins σ H s → (∀ b ∈ fp, FpOk X pins H b) → tn i s.heap → J.stop i H →
    wpAny (model P w) X.A (pyNext (.ref it)) (fun r s1 => r = none ∧ Inv X pins σ H s1) E s
  self : ∀ (A : Around) (i : Nat) (s : Shared) (Q : Value → Shared → Prop) (E : Value → Shared → Prop), tn i s.heap → Q (.ref it) s → wpAny (model P w) A (pyIter (.ref it)) Q E s
abbrev TI := St → Hp → (It → Hp → Prop) → Prop
def PIE (X : Cx) (pins : List (Addr × Obj)) (σ : St) (tg : Expr) (R : It → Hp → Prop) (itv : Value) (s2 : Shared) : Prop :=
  ∃ (it : Addr) (fp : List Addr) (tn : Nat → Heap → Prop) (J : It) (H' : Hp), itv = .ref it ∧ Inv X pins σ H' s2 ∧ Turn X.prog X.w X.K tg J fp it tn ∧ tn 0 s2.heap ∧ (∀ b ∈ fp, FpOk X pins H' b) ∧ R J H'
def PI (X : Cx) (tg iter : Expr) (wi : TI) : Prop :=
  ∀ (pins : List (Addr × Obj)) (s : Shared) (σ : St) (H : Hp) (R : It → Hp → Prop), Inv X pins σ H s → wi σ H R →
    wpAny (model X.prog X.w) X.A (eval iter X.env) (fun v s1 => wpAny (model X.prog X.w) X.A (pyIter v) (PIE X pins σ tg R) X.xe s1) X.xe s
theorem go_of {M : Model} {A : Around} {E : Value → Shared → Prop} {s : Shared} {tg : Expr} {it : Addr} {u : Value} {o : Obj} {n : String} {vs : Array Value} {Q : Unit → Shared → Prop} (ho : s.heap.get? it = some o) (hc : o.cls = .type n) (hd : o.data = .fields vs)
    (hn : ["enumerate", "zip", "dict_itemiterator", "dict_reverseitemiterator", "odict_iterator", "itertools.zip_longest", "itertools.pairwise"].contains n = false) (hQ : Q () s) : wpAny M A (letOwnedTupleGo tg (.ref it) u) Q E s := by
  unfold letOwnedTupleGo
  cases tg <;> first
    | exact wpAny_pure hQ
    | (cases u <;> first
        | exact wpAny_pure hQ
        | (refine wpAny_bind (wpAny_load ho ?_)
           rw [hc, hd]
           show wpAny M A (if (["enumerate", "zip", "dict_itemiterator", "dict_reverseitemiterator", "odict_iterator", "itertools.zip_longest", "itertools.pairwise"].contains n && vs[0]? == some (rawInt _)) = true then _ else _) Q E s
           rw [if_neg (by intro h; rw [hn, Bool.false_and] at h; cases h)]
           exact wpAny_pure hQ))
def Itl (K : PySem.W.Frag) (a : Addr) : It :=
  ⟨fun i H => ∃ xs x, SqL K H a xs ∧ xs[i]? = some x, fun i H x H' => H' = H ∧ ∀ xs, SqL K H a xs → xs[i]? = some x, fun i H => ∃ xs, SqL K H a xs ∧ xs.length ≤ i⟩
def Itt (K : PySem.W.Frag) (a : Addr) : It :=
  ⟨fun i H => ∃ xs x, SqT K H a xs ∧ xs[i]? = some x, fun i H x H' => H' = H ∧ ∀ xs, SqT K H a xs → xs[i]? = some x, fun i H => ∃ xs, SqT K H a xs ∧ xs.length ≤ i⟩
def Itr (lo : Int) (n : Nat) : It := ⟨fun i _ => i < n, fun i H x H' => H' = H ∧ x = .int (lo + i), fun i _ => n ≤ i⟩
theorem turn_list {P : Program} {w : World} {K : PySem.W.Frag} {tg : Expr} (a it : Addr) : Turn P w K tg (Itl K a) [it] it (fun i h => h.IsListIter it a i) where
  mem := by simp
  obj := fun i h st b hb => by
    have e : b = it := by simpa using hb
    subst e
    obtain ⟨o, e, c, d⟩ := st
    exact ⟨o, e, fun v z => by rw [d] at z; cases z⟩
  keep := fun i h h' st k => st.at fun o e => k it (by simp) o e
  item := by
    intro X hP hw hK hc i pins s σ H E I hf st hg
    subst hP hw hK
    obtain ⟨xs, x, hq, hx⟩ := hg
    obtain ⟨its, rv, p, hz⟩ := I.list hq
    obtain ⟨u, hu, ru⟩ := rv.get hx
    obtain ⟨f0, f1, f2, f3, f4, f5⟩ := hf it (by simp)
    refine wpAny_pyNext_list_item st p.isList (x := u) (by simpa using hu) fun h' st' sb => ?_
    have I1 : Inv X pins σ H { s with heap := h' } := I.turned (t' := s.toks) (fun b o hb e => (sb.2 b hb).trans e) f0 f1 f3 f4 f5
    obtain ⟨o, e, c, d⟩ := id st'
    exact ⟨u, rfl, go_of (s := { s with heap := h' }) e c d (by decide) ⟨x, H, I1, ru, ⟨rfl, fun ys hy => by rw [I.list_inj hy hq]; exact hx⟩, st', fun b hb => (hf b hb).1⟩⟩
  done := by
    intro X hP hw hK hc i pins s σ H E I hf st hg
    subst hP hw hK
    obtain ⟨xs, hq, hx⟩ := hg
    obtain ⟨its, rv, p, hz⟩ := I.list hq
    obtain ⟨f0, f1, f2, f3, f4, f5⟩ := hf it (by simp)
    have hl := rv.length
    exact wpAny_pyNext_list_end (I.ok.hd hc) st p.isList (by simp; omega) fun h' eb => ⟨rfl, I.turned (t' := s.toks) (fun b o hb e => eb b o hb e) f0 f1 f3 f4 f5⟩
  self := fun _ _ _ _ _ st h => wpAny_pyIter_listiter st h
theorem turn_tuple {P : Program} {w : World} {K : PySem.W.Frag} {tg : Expr} (a it : Addr) : Turn P w K tg (Itt K a) [it] it (fun i h => h.IsTupleIter it a i) where
  mem := by simp
  obj := fun i h st b hb => by
    have e : b = it := by simpa using hb
    subst e
    obtain ⟨o, e, c, d⟩ := st
    exact ⟨o, e, fun v z => by rw [d] at z; cases z⟩
  keep := fun i h h' st k => st.at fun o e => k it (by simp) o e
  item := by
    intro X hP hw hK hc i pins s σ H E I hf st hg
    subst hP hw hK
    obtain ⟨xs, x, hq, hx⟩ := hg
    obtain ⟨its, rv, p, hz⟩ := I.tuple hq
    obtain ⟨u, hu, ru⟩ := rv.get hx
    obtain ⟨f0, f1, f2, f3, f4, f5⟩ := hf it (by simp)
    refine wpAny_pyNext_tuple_item st (show s.heap.IsTuple a its.toArray from p) (x := u) (by simpa using hu) fun h' st' sb => ?_
    have I1 : Inv X pins σ H { s with heap := h' } := I.turned (t' := s.toks) (fun b o hb e => (sb.2 b hb).trans e) f0 f1 f3 f4 f5
    obtain ⟨o, e, c, d⟩ := id st'
    exact ⟨u, rfl, go_of (s := { s with heap := h' }) e c d (by decide) ⟨x, H, I1, ru, ⟨rfl, fun ys hy => by rw [I.tuple_inj hy hq]; exact hx⟩, st', fun b hb => (hf b hb).1⟩⟩
  done := by
    intro X hP hw hK hc i pins s σ H E I hf st hg
    subst hP hw hK
    obtain ⟨xs, hq, hx⟩ := hg
    obtain ⟨its, rv, p, hz⟩ := I.tuple hq
    obtain ⟨f0, f1, f2, f3, f4, f5⟩ := hf it (by simp)
    have hl := rv.length
    exact wpAny_pyNext_tuple_end (I.ok.hd hc) st (show s.heap.IsTuple a its.toArray from p) (by simp; omega) fun h' eb => ⟨rfl, I.turned (t' := s.toks) (fun b o hb e => eb b o hb e) f0 f1 f3 f4 f5⟩
  self := fun _ _ _ _ _ st h => wpAny_pyIter_tupleiter st h
theorem turn_range {P : Program} {w : World} {K : PySem.W.Frag} {tg : Expr} (it : Addr) (lo : Int) (n : Nat) : Turn P w K tg (Itr lo n) [it] it (fun i h => IsRangeIter h it (lo + (i : Nat) * 1) ((n : Int) - (i : Nat)) 1) where
  mem := by simp
  obj := fun i h st b hb => by
    have e : b = it := by simpa using hb
    subst e
    exact ⟨_, st, fun v z => by
      have z' : Data.fields _ = Data.cell v := z
      cases z'⟩
  keep := fun i h h' st k => k it (by simp) _ st
  item := by
    intro X hP hw hK hc i pins s σ H E I hf st hg
    subst hP hw hK
    obtain ⟨f0, f1, f2, f3, f4, f5⟩ := hf it (by simp)
    have W := Walks.range (prog := X.prog) (w := X.w) (I.ok.hd hc) it lo 1 n
    refine W.item i s _ _ hg st fun v h' tk hv st' kk => ?_
    obtain ⟨t, rfl⟩ := hv
    have I1 : Inv X pins σ H { s with heap := h', toks := tk } := I.turned (fun b o hb e => kk b o (by simpa using hb) e) f0 f1 f3 f4 f5
    refine ⟨_, rfl, go_of (s := { s with heap := h', toks := tk }) (n := "range_iterator") st' rfl rfl (by decide) ⟨.int (lo + i), H, I1, ⟨t, ?_⟩, ⟨rfl, rfl⟩, st', fun b hb => (hf b hb).1⟩⟩
    rw [Int.mul_one]
  done := by
    intro X hP hw hK hc i pins s σ H E I hf st hg
    subst hP hw hK
    obtain ⟨f0, f1, f2, f3, f4, f5⟩ := hf it (by simp)
    exact wpAny_pyNext_range_end (I.ok.hd hc) st (by have : n ≤ i := hg; omega) fun h' eb => ⟨rfl, I.turned (t' := s.toks) (fun b o hb e => eb b o hb e) f0 f1 f3 f4 f5⟩
  self := fun _ _ _ _ _ st h => wpAny_pyIter_rangeiter st h
end L2
namespace L2
open PySem PySem.Spec PyProof.Rows
section
variable {X : Cx} {tg : Expr}
def iList (K : PySem.W.Frag) (tl : TE) : TI := fun σ H R => tl σ H fun x H1 => ∃ a, x = .ref a ∧ (∃ xs, SqL K H1 a xs) ∧ R (Itl K a) H1
def iTup (K : PySem.W.Frag) (tl : TE) : TI := fun σ H R => tl σ H fun x H1 => ∃ a, x = .ref a ∧ (∃ xs, SqT K H1 a xs) ∧ R (Itt K a) H1
theorem pi_list {l : Expr} {tl : TE} (hl : PE X l tl) : PI X tg l (iList X.K tl) := by
  intro pins s σ H R I h
  refine thn (hl pins s σ H _ I h) fun v s1 ⟨x, H1, I1, r1, q1⟩ => ?_
  obtain ⟨a, e, ⟨xs, hq⟩, q⟩ := q1
  subst e
  cases r1
  obtain ⟨its, rv, p, hz⟩ := I1.list hq
  refine wpAny_pyIter_list p.isList ?_
  refine ⟨s1.heap.objs.size, [s1.heap.objs.size], _, _, H1, rfl, I1.kept (t' := s1.toks) fun b o e => Heap.get?_push_of_some _ e, turn_list a _, ⟨_, Heap.get?_push_size _ rfl, rfl, rfl⟩, fun b hb => ?_, q⟩
  have e : b = s1.heap.objs.size := by simpa using hb
  subst e
  exact I1.fpOk (Nat.le_refl _) (I1.hok.fresh (Nat.le_refl _))
theorem pi_tup {l : Expr} {tl : TE} (hl : PE X l tl) : PI X tg l (iTup X.K tl) := by
  intro pins s σ H R I h
  refine thn (hl pins s σ H _ I h) fun v s1 ⟨x, H1, I1, r1, q1⟩ => ?_
  obtain ⟨a, e, ⟨xs, hq⟩, q⟩ := q1
  subst e
  cases r1
  obtain ⟨its, rv, p, hz⟩ := I1.tuple hq
  refine wpAny_pyIter_tuple (show s1.heap.IsTuple a its.toArray from p) ?_
  refine ⟨s1.heap.objs.size, [s1.heap.objs.size], _, _, H1, rfl, I1.kept (t' := s1.toks) fun b o e => Heap.get?_push_of_some _ e, turn_tuple a _, ⟨_, Heap.get?_push_size _ rfl, rfl, rfl⟩, fun b hb => ?_, q⟩
  have e : b = s1.heap.objs.size := by simpa using hb
  subst e
  exact I1.fpOk (Nat.le_refl _) (I1.hok.fresh (Nat.le_refl _))
theorem range_it {pins : List (Addr × Obj)} {σ : St} {H : Hp} {s : Shared} {R : It → Hp → Prop} {E : Value → Shared → Prop} {lo hi : Int} {t u v : Tok} {tk : Nat} (I : Inv X pins σ H s) (h1 : -(2 ^ 62) ≤ lo) (h2 : lo < 2 ^ 62) (h3 : -(2 ^ 62) ≤ hi) (h4 : hi < 2 ^ 62)
    (q : R (Itr lo (hi - lo).toNat) H) : wpAny (model X.prog X.w) X.A (pyIter (.ref s.heap.objs.size)) (PIE X pins σ tg R) E { s with heap := s.heap.push { cls := .type "range", data := .fields #[.int lo t, .int hi u, .int 1 v] }, toks := tk } := by
  refine wpAny_pyIter_range (IsRange.new ..) (small_one h1 h2 h3 h4) ?_
  have I1 : Inv X pins σ H { s with heap := s.heap.push { cls := .type "range", data := .fields #[.int lo t, .int hi u, .int 1 v] }, toks := tk } := I.kept fun b o e => Heap.get?_push_of_some _ e
  refine ⟨(s.heap.push { cls := .type "range", data := .fields #[.int lo t, .int hi u, .int 1 v] }).objs.size, [(s.heap.push { cls := .type "range", data := .fields #[.int lo t, .int hi u, .int 1 v] }).objs.size], _, _, H, rfl,
    I1.kept (t' := tk) fun b o e => Heap.get?_push_of_some _ e, turn_range _ lo (hi - lo).toNat, ?_, fun b hb => ?_, q⟩
  · have e1 : lo + ((0 : Nat) : Int) * 1 = lo := by simp
    have e2 : (((hi - lo).toNat : Nat) : Int) - ((0 : Nat) : Int) = Builtin.Range.rangeSize lo hi 1 := by rw [rangeSize_one]; split <;> omega
    show IsRangeIter _ _ (lo + ((0 : Nat) : Int) * 1) ((((hi - lo).toNat : Nat) : Int) - ((0 : Nat) : Int)) 1
    rw [e1, e2]
    exact Heap.get?_push_size _ rfl
  · have e : b = (s.heap.push { cls := .type "range", data := .fields #[.int lo t, .int hi u, .int 1 v] }).objs.size := by simpa using hb
    subst e
    exact I1.fpOk (Nat.le_refl _) (I1.hok.fresh (Nat.le_refl _))
def iRng1 (ta : TA) : TI := fun σ H R => ta σ H fun vs H1 => ∃ j : Int, vs = [.int j] ∧ -(2 ^ 62) ≤ j ∧ j < 2 ^ 62 ∧ R (Itr 0 j.toNat) H1
theorem pi_range1 {a : Expr} {ta : TA} {p pos : Pos} (hg : Gl X "range") (hm : X.mg "range" = none) (ha : PA X [a] ta) (hs : starEach [a] X.env = [(false, eval a X.env)] := by rfl) : PI X tg (.Call (.Name "range" p) [a] [] pos) (iRng1 ta) := by
  intro pins s σ H R I h
  refine Call_ (ld_blt I hg hm boot_range (PyProof.Rows.callWith_type1 (thn (ha pos pins s σ H _ I h) fun us s1 ⟨vs, H1, I1, r1, q1⟩ => ?_) hs rfl))
  obtain ⟨j, e, q1, q2, q⟩ := q1
  subst e
  cases r1 with
  | cons r rr =>
    cases rr
    obtain ⟨t, rfl⟩ := r
    exact call_range_1 (range_it I1 (by decide) (by decide) q1 q2 (by simpa using q))
def tFor (wi : TI) (g : TG) (tb : TS) : TS := fun D σ H => wi σ H fun J H1 => ∃ W : Nat → Nat → St → Hp → Prop, (∃ m, W 0 m σ H1) ∧ ∀ i m σ H, W i m σ H →
  (J.stop i H ∧ D.nx σ H) ∨ (J.go i H ∧ ∃ N : St → Hp → Prop, (∀ σ' H', N σ' H' → ∃ m', m' < m ∧ W (i + 1) m' σ' H') ∧ ∀ x H', J.yld i H x H' → g x σ H' fun σ2 H2 => tb { D with nx := N, ct := N, bk := D.nx } σ2 H2)
def pinsAt (fp : List Addr) (h : Heap) : List (Addr × Obj) := fp.filterMap fun b => (h.get? b).map fun o => (b, o)
theorem mem_pinsAt {fp : List Addr} {h : Heap} {b : Addr} {o : Obj} (hb : b ∈ fp) (e : h.get? b = some o) : (b, o) ∈ pinsAt fp h := List.mem_filterMap.mpr ⟨b, hb, by rw [e]; rfl⟩
theorem of_pinsAt {fp : List Addr} {h : Heap} {p : Addr × Obj} (hp : p ∈ pinsAt fp h) : p.1 ∈ fp ∧ h.get? p.1 = some p.2 := by
  obtain ⟨b, hb, e⟩ := List.mem_filterMap.mp hp
  cases q : h.get? b with
  | none => rw [q] at e; cases e
  | some o =>
    rw [q] at e
    have e' : (b, o) = p := Option.some.inj e
    subst e'
    exact ⟨hb, q⟩
theorem Inv.pinned {pins : List (Addr × Obj)} {σ : St} {H : Hp} {s : Shared} {fp : List Addr} (I : Inv X pins σ H s) (hf : ∀ b ∈ fp, FpOk X pins H b) (ho : ∀ b ∈ fp, ∃ o, s.heap.get? b = some o ∧ ∀ v, o.data ≠ .cell v) : Inv X (pins ++ pinsAt fp s.heap) σ H s :=
  I.pins_of fun p hp => (List.mem_append.mp hp).elim (fun z => I.pin p (List.mem_append_right _ z)) fun z => by
    obtain ⟨hb, e⟩ := of_pinsAt z
    obtain ⟨f0, f1, f2, _⟩ := hf p.1 hb
    obtain ⟨o, e', d⟩ := ho p.1 hb
    rw [e] at e'; cases e'
    exact ⟨e, f0, f1, f2, d⟩
theorem Inv.unpinned {pins pl : List (Addr × Obj)} {σ : St} {H : Hp} {s : Shared} (I : Inv X (pins ++ pl) σ H s) : Inv X pins σ H s := I.pins_of fun p hp => I.pin p (List.mem_append_right _ (List.mem_append_left _ hp))
theorem ps_for {iter : Expr} {body : List Stmt} {wi : TI} {g : TG} {tb : TS} {pos : Pos} (hp : PassesOwn (model X.prog X.w) X.A X.env X.xe) (hc : X.calm = true) (hi : PI X tg iter wi) (hg : PG X tg g) (hb : PSs X body tb)
    (hs : ∀ x, foldedSetIterable iter X.env x = pure x := by intro _; rfl) : PS X (.For tg iter body [] pos) (tFor wi g tb) := by
  intro pins s σ H D I h
  refine wpAny_For (thn (hi pins s σ H _ I h) fun v s1 h1 => thn h1 fun itv s2 h2 => ?_) hs
  obtain ⟨it, fp, tn, J, H2, e, I2, T, st2, f2, W, ⟨m0, w0⟩, turn⟩ := h2
  subst e
  have stat : ∀ {H' : Hp}, (∀ b ∈ fp, H' b = none) → ∀ b ∈ fp, FpOk X pins H' b := fun hn b hb => ⟨hn b hb, (f2 b hb).2⟩
  refine codeAny_forLoop_any (fun n s' => ∃ i σ' H', Inv X pins σ' H' s' ∧ tn i s'.heap ∧ (∀ b ∈ fp, H' b = none) ∧ W i n σ' H') ?_ m0 ⟨0, σ, H2, I2, st2, fun b hb => (f2 b hb).1, w0⟩
  rintro n s3 ⟨i, σ3, H3, I3, st3, fr3, w3⟩
  rcases turn i n σ3 H3 w3 with ⟨stop, qn⟩ | ⟨go, N, hN, step⟩
  · refine wpAny_passesOwn hp (thn (T.done X rfl rfl rfl hc i pins s3 σ3 H3 X.xe I3 (stat fr3) st3 stop) fun r s4 ⟨hr, I4⟩ => ?_)
    subst hr
    exact wpAny_execs_nil ⟨σ3, H3, I4, qn⟩
  · refine wpAny_passesOwn hp (thn (T.item X rfl rfl rfl hc i pins s3 σ3 H3 X.xe I3 (stat fr3) st3 go) fun r s4 ⟨u, hr, h4⟩ => ?_)
    subst hr
    refine wpAny_passesOwn hp (thn h4 fun _ s5 ⟨x, H5, I5, r5, y5, st5, fr5⟩ => ?_)
    have I5' := I5.pinned (stat fr5) (T.obj _ _ st5)
    refine wpAny_passesOwn hp (thn (hg _ s5 σ3 H5 x u _ I5' r5 (step x H5 y5)) fun _ s6 ⟨σ6, H6, I6, q6⟩ => ?_)
    refine wpAny_passesOwn hp (thn (hb _ s6 σ6 H6 _ I6 q6) fun f s7 q7 => ?_)
    have again : ∀ {σ7 : St} {H7 : Hp}, Inv X (pins ++ pinsAt fp s5.heap) σ7 H7 s7 → N σ7 H7 → ∃ m, m < n ∧ ∃ i σ' H', Inv X pins σ' H' s7 ∧ tn i s7.heap ∧ (∀ b ∈ fp, H' b = none) ∧ W i m σ' H' := fun {σ7 H7} I7 n7 => by
      obtain ⟨m', hm, w7⟩ := hN σ7 H7 n7
      refine ⟨m', hm, i + 1, σ7, H7, I7.unpinned, T.keep _ _ _ st5 fun b hb o e => (I7.pin (b, o) (List.mem_append_right _ (List.mem_append_right _ (mem_pinsAt hb e)))).1, fun b hb => ?_, w7⟩
      obtain ⟨o, e, d⟩ := T.obj _ _ st5 b hb
      exact (I7.pin (b, o) (List.mem_append_right _ (List.mem_append_right _ (mem_pinsAt hb e)))).2.1
    cases f with
    | next => obtain ⟨σ7, H7, I7, n7⟩ := q7; exact again I7 n7
    | cont => obtain ⟨σ7, H7, I7, n7⟩ := q7; exact again I7 n7
    | brk => obtain ⟨σ7, H7, I7, q7⟩ := q7; exact ⟨σ7, H7, I7.unpinned, q7⟩
    | ret v => obtain ⟨x7, σ7, H7, I7, r7, q7⟩ := q7; exact ⟨x7, σ7, H7, I7.unpinned, r7, q7⟩
end
theorem for_list {K : PySem.W.Frag} {a : Addr} {xs : List V} {g : TG} {tb : TS} {D : Ends} {σ : St} {H : Hp} (Pv : Nat → St → Hp → Prop) (h0 : Pv 0 σ H) (hl : ∀ i σ H, i ≤ xs.length → Pv i σ H → SqL K H a xs)
    (hs : ∀ i x σ H, xs[i]? = some x → Pv i σ H → g x σ H fun σ2 H2 => tb { D with nx := Pv (i + 1), ct := Pv (i + 1), bk := D.nx } σ2 H2) (hd : ∀ σ H, Pv xs.length σ H → D.nx σ H) :
    ∃ W : Nat → Nat → St → Hp → Prop, (∃ m, W 0 m σ H) ∧ ∀ i m σ H, W i m σ H →
      ((Itl K a).stop i H ∧ D.nx σ H) ∨ ((Itl K a).go i H ∧ ∃ N : St → Hp → Prop, (∀ σ' H', N σ' H' → ∃ m', m' < m ∧ W (i + 1) m' σ' H') ∧ ∀ x H', (Itl K a).yld i H x H' → g x σ H' fun σ2 H2 => tb { D with nx := N, ct := N, bk := D.nx } σ2 H2) := by
  refine ⟨fun i m σ H => m = xs.length - i ∧ i ≤ xs.length ∧ Pv i σ H, ⟨xs.length, by simp, Nat.zero_le _, h0⟩, ?_⟩
  rintro i m σ H ⟨rfl, hi, p⟩
  have q := hl i σ H hi p
  by_cases hlt : i < xs.length
  · refine .inr ⟨⟨xs, xs[i], q, by simp [hlt]⟩, Pv (i + 1), fun σ' H' p' => ⟨xs.length - (i + 1), by omega, rfl, hlt, p'⟩, fun x H' y => ?_⟩
    obtain ⟨e, y⟩ := y
    subst e
    exact hs i x σ _ (y xs q) p
  · have e : i = xs.length := by omega
    subst e
    exact .inl ⟨⟨xs, q, Nat.le_refl _⟩, hd σ H p⟩
theorem for_range {lo : Int} {n : Nat} {g : TG} {tb : TS} {D : Ends} {σ : St} {H : Hp} (Pv : Nat → St → Hp → Prop) (h0 : Pv 0 σ H)
    (hs : ∀ i σ H, i < n → Pv i σ H → g (.int (lo + i)) σ H fun σ2 H2 => tb { D with nx := Pv (i + 1), ct := Pv (i + 1), bk := D.nx } σ2 H2) (hd : ∀ σ H, Pv n σ H → D.nx σ H) :
    ∃ W : Nat → Nat → St → Hp → Prop, (∃ m, W 0 m σ H) ∧ ∀ i m σ H, W i m σ H →
      ((Itr lo n).stop i H ∧ D.nx σ H) ∨ ((Itr lo n).go i H ∧ ∃ N : St → Hp → Prop, (∀ σ' H', N σ' H' → ∃ m', m' < m ∧ W (i + 1) m' σ' H') ∧ ∀ x H', (Itr lo n).yld i H x H' → g x σ H' fun σ2 H2 => tb { D with nx := N, ct := N, bk := D.nx } σ2 H2) := by
  refine ⟨fun i m σ H => m = n - i ∧ i ≤ n ∧ Pv i σ H, ⟨n, by simp, Nat.zero_le _, h0⟩, ?_⟩
  rintro i m σ H ⟨rfl, hi, p⟩
  by_cases hlt : i < n
  · refine .inr ⟨hlt, Pv (i + 1), fun σ' H' p' => ⟨n - (i + 1), by omega, rfl, hlt, p'⟩, fun x H' y => ?_⟩
    obtain ⟨e, y⟩ := y
    subst e y
    exact hs i σ _ hlt p
  · have e : i = n := by omega
    subst e
    exact .inl ⟨Nat.le_refl _, hd σ H p⟩
end L2
namespace L2
open PySem PySem.Spec PyProof.Rows
abbrev R2 := V → V → Hp → VK → Prop
def OpR (X : Cx) (f : Value → Value → Sem Value) (r : R2) : Prop :=
  ∀ (pins : List (Addr × Obj)) (s : Shared) (σ : St) (H : Hp) (x y : V) (v u : Value) (Q : VK), Inv X pins σ H s → RelV x v → RelV y u → r x y H Q →
    wpAny (model X.prog X.w) X.A (f v u) (EP X pins σ Q) X.xe s
def UnR (X : Cx) (f : Value → Sem Value) (r : V → Hp → VK → Prop) : Prop :=
  ∀ (pins : List (Addr × Obj)) (s : Shared) (σ : St) (H : Hp) (x : V) (v : Value) (Q : VK), Inv X pins σ H s → RelV x v → r x H Q →
    wpAny (model X.prog X.w) X.A (f v) (EP X pins σ Q) X.xe s
def CallR (X : Cx) (f : Value) (r : List V → Hp → VK → Prop) : Prop :=
  ∀ (pins : List (Addr × Obj)) (s : Shared) (σ : St) (H : Hp) (xs : List V) (us : List Value) (Q : VK), Inv X pins σ H s → Vals xs us → r xs H Q →
    wpAny (model X.prog X.w) X.A (call f us) (EP X pins σ Q) X.xe s
def tOp (r : R2) (ta tb : TE) : TE := fun σ H Q => ta σ H fun x H1 => tb σ H1 fun y H2 => r x y H2 Q
def tUn (r : V → Hp → VK → Prop) (ta : TE) : TE := fun σ H Q => ta σ H fun x H1 => r x H1 Q
inductive RIP (C : Int → Int → Prop) (g : Int → Int → V) (x : V) (y : V) (H : Hp) (Q : VK) : Prop
  | mk (i j : _) : (x = .int i) → (y = .int j) → (C i j) → (Q (g i j) H) → RIP C g x y H Q
def rI (C : Int → Int → Prop) (g : Int → Int → V) : R2 := fun x y H Q => RIP C g x y H Q
inductive RI0P (g : Int → Int → V) (x : V) (y : V) (H : Hp) (Q : VK) : Prop
  | mk (i j : _) : (x = .int i) → (y = .int j) → (Q (g i j) H) → RI0P g x y H Q
def rI0 (g : Int → Int → V) : R2 := fun x y H Q => RI0P g x y H Q
inductive RUP (g : Int → V) (x : V) (H : Hp) (Q : VK) : Prop
  | mk (i : _) : (x = .int i) → (Q (g i) H) → RUP g x H Q
def rU (g : Int → V) : V → Hp → VK → Prop := fun x H Q => RUP g x H Q
section
variable {X : Cx} {a b c : Expr} {ta tb tc : TE} {pos : Pos}
theorem binT (ha : PE X a ta) (hb : PE X b tb) {pins : List (Addr × Obj)} {s : Shared} {σ : St} {H : Hp} {R : V → V → Hp → Prop} (I : Inv X pins σ H s)
    (h : ta σ H fun x H1 => tb σ H1 fun y H2 => R x y H2) {Q : Value → Shared → Prop} {f : Value → Value → Sem Value}
    (hf : ∀ v u s2 x y H2, Inv X pins σ H2 s2 → RelV x v → RelV y u → R x y H2 → wpAny (model X.prog X.w) X.A (f v u) Q X.xe s2) :
    wpAny (model X.prog X.w) X.A (eval a X.env) (fun v s₁ => wpAny (model X.prog X.w) X.A (eval b X.env) (fun u s₂ => wpAny (model X.prog X.w) X.A (f v u) Q X.xe s₂) X.xe s₁) X.xe s := by
  refine thn (ha pins s σ H _ I h) fun v s1 ⟨x, H1, I1, r1, q1⟩ => ?_
  refine thn (hb pins s1 σ H1 _ I1 q1) fun u s2 ⟨y, H2, I2, r2, q2⟩ => ?_
  exact hf v u s2 x y H2 I2 r1 r2 q2
theorem pe_op {op : Operator} {r : R2} (ho : OpR X (binaryOp op) r) (ha : PE X a ta) (hb : PE X b tb) : PE X (.BinOp a op b pos) (tOp r ta tb) := by
  intro pins s σ H Q I h
  exact wpAny_BinOp (binT ha hb I h fun v u s2 x y H2 I2 rx ry q => ho pins s2 σ H2 x y v u Q I2 rx ry q)
theorem pe_un {op : UnaryOp} {r : V → Hp → VK → Prop} (ho : UnR X (unaryOp op) r) (ha : PE X a ta) : PE X (.UnaryOp op a pos) (tUn r ta) := by
  intro pins s σ H Q I h
  exact UnaryOp_ (thn (ha pins s σ H _ I h) fun v s1 ⟨x, H1, I1, r1, q1⟩ => ho pins s1 σ H1 x v Q I1 r1 q1)
theorem opI {f : Value → Value → Sem Value} {C : Int → Int → Prop} {g : Int → Int → Int}
    (rule : ∀ (i j : Int) (t u : Tok) (s : Shared) (Q : Value → Shared → Prop) (E : Value → Shared → Prop), C i j → Q (.int (g i j) s.toks) { s with toks := s.toks + 1 } → wpAny (model X.prog X.w) X.A (f (.int i t) (.int j u)) Q E s) :
    OpR X f (rI C fun i j => .int (g i j)) := by
  intro pins s σ H x y v u Q I rx ry h
  obtain ⟨i, j, rfl, rfl, hc, q⟩ := h
  obtain ⟨t, rfl⟩ := rx
  obtain ⟨t', rfl⟩ := ry
  exact rule i j t t' s _ _ hc ⟨.int (g i j), H, I.tok _, ⟨_, rfl⟩, q⟩
theorem opI0 {f : Value → Value → Sem Value} {g : Int → Int → Int}
    (rule : ∀ (i j : Int) (t u : Tok) (s : Shared) (Q : Value → Shared → Prop) (E : Value → Shared → Prop), Q (.int (g i j) s.toks) { s with toks := s.toks + 1 } → wpAny (model X.prog X.w) X.A (f (.int i t) (.int j u)) Q E s) :
    OpR X f (rI0 fun i j => .int (g i j)) := by
  intro pins s σ H x y v u Q I rx ry h
  obtain ⟨i, j, rfl, rfl, q⟩ := h
  obtain ⟨t, rfl⟩ := rx
  obtain ⟨t', rfl⟩ := ry
  exact rule i j t t' s _ _ ⟨.int (g i j), H, I.tok _, ⟨_, rfl⟩, q⟩
theorem opB0 {f : Value → Value → Sem Value} {g : Int → Int → Bool}
    (rule : ∀ (i j : Int) (t u : Tok) (s : Shared) (Q : Value → Shared → Prop) (E : Value → Shared → Prop), Q (.bool (g i j)) s → wpAny (model X.prog X.w) X.A (f (.int i t) (.int j u)) Q E s) :
    OpR X f (rI0 fun i j => .bl (g i j)) := by
  intro pins s σ H x y v u Q I rx ry h
  obtain ⟨i, j, rfl, rfl, q⟩ := h
  obtain ⟨t, rfl⟩ := rx
  obtain ⟨t', rfl⟩ := ry
  exact rule i j t t' s _ _ ⟨.bl (g i j), H, I, rfl, q⟩
def CDiv (i j : Int) : Prop := 0 < j ∧ j < 1073741824
def CPow (i j : Int) : Prop := 0 ≤ j ∧ j ≤ 1000000 ∧ i.natAbs < 2 ^ 64
def CMul (i j : Int) : Prop := (-(2 ^ 64) < i ∧ i < 2 ^ 64) ∨ (-(2 ^ 64) < j ∧ j < 2 ^ 64)
theorem CMul.ok {i j : Int} (h : CMul i j) : IntMulOk i j := by
  rcases h with ⟨h1, h2⟩ | ⟨h1, h2⟩
  · exact .of_left (intBits_le_64 h1 h2)
  · exact .of_right (intBits_le_64 h1 h2)
theorem op_add : OpR X (binaryOp .Add) (rI0 fun i j => .int (i + j)) := opI0 fun _ _ _ _ _ _ _ q => add_int q
theorem op_sub : OpR X (binaryOp .Sub) (rI0 fun i j => .int (i - j)) := opI0 fun _ _ _ _ _ _ _ q => sub_int q
theorem op_mul : OpR X (binaryOp .Mult) (rI CMul fun i j => .int (i * j)) := opI fun _ _ _ _ _ _ _ hc q => mul_int q hc.ok
theorem op_fdiv : OpR X (binaryOp .FloorDiv) (rI CDiv fun i j => .int (i / j)) := opI fun i j _ _ _ _ _ hc q => by
  have h1 : (0 : Int) < j := hc.1
  have h2 : j < 1073741824 := hc.2
  exact floordiv_int (by omega) (by rw [Int.fdiv_eq_ediv_of_nonneg i (by omega)]; exact q) (.inl (PyProof.noPylong_small (by omega)))
theorem op_mod : OpR X (binaryOp .Mod) (rI (fun _ j => 0 < j) fun i j => .int (i % j)) := opI fun i j _ _ _ _ _ hc q => by
  have h1 : (0 : Int) < j := hc
  exact mod_int' (by omega) (by rw [Int.fmod_eq_emod_of_nonneg i (by omega)]; exact q)
theorem op_pow : OpR X (binaryOp .Pow) (rI CPow fun i j => .int (i ^ j.toNat)) := opI fun _ _ _ _ _ _ _ hc q => pow_int_small hc.1 hc.2.1 hc.2.2 q
theorem op_xor : OpR X (binaryOp .BitXor) (rI0 fun i j => .int (Builtin.bitXor i j)) := opI0 fun _ _ _ _ _ _ _ q => xor_int q
theorem unI {f : Value → Sem Value} {g : Int → Int}
    (rule : ∀ (i : Int) (t : Tok) (s : Shared) (Q : Value → Shared → Prop) (E : Value → Shared → Prop), Q (.int (g i) s.toks) { s with toks := s.toks + 1 } → wpAny (model X.prog X.w) X.A (f (.int i t)) Q E s) :
    UnR X f (rU fun i => .int (g i)) := by
  intro pins s σ H x v Q I rx h
  obtain ⟨i, rfl, q⟩ := h
  obtain ⟨t, rfl⟩ := rx
  exact rule i t s _ _ ⟨.int (g i), H, I.tok _, ⟨_, rfl⟩, q⟩
theorem un_neg : UnR X (unaryOp .USub) (rU fun i => .int (-i)) := unI fun _ _ _ _ _ q => neg_int q
end
def scal : V → V → Bool
  | .non, .non => true | .non, .int _ => true | .int _, .non => true | .non, .bl _ => true | .bl _, .non => true | .non, .str _ => true | .str _, .non => true
  | .int _, .int _ => true | .bl _, .bl _ => true | .str _, .str _ => true | .byt _, .byt _ => true
  | .int _, .str _ => true | .str _, .int _ => true | .bl _, .str _ => true | .str _, .bl _ => true
  | _, _ => false
def rEq : R2 := fun x y H Q => scal x y = true ∧ Q (.bl (decide (x = y))) H
def rNe : R2 := fun x y H Q => scal x y = true ∧ Q (.bl (!decide (x = y))) H
theorem dec_int {i j : Int} : decide (V.int i = V.int j) = (i == j) := by
  rw [Bool.eq_iff_iff]
  simp
theorem dec_bl {i j : Bool} : decide (V.bl i = V.bl j) = (i == j) := by
  rw [Bool.eq_iff_iff]
  simp
theorem dec_str {i j : Str} : decide (V.str i = V.str j) = (i == j) := by
  rw [Bool.eq_iff_iff]
  simp
theorem dec_byt {i j : Array UInt8} : decide (V.byt i = V.byt j) = (i.toList == j.toList) := by
  rw [Bool.eq_iff_iff]
  cases i
  cases j
  simp
section
variable {X : Cx} {a b c : Expr} {ta tb tc : TE} {pos : Pos}
theorem fin_bl {pins : List (Addr × Obj)} {σ : St} {H : Hp} {s : Shared} {Q : VK} {k k' : Bool} (I : Inv X pins σ H s) (q : Q (.bl k) H) (e : k = k') : EP X pins σ Q (.bool k') s := by
  subst e
  exact ⟨.bl k, H, I, rfl, q⟩
theorem op_eq : OpR X (compareOp .Eq) rEq := by
  intro pins s σ H x y v u Q I rx ry h
  obtain ⟨hs, q⟩ := h
  cases x with
  | non =>
    cases rx
    cases y with
    | non => cases ry; exact PySem.EqNone.eq_none_none (fin_bl I q (by simp))
    | bl j => cases ry; exact PySem.EqNone.eq_none_bool (fin_bl I q (by simp))
    | int j => obtain ⟨t', rfl⟩ := ry; exact PySem.EqNone.eq_none_int (fin_bl I q (by simp))
    | str j => obtain ⟨t', rfl⟩ := ry; exact PySem.EqNone.eq_none_str (fin_bl I q (by simp))
    | _ => exact absurd (show false = true from hs) Bool.false_ne_true
  | bl i =>
    cases rx
    cases y with
    | non => cases ry; exact PySem.EqNone.eq_bool_none (fin_bl I q (by simp))
    | bl j => cases ry; exact eq_bool (fin_bl I q dec_bl)
    | str j => obtain ⟨t', rfl⟩ := ry; exact PySem.EqMixed.eq_bool_str (fin_bl I q (by simp))
    | _ => exact absurd (show false = true from hs) Bool.false_ne_true
  | int i =>
    obtain ⟨t, rfl⟩ := rx
    cases y with
    | non => cases ry; exact PySem.EqNone.eq_int_none (fin_bl I q (by simp))
    | int j => obtain ⟨t', rfl⟩ := ry; exact eq_int (fin_bl I q dec_int)
    | str j => obtain ⟨t', rfl⟩ := ry; exact PySem.EqMixed.eq_int_str (fin_bl I q (by simp))
    | _ => exact absurd (show false = true from hs) Bool.false_ne_true
  | str i =>
    obtain ⟨t, rfl⟩ := rx
    cases y with
    | non => cases ry; exact PySem.EqNone.eq_str_none (fin_bl I q (by simp))
    | bl j => cases ry; exact PySem.EqMixed.eq_str_bool (fin_bl I q (by simp))
    | int j => obtain ⟨t', rfl⟩ := ry; exact PySem.EqMixed.eq_str_int (fin_bl I q (by simp))
    | str j => obtain ⟨t', rfl⟩ := ry; exact eq_str (fin_bl I q dec_str)
    | _ => exact absurd (show false = true from hs) Bool.false_ne_true
  | byt i =>
    obtain ⟨t, rfl⟩ := rx
    cases y with
    | byt j => obtain ⟨t', rfl⟩ := ry; exact PySem.W.eq_bytes (fin_bl I q dec_byt)
    | _ => exact absurd (show false = true from hs) Bool.false_ne_true
  | _ => cases y <;> exact absurd (show false = true from hs) Bool.false_ne_true
theorem op_ne : OpR X (compareOp .NotEq) rNe := by
  intro pins s σ H x y v u Q I rx ry h
  obtain ⟨hs, q⟩ := h
  cases x with
  | non =>
    cases rx
    cases y with
    | non => cases ry; exact PySem.EqNone.ne_none_none (fin_bl I q (by simp))
    | bl j => cases ry; exact PySem.EqNone.ne_none_bool (fin_bl I q (by simp))
    | int j => obtain ⟨t', rfl⟩ := ry; exact PySem.EqNone.ne_none_int (fin_bl I q (by simp))
    | str j => obtain ⟨t', rfl⟩ := ry; exact PySem.EqNone.ne_none_str (fin_bl I q (by simp))
    | _ => exact absurd (show false = true from hs) Bool.false_ne_true
  | bl i =>
    cases rx
    cases y with
    | non => cases ry; exact PySem.EqNone.ne_bool_none (fin_bl I q (by simp))
    | bl j => cases ry; exact ne_bool (fin_bl I q (congrArg not dec_bl))
    | str j => obtain ⟨t', rfl⟩ := ry; exact PySem.EqMixed.ne_bool_str (fin_bl I q (by simp))
    | _ => exact absurd (show false = true from hs) Bool.false_ne_true
  | int i =>
    obtain ⟨t, rfl⟩ := rx
    cases y with
    | non => cases ry; exact PySem.EqNone.ne_int_none (fin_bl I q (by simp))
    | int j => obtain ⟨t', rfl⟩ := ry; exact ne_int (fin_bl I q (congrArg not dec_int))
    | str j => obtain ⟨t', rfl⟩ := ry; exact PySem.EqMixed.ne_int_str (fin_bl I q (by simp))
    | _ => exact absurd (show false = true from hs) Bool.false_ne_true
  | str i =>
    obtain ⟨t, rfl⟩ := rx
    cases y with
    | non => cases ry; exact PySem.EqNone.ne_str_none (fin_bl I q (by simp))
    | bl j => cases ry; exact PySem.EqMixed.ne_str_bool (fin_bl I q (by simp))
    | int j => obtain ⟨t', rfl⟩ := ry; exact PySem.EqMixed.ne_str_int (fin_bl I q (by simp))
    | str j => obtain ⟨t', rfl⟩ := ry; exact ne_str (fin_bl I q (congrArg not dec_str))
    | _ => exact absurd (show false = true from hs) Bool.false_ne_true
  | byt i =>
    obtain ⟨t, rfl⟩ := rx
    cases y with
    | byt j => obtain ⟨t', rfl⟩ := ry; exact PySem.W.ne_bytes (fin_bl I q (congrArg not dec_byt))
    | _ => exact absurd (show false = true from hs) Bool.false_ne_true
  | _ => cases y <;> exact absurd (show false = true from hs) Bool.false_ne_true
theorem op_lt : OpR X (compareOp .Lt) (rI0 fun i j => .bl (decide (i < j))) := opB0 fun _ _ _ _ _ _ _ q => lt_int q
theorem op_le : OpR X (compareOp .LtE) (rI0 fun i j => .bl (decide (i ≤ j))) := opB0 fun _ _ _ _ _ _ _ q => le_int q
theorem op_gt : OpR X (compareOp .Gt) (rI0 fun i j => .bl (decide (j < i))) := opB0 fun _ _ _ _ _ _ _ q => gt_int q
theorem op_ge : OpR X (compareOp .GtE) (rI0 fun i j => .bl (decide (j ≤ i))) := opB0 fun _ _ _ _ _ _ _ q => ge_int q
theorem op_notN : OpR X (compareOp .IsNot) (fun x y H Q => y = .non ∧ Q (.bl (!decide (x = .non))) H) := by
  intro pins s σ H x y v u Q I rx ry h
  obtain ⟨rfl, q⟩ := h
  cases ry
  refine isnot_none_gen (fin_bl I q ?_)
  cases x <;> first
    | (cases rx; rfl)
    | (obtain ⟨t, rfl⟩ := rx; rfl)
theorem nomark (b : Expr) {op : CmpOp} (h : op ≠ .In := by decide) (h2 : op ≠ .NotIn := by decide) : behindInMarks op b = false := by
  have e1 : (op == CmpOp.In) = false := by cases op <;> first | rfl | exact absurd rfl h
  have e2 : (op == CmpOp.NotIn) = false := by cases op <;> first | rfl | exact absurd rfl h2
  cases b <;> simp [behindInMarks, e1, e2]
theorem pe_cmpR {op : CmpOp} {r : R2} (ho : OpR X (compareOp op) r) (ha : PE X a ta) (hb : PE X b tb) (hm : behindInMarks op b = false) : PE X (.Compare a [op] [b] pos) (tOp r ta tb) := by
  intro pins s σ H Q I h
  exact wpAny_Compare1 (binT ha hb I h fun v u s2 x y H2 I2 rx ry q => ho pins s2 σ H2 x y v u Q I2 rx ry q) hm
def tTest (t : TE) : TT := fun σ H Q => t σ H fun x H' => BlP x H' Q
theorem pt_cmpR {op : CmpOp} {r : R2} (ho : OpR X (compareOp op) r) (ha : PE X a ta) (hb : PE X b tb) (hm : behindInMarks op b = false) : PT X (.Compare a [op] [b] pos) (tTest (tOp r ta tb)) := by
  intro pins s σ H Q I h
  refine wpAny_isTrue_Compare1 (thn (ha pins s σ H _ I h) fun v s1 ⟨x, H1, I1, r1, q1⟩ => thn (hb pins s1 σ H1 _ I1 q1) fun u s2 ⟨y, H2, I2, r2, q2⟩ =>
    thn (ho pins s2 σ H2 x y v u _ I2 r1 r2 q2) fun c s3 ⟨z, H3, I3, r3, k, e, q3⟩ => ?_) hm
  subst e
  cases r3
  exact wpAny_truthy_bool ⟨H3, I3, q3⟩
def tChain (r r' : R2) (ta tb tc : TE) : TE := fun σ H Q => ta σ H fun x H1 => tb σ H1 fun y H2 => r x y H2 fun z H3 => ∃ k, z = .bl k ∧
  (if k = true then tc σ H3 fun w' H4 => r' y w' H4 Q else Q (.bl false) H3)
theorem pe_chain {op op' : CmpOp} {r r' : R2} (ho : OpR X (compareOp op) r) (ho' : OpR X (compareOp op') r') (ha : PE X a ta) (hb : PE X b tb) (hc : PE X c tc)
    (hm : lastMarks [op, op'] [b, c] = false := by with_unfolding_all rfl) : PE X (.Compare a [op, op'] [b, c] pos) (tChain r r' ta tb tc) := by
  intro pins s σ H Q I h
  refine Compare_chain (thn (ha pins s σ H _ I h) fun v s1 ⟨x, H1, I1, r1, q1⟩ => chain_link (thn (hb pins s1 σ H1 _ I1 q1) fun u s2 ⟨y, H2, I2, r2, q2⟩ =>
    thn (ho pins s2 σ H2 x y v u _ I2 r1 r2 q2) fun d s3 ⟨z, H3, I3, r3, k, e, q3⟩ => ?_)) hm
  subst e
  cases r3
  refine wpAny_truthy_bool ?_
  cases k with
  | false => exact ite_ff ⟨.bl false, H3, I3, rfl, q3⟩
  | true => exact ite_tt (chain_last (thn (hc pins s3 σ H3 _ I3 q3) fun w' s4 ⟨z', H4, I4, r4, q4⟩ => ho' pins s4 σ H4 y z' u w' Q I4 r2 r4 q4))
theorem line63 : (sizeLine : Nat) < 2 ^ 63 := by rw [sizeLine_eq]; decide
theorem vals1 {x : V} {us : List Value} (r : Vals [x] us) : ∃ u, us = [u] ∧ RelV x u := by
  cases r with
  | cons r1 r2 => cases r2; exact ⟨_, rfl, r1⟩
theorem vals2 {x y : V} {us : List Value} (r : Vals [x, y] us) : ∃ u w', us = [u, w'] ∧ RelV x u ∧ RelV y w' := by
  cases r with
  | cons r1 r2 =>
    cases r2 with
    | cons r3 r4 => cases r4; exact ⟨_, _, rfl, r1, r3⟩
theorem call_max2 (hc : X.calm = true) : CallR X (.builtin "max") (fun xs H Q => ∃ i j, xs = [.int i, .int j] ∧ Q (.int (if j > i then j else i)) H) := by
  intro pins s σ H xs us Q I r h
  obtain ⟨i, j, rfl, q⟩ := h
  obtain ⟨u, w', rfl, ⟨t, rfl⟩, ⟨t', rfl⟩⟩ := vals2 r
  refine max_two_ints (I.ok.hd hc) fun h' tk k => ⟨_, H, I.kept k, ?_, q⟩
  by_cases hj : j > i
  · rw [if_pos hj, if_pos hj]; exact ⟨_, rfl⟩
  · rw [if_neg hj, if_neg hj]; exact ⟨_, rfl⟩
theorem call_min2 (hc : X.calm = true) : CallR X (.builtin "min") (fun xs H Q => ∃ i j, xs = [.int i, .int j] ∧ Q (.int (if j < i then j else i)) H) := by
  intro pins s σ H xs us Q I r h
  obtain ⟨i, j, rfl, q⟩ := h
  obtain ⟨u, w', rfl, ⟨t, rfl⟩, ⟨t', rfl⟩⟩ := vals2 r
  refine min_two_ints (I.ok.hd hc) fun h' tk k => ⟨_, H, I.kept k, ?_, q⟩
  by_cases hj : j < i
  · rw [if_pos hj, if_pos hj]; exact ⟨_, rfl⟩
  · rw [if_neg hj, if_neg hj]; exact ⟨_, rfl⟩
theorem call_int1 : CallR X (.type "int") (fun xs H Q => (∃ i, xs = [.int i] ∧ Q (.int i) H) ∨ ∃ k, xs = [.bl k] ∧ Q (.int (if k then 1 else 0)) H) := by
  intro pins s σ H xs us Q I r h
  rcases h with ⟨i, rfl, q⟩ | ⟨k, rfl, q⟩
  · obtain ⟨u, rfl, t, rfl⟩ := vals1 r
    exact call_int_int ⟨.int i, H, I, ⟨_, rfl⟩, q⟩
  · obtain ⟨u, rfl, r1⟩ := vals1 r
    cases r1
    exact call_int_bool ⟨.int (if k then 1 else 0), H, I.tok _, ⟨_, rfl⟩, q⟩
end
end L2
namespace L2
open PySem PySem.Spec PyProof.Rows
structure ObjM (h : Heap) (x dx C : Addr) (mA : Str → Option Value) : Prop where
  obj : h.get? x = some (PySem.W.instObj C dx)
  ns : h.Ns1 dx mA
  ne : dx ≠ x
theorem lookIn_ns {h : Heap} {dx : Addr} {mA : Str → Option Value} (n : h.Ns1 dx mA) : ∃ od, h.get? dx = some od ∧ ∀ name, PySem.W.lookIn name od = some (mA name) := by
  obtain ⟨o, es, ep, ho, hd, hk, _, hm⟩ := n
  refine ⟨o, ho, fun name => ?_⟩
  have e := hm name
  unfold nsFind findBy at e
  rw [← Array.find?_toList] at e
  unfold PySem.W.lookIn
  rw [hd]
  dsimp only
  split
  · rename_i y q
    rw [q] at e
    exact congrArg some e
  · rename_i q
    rw [q] at e
    have a : es.toList.any (·.refKey) = false := by
      rw [List.any_eq_false]
      intro y hy
      obtain ⟨z, t, hkey⟩ := hk y (Array.mem_toList_iff.mp hy)
      simp [DictEntry.refKey, hkey]
    have a' : ¬ es.toList.any (·.refKey) = true := by rw [a]; exact Bool.false_ne_true
    rw [if_neg a']
    exact congrArg some e
theorem ObjM.look {h : Heap} {x dx C : Addr} {mA : Str → Option Value} (I : ObjM h x dx C mA) : ∃ od, PySem.W.InstAt h x (PySem.W.instObj C dx) C (some od) ∧ ∀ name, PySem.W.lookIn name od = some (mA name) :=
  let ⟨od, ho, hl⟩ := lookIn_ns I.ns
  ⟨od, ⟨I.obj, rfl, rfl, ho⟩, hl⟩
section
variable {prog : Program} {w : World} {A : Around} {E : Value → Shared → Prop} {s : Shared} {K : PySem.W.Frag} {x dx C f : Addr} {mA : Str → Option Value} {name : Str} {v : Value}
theorem get_map {expr : Bool} {Q : Value → Shared → Prop} (X : K.In s.heap) (I : ObjM s.heap x dx C mA) (hg : PySem.W.plainGet K C name = true) (hh : PySem.W.hasDictIn K C = true)
    (ha : PySem.W.findIn K (.ref C) name = some none) (hv : mA name = some v) (hv' : PySem.W.handedIn v = true) (h : Q v { s with toks := s.toks + 1 }) :
    wpAny (model prog w) A (getAttr (.ref x) name expr) Q E s := by
  obtain ⟨od, J, hl⟩ := I.look
  exact PySem.W.get_value X J (PySem.W.plainGet_of hg).1 (PySem.W.findObj_own hh ha rfl (by rw [hl, hv])) hv' h
theorem get_meth {pl : Sem Bool} {Q : Value × List Value → Shared → Prop} (X : K.In s.heap) (I : ObjM s.heap x dx C mA) (hg : PySem.W.plainGet K C name = true)
    (hf : PySem.W.findIn K (.ref C) name = some (some (.ref f))) (ht : PySem.W.isFn K (.ref f) = true) (hv : mA name = none) (h : Q (.ref f, [.ref x]) s) :
    wpAny (model prog w) A (getMethod (.ref x) name pl) Q E s := by
  obtain ⟨od, J, hl⟩ := I.look
  exact PySem.W.method_fn X J (PySem.W.plainGet_of hg).1 (PySem.W.plainGet_of hg).2 hf (beq_iff_eq.mp ht) (by show (PySem.W.lookIn name od).map (·.isSome) = some false; rw [hl, hv]; rfl) h
theorem set_map {ns : List Str} {Q : Unit → Shared → Prop} (X : K.In s.heap) (I : ObjM s.heap x dx C mA)
    (hs : PySem.W.findIn K (.ref C) "__setattr__" = some (some (.builtin "object.__setattr__"))) (hp : PySem.W.plainOver K C = true) (ht : PySem.W.takerIn K C name = some none) (hh : PySem.W.hasDictIn K C = true)
    (hw : PySem.Within mA ns) (hsz : ns.length ≤ sizeLine)
    (h : ∀ h', ObjM h' x dx C (fun y => if y = name then some v else mA y) → Heap.SameBut dx s.heap h' → Q () { s with heap := h', toks := s.toks + 2 }) :
    wpAny (model prog w) A (setAttr (.ref x) name v) Q E s := by
  obtain ⟨od, J, hl⟩ := I.look
  refine PySem.W.set_plain X J hs (PySem.W.osa_open (s := { s with toks := s.toks + 1 }) (r := none) X J hp ht fun b => ?_)
  obtain ⟨cd, hc, hd'⟩ := PySem.W.any_some hh
  have hx : s.heap.get? x = some ⟨.ref C, some dx, .plain, #[]⟩ := I.obj
  refine wpAny_bind (wpAny_pure (wpAny_bind (wpAny_bind (wpAny_loadPart hx (wpAny_bind (PySem.W.Looks.here (s := { s with toks := s.toks + 1 }) (PySem.W.looks_clsIn X hc) ?_))))))
  rw [hd']
  refine wpAny_pure (a := some dx) (wpAny_bind (wpAny_pure (wpAny_bind ?_)))
  refine wpAny_nsSet1 (s := { s with toks := s.toks + 1 }) I.ns fun h' hn2 hs2 => ?_
  obtain ⟨oD, esD, epD, hoD, hdD, hcD⟩ := hn2.count (PySem.Within.cons name v hw)
  refine wpAny_bind (wpAny_lookBehind hoD (by rw [hdD]; exact pastItsLine_dict (Nat.le_trans hcD (by rw [List.length_cons]; exact Nat.lt_of_le_of_lt (by assumption) (by decide)))) ?_)
  exact wpAny_pure (h _ ⟨(hs2.2 _ (Ne.symm I.ne)).trans I.obj, hn2, I.ne⟩ hs2)
theorem make_map {R : Result → Shared → Prop} {vs : List Value} {kw : List (Str × Value)} (X : K.In s.heap) (hm : PySem.W.makesIn K C = true)
    (hi : PySem.W.findIn K (.ref C) "__init__" = some (some (.ref f))) (hf : PySem.W.typeIn K (.ref f) = some (.type "function"))
    (h : codeAny (model prog w) (A.under (.builtin "type.__call__" ⟨.ref C :: vs, kw⟩)) (.call (.ref f) ⟨.ref (s.heap.objs.size + 1) :: vs, kw⟩) (PySem.W.InitBack (s.heap.objs.size + 1) R)
      { s with heap := (s.heap.push PySem.W.emptyDict).push (PySem.W.instObj C s.heap.objs.size) }) :
    codeAny (model prog w) A (.call (.ref C) ⟨vs, kw⟩) R s := by
  obtain ⟨hh, g, d, t, os⟩ := s
  exact PySem.W.make_core (PySem.W.makes_of X hm) (PySem.W.looks_findIn X hi) (fun self => PySem.W.bind_fn X self hf) (.inl rfl) h
end
def putF (f : Str) (v : V) : List (Str × V) → List (Str × V)
  | [] => [(f, v)]
  | (g, x) :: r => if g = f then (g, v) :: r else (g, x) :: putF f v r
theorem lookup_putF (f g : Str) (v : V) : ∀ fs : List (Str × V), (putF f v fs).lookup g = if g = f then some v else fs.lookup g
  | [] => by
    show List.lookup g [(f, v)] = _
    by_cases h : g = f
    · have hb : (g == f) = true := beq_iff_eq.mpr h
      simp only [List.lookup, hb, if_pos h]
    · have hb : (g == f) = false := beq_eq_false_iff_ne.mpr h
      simp only [List.lookup, hb, if_neg h]
  | (k, x) :: r => by
    have ih := lookup_putF f g v r
    rw [show putF f v ((k, x) :: r) = (if k = f then (k, v) :: r else (k, x) :: putF f v r) from rfl]
    by_cases hk : k = f
    · rw [if_pos hk]
      by_cases h : g = k
      · have hb : (g == k) = true := beq_iff_eq.mpr h
        simp only [List.lookup, hb, if_pos (h.trans hk)]
      · have hb : (g == k) = false := beq_eq_false_iff_ne.mpr h
        simp only [List.lookup, hb, if_neg (fun e : g = f => h (e.trans hk.symm))]
    · rw [if_neg hk]
      by_cases h : g = k
      · have hb : (g == k) = true := beq_iff_eq.mpr h
        simp only [List.lookup, hb, if_neg (fun e : g = f => hk (h.symm.trans e))]
      · have hb : (g == k) = false := beq_eq_false_iff_ne.mpr h
        simp only [List.lookup, hb]
        exact ih
theorem keys_putF (f : Str) (v : V) : ∀ fs : List (Str × V), f ∈ (putF f v fs).map (·.1) ∧ ∀ g, g ∈ fs.map (·.1) → g ∈ (putF f v fs).map (·.1)
  | [] => ⟨by simp [putF], fun g h => by simp at h⟩
  | (k, x) :: r => by
    obtain ⟨i1, i2⟩ := keys_putF f v r
    rw [show putF f v ((k, x) :: r) = (if k = f then (k, v) :: r else (k, x) :: putF f v r) from rfl]
    by_cases hk : k = f
    · rw [if_pos hk]
      subst hk
      exact ⟨by simp, fun g h => by simpa using h⟩
    · rw [if_neg hk]
      refine ⟨?_, fun g h => ?_⟩
      · rw [List.map_cons]
        exact List.mem_cons_of_mem _ i1
      · rw [List.map_cons] at h ⊢
        rcases List.mem_cons.mp h with e | e
        · exact List.mem_cons.mpr (.inl e)
        · exact List.mem_cons_of_mem _ (i2 g e)
theorem length_putF (f : Str) (v : V) : ∀ fs : List (Str × V), (putF f v fs).length ≤ fs.length + 1
  | [] => by simp [putF]
  | (k, x) :: r => by
    have ih := length_putF f v r
    rw [show putF f v ((k, x) :: r) = (if k = f then (k, v) :: r else (k, x) :: putF f v r) from rfl]
    by_cases hk : k = f
    · rw [if_pos hk, List.length_cons, List.length_cons]; exact Nat.le_add_right _ _
    · rw [if_neg hk, List.length_cons, List.length_cons]; exact Nat.succ_le_succ (by assumption)
theorem RelO.some_of {v : V} {o : Option Value} (r : RelO (some v) o) : ∃ u, o = some u ∧ RelV v u := by
  cases o with
  | none => exact (show False from r).elim
  | some u => exact ⟨u, rfl, r⟩
theorem RelO.none_of {o : Option Value} (r : RelO none o) : o = none := by
  cases o with
  | none => rfl
  | some u => exact (show False from r).elim
theorem handed_of {v : V} {u : Value} (r : RelV v u) : PySem.W.handedIn u = true := by
  cases v with
  | non => cases (show u = Value.none from r); rfl
  | bl b => cases (show u = Value.bool b from r); rfl
  | int i => obtain ⟨t, e⟩ := (show ∃ t, u = Value.int i t from r); cases e; rfl
  | str x => obtain ⟨t, e⟩ := (show ∃ t, u = Value.str x t from r); cases e; rfl
  | byt b => obtain ⟨t, e⟩ := (show ∃ t, u = Value.bytes b t from r); cases e; rfl
  | flt b => obtain ⟨t, e⟩ := (show ∃ t, u = Value.float b t from r); cases e; rfl
  | ref a => cases (show u = Value.ref a from r); rfl
  | ty n => cases (show u = Value.type n from r); rfl
section
variable {P : Program} {w : World} {H H' : Hp} {h h' : Heap} {a C dx : Addr} {fs fs' : List (Str × V)}
theorem ins_get (hok : HOk P w H h) (e : H a = some (.ins C dx fs)) : ∃ mA, ObjM h a dx C mA ∧ (∀ f, RelO (fs.lookup f) (mA f)) ∧ PySem.Within mA (fs.map (·.1)) ∧ fs.length ≤ 1000 ∧ H dx = some (.own a) := by
  obtain ⟨d, z, ne, ob, mA, n, r, q⟩ := (show ObjOk P w H h a (.ins C dx fs) from hok a _ e)
  exact ⟨mA, ⟨ob, n, ne⟩, r, q, z, d⟩
end
structure Cls (K : PySem.W.Frag) (C : Addr) : Prop where
  pg : PySem.W.plainGet K C Str.empty = true
  hd : PySem.W.hasDictIn K C = true
  po : PySem.W.plainOver K C = true
  sa : PySem.W.findIn K (.ref C) "__setattr__" = some (some (.builtin "object.__setattr__"))
theorem Cls.get {K : PySem.W.Frag} {C : Addr} (c : Cls K C) (f : Str) : PySem.W.plainGet K C f = true := c.pg
def NoAttr (K : PySem.W.Frag) (C : Addr) (f : Str) : Prop := PySem.W.findIn K (.ref C) f = some none
theorem NoAttr.taker {K : PySem.W.Frag} {C : Addr} {f : Str} (n : NoAttr K C f) : PySem.W.takerIn K C f = some none := by
  unfold PySem.W.takerIn
  rw [show PySem.W.findIn K (.ref C) f = some none from n]
  rfl
structure Meth (K : PySem.W.Frag) (C : Addr) (m : Str) (f : Addr) : Prop where
  at_ : PySem.W.findIn K (.ref C) m = some (some (.ref f))
  fn : PySem.W.isFn K (.ref f) = true
  kp : PySem.W.keepIn K (.ref f) = true
section
variable {X : Cx} {pins : List (Addr × Obj)} {σ : St} {H : Hp} {s : Shared} {a C dx : Addr} {fs : List (Str × V)} {f : Str} {v : V} {A : Around} {E : Value → Shared → Prop}
theorem getattr_ok {b : Bool} {Q : Value → Shared → Prop} (I : Inv X pins σ H s) (e : H a = some (.ins C dx fs)) (c : Cls X.K C) (n : NoAttr X.K C f) (l : fs.lookup f = some v)
    (h : ∀ u s', Inv X pins σ H s' → RelV v u → Q u s') : wpAny (model X.prog X.w) A (getAttr (.ref a) f b) Q E s := by
  obtain ⟨mA, O, r, _, _, _⟩ := ins_get I.hok e
  obtain ⟨u, hu, ru⟩ := RelO.some_of (v := v) (o := mA f) (by rw [← l]; exact r f)
  exact get_map I.kIn O (c.get f) c.hd n hu (handed_of ru) (h u _ (I.tok _) ru)
theorem getmeth_ok {m : Str} {g : Addr} {pl : Sem Bool} {Q : Value × List Value → Shared → Prop} (I : Inv X pins σ H s) (e : H a = some (.ins C dx fs)) (c : Cls X.K C) (k : Meth X.K C m g) (l : fs.lookup m = none)
    (h : Q (.ref g, [.ref a]) s) : wpAny (model X.prog X.w) A (getMethod (.ref a) m pl) Q E s := by
  obtain ⟨mA, O, r, _, _, _⟩ := ins_get I.hok e
  have hn : mA m = none := RelO.none_of (by rw [← l]; exact r m)
  exact get_meth I.kIn O (c.get m) k.at_ k.fn hn h
theorem setattr_ok {y : V} {u : Value} {Q : Unit → Shared → Prop} (I : Inv X pins σ H s) (e : H a = some (.ins C dx fs)) (c : Cls X.K C) (n : NoAttr X.K C f) (hl : fs.length < 1000) (ry : RelV y u)
    (h : ∀ s', Inv X pins σ (upd H a (.ins C dx (putF f y fs))) s' → Q () s') : wpAny (model X.prog X.w) A (setAttr (.ref a) f u) Q E s := by
  obtain ⟨mA, O, r, wi, _, ho⟩ := ins_get I.hok e
  have hz : (fs.map (·.1)).length ≤ sizeLine := by rw [List.length_map, sizeLine_eq]; exact Nat.le_trans (by assumption) (by decide)
  refine set_map I.kIn O c.sa c.po n.taker c.hd wi hz fun h' O' sb => h _ ?_
  have hd : ∃ o, h'.get? dx = some o := let ⟨o, _, _, e', _⟩ := O'.ns; ⟨o, e'⟩
  refine I.write (x := a) (e := dx) (by rw [e]; exact True.intro) (.inr ho) (fun b q hb z => (sb.2 b hb).trans z) hd ?_
  refine ⟨by rw [upd_ne O.ne]; exact ho, ?_, O.ne, O'.obj, _, O'.ns, fun g => ?_, fun g hg => ?_⟩
  · have := length_putF f y fs; exact Nat.le_trans (by assumption) (by assumption)
  · show RelO ((putF f y fs).lookup g) (if g = f then some u else mA g)
    rw [lookup_putF]
    by_cases q : g = f
    · rw [if_pos q, if_pos q]; exact ry
    · rw [if_neg q, if_neg q]; exact r g
  · by_cases q : g = f
    · rw [q]; exact (keys_putF f y fs).1
    · refine (keys_putF f y fs).2 g (wi g fun z => hg ?_)
      show (if g = f then some u else mA g) = none
      rw [if_neg q]; exact z
theorem Inv.made (I : Inv X pins σ H s) : Inv X pins σ (upd (upd H s.heap.objs.size (.own (s.heap.objs.size + 1))) (s.heap.objs.size + 1) (.ins C s.heap.objs.size []))
    { s with heap := (s.heap.push PySem.W.emptyDict).push (PySem.W.instObj C s.heap.objs.size) } := by
  have e1 : (s.heap.push PySem.W.emptyDict).get? s.heap.objs.size = some PySem.W.emptyDict := Heap.get?_push_size s.heap rfl
  have e2 : ((s.heap.push PySem.W.emptyDict).push (PySem.W.instObj C s.heap.objs.size)).get? (s.heap.objs.size + 1) = some (PySem.W.instObj C s.heap.objs.size) := by
    have := Heap.get?_push_size (s.heap.push PySem.W.emptyDict) (o := PySem.W.instObj C s.heap.objs.size) rfl
    rwa [Heap.size_push] at this
  have e3 : (s.heap.push PySem.W.emptyDict).Ns s.heap.objs.size (fun _ => none) := ⟨PySem.W.emptyDict, #[], _, e1, rfl, (fun e he => absurd he (by simp)), fun _ => rfl⟩
  have I1 := I.laid (a := s.heap.objs.size) (o := .own (s.heap.objs.size + 1)) (h' := s.heap.push PySem.W.emptyDict) (t' := s.toks) (fun b u q => Heap.get?_push_of_some _ q) (Nat.le_refl _) ⟨_, e1⟩
  refine I1.laid (a := s.heap.objs.size + 1) (o := .ins C s.heap.objs.size []) (t' := s.toks) (fun b u q => Heap.get?_push_of_some _ q) (Nat.le_of_eq (Heap.size_push _ _)) ?_
  have ne : s.heap.objs.size ≠ s.heap.objs.size + 1 := Nat.ne_of_lt (Nat.lt_succ_self _)
  refine ⟨by rw [upd_ne ne, upd_same], Nat.zero_le _, ne, e2, fun _ => none, (Heap.Ns1.of_empty e3).at fun o q => Heap.get?_push_of_some _ q, fun _ => True.intro, fun y hy => absurd rfl hy⟩
theorem attr_of {prog : Program} {w : World} {env : Env} {e : Expr} {f : Str} {pos : Pos} {s : Shared} {Q : Value → Shared → Prop} (hb : attributeBase e f env (eval e env) = eval e env)
    (h : wpAny (model prog w) A (eval e env) (fun o s₁ => wpAny (model prog w) A (getAttr o f true) Q E s₁) E s) : wpAny (model prog w) A (eval (.Attribute e f pos) env) Q E s :=
  Attribute_any_ h (by rw [arm_eval_Attribute, hb])
end
def tFld (K : PySem.W.Frag) (ta : TE) (f : Str) : TE := fun σ H Q => ta σ H fun x H1 => ∃ a C dx fs v, x = .ref a ∧ H1 a = some (.ins C dx fs) ∧ Cls K C ∧ NoAttr K C f ∧ fs.lookup f = some v ∧ Q v H1
def sFld (K : PySem.W.Frag) (ta tv : TE) (f : Str) : TS := fun D σ H => tv σ H fun y H1 => ta σ H1 fun x H2 => ∃ a C dx fs, x = .ref a ∧ H2 a = some (.ins C dx fs) ∧ Cls K C ∧ NoAttr K C f ∧ fs.length < 1000 ∧
  D.nx σ (upd H2 a (.ins C dx (putF f y fs)))
section
variable {X : Cx} {o e value : Expr} {f : Str} {pos pos' tpos : Pos} {ta tv : TE}
theorem pe_fld (he : PE X e ta) (hb : attributeBase e f X.env (eval e X.env) = eval e X.env) : PE X (.Attribute e f pos) (tFld X.K ta f) := by
  intro pins s σ H Q I h
  refine attr_of hb (thn (he pins s σ H _ I h) fun u s1 ⟨x, H1, I1, rx, a, C, dx, fs, v, ex, ea, c, n, l, q⟩ => ?_)
  subst ex
  obtain rfl : u = Value.ref a := rx
  exact getattr_ok I1 ea c n l fun u' s2 I2 ru => ⟨v, H1, I2, ru, q⟩
theorem ps_fld (ha : PE X o ta) (hv : PE X value tv) (hs : swapsWith value (some (.Attribute o f pos')) pos.line X.env = pure false) : PS X (.Assign [.Attribute o f pos'] value pos) (sFld X.K ta tv f) := by
  intro pins s σ H D I h
  refine plainObj_wpAny_Assign_Attribute (thn (hv pins s σ H _ I h) fun u s1 ⟨y, H1, I1, ry, q⟩ => thn (ha pins s1 σ H1 _ I1 q) fun ov s2 ⟨x, H2, I2, rx, a, C, dx, fs, ex, ea, c, n, l, q2⟩ => ?_) hs
  subst ex
  obtain rfl : ov = Value.ref a := rx
  exact setattr_ok I2 ea c n l ry fun s3 I3 => ⟨σ, _, I3, q2⟩
end
section
variable {X : Cx} {pins : List (Addr × Obj)} {σ : St} {H : Hp} {s : Shared} {A : Around} {E : Value → Shared → Prop} {Q : Value → Shared → Prop} {c : Value} {b : Bool}
inductive TyOf (K : PySem.W.Frag) (H : Hp) : V → Value → Prop where
  | non : TyOf K H .non (.type "NoneType")
  | bl (x : Bool) : TyOf K H (.bl x) (.type "bool")
  | int (i : Int) : TyOf K H (.int i) (.type "int")
  | str (x : Str) : TyOf K H (.str x) (.type "str")
  | flt (x : UInt64) : TyOf K H (.flt x) (.type "float")
  | lst {a : Addr} {xs : List V} (e : H a = some (.lst xs)) : TyOf K H (.ref a) (.type "list")
  | frz {a : Addr} {o : Obj} {xs : List V} (e : H a = some (.frz o (.lst xs))) : TyOf K H (.ref a) (.type "list")
  | tup {a : Addr} {xs : List V} (e : H a = some (.tup xs)) : TyOf K H (.ref a) (.type "tuple")
  | dK {a : Addr} {kvs : List (Key × V)} (e : H a = some (.dK kvs)) : TyOf K H (.ref a) (.type "dict")
  | dT {a : Addr} {kvs : List (List Key × V)} (e : H a = some (.dT kvs)) : TyOf K H (.ref a) (.type "dict")
  | ins {a C dx : Addr} {fs : List (Str × V)} (e : H a = some (.ins C dx fs)) (cl : Cls K C) (ha : PySem.W.findIn K (.ref C) "__class__" = some (some (.builtin "object.__class__")))
      (hn : PySem.W.specialIn K (.builtin "object.__class__") "__get__" = some (some (.builtin "getset_descriptor.__get__"))) (htk : PySem.W.takesIn K (.builtin "object.__class__") = some true)
      (hm : PySem.W.mroIn K C (.type "object") = some true) : TyOf K H (.ref a) (.ref C)
theorem isinst_ok {x : V} {u t : Value} (I : Inv X pins σ H s) (rx : RelV x u) (ty : TyOf X.K H x t) (e : PySem.W.kitOne X.K t c = some b) (h : ∀ tk, Q (.bool b) { s with toks := tk }) :
    wpAny (model X.prog X.w) A (call (.builtin "isinstance") [u, c]) Q E s := by
  cases ty with
  | non => cases (show u = Value.none from rx); exact PySem.W.kia_one PySem.W.kitx_none I.kIn True.intro e (fun z => nomatch z) h
  | bl y => cases (show u = Value.bool y from rx); exact PySem.W.kia_one PySem.W.kitx_bool I.kIn True.intro e (fun z => nomatch z) h
  | int i => obtain ⟨t, q⟩ := (show ∃ t, u = Value.int i t from rx); cases q; exact PySem.W.kia_one PySem.W.kitx_int I.kIn True.intro e (fun z => nomatch z) h
  | str y => obtain ⟨t, q⟩ := (show ∃ t, u = Value.str y t from rx); cases q; exact PySem.W.kia_one PySem.W.kitx_str I.kIn True.intro e (fun z => nomatch z) h
  | flt y => obtain ⟨t, q⟩ := (show ∃ t, u = Value.float y t from rx); cases q; exact PySem.W.kia_one PySem.W.kitx_float I.kIn True.intro e (fun z => nomatch z) h
  | @lst a xs ea =>
    cases (show u = Value.ref a from rx)
    obtain ⟨_, _, n, _, h1⟩ := (show ObjOk X.prog X.w H s.heap a (.lst xs) from I.hok a _ ea)
    exact PySem.W.kia_one PySem.W.kitx_list I.kIn ⟨_, h1, rfl⟩ e (fun z => nomatch z) h
  | @frz a ob xs ea =>
    cases (show u = Value.ref a from rx)
    obtain ⟨_, _, _, n, _, h1⟩ := (show ObjOk X.prog X.w H s.heap a (.frz ob (.lst xs)) from I.hok a _ ea)
    exact PySem.W.kia_one PySem.W.kitx_list I.kIn ⟨_, h1, rfl⟩ e (fun z => nomatch z) h
  | @tup a xs ea =>
    cases (show u = Value.ref a from rx)
    obtain ⟨_, _, _, p⟩ := (show ObjOk X.prog X.w H s.heap a (.tup xs) from I.hok a _ ea)
    obtain ⟨o, h1, h2, _⟩ := p
    exact PySem.W.kia_one PySem.W.kitx_tuple I.kIn ⟨o, h1, h2⟩ e (fun z => nomatch z) h
  | @dK a kvs ea =>
    cases (show u = Value.ref a from rx)
    obtain ⟨_, _, vs, _, p⟩ := (show ObjOk X.prog X.w H s.heap a (.dK kvs) from I.hok a _ ea)
    obtain ⟨o, es, ep, h1, h2, _⟩ := p
    exact PySem.W.kia_one PySem.W.kitx_dict I.kIn ⟨o, h1, h2.1⟩ e (fun z => nomatch z) h
  | @dT a kvs ea =>
    cases (show u = Value.ref a from rx)
    obtain ⟨_, _, xs, _, o, es, ep, h1, h2, _⟩ := (show ObjOk X.prog X.w H s.heap a (.dT kvs) from I.hok a _ ea)
    exact PySem.W.kia_one PySem.W.kitx_dict I.kIn ⟨o, h1, h2.1⟩ e (fun z => nomatch z) h
  | @ins a C dx fs ea cl ha hn htk hm =>
    cases (show u = Value.ref a from rx)
    obtain ⟨mA, O, _⟩ := ins_get I.hok ea
    obtain ⟨od, J, _⟩ := O.look
    exact PySem.W.kia_one (PySem.W.kitx_own (cl.get _) cl.hd ha hn htk hm) I.kIn J e (fun z => nomatch z) h
end
end L2
namespace L2
open PySem PySem.Spec PyProof.Rows
structure Room (k : Nat) (A : Around) : Prop where
  hd : A.handled = none
  dp : A.depth + 3 * k + 5 < recursionLimit
  un : A.units + 16 * k + 200 < cLine
  gd : A.guards = some []
theorem Room.mono {j k : Nat} {A : Around} (r : Room k A) (h : j ≤ k) : Room j A := ⟨r.hd, by have := r.dp; omega, by have := r.un; omega, r.gd⟩
theorem Room.deeper {k : Nat} {A : Around} (r : Room (k + 1) A) (env : Env) : Room k (A.deeper env) :=
  ⟨r.hd, by have := r.dp; show A.depth + 1 + 3 * k + 5 < _; omega, by have := r.un; show A.units + 3 + 16 * k + 200 < _; omega, by show pushGuards [] A.guards = some []; rw [r.gd]; rfl⟩
theorem make_depth {A : Around} {C : Addr} {us : List Value} {kw : List (Str × Value)} : (A.under (.builtin "type.__call__" ⟨.ref C :: us, kw⟩)).depth = A.depth + 1 := by
  first | rfl | simp [Around.under, Code.weight, Code.isCreation, Code.isGuard, Code.isCaller, Code.frames, Code.isFrame, guardIds]
theorem make_units {A : Around} {C : Addr} {us : List Value} {kw : List (Str × Value)} : (A.under (.builtin "type.__call__" ⟨.ref C :: us, kw⟩)).units = A.units + 1 := by
  first | rfl | simp [Around.under, Code.cUnits, Code.frames, Code.isFrame]
theorem make_guards {A : Around} {C : Addr} {us : List Value} {kw : List (Str × Value)} : (A.under (.builtin "type.__call__" ⟨.ref C :: us, kw⟩)).guards = A.guards := by
  cases h : A.guards <;> simp [Around.under, Code.guards, Code.isGuard, guardIds, pushGuards, h]
theorem Room.make {k : Nat} {A : Around} (r : Room (k + 1) A) (C : Addr) (us : List Value) (kw : List (Str × Value)) : Room k (A.under (.builtin "type.__call__" ⟨.ref C :: us, kw⟩)) :=
  ⟨r.hd, by have := r.dp; rw [make_depth]; omega, by have := r.un; rw [make_units]; omega, by rw [make_guards]; exact r.gd⟩
theorem Room.depth {k : Nat} {A : Around} (r : Room k A) : A.depth < recursionLimit := by have := r.dp; omega
theorem Room.units {k : Nat} {A : Around} (r : Room k A) : A.units + 64 < cLine := by have := r.un; omega
def tNil : TA := fun _ H Q => Q [] H
def tCons (ta : TE) (tr : TA) : TA := fun σ H Q => ta σ H fun x H1 => tr σ H1 fun xs H2 => Q (x :: xs) H2
section
variable {X : Cx} {e : Expr} {es : List Expr} {te : TE} {t : TA} {pos : Pos}
theorem pa_nil : PA X [] tNil := fun _ _ _ _ H Q I h => Calls.spliced_nil ⟨[], H, I, .nil, h⟩
theorem pa_cons (ha : PE X e te) (hr : PA X es t) (hs : starEach (e :: es) X.env = (false, eval e X.env) :: starEach es X.env := by rfl) : PA X (e :: es) (tCons te t) := by
  intro pos pins s σ H Q I h
  rw [hs]
  show wpAny _ _ (spliced ((false, eval e X.env) :: backTo pos (starEach es X.env))) _ _ s
  refine Calls.spliced_cons (thn (ha pins s σ H _ I h) fun u s1 ⟨x, H1, I1, r1, q1⟩ => ?_)
  exact thn (hr pos pins s1 σ H1 _ I1 q1) fun us s2 ⟨xs, H2, I2, r2, q2⟩ => ⟨x :: xs, H2, I2, .cons r1 r2, q2⟩
def tTup (t : TA) : TE := fun σ H Q => t σ H fun xs H1 => xs.length ≤ sizeLine ∧ ∀ p, H1 p = none → Q (.ref p) (upd H1 p (.tup xs))
def tLst (t : TA) : TE := fun σ H Q => t σ H fun xs H1 => xs.length ≤ sizeLine ∧ ∀ p, H1 p = none → Q (.ref p) (upd H1 p (.lst xs))
theorem pe_tup {x1} (h : PA X es t) : PE X (.Tuple es x1 pos) (tTup t) := by
  intro pins s σ H Q I hq
  refine wpAny_Tuple_spliced (thn (h pos pins s σ H _ I hq) fun us s1 ⟨xs, H1, I1, r, z, q⟩ => ⟨by rw [← r.length]; exact z, ?_⟩)
  have hf : H1 s1.heap.objs.size = none := I1.hok.fresh (Nat.le_refl _)
  refine ⟨.ref s1.heap.objs.size, upd H1 s1.heap.objs.size (.tup xs), I1.laid (t' := s1.toks) (fun b u e => Heap.get?_push_of_some _ e) (Nat.le_refl _) ?_, rfl, q _ hf⟩
  exact ⟨z, us, r, IsTupN.new _ _⟩
theorem pe_lst (h : PA X es t) : PE X (.List es pos) (tLst t) := by
  intro pins s σ H Q I hq
  refine wpAny_List_spliced (thn (h pos pins s σ H _ I hq) fun us s1 ⟨xs, H1, I1, r, z, q⟩ => ⟨by rw [← r.length]; exact z, ?_⟩)
  have hf : H1 s1.heap.objs.size = none := I1.hok.fresh (Nat.le_refl _)
  refine ⟨.ref s1.heap.objs.size, upd H1 s1.heap.objs.size (.lst xs), I1.laid (t' := s1.toks) (fun b u e => Heap.get?_push_of_some _ e) (Nat.le_refl _) ?_, rfl, q _ hf⟩
  exact ⟨z, us, 0, r, Heap.get?_push_size _ rfl⟩
end
abbrev Sp := List V → Hp → VK → XK → Prop
abbrev CXT := List Env → Hp → Shared → XK → Value → Shared → Prop
structure Env0 (P : Program) (w : World) (K : PySem.W.Frag) (mg : Str → Option Value) (base : Heap) (A : Around) (outer : List Env) (s : Shared) (H : Hp) : Prop where
  frames : A.frames = some outer
  mod : Mod K mg base
  bs : ∀ b o, base.get? b = some o → s.heap.get? b = some o ∧ H b = none
  bsz : base.objs.size ≤ s.heap.objs.size
  funs : s.heap.FunFrames base outer
  frf : ∀ b ∈ frs outer, H b = none
  hok : HOk P w H s.heap
  bare : AllBare s.gens
def CE (outer : List Env) (P : Program) (w : World) (H : Hp) (s : Shared) (Q : VK) (u : Value) (s' : Shared) : Prop :=
  ∃ v H', s'.os = s.os ∧ AllBare s'.gens ∧ Un (frs outer) [] H H' s.heap s'.heap ∧ HOk P w H' s'.heap ∧ RelV v u ∧ Q v H'
def CR (CX : CXT) (outer : List Env) (P : Program) (w : World) (H : Hp) (s : Shared) (Q : VK) (E : XK) (r : Result) (s' : Shared) : Prop :=
  match r with
  | .ok (.ret u) => CE outer P w H s Q u s'
  | .ok _ => False
  | .error e => CX outer H s E e s'
structure FnOk (P : Program) (w : World) (K : PySem.W.Frag) (mg : Str → Option Value) (base : Heap) (CX : CXT) (k : Nat) (f : Addr) (fd : FuncData) (ps : List Str) (sp : Sp) : Prop where
  len : ∀ vs H Q E, sp vs H Q E → vs.length = ps.length
  run : ∀ (A : Around) (outer : List Env) (s : Shared) (H : Hp) (args : Args) (us : List Value) (vs : List V) (Q : VK) (E : XK), Room k A → Env0 P w K mg base A outer s H → BindsTo s fd args (ps.zip us) → Vals vs us → sp vs H Q E →
    codeAny (model P w) A (.call (.ref f) args) (CR CX outer P w H s Q E) s
theorem FnOk.mono {P : Program} {w : World} {K : PySem.W.Frag} {mg : Str → Option Value} {base : Heap} {CX : CXT} {j k : Nat} {f : Addr} {fd : FuncData} {ps : List Str} {sp : Sp} (F : FnOk P w K mg base CX j f fd ps sp) (h : j ≤ k) :
    FnOk P w K mg base CX k f fd ps sp := ⟨F.len, fun A outer s H args us vs Q E hr => F.run A outer s H args us vs Q E (hr.mono h)⟩
theorem Env0.make {P : Program} {w : World} {K : PySem.W.Frag} {mg : Str → Option Value} {base : Heap} {A : Around} {outer : List Env} {s : Shared} {H : Hp} (e : Env0 P w K mg base A outer s H) (C : Addr) (us : List Value) (kw : List (Str × Value)) :
    Env0 P w K mg base (A.under (.builtin "type.__call__" ⟨.ref C :: us, kw⟩)) outer s H := ⟨by first | exact e.frames | (simpa [Around.under, Code.envs, Code.isFrame, pushEnvs] using e.frames), e.mod, e.bs, e.bsz, e.funs, e.frf, e.hok, e.bare⟩
section
variable {X : Cx} {pins : List (Addr × Obj)} {σ : St} {H : Hp} {s s' : Shared}
theorem Inv.env0 (I : Inv X pins σ H s) : Env0 X.prog X.w X.K X.mg X.base X.A X.stack s H :=
  ⟨I.ok.frames, I.ok.mod, I.bs, Nat.le_trans I.ok.bsz I.sz, I.stack, I.stkFree, I.hok, I.bare⟩
theorem Inv.after {Q : VK} {u : Value} (I : Inv X pins σ H s) (h : CE X.stack X.prog X.w H s Q u s') : EP X pins σ Q u s' := by
  obtain ⟨v, H', os, bare, un, hok, r, q⟩ := h
  obtain ⟨hh, g, d, t, os'⟩ := s'
  obtain rfl : os' = s.os := os
  exact ⟨v, H', I.call (h' := hh) (g' := g) (d' := d) (t' := t) (ch := []) un hok bare (fun b z => absurd z (by simp)), r, q⟩
end
def tCall (sp : Sp) (dvs : List V) (E : XK) (t : TA) : TE := fun σ H Q => t σ H fun vs H1 => sp (vs ++ dvs) H1 Q E
def tMeth (C : Addr) (m : Str) (sp : Sp) (dvs : List V) (E : XK) (ta : TE) (t : TA) : TE := fun σ H Q => ta σ H fun x H1 => ∃ a dx fs, x = .ref a ∧ H1 a = some (.ins C dx fs) ∧ fs.lookup m = none ∧
  t σ H1 fun vs H2 => sp (x :: (vs ++ dvs)) H2 Q E
def tMake (C : Addr) (sp : Sp) (dvs : List V) (E : XK) (t : TA) : TE := fun σ H Q => t σ H fun vs H1 => ∀ x dx, H1 x = none → H1 dx = none → dx ≠ x →
  sp (.ref x :: (vs ++ dvs)) (upd (upd H1 dx (.own x)) x (.ins C dx [])) (fun v H2 => v = .non ∧ Q (.ref x) H2) E
def Binds (K : PySem.W.Frag) (fd : FuncData) (ps : List Str) (ds : List Value) : Prop :=
  ∀ (s : Shared) (us : List Value), K.In s.heap → (us ++ ds).length = ps.length → BindsTo s fd ⟨us, []⟩ (ps.zip (us ++ ds))
theorem Binds.all {K : PySem.W.Frag} {fd : FuncData} {ps : List Str} (h : ∀ us : List Value, us.length = ps.length → bindArgs fd ⟨us, []⟩ = pure (ps.zip us)) : Binds K fd ps [] := fun s us _ hl => by
  rw [List.append_nil] at hl ⊢
  exact .of_eq (h us hl)
def Passes (CX : CXT) (X : Cx) (E : XK) : Prop := ∀ (pins : List (Addr × Obj)) (σ : St) (H : Hp) (s : Shared) (e : Value) (s' : Shared), Inv X pins σ H s → CX X.stack H s E e s' → X.xe e s'
section
variable {X : Cx} {CX : CXT} {k : Nat} {f C : Addr} {fd : FuncData} {ps : List Str} {sp : Sp} {dvs : List V} {ds : List Value} {E : XK} {x m : Str} {p pos apos : Pos} {e o : Expr} {es : List Expr} {ta : TE} {t : TA}
theorem run_fn {pins : List (Addr × Obj)} {σ : St} {H : Hp} {s : Shared} {Q : VK} {us : List Value} {vs : List V} (F : FnOk X.prog X.w X.K X.mg X.base CX k f fd ps sp) (hr : Room k X.A) (hb : Binds X.K fd ps ds) (hd : Vals dvs ds) (hx : Passes CX X E)
    (I : Inv X pins σ H s) (r : Vals vs us) (h : sp (vs ++ dvs) H Q E) : wpAny (model X.prog X.w) X.A (call (.ref f) us) (EP X pins σ Q) X.xe s := by
  have r2 : Vals (vs ++ dvs) (us ++ ds) := r.append hd
  have hl : (us ++ ds).length = ps.length := by rw [← r2.length]; exact F.len _ _ _ _ h
  refine wpAny_call (codeAny_mono (F.run X.A X.stack s H ⟨us, []⟩ (us ++ ds) (vs ++ dvs) Q E hr I.env0 (hb s us I.kIn hl) r2 h) fun r s' hq => ?_)
  cases r with
  | error e => exact hx pins σ H s e s' I hq
  | ok fl =>
    cases fl with
    | ret u => exact I.after hq
    | next => exact False.elim hq
    | brk => exact False.elim hq
    | cont => exact False.elim hq
theorem pe_call (F : FnOk X.prog X.w X.K X.mg X.base CX k f fd ps sp) (hr : Room k X.A) (hg : Gl X x) (hm : X.mg x = some (.ref f)) (hk : PySem.W.keepIn X.K (.ref f) = true) (hb : Binds X.K fd ps ds) (hd : Vals dvs ds) (hx : Passes CX X E)
    (ha : PA X (e :: es) t) (hdb : (x == ("__debug__" : Str)) = false := by decide) (he : starEach (e :: es) X.env = (false, eval e X.env) :: starEach es X.env := by rfl) (hpl : (backTo pos (starEach es X.env)).any (·.1) = false := by rfl) :
    PE X (.Call (.Name x p) (e :: es) [] pos) (tCall sp dvs E t) := by
  intro pins s σ H Q I h
  refine wpAny_Call_Name_kw (ld_glob I hg hm ?_ hdb)
  refine PySem.W.callWith_K (h₀ := X.base) I.ok.mod.kin hk (thn (ha pos pins s σ H _ I h) fun us s1 ⟨vs, H1, I1, r, q⟩ => ⟨I1.kIn, ?_⟩) he hpl
  exact run_fn F hr hb hd hx I1 r q
theorem pe_meth {pl : Sem Bool} (he : PE X o ta) (c : Cls X.K C) (hm : Meth X.K C m f) (F : FnOk X.prog X.w X.K X.mg X.base CX k f fd ps sp) (hr : Room k X.A) (hb : Binds X.K fd ps ds) (hd : Vals dvs ds) (hx : Passes CX X E) (ha : PA X (e :: es) t)
    (hst : starEach (e :: es) X.env = (false, eval e X.env) :: starEach es X.env := by rfl) (hpl : (backTo pos (starEach es X.env)).any (·.1) = false := by rfl)
    (ht : eval (.Call (.Attribute o m apos) (e :: es) [] pos) X.env = (do
      let ov ← eval o X.env
      standAt apos.atName
      let (f, first) ← holding [ov] (getMethod ov m pl)
      callWith pos f first (backTo pos (starEach (e :: es) X.env)) (backToKw pos (keywordEach [] X.env))) := by rfl) :
    PE X (.Call (.Attribute o m apos) (e :: es) [] pos) (tMeth C m sp dvs E ta t) := by
  intro pins s σ H Q I h
  refine PySem.W.methodCall_KW (pl := pl) (thn (he pins s σ H _ I h) fun u s1 ⟨x, H1, I1, rx, a, dx, fs, ex, ea, l, q⟩ => ?_) ht
  subst ex
  obtain rfl : u = Value.ref a := rx
  refine getmeth_ok I1 ea c hm l ?_
  refine PySem.W.callWith_K (first := [.ref a]) (h₀ := X.base) I.ok.mod.kin hm.kp (thn (ha pos pins s1 σ H1 _ I1 q) fun us s2 ⟨vs, H2, I2, r, q2⟩ => ⟨I2.kIn, ?_⟩) hst hpl
  exact run_fn (us := .ref a :: us) (vs := .ref a :: vs) F hr hb hd hx I2 (.cons rfl r) q2
theorem pe_meth0 {pl : Sem Bool} (he : PE X o ta) (c : Cls X.K C) (hm : Meth X.K C m f) (F : FnOk X.prog X.w X.K X.mg X.base CX k f fd ps sp) (hr : Room k X.A) (hb : Binds X.K fd ps ds) (hd : Vals dvs ds) (hx : Passes CX X E)
    (ht : eval (.Call (.Attribute o m apos) [] [] pos) X.env = (do
      let ov ← eval o X.env
      standAt apos.atName
      let (f, first) ← holding [ov] (getMethod ov m pl)
      callWith pos f first (backTo pos (starEach [] X.env)) (backToKw pos (keywordEach [] X.env))) := by rfl) :
    PE X (.Call (.Attribute o m apos) [] [] pos) (tMeth C m sp dvs E ta tNil) := by
  intro pins s σ H Q I h
  refine PySem.W.methodCall_KW (pl := pl) (thn (he pins s σ H _ I h) fun u s1 ⟨x, H1, I1, rx, a, dx, fs, ex, ea, l, q⟩ => ?_) ht
  subst ex
  obtain rfl : u = Value.ref a := rx
  refine getmeth_ok I1 ea c hm l ?_
  exact PySem.W.callWith_K0 (first := [.ref a]) I1.kIn hm.kp (run_fn (us := [.ref a]) (vs := [.ref a]) F hr hb hd hx I1 (.cons rfl .nil) q)
structure Mk (K : PySem.W.Frag) (C f : Addr) : Prop where
  makes : PySem.W.makesIn K C = true
  init : PySem.W.findIn K (.ref C) "__init__" = some (some (.ref f))
  fn : PySem.W.isFn K (.ref f) = true
  kp : PySem.W.keepIn K (.ref C) = true
theorem run_make {pins : List (Addr × Obj)} {σ : St} {H : Hp} {s : Shared} {Q : VK} {us : List Value} {vs : List V} (M : Mk X.K C f) (F : FnOk X.prog X.w X.K X.mg X.base CX k f fd ps sp) (hr : Room (k + 1) X.A) (hb : Binds X.K fd ps ds) (hd : Vals dvs ds)
    (hx : Passes CX X E) (I : Inv X pins σ H s) (r : Vals vs us)
    (h : ∀ x dx, H x = none → H dx = none → dx ≠ x → sp (.ref x :: (vs ++ dvs)) (upd (upd H dx (.own x)) x (.ins C dx [])) (fun v H2 => v = .non ∧ Q (.ref x) H2) E) :
    wpAny (model X.prog X.w) X.A (call (.ref C) us) (EP X pins σ Q) X.xe s := by
  have hq := h (s.heap.objs.size + 1) s.heap.objs.size (I.hok.fresh (Nat.le_succ _)) (I.hok.fresh (Nat.le_refl _)) (Nat.ne_of_lt (Nat.lt_succ_self _))
  have I2 := Inv.made (C := C) I
  have r2 : Vals (V.ref (s.heap.objs.size + 1) :: (vs ++ dvs)) (Value.ref (s.heap.objs.size + 1) :: (us ++ ds)) := .cons rfl (r.append hd)
  have hl : (Value.ref (s.heap.objs.size + 1) :: us ++ ds).length = ps.length := by
    have e := r2.length
    rw [F.len _ _ _ _ hq] at e
    exact e.symm
  refine wpAny_call (make_map (f := f) I.kIn M.makes M.init (beq_iff_eq.mp M.fn) (codeAny_mono (F.run _ X.stack _ _ ⟨Value.ref (s.heap.objs.size + 1) :: us, []⟩ (Value.ref (s.heap.objs.size + 1) :: (us ++ ds)) _ _ E (hr.make C us [])
    (I2.env0.make C us []) (hb _ (Value.ref (s.heap.objs.size + 1) :: us) I2.kIn hl) r2 hq) fun r s' hq' => ?_))
  cases r with
  | error e => exact hx pins σ _ _ e s' I2 hq'
  | ok fl =>
    cases fl with
    | ret u =>
      obtain ⟨v, H', I3, rv, ev, q3⟩ := I2.after hq'
      subst ev
      exact ⟨rv, ⟨V.ref (s.heap.objs.size + 1), H', I3, rfl, q3⟩⟩
    | next => exact False.elim hq'
    | brk => exact False.elim hq'
    | cont => exact False.elim hq'
theorem pe_make (M : Mk X.K C f) (F : FnOk X.prog X.w X.K X.mg X.base CX k f fd ps sp) (hr : Room (k + 1) X.A) (hg : Gl X x) (hm : X.mg x = some (.ref C)) (hb : Binds X.K fd ps ds) (hd : Vals dvs ds) (hx : Passes CX X E)
    (ha : PA X (e :: es) t) (hdb : (x == ("__debug__" : Str)) = false := by decide) (he : starEach (e :: es) X.env = (false, eval e X.env) :: starEach es X.env := by rfl) (hpl : (backTo pos (starEach es X.env)).any (·.1) = false := by rfl) :
    PE X (.Call (.Name x p) (e :: es) [] pos) (tMake C sp dvs E t) := by
  intro pins s σ H Q I h
  refine wpAny_Call_Name_kw (ld_glob I hg hm ?_ hdb)
  refine PySem.W.callWith_K (h₀ := X.base) I.ok.mod.kin M.kp (thn (ha pos pins s σ H _ I h) fun us s1 ⟨vs, H1, I1, r, q⟩ => ⟨I1.kIn, ?_⟩) he hpl
  exact run_make M F hr hb hd hx I1 r q
end
section
variable {X : Cx} {CX : CXT} {k : Nat} {f C : Addr} {fd : FuncData} {ps ks : List Str} {sp : Sp} {E : XK} {x m : Str} {p pos apos kpos : Pos} {e o : Expr} {es : List Expr} {kws : List Keyword} {te ta : TE} {t tk : TA} {nm : Option Str}
variable {g : List Value → List Value → List Value} {gV : List V → List V → List V}
end
structure FnScope (N P : List Str) (sc : Scope) : Prop where
  kind : sc.kind = .function
  co : sc.isCoroutine = false
  gen : sc.isGenerator = false
  nd : N.Nodup
  pre : N.take P.length = P
  par : ∀ x ∈ P, sc.names.lookup x = some .local ∨ sc.names.lookup x = some .cell
  nofree : ∀ y ∈ sc.names, y.2 ≠ .free
theorem bindL_out {kindOf : Str → Option NameKind} {x : Str} : ∀ {binds : List (Str × Value)} {m : Str → Option Value}, (∀ v, (x, v) ∉ binds) → bindL kindOf binds m x = m x
  | [], _, _ => rfl
  | (n, v) :: r, m, h => by
    unfold bindL
    rw [bindL_out fun w hw => h w (List.mem_cons_of_mem _ hw)]
    split
    · have : x ≠ n := by rintro rfl; exact h v List.mem_cons_self
      simp [this]
    · rfl
theorem bindC_out {kindOf : Str → Option NameKind} {x : Str} : ∀ {binds : List (Str × Value)} {m : Str → Option Value}, (∀ v, (x, v) ∉ binds) → bindC kindOf binds m x = m x
  | [], _, _ => rfl
  | (n, v) :: r, m, h => by
    unfold bindC
    rw [bindC_out fun w hw => h w (List.mem_cons_of_mem _ hw)]
    split
    · rfl
    · have : x ≠ n := by rintro rfl; exact h v List.mem_cons_self
      simp [this]
theorem bindL_get {kindOf : Str → Option NameKind} {x : Str} {v : Value} : ∀ {P : List Str} {vs : List Value} {i : Nat} {m : Str → Option Value}, P.Nodup → P[i]? = some x → vs[i]? = some v → kindOf x = some .local →
    bindL kindOf (P.zip vs) m x = some v
  | [], _, _, _, _, h, _, _ => by simp at h
  | _ :: _, [], _, _, _, _, h, _ => by simp at h
  | p :: P, w :: vs, 0, m, nd, h1, h2, hk => by
    simp at h1 h2; subst h1; subst h2
    show bindL kindOf ((p, w) :: P.zip vs) m p = _
    unfold bindL
    rw [bindL_out fun v hv => (List.nodup_cons.mp nd).1 (List.of_mem_zip hv).1, if_pos hk]
    simp
  | p :: P, w :: vs, i + 1, m, nd, h1, h2, hk => by
    show bindL kindOf ((p, w) :: P.zip vs) m x = _
    unfold bindL
    exact bindL_get (i := i) (List.nodup_cons.mp nd).2 (by simpa using h1) (by simpa using h2) hk
theorem bindC_get {kindOf : Str → Option NameKind} {x : Str} {v : Value} : ∀ {P : List Str} {vs : List Value} {i : Nat} {m : Str → Option Value}, P.Nodup → P[i]? = some x → vs[i]? = some v → kindOf x ≠ some .local →
    bindC kindOf (P.zip vs) m x = some v
  | [], _, _, _, _, h, _, _ => by simp at h
  | _ :: _, [], _, _, _, _, h, _ => by simp at h
  | p :: P, w :: vs, 0, m, nd, h1, h2, hk => by
    simp at h1 h2; subst h1; subst h2
    show bindC kindOf ((p, w) :: P.zip vs) m p = _
    unfold bindC
    rw [bindC_out fun v hv => (List.nodup_cons.mp nd).1 (List.of_mem_zip hv).1, if_neg hk]
    simp
  | p :: P, w :: vs, i + 1, m, nd, h1, h2, hk => by
    show bindC kindOf ((p, w) :: P.zip vs) m x = _
    unfold bindC
    exact bindC_get (i := i) (List.nodup_cons.mp nd).2 (by simpa using h1) (by simpa using h2) hk
def start (N : List Str) (vs : List V) : St := vs.map some ++ List.replicate (N.length - vs.length) none
def cxOf (CX : CXT) (P : Program) (w : World) (K : PySem.W.Frag) (mg : Str → Option Value) (base : Heap) (N : List Str) (qual : Str) (scope : Scope) (f : Addr) (cd : Value) (A : Around) (outer : List Env) (s : Shared) (H : Hp) (E : XK) : Cx where
  prog := P
  w := w
  K := K
  mg := mg
  base := base
  A := A.deeper (envOfC qual scope s.heap.objs.size f cd)
  N := N
  s₀ := s
  H₀ := H
  env := envOfC qual scope s.heap.objs.size f cd
  outer := outer
  stack := envOfC qual scope s.heap.objs.size f cd :: outer
  ex := []
  calm := true
  fn := fun _ => true
  pn := []
  xe := fun e s' => wpAny (model P w) (A.deeper (envOfC qual scope s.heap.objs.size f cd)) (leaving (envOfC qual scope s.heap.objs.size f cd) e) (fun _ s'' => CX outer H s E e s'') (fun e' s'' => CX outer H s E e' s'') s'
theorem cell_has {sc : Scope} {n : Nat} {x : Str} (h : sc.names.lookup x = some .cell) : ∃ c, (cellsFrom n sc.names []).lookup x = some c := by
  have q := PySem.W.cellsFrom_some sc.names n [] (.inl h)
  exact Option.isSome_iff_exists.mp q
theorem inv_start {CX : CXT} {P : Program} {w : World} {K : PySem.W.Frag} {mg : Str → Option Value} {base : Heap} {N ps : List Str} {qual : Str} {scope : Scope} {f : Addr} {cd : Value} {A : Around} {outer : List Env} {s s1 : Shared} {H : Hp} {E : XK} {us : List Value} {vs : List V}
    (S : FnScope N ps scope) (hd : A.handled = none) (e0 : Env0 P w K mg base A outer s H) (hl : vs.length = ps.length) (r : Vals vs us)
    (x : InCallC s s.heap.objs.size (bindL (envOfC qual scope s.heap.objs.size f cd).kindOf (ps.zip us) fun _ => none) (cellsFrom (s.heap.objs.size + 1) scope.names []) (bindC (envOfC qual scope s.heap.objs.size f cd).kindOf (ps.zip us) fun _ => none) s1) :
    Inv (cxOf CX P w K mg base N qual scope f cd A outer s H E) [] (start N vs) H s1 := by
  have hpl : ps.length ≤ N.length := by have := congrArg List.length S.pre; rw [List.length_take] at this; omega
  obtain ⟨h1, tk, rfl, hk⟩ := x.done
  have noA : ∀ b : Addr, b ∉ (cxOf CX P w K mg base N qual scope f cd A outer s H E).ex := fun b z => absurd (show b ∈ ([] : List Addr) from z) (by simp)
  refine ⟨⟨e0.mod, S.kind, rfl, rfl, Nat.le_refl _, fun y z c h1 h2 => ?_, fun y hy => ?_, fun y c _ h => ?_, fun _ => hd, Around.frames_deeper e0.frames, .inr ⟨rfl, rfl⟩, fun b z => absurd z (noA b), e0.bs, e0.bsz, fun b _ _ => noA b, fun b z => absurd z (noA b), e0.funs, e0.frf⟩,
    rfl, e0.bare, Un.kept hk, ⟨_, x.toInCall.ns, fun i y v h1 h2 h3 => ?_⟩, fun y c h => ⟨_, x.cell y c h⟩, e0.hok.fresh (Nat.le_refl _), fun y c h => ?_, fun p hp => absurd (show p ∈ ([] : List (Addr × Obj)) from hp) (by simp), e0.hok.kept hk, ?_⟩
  · exact name_of_addr x.apart (PySem.mem_of_lookup h1) (PySem.mem_of_lookup h2)
  · have hy : scope.names.lookup y = some .cell ∨ scope.names.lookup y = some .free := hy
    rcases hy with hy | hy
    · exact cell_has hy
    · exact absurd rfl (S.nofree _ (PySem.mem_of_lookup hy))
  · exact Nat.le_of_lt (x.above y c (PySem.mem_of_lookup h))
  · have hi : i < vs.length := by
      unfold start at h2
      by_cases hi : i < vs.length
      · exact hi
      · rw [List.getElem?_append_right (by simpa using hi)] at h2
        rw [List.getElem?_replicate] at h2
        split at h2 <;> cases h2
    have ha : vs[i]? = some v := by
      unfold start at h2
      rw [List.getElem?_append_left (by simpa using hi), List.getElem?_map] at h2
      cases e : vs[i]? with
      | none => rw [e] at h2; cases h2
      | some a => rw [e] at h2; cases h2; rfl
    obtain ⟨u, hu, rv⟩ := r.get ha
    have hp : ps[i]? = some y := by
      rw [← S.pre, List.getElem?_take_of_lt (by omega)]; exact h1
    have ndP : ps.Nodup := by rw [← S.pre]; exact S.nd.sublist (List.take_sublist _ _)
    refine ⟨u, rv, ?_⟩
    rcases S.par y (List.mem_of_getElem? hp) with k | k
    · exact .inl ⟨k, bindL_get ndP hp hu k⟩
    · obtain ⟨c, e⟩ := cell_has (n := s.heap.objs.size + 1) k
      refine .inr ⟨.inl k, c, e, ?_⟩
      have q := x.cell y c e
      rw [bindC_get ndP hp hu (by show scope.names.lookup y ≠ _; rw [k]; decide)] at q
      exact q
  · exact e0.hok.fresh (Nat.le_of_lt (x.above y c (PySem.mem_of_lookup h)))
  · unfold start
    show _ = N.length
    rw [List.length_append, List.length_map, List.length_replicate]
    omega
theorem fn_of {CX : CXT} {P : Program} {w : World} {K : PySem.W.Frag} {mg : Str → Option Value} {base : Heap} {k : Nat} {f : Addr} {name qual : Str} {params : Arguments} {body : List Stmt} {scope : Scope} {dV kV doc pm cdv ct oc : Value} {an od : Option Addr}
    {osl : Array (Option Value)} {N ps : List Str} {sp : Sp} (lk : K.lookup f = some ⟨oc, od, .func (PySem.W.fnOf name qual params body scope dV kV doc pm an cdv ct), osl⟩) (hcd : PySem.W.codeIn K cdv qual = true) (S : FnScope N ps scope)
    (len : ∀ vs H Q E, sp vs H Q E → vs.length = ps.length)
    (hbody : ∀ (A : Around) (outer : List Env) (s : Shared) (H : Hp) (vs : List V) (Q : VK) (E : XK), Room k (A.deeper (envOfC qual scope s.heap.objs.size f cdv)) → sp vs H Q E →
      ∃ t, PSs (cxOf CX P w K mg base N qual scope f cdv A outer s H E) body t ∧ t { nx := fun _ H' => Q .non H', rt := Q } (start N vs) H) :
    FnOk P w K mg base CX (k + 1) f (PySem.W.fnOf name qual params body scope dV kV doc pm an cdv ct) ps sp := by
  refine ⟨len, fun A outer s H args us vs Q E hr e0 hb r hsp => ?_⟩
  have hl := len _ _ _ _ hsp
  have KX : K.In s.heap := e0.mod.kin.keeps fun b o e => (e0.bs b o e).1
  have lim : s.heap.NoLimit := e0.mod.nolimit.keeps fun b o e => (e0.bs b o e).1
  have hkind : ∀ y ∈ ps.zip us, scope.names.lookup y.1 = some .local ∨ (scope.names.lookup y.1 = some .cell ∧ ((cellsFrom (s.heap.objs.size + 1) scope.names []).lookup y.1).isSome = true) := fun ⟨n, v⟩ hy => by
    rcases S.par n (List.of_mem_zip hy).1 with q | q
    · exact .inl q
    · exact .inr ⟨q, PySem.W.cellsFrom_some _ _ _ (.inl q)⟩
  refine codeAny_call_function hr.depth (KX _ _ lk) rfl S.co S.gen rfl (PySem.W.codeRec_of KX hcd) (hb _ _ _ _ ?_)
  refine wpAny_newFunctionEnv_cells S.kind hkind fun env he s1 x => ?_
  subst he
  refine ⟨lim.keeps x.toInCall.keep, codeAny_func ?_⟩
  obtain ⟨t, ht, hq⟩ := hbody A outer s H vs Q E (hr.deeper _) hsp
  have I : Inv (cxOf CX P w K mg base N qual scope f cdv A outer s H E) [] (start N vs) H s1 := inv_start S hr.hd e0 hl r x
  refine wpAny_mono (ht [] s1 (start N vs) H _ I hq) (fun fl s' hs => ?_) fun e s' hs => hs
  have fin : ∀ {σ' : St} {H' : Hp} {v : V} {u : Value}, Inv (cxOf CX P w K mg base N qual scope f cdv A outer s H E) [] σ' H' s' → RelV v u → Q v H' → CE outer P w H s Q u s' :=
    fun {σ' H' v u} J rv q => ⟨v, H', J.os, J.bare, J.base, J.hok, rv, q⟩
  cases fl with
  | ret u =>
    obtain ⟨v, σ', H', J, rv, q⟩ := hs
    exact fin J rv q
  | next =>
    obtain ⟨σ', H', J, q⟩ := hs
    exact fin (v := V.non) (u := Value.none) J rfl q
  | brk =>
    obtain ⟨_, _, _, q⟩ := hs
    exact False.elim q
  | cont =>
    obtain ⟨_, _, _, q⟩ := hs
    exact False.elim q
end L2
namespace L2
open PySem PySem.Spec PyProof.Rows
section
variable {X : Cx} {x : Str} {p pos : Pos} {e : Expr} {es : List Expr} {t : TA} {id T : String} {r : List V → Hp → VK → Prop}
def tCB (r : List V → Hp → VK → Prop) (t : TA) : TE := fun σ H Q => t σ H fun vs H1 => r vs H1 Q
theorem pe_callB (hc : CallR X (.builtin id) r) (hg : Gl X x) (hm : X.mg x = none) (hv : bootBuiltins x = some (.builtin id)) (ha : PA X (e :: es) t) (hn : x ≠ "__name__" := by decide) (hdb : (x == ("__debug__" : Str)) = false := by decide)
    (he : starEach (e :: es) X.env = (false, eval e X.env) :: starEach es X.env := by rfl) (hpl : (backTo pos (starEach es X.env)).any (·.1) = false := by rfl) : PE X (.Call (.Name x p) (e :: es) [] pos) (tCB r t) := by
  intro pins s σ H Q I h
  refine wpAny_Call_Name_kw (ld_blt I hg hm hv ?_ hn hdb)
  exact PyProof.Rows.callWith_builtin1 (thn (ha pos pins s σ H _ I h) fun us s1 ⟨vs, H1, I1, r1, q1⟩ => hc pins s1 σ H1 vs us Q I1 r1 q1) he hpl
theorem pe_callTy (hc : CallR X (.type T) r) (hg : Gl X x) (hm : X.mg x = none) (hv : bootBuiltins x = some (.type T)) (ha : PA X (e :: es) t) (hn : x ≠ "__name__" := by decide) (hdb : (x == ("__debug__" : Str)) = false := by decide)
    (he : starEach (e :: es) X.env = (false, eval e X.env) :: starEach es X.env := by rfl) (hpl : (backTo pos (starEach es X.env)).any (·.1) = false := by rfl) : PE X (.Call (.Name x p) (e :: es) [] pos) (tCB r t) := by
  intro pins s σ H Q I h
  refine wpAny_Call_Name_kw (ld_blt I hg hm hv ?_ hn hdb)
  exact PyProof.Rows.callWith_type1 (thn (ha pos pins s σ H _ I h) fun us s1 ⟨vs, H1, I1, r1, q1⟩ => hc pins s1 σ H1 vs us Q I1 r1 q1) he hpl
end
end L2
namespace HT
open PySem PyProof.Rows
section
open PySem.SeqAt
open PySem.AutoSeq1 (wpAny_loadPart')
open PySem.MeetsSeq PySem.MeetsSeq2 PySem.MeetsSeq3
end
section
variable {prog : Program} {w : World} {A : Around} {E : Value → Shared → Prop} {s : Shared}
def sIx (n d : Nat) : Option Int → Nat
  | none => d
  | some v => if v < 0 then (v + (n : Int)).toNat else min v.toNat n
end
end HT
namespace L2
open PySem PySem.Spec PyProof.Rows
abbrev TO := St → Hp → (Option Int → Hp → Prop) → Prop
def PO (X : Cx) (e : Option Expr) (t : TO) : Prop :=
  ∀ (pins : List (Addr × Obj)) (s : Shared) (σ : St) (H : Hp) (Q : Option Int → Hp → Prop), Inv X pins σ H s → t σ H Q →
    wpAny (model X.prog X.w) X.A (evalPart e X.env) (fun u s' => ∃ o H', Inv X pins σ H' s' ∧ IsPart u o ∧ Q o H') X.xe s
def tNoPart : TO := fun _ H Q => Q none H
def tPart (t : TE) : TO := fun σ H Q => t σ H fun x H1 => ∃ i, x = .int i ∧ Q (some i) H1
section
variable {X : Cx} {e : Expr} {te : TE} {lo hi : Option Expr} {tl th : TO} {pos p2 : Pos}
theorem po_none : PO X none tNoPart := by
  intro pins s σ H Q I h
  rw [evalPart_none]
  exact wpAny_pure ⟨none, H, I, .none, h⟩
theorem po_some (h : PE X e te) : PO X (some e) (tPart te) := by
  intro pins s σ H Q I hw
  rw [evalPart_some]
  refine thn (h pins s σ H _ I hw) fun u s1 ⟨x, H1, I1, r1, q1⟩ => ?_
  obtain ⟨i, rfl, q⟩ := q1
  obtain ⟨t, rfl⟩ := r1
  exact ⟨some i, H1, I1, .int i t, q⟩
def SlR (X : Cx) (r : V → Option Int → Option Int → Hp → VK → Prop) : Prop :=
  ∀ (pins : List (Addr × Obj)) (s : Shared) (σ : St) (H : Hp) (x : V) (v vl vu : Value) (lo hi : Option Int) (sl : Addr) (Q : VK), Inv X pins σ H s → RelV x v → s.heap.IsSliceOf sl vl vu .none → IsPart vl lo → IsPart vu hi → r x lo hi H Q →
    ∃ T id, typeLookup (.type T) "__getitem__" = pure (some (.builtin id)) ∧ s.TypeIs v T ∧ wpAny (model X.prog X.w) X.A (getItem v (.ref sl)) (EP X pins σ Q) X.xe s
def tSl (r : V → Option Int → Option Int → Hp → VK → Prop) (te : TE) (tl th : TO) : TE := fun σ H Q => te σ H fun x H1 => tl σ H1 fun l H2 => th σ H2 fun u H3 => r x l u H3 Q
theorem pe_slice {r : V → Option Int → Option Int → Hp → VK → Prop} (hr : SlR X r) (he : PE X e te) (hl : PO X lo tl) (hu : PO X hi th) : PE X (.Subscript e (.Slice lo hi none p2) pos) (tSl r te tl th) := by
  intro pins s σ H Q I h
  refine Subscript_ (thn (he pins s σ H _ I h) fun v s1 ⟨x, H1, I1, r1, q1⟩ => ?_)
  refine wpAny_Slice (thn (hl pins s1 σ H1 _ I1 q1) fun vl s2 ⟨l, H2, I2, pl, q2⟩ => thn (hu pins s2 σ H2 _ I2 q2) fun vu s3 ⟨u, H3, I3, pu, q3⟩ => ?_)
  rw [evalPart_none]
  refine wpAny_pure ?_
  have I4 : Inv X pins σ H3 { s3 with heap := s3.heap.push { cls := .type "slice", data := .fields #[vl, vu, .none] } } := I3.kept (t' := s3.toks) fun b ob q => Heap.get?_push_of_some _ q
  obtain ⟨T, id, hT, ht, hg⟩ := hr pins { s3 with heap := s3.heap.push { cls := .type "slice", data := .fields #[vl, vu, .none] } } σ H3 x v vl vu l u s3.heap.objs.size Q I4 r1 (Heap.IsSliceOf.new ..) pl pu q3
  show wpAny (model X.prog X.w) X.A (subscriptTail e (.Slice lo hi none p2) v (.ref s3.heap.objs.size)) (EP X pins σ Q) X.xe { s3 with heap := s3.heap.push { cls := .type "slice", data := .fields #[vl, vu, .none] } }
  exact tail_any (ops := [.ref s3.heap.objs.size, v]) ht hT hg (by with_unfolding_all rfl)
def cutV (xs : List V) (lo hi : Option Int) : List V := (xs.drop (HT.sIx xs.length 0 lo)).take (HT.sIx xs.length xs.length hi - HT.sIx xs.length 0 lo)
theorem cutV_length (xs : List V) (lo hi : Option Int) : (cutV xs lo hi).length ≤ xs.length := by
  unfold cutV
  rw [List.length_take, List.length_drop]
  omega
end
end L2
namespace L2
open PySem PySem.Spec PyProof.Rows
def ixN (n : Nat) (i : Int) : Option Nat := if 0 ≤ i then (if i < n then some i.toNat else none) else if -(n : Int) ≤ i then some (i + n).toNat else none
def atI {α : Type} (xs : List α) (i : Int) : Option α := (ixN xs.length i).bind fun j => xs[j]?
theorem ixN_seq {n : Nat} {i : Int} {j : Nat} (h : ixN n i = some j) : seqIndex? i n = some j ∧ j < n ∧ -(n : Int) ≤ i ∧ i < n := by
  unfold ixN at h
  by_cases h0 : 0 ≤ i
  · rw [if_pos h0] at h
    by_cases h1 : i < n
    · rw [if_pos h1] at h
      have e : i.toNat = j := Option.some.inj h
      exact ⟨by rw [seqIndex_of h0 h1, e], by omega, by omega, h1⟩
    · rw [if_neg h1] at h; cases h
  · rw [if_neg h0] at h
    by_cases h1 : -(n : Int) ≤ i
    · rw [if_pos h1] at h
      have e : (i + n).toNat = j := Option.some.inj h
      exact ⟨by rw [seqIndex_neg (by omega) h1, e], by omega, h1, by omega⟩
    · rw [if_neg h1] at h; cases h
theorem atI_get {α : Type} {xs : List α} {i : Int} {v : α} (h : atI xs i = some v) : ∃ j, seqIndex? i xs.length = some j ∧ xs[j]? = some v ∧ j < xs.length ∧ -(xs.length : Int) ≤ i ∧ i < xs.length := by
  unfold atI at h
  cases e : ixN xs.length i with
  | none => rw [e] at h; cases h
  | some j =>
    rw [e] at h
    obtain ⟨h1, h2, h3, h4⟩ := ixN_seq e
    exact ⟨j, h1, h, h2, h3, h4⟩
theorem atI_nat {α : Type} {xs : List α} {j : Nat} {v : α} (h : xs[j]? = some v) : atI xs (j : Int) = some v := by
  have hj : j < xs.length := (List.getElem?_eq_some_iff.mp h).1
  have e : ixN xs.length (j : Int) = some j := by
    unfold ixN
    rw [if_pos (by exact Int.natCast_nonneg _), if_pos (by omega)]; simp
  unfold atI; rw [e]; exact h
def PlainIx (b : Expr) : Prop := ∀ o i, subscripted b false o i = operate [o, i] (getItem o i)
def IxR (X : Cx) (r : R2) : Prop :=
  ∀ (value slice : Expr) (pins : List (Addr × Obj)) (s : Shared) (σ : St) (H : Hp) (x y : V) (v u : Value) (Q : VK), Inv X pins σ H s → RelV x v → RelV y u → r x y H Q →
    subscripted slice false v u = operate [v, u] (getItem v u) → wpAny (model X.prog X.w) X.A (subscriptTail value slice v u) (EP X pins σ Q) X.xe s
def MtR (X : Cx) (id : String) (r : V → List V → Hp → VK → Prop) : Prop :=
  ∀ (pins : List (Addr × Obj)) (s : Shared) (σ : St) (H : Hp) (x : V) (xs : List V) (v : Value) (us : List Value) (Q : VK), Inv X pins σ H s → RelV x v → Vals xs us → r x xs H Q →
    wpAny (model X.prog X.w) X.A (call (.builtin id) (v :: us)) (EP X pins σ Q) X.xe s
section
variable {X : Cx} {a b : Expr} {ta tb : TE} {pos : Pos}
theorem pe_ix {r : R2} (hr : IxR X r) (ha : PE X a ta) (hb : PE X b tb) (hs : PlainIx b) : PE X (.Subscript a b pos) (tOp r ta tb) := by
  intro pins s σ H Q I h
  exact Subscript_ (binT ha hb I h fun v u s2 x y H2 I2 rx ry q => hr a b pins s2 σ H2 x y v u Q I2 rx ry q (hs _ _))
inductive RIxLP (K : PySem.W.Frag) (x : V) (y : V) (H : Hp) (Q : VK) : Prop
  | mk (p xs i v : _) : (x = .ref p) → (y = .int i) → (SqL K H p xs) → (atI xs i = some v) → (Q v H) → RIxLP K x y H Q
def rIxL (K : PySem.W.Frag) : R2 := fun x y H Q => RIxLP K x y H Q
inductive RIxTP (K : PySem.W.Frag) (x : V) (y : V) (H : Hp) (Q : VK) : Prop
  | mk (p xs i v : _) : (x = .ref p) → (y = .int i) → (SqT K H p xs) → (atI xs i = some v) → (Q v H) → RIxTP K x y H Q
def rIxT (K : PySem.W.Frag) : R2 := fun x y H Q => RIxTP K x y H Q
theorem ix_list : IxR X (rIxL X.K) := by
  intro value slice pins s σ H x y v u Q I rx ry h hs
  obtain ⟨p, xs, i, z, rfl, rfl, hq, he, q⟩ := h
  cases rx
  obtain ⟨t, rfl⟩ := ry
  obtain ⟨its, r, pl, hz⟩ := I.list hq
  obtain ⟨j, h1, h2, h3, h4, h5⟩ := atI_get he
  obtain ⟨w, ew, rw'⟩ := r.get h2
  have hl := r.length
  have hn := line63
  have fin : EP X pins σ Q w s := ⟨z, H, I, rw', q⟩
  by_cases h0 : 0 ≤ i
  · have hj : i.toNat = j := by
      rw [seqIndex_of h0 h5] at h1
      exact Option.some.inj h1
    exact item_listR pl.isList h0 (by omega) (by rw [hj]; simpa using ew) fin hs
  · have hj : (i + (its.toArray.size : Int)).toNat = j := by
      rw [seqIndex_neg (by omega) h4] at h1
      rw [List.size_toArray, ← hl]
      exact Option.some.inj h1
    exact subscriptTail_builtinR (x := w) pl.isList.typeIs slot_list_getitem.lookup
      (wpAny_getItem_list_neg (Q := fun r s' => r = w ∧ EP X pins σ Q r s') pl.isList (by omega) (by rw [List.size_toArray] <;> omega) (by omega) (by rw [hj]; simpa using ew) ⟨rfl, fin⟩) hs
theorem ix_tup : IxR X (rIxT X.K) := by
  intro value slice pins s σ H x y v u Q I rx ry h hs
  obtain ⟨p, xs, i, z, rfl, rfl, hq, he, q⟩ := h
  cases rx
  obtain ⟨t, rfl⟩ := ry
  obtain ⟨its, r, pl, hz⟩ := I.tuple hq
  obtain ⟨j, h1, h2, h3, h4, h5⟩ := atI_get he
  obtain ⟨w, ew, rw'⟩ := r.get h2
  have hl := r.length
  have hn := line63
  have fin : EP X pins σ Q w s := ⟨z, H, I, rw', q⟩
  exact subscriptTail_builtinR (x := w) pl.typeIs slot_tuple_getitem.lookup
    (getItem_tuple (j := j) (Q := fun r s' => r = w ∧ EP X pins σ Q r s') pl (by omega) (by omega) (by rw [List.size_toArray, ← hl]; exact h1) (by simpa using ew) ⟨rfl, fin⟩) hs
theorem mapSeq_set (its : List Value) (n j : Nat) (u : Value) : Obj.mapSeq (·.setIfInBounds j u) { cls := .type "list", data := .seq its.toArray n } = { cls := .type "list", data := .seq (its.set j u).toArray n } := by
  simp [Obj.mapSeq]
theorem Inv.lst {pins : List (Addr × Obj)} {σ : St} {H : Hp} {s : Shared} {p : Addr} {xs : List V} (I : Inv X pins σ H s) (h : H p = some (.lst xs)) :
    ∃ (its : List Value) (n : Nat), Vals xs its ∧ s.heap.get? p = some { cls := .type "list", data := .seq its.toArray n } ∧ xs.length ≤ sizeLine := by
  obtain ⟨z, its, n, r, e⟩ := I.hok p _ h
  exact ⟨its, n, r, e, z⟩
theorem Inv.lstUpd {pins : List (Addr × Obj)} {σ : St} {H : Hp} {s : Shared} {p : Addr} {xs ys : List V} {its its' : List Value} {n n' : Nat} {f : Obj → Obj} (I : Inv X pins σ H s) (h : H p = some (.lst xs))
    (ho : s.heap.get? p = some { cls := .type "list", data := .seq its.toArray n }) (hf : f { cls := .type "list", data := .seq its.toArray n } = { cls := .type "list", data := .seq its'.toArray n' }) (r : Vals ys its') (hz : ys.length ≤ sizeLine) (t : Nat) :
    Inv X pins σ (upd H p (.lst ys)) { s with heap := s.heap.update p f, toks := t } := by
  have e : (s.heap.update p f).get? p = some { cls := .type "list", data := .seq its'.toArray n' } := by
    rw [Heap.get?_update_self f ho (by rw [hf] <;> rfl), hf]
  refine I.write (x := p) (e := p) (by rw [h]; trivial) (.inl rfl) (fun b u hb q => (Heap.get?_update_other _ _ (Ne.symm hb)).trans q) ⟨_, e⟩ ?_
  exact ⟨hz, its', n', r, e⟩
inductive RSetLP (o : V) (i : V) (v : V) (H : Hp) (Q : (Hp → Prop)) : Prop
  | mk (p xs k j : _) : (o = .ref p) → (i = .int k) → (H p = some (.lst xs)) → (ixN xs.length k = some j) → (Q (upd H p (.lst (xs.set j v)))) → RSetLP o i v H Q
def rSetL : V → V → V → Hp → (Hp → Prop) → Prop := fun o i v H Q => RSetLP o i v H Q
theorem set_list : PSet X rSetL := by
  intro pins s σ H o i v ov iv u Q I ro ri rv h
  obtain ⟨p, xs, k, j, rfl, rfl, hp, hj, q⟩ := h
  cases ro
  obtain ⟨t, rfl⟩ := ri
  obtain ⟨its, n, r, ho, hz⟩ := I.lst hp
  obtain ⟨h1, h2, h3, h4⟩ := ixN_seq hj
  have hl := r.length
  have hn := line63
  have I' : Inv X pins σ (upd H p (.lst (xs.set j v))) { s with heap := s.heap.update p (Obj.mapSeq (·.setIfInBounds j u)) } :=
    I.lstUpd hp ho (mapSeq_set its n j u) (r.set rv j) (by rw [List.length_set]; exact hz) s.toks
  by_cases h0 : 0 ≤ k
  · have hk : k.toNat = j := by
      rw [seqIndex_of h0 h4] at h1
      exact Option.some.inj h1
    exact PySem.W.ki_setAt ho h0 (by omega) (by rw [List.size_toArray, ← hl]; exact h4) (by rw [hk]; exact ⟨_, I', q⟩)
  · have hk : (k + (its.toArray.size : Int)).toNat = j := by
      rw [seqIndex_neg (by omega) h3] at h1
      rw [List.size_toArray, ← hl]
      exact Option.some.inj h1
    exact PySem.W.ki_setBack ho (by omega) (by rw [List.size_toArray, ← hl]; exact h3) (by omega) (by rw [hk]; exact ⟨_, I', q⟩)
theorem slice_bounds (lo hi : Option Int) (n : Nat) : (sliceBounds lo hi none n).1 = ((HT.sIx n 0 lo : Nat) : Int) ∧ (sliceBounds lo hi none n).2.1 = ((HT.sIx n n hi : Nat) : Int) ∧ (sliceBounds lo hi none n).2.2 = 1 := by
  refine ⟨?_, ?_, rfl⟩
  · cases lo with
    | none => simp [sliceBounds, HT.sIx]
    | some i =>
      simp only [sliceBounds, HT.sIx, Option.getD_none, show (1 : Int) > 0 by decide, if_true]
      by_cases h : i < 0
      · simp only [h, if_true] <;> omega
      · simp only [h, if_false] <;> omega
  · cases hi with
    | none => simp [sliceBounds, HT.sIx]
    | some i =>
      simp only [sliceBounds, HT.sIx, Option.getD_none, show (1 : Int) > 0 by decide, if_true]
      by_cases h : i < 0
      · simp only [h, if_true] <;> omega
      · simp only [h, if_false] <;> omega
theorem slicePick_cut (its : List Value) (lo hi : Option Int) : slicePick its.toArray lo hi none = ((its.drop (HT.sIx its.length 0 lo)).take (HT.sIx its.length its.length hi - HT.sIx its.length 0 lo)).toArray := by
  obtain ⟨h1, h2, h3⟩ := slice_bounds lo hi its.toArray.size
  unfold slicePick
  rw [h1, h2, h3]
  simp only [sliceRange_one, pick_run, List.size_toArray] <;> rfl
inductive RSlLP (K : PySem.W.Frag) (x : V) (lo : Option Int) (hi : Option Int) (H : Hp) (Q : VK) : Prop
  | mk (a xs : _) : (x = .ref a) → (SqL K H a xs) → (∀ p, H p = none → Q (.ref p) (upd H p (.lst (cutV xs lo hi)))) → RSlLP K x lo hi H Q
def rSlL (K : PySem.W.Frag) : V → Option Int → Option Int → Hp → VK → Prop := fun x lo hi H Q => RSlLP K x lo hi H Q
theorem sl_list : SlR X (rSlL X.K) := by
  intro pins s σ H x v vl vu lo hi sl Q I rx hs pl pu h
  obtain ⟨a, xs, rfl, hx, q⟩ := h
  cases rx
  obtain ⟨its, r, ht, hz⟩ := I.list hx
  have hlen := r.length
  refine ⟨"list", _, slot_list_getitem.lookup, ht.isList.typeIs, ?_⟩
  refine wpAny_getItem_list_slice ht.isList hs pl pu .none (by simp) ?_ (by rw [List.size_toArray] <;> omega)
  rw [slicePick_cut, ← hlen]
  refine ⟨.ref s.heap.objs.size, _, I.laid (t' := s.toks) (o := .lst (cutV xs lo hi)) (fun b ob q => Heap.get?_push_of_some _ q) (Nat.le_refl _) ?_, rfl, q _ (I.hok.fresh (Nat.le_refl _))⟩
  exact ⟨Nat.le_trans (cutV_length xs lo hi) hz, _, 0, (r.drop (HT.sIx xs.length 0 lo)).take (HT.sIx xs.length xs.length hi - HT.sIx xs.length 0 lo), Heap.get?_push_size _ rfl⟩
theorem call_len_seq : CallR X (.builtin "len") (fun xs H Q => ∃ p ys, xs = [.ref p] ∧ (SqL X.K H p ys ∨ SqT X.K H p ys) ∧ Q (.int ys.length) H) := by
  intro pins s σ H xs us Q I r h
  obtain ⟨p, ys, rfl, hq, q⟩ := h
  obtain ⟨u, rfl, rx⟩ := vals1 r
  cases rx
  have hn := line63
  rcases hq with hq | hq
  · obtain ⟨its, r', pl, hz⟩ := I.list hq
    have hlen := r'.length
    exact Calls.call_len_list pl.isList (by simp only [List.size_toArray] <;> omega) ⟨.int ys.length, H, I.tok _, ⟨s.toks + 1, by rw [List.size_toArray, hlen]⟩, q⟩
  · obtain ⟨its, r', pl, hz⟩ := I.tuple hq
    have hlen := r'.length
    exact len_tuple pl (by simp only [List.size_toArray] <;> omega) ⟨.int ys.length, H, I.tok _, ⟨s.toks + 1, by rw [List.size_toArray, hlen]⟩, q⟩
theorem call_tuple_of : CallR X (.type "tuple") (fun xs H Q => ∃ p ys, xs = [.ref p] ∧ ((SqL X.K H p ys ∧ ∀ l, H l = none → Q (.ref l) (upd H l (.tup ys))) ∨ (SqT X.K H p ys ∧ Q (.ref p) H))) := by
  intro pins s σ H xs us Q I r h
  obtain ⟨p, ys, rfl, h⟩ := h
  obtain ⟨u, rfl, rx⟩ := vals1 r
  cases rx
  rcases h with ⟨hq, q⟩ | ⟨hq, q⟩
  · obtain ⟨its, r', pl, hz⟩ := I.list hq
    have hlen := r'.length
    refine call_tuple_list pl.isList (fun h' kp => ?_) (by simp only [List.size_toArray] <;> omega)
    have I1 : Inv X pins σ H { s with heap := h' } := I.kept (t' := s.toks) kp
    have I2 : Inv X pins σ (upd H h'.objs.size (.tup ys)) { s with heap := h'.push { cls := .type "tuple", data := .seq its.toArray } } :=
      I1.laid (t' := s.toks) (fun b o e => Heap.get?_push_of_some _ e) (Nat.le_refl _) (show ObjOk X.prog X.w _ _ _ (.tup ys) from ⟨hz, its, r', IsTupN.new _ _⟩)
    exact ⟨.ref h'.objs.size, _, I2, rfl, q _ (I1.hok.fresh (Nat.le_refl _))⟩
  · obtain ⟨its, r', pl, hz⟩ := I.tuple hq
    exact call_tuple_same pl ⟨.ref p, H, I, rfl, q⟩
def tyV (K : PySem.W.Frag) (T : String) (x : V) (H : Hp) : Prop := match x with
  | .str _ => T = "str"
  | .int _ => T = "int"
  | .ref p => (T = "list" ∧ ∃ xs, SqL K H p xs) ∨ (T = "tuple" ∧ ((∃ o, K.lookup p = some o ∧ o.cls = .type "tuple" ∧ o.dict = none) ∨ ∃ xs, H p = some (.tup xs))) ∨
      (T = "dict" ∧ ((∃ kvs, H p = some (.dK kvs)) ∨ ∃ kvs, H p = some (.dT kvs))) ∨ (T = "set" ∧ ∃ S n, H p = some (.set S n))
  | _ => False
theorem tyV_is {pins : List (Addr × Obj)} {σ : St} {H : Hp} {s : Shared} {T : String} {x : V} {v : Value} (I : Inv X pins σ H s) (r : RelV x v) (ty : tyV X.K T x H) :
    s.TypeIs v T ∧ ∀ a, v = .ref a → ∃ ob, s.heap.get? a = some ob ∧ ob.dict = none := by
  cases x with
  | str z =>
    obtain ⟨t, rfl⟩ := r
    cases (show T = "str" from ty)
    exact ⟨typeIs_str s z t, fun _ e => nomatch e⟩
  | int i =>
    obtain ⟨t, rfl⟩ := r
    cases (show T = "int" from ty)
    exact ⟨typeIs_int s i t, fun _ e => nomatch e⟩
  | ref p =>
    cases r
    rcases ty with ⟨rfl, xs, hq⟩ | ⟨rfl, ⟨o, hk, hc, hd⟩ | ⟨xs, hx⟩⟩ | ⟨rfl, hk⟩ | ⟨rfl, S, n, hk⟩
    · obtain ⟨its, _, pl, _⟩ := I.list hq
      refine ⟨pl.isList.typeIs, fun a e => ?_⟩
      cases e
      obtain ⟨o, n, e, c, hd, _⟩ := pl
      exact ⟨o, e, hd⟩
    · refine ⟨⟨o, I.kIn p o hk, hc⟩, fun a e => ?_⟩
      cases e
      exact ⟨o, I.kIn _ o hk, hd⟩
    · obtain ⟨_, _, _, o, e, c, d, _⟩ := (show ObjOk X.prog X.w H s.heap p (.tup xs) from I.hok p _ hx)
      refine ⟨⟨o, e, c⟩, fun a e2 => ?_⟩
      cases e2
      exact ⟨o, e, d⟩
    · have z : ∃ o, s.heap.get? p = some o ∧ o.ExactDict := by
        rcases hk with ⟨kvs, hk⟩ | ⟨kvs, hk⟩
        · obtain ⟨_, _, _, _, o, _, _, e, ex, _⟩ := I.hok p _ hk
          exact ⟨o, e, ex⟩
        · obtain ⟨_, _, _, _, o, _, _, e, ex, _⟩ := I.hok p _ hk
          exact ⟨o, e, ex⟩
      obtain ⟨o, e, ex⟩ := z
      refine ⟨⟨o, e, ex.1⟩, fun a e2 => ?_⟩
      cases e2
      exact ⟨o, e, ex.2.1⟩
    · obtain ⟨o, _, _, _, e, ex, _⟩ := I.hok p _ hk
      refine ⟨⟨o, e, ex.1⟩, fun a e2 => ?_⟩
      cases e2
      exact ⟨o, e, ex.2.1⟩
  | _ => exact False.elim ty
def tBM (K : PySem.W.Frag) (T : String) (r : V → List V → Hp → VK → Prop) (to : TE) (t : TA) : TE := fun σ H Q => to σ H fun x H1 => tyV K T x H1 ∧ t σ H1 fun xs H2 => r x xs H2 Q
variable {o e : Expr} {es : List Expr} {to : TE} {t : TA} {name : Str} {apos cpos : Pos} {T id : String} {r : V → List V → Hp → VK → Prop}
theorem pe_bm (pa : PlainAttrs T) (slot : Slot T name id) (hty : typeOf (.builtin id) = pure (.type "method_descriptor")) (hm : MtR X id r) (ho : PE X o to) (ha : PA X (e :: es) t)
    (hbase : attributeBase o name X.env (eval o X.env) = eval o X.env := by rfl)
    (hfew : ((backTo cpos (starEach (e :: es) X.env)).all (fun x => !x.1) && (backToKw cpos (keywordEach [] X.env)).all (fun x => x.1.isSome)
      && decide ((e :: es).length + ([] : List Keyword).length + (if ([] : List Keyword).isEmpty then 0 else 1) < 30)) = true := by rfl)
    (hline : (apos.endLine == cpos.line) = true := by rfl) (hs : starEach (e :: es) X.env = (false, eval e X.env) :: starEach es X.env := by rfl) (hplain : (backTo cpos (starEach es X.env)).any (·.1) = false := by rfl) :
    PE X (.Call (.Attribute o name apos) (e :: es) [] cpos) (tBM X.K T r to t) := by
  intro pins s σ H Q I h
  refine wpAny_Call_method_late hbase hfew hline rfl (thn (ho pins s σ H _ I h) fun v s1 ⟨x, H1, I1, r1, ty, q1⟩ => ?_)
  obtain ⟨h1, h2⟩ := tyV_is I1 r1 ty
  refine ⟨T, id, pa, slot, hty, h1, h2, ?_⟩
  have hA := ha cpos pins s1 σ H1 _ I1 q1
  rw [hs] at hA ⊢
  refine Calls.callWith_builtin (by show (false || (backTo cpos (starEach es X.env)).any (·.1)) = false; rw [hplain] <;> rfl) (Calls.evalArgs_plain ?_)
  exact thn hA fun us s2 ⟨vs, H2, I2, r2, q2⟩ => hm pins s2 σ H2 x vs v us Q I2 r1 r2 q2
end
end L2
namespace L2
open PySem PySem.Spec PyProof.Rows
def MtM (X : Cx) (id : String) (r : V → List V → Hp → VK → Prop) : Prop :=
  ∀ (pins : List (Addr × Obj)) (s : Shared) (σ : St) (H : Hp) (x : V) (xs : List V) (v : Value) (us : List Value) (Q : VK), Inv X pins σ H s → RelV x v → Vals xs us → r x xs H Q →
    wpAny (model X.prog X.w) X.A (call (.builtin id) (v :: us)) (EP X pins σ Q) X.xe s
theorem Vals.one : ∀ {x : V} {us : List Value}, Vals [x] us → ∃ u, us = [u] ∧ RelV x u
  | _, _, .cons r .nil => ⟨_, rfl, r⟩
section
variable {X : Cx} {pins : List (Addr × Obj)} {σ : St} {H : Hp} {s : Shared} {l b : Addr} {xs ys zs : List V}
theorem Inv.lset {its its' : List Value} {n : Nat} {f : Array Value → Array Value} {t' : Nat} (I : Inv X pins σ H s) (hH : H l = some (.lst xs))
    (e : s.heap.get? l = some { cls := .type "list", data := .seq its.toArray n }) (hf : f its.toArray = its'.toArray) (hv : Vals ys its') (hz : ys.length ≤ sizeLine) :
    Inv X pins σ (upd H l (.lst ys)) { s with heap := s.heap.update l (Obj.mapSeq f), toks := t' } := by
  have q := PySem.IsL.update e f
  rw [hf] at q
  refine I.write (x := l) (e := l) (by rw [hH]; exact trivial) (.inl rfl) (fun b' u hb hu => (Heap.get?_update_other s.heap (Obj.mapSeq f) (Ne.symm hb)).trans hu) ⟨_, q⟩ ?_
  exact ⟨hz, its', _, hv, q⟩
theorem Inv.lnew {its : List Value} {t' : Nat} (I : Inv X pins σ H s) (hv : Vals ys its) (hz : ys.length ≤ sizeLine) :
    Inv X pins σ (upd H s.heap.objs.size (.lst ys)) { s with heap := s.heap.push { cls := .type "list", data := .seq its.toArray }, toks := t' } :=
  I.laid (fun _ _ q => Heap.get?_push_of_some _ q) (Nat.le_refl _) ⟨hz, its, 0, hv, Heap.get?_push_size _ rfl⟩
theorem Inv.fresh (I : Inv X pins σ H s) : H s.heap.objs.size = none := I.hok.fresh (Nat.le_refl _)
theorem Inv.lstM (I : Inv X pins σ H s) (hH : H l = some (.lst xs)) : xs.length ≤ sizeLine ∧ ∃ (its : List Value) (n : Nat), Vals xs its ∧ xs.length = its.length ∧ s.heap.get? l = some { cls := .type "list", data := .seq its.toArray n } := by
  obtain ⟨z, its, n, r, e⟩ := I.hok l _ hH
  exact ⟨z, its, n, r, r.length, e⟩
end
section
variable {X : Cx}
inductive RAppendP (x : V) (vs : List V) (H : Hp) (Q : VK) : Prop
  | mk (l xs y : _) : (x = .ref l) → (vs = [y]) → (H l = some (.lst xs)) → (xs.length < sizeLine) → (Q .non (upd H l (.lst (xs ++ [y])))) → RAppendP x vs H Q
def rAppend : V → List V → Hp → VK → Prop := fun x vs H Q => RAppendP x vs H Q
theorem mt_append : MtM X "list.append" rAppend := by
  intro pins s σ H x vs v us Q I rx rv h
  obtain ⟨l, xs, y, rfl, rfl, hH, hz, q⟩ := h
  cases rx
  obtain ⟨u, rfl, ru⟩ := rv.one
  obtain ⟨z, its, n, r, hl, e⟩ := I.lstM hH
  refine call_meets F.slot_list_append ⟨_, e, rfl⟩ F.entry_list_append (F.args_list_append_2 _ _) (PySem.list_append l its.toArray n u (by rw [List.size_toArray]; omega)) ⟨e, ?_⟩
  refine ⟨.non, _, I.lset (its' := its ++ [u]) hH e (by simp) (r.append (.cons ru .nil)) ?_, rfl, q⟩
  rw [List.length_append, List.length_singleton]
  assumption
inductive RCatP (x : V) (y : V) (H : Hp) (Q : VK) : Prop
  | mk (l b xs zs : _) : (x = .ref l) → (y = .ref b) → (H l = some (.lst xs)) → (H b = some (.lst zs)) → (xs.length + zs.length ≤ sizeLine) → (∀ p, H p = none → Q (.ref p) (upd H p (.lst (xs ++ zs)))) → RCatP x y H Q
def rCat : R2 := fun x y H Q => RCatP x y H Q
theorem op_cat : OpR X (binaryOp .Add) rCat := by
  intro pins s σ H x y v u Q I rx ry h
  obtain ⟨l, b, xs, zs, rfl, rfl, hH, hB, hz, q⟩ := h
  cases rx
  cases ry
  obtain ⟨z, its, n, r, hl, e⟩ := I.lstM hH
  obtain ⟨z2, its2, n2, r2, hl2, e2⟩ := I.lstM hB
  refine PySem.P.add_list e e2 ?_ (by rw [List.size_toArray, List.size_toArray]; omega)
  have ea : its.toArray ++ its2.toArray = (its ++ its2).toArray := by simp
  rw [ea]
  exact ⟨.ref _, _, I.lnew (t' := s.toks) (r.append r2) (by rw [List.length_append]; assumption), rfl, q _ I.fresh⟩
end
end L2
namespace L2
open PySem PySem.Spec PyProof.Rows
section
variable {κ : Type} [DecidableEq κ]
def putK (kvs : List (κ × V)) (k : κ) (v : V) : List (κ × V) :=
  if (kvs.any fun kv => decide (kv.1 = k)) = true then kvs.map (fun kv => if kv.1 = k then (kv.1, v) else kv) else kvs ++ [(k, v)]
theorem length_putK (kvs : List (κ × V)) (k : κ) (v : V) : (putK kvs k v).length ≤ kvs.length + 1 := by
  unfold putK
  split
  · rw [List.length_map]; exact Nat.le_add_right _ _
  · rw [List.length_append, List.length_cons, List.length_nil]; exact Nat.add_le_add_left (by decide) _
theorem KV.any {kvs : List (κ × V)} {vs : List (κ × Value)} (r : KV kvs vs) (k : κ) : (kvs.any fun kv => decide (kv.1 = k)) = vs.any fun kv => decide (kv.1 = k) := by
  unfold KV at r
  induction r with
  | nil => rfl
  | cons h t ih => rw [List.any_cons, List.any_cons, ih, h.1]
theorem KV.repl {kvs : List (κ × V)} {vs : List (κ × Value)} (r : KV kvs vs) (k : κ) {y : V} {u : Value} (ry : RelV y u) :
    KV (kvs.map fun kv => if kv.1 = k then (kv.1, y) else kv) (vs.map fun kv => if kv.1 = k then (kv.1, u) else kv) := by
  unfold KV at r ⊢
  induction r with
  | nil => exact .nil
  | @cons p q ps qs h t ih =>
    rw [List.map_cons, List.map_cons]
    refine .cons ?_ ih
    obtain ⟨h1, h2⟩ := h
    by_cases e : p.1 = k
    · rw [if_pos e, if_pos (h1.symm.trans e)]; exact ⟨h1, ry⟩
    · rw [if_neg e, if_neg (fun z => e (h1.trans z))]; exact ⟨h1, h2⟩
theorem KV.put {kvs : List (κ × V)} {vs : List (κ × Value)} (r : KV kvs vs) (k : κ) {y : V} {u : Value} (ry : RelV y u) : KV (putK kvs k y) (stored vs k u) := by
  unfold putK stored
  rw [r.any k]
  by_cases e : (vs.any fun kv => decide (kv.1 = k)) = true
  · rw [if_pos e, if_pos e]; exact r.repl k ry
  · rw [if_neg e, if_neg e]; exact Paired.snoc r ⟨rfl, ry⟩
end
theorem kV_is {P : Program} {w : World} {k : Key} {u : Value} (r : RelV (kV k) u) : (mixKind P w).is k u = true := by
  cases k with
  | inl i => obtain ⟨t, e⟩ := (show ∃ t, u = Value.int i t from r); subst e; exact mixKind_int P w i t
  | inr x => obtain ⟨t, e⟩ := (show ∃ t, u = Value.str x t from r); subst e; exact mixKind_str P w x t
section
variable {P : Program} {w : World} {H : Hp} {h : Heap} {a : Addr}
theorem rd_of {u : HO} (ok : HOk P w H h) (e : Rd H a u) : ObjOk P w H h a u := e.ok ok
theorem dk_rd {kvs : List (Key × V)} (ok : HOk P w H h) (e : Rd H a (.dK kvs)) : kvs.length ≤ sizeLine ∧ (a == sysModules) = false ∧ ∃ vs, KV kvs vs ∧ h.DictOf (mixKind P w) a vs :=
  show ObjOk P w H h a (.dK kvs) from rd_of ok e
theorem dk_of {kvs : List (Key × V)} (ok : HOk P w H h) (e : H a = some (.dK kvs)) : kvs.length ≤ sizeLine ∧ (a == sysModules) = false ∧ ∃ vs, KV kvs vs ∧ h.DictOf (mixKind P w) a vs := dk_rd ok (.inl e)
end
section
variable {X : Cx} {pins : List (Addr × Obj)} {σ : St} {H : Hp} {s : Shared} {a : Addr} {y v : V} {u r : Value} {o : Option V} {A : Around} {E : Value → Shared → Prop}
theorem Inv.big (I : Inv X pins σ H s) : sysModules < s.heap.objs.size := by
  have h : mainGlobals < s.heap.objs.size := (I.mod.glob.keeps I.bk).lt
  exact Nat.lt_trans (by decide) h
theorem d_write {h' : Heap} {t' : Nat} {ob : HO} (I : Inv X pins σ H s) (mu : Mut (H a)) (hs : Heap.SameBut a s.heap h') (he : ∃ q, h'.get? a = some q) (new : ObjOk X.prog X.w (upd H a ob) h' a ob) :
    Inv X pins σ (upd H a ob) { s with heap := h', toks := t' } :=
  I.write (x := a) (e := a) mu (.inl rfl) (fun b q hb z => (hs.2 b hb).trans z) he new
theorem dk_new {P : Program} {w : World} {H' : Hp} {h' : Heap} {kvs : List (Key × V)} {vs : List (Key × Value)} (z : kvs.length ≤ sizeLine) (hd : (a == sysModules) = false) (rel : KV kvs vs) (dd : h'.DictOf (mixKind P w) a vs) :
    ObjOk P w H' h' a (.dK kvs) := ⟨z, hd, vs, rel, dd⟩
end
theorem dk_empty {P : Program} {w : World} {H : Hp} (h : Heap) (hb : sysModules < h.objs.size) : ObjOk P w H (h.push { cls := .type "dict", data := .dict #[] }) h.objs.size (.dK []) :=
  ⟨Nat.zero_le _, beq_eq_false_iff_ne.mpr (Ne.symm (Nat.ne_of_lt hb)), [], .nil, Heap.DictOf.new h⟩
def tDNewK : TE := fun _ H Q => ∀ p, H p = none → Q (.ref p) (upd H p (.dK []))
section
variable {X : Cx} {pos : Pos}
theorem pe_dnewK : PE X (.Dict [] [] pos) tDNewK := fun pins s σ H Q I h =>
  wpAny_Dict_empty ⟨.ref s.heap.objs.size, _, I.laid (a := s.heap.objs.size) (o := .dK []) (t' := s.toks) (fun _ _ q => Heap.get?_push_of_some _ q) (Nat.le_refl _) (dk_empty s.heap I.big), rfl, h _ (I.hok.fresh (Nat.le_refl _))⟩
end
def tPairs : List (TE × TE) → St → Hp → (List (V × V) → Hp → Prop) → Prop
  | [], _, H, Q => Q [] H
  | (tk, tv) :: r, σ, H, Q => tk σ H fun x H1 => tv σ H1 fun y H2 => tPairs r σ H2 fun ps H3 => Q ((x, y) :: ps) H3
abbrev VV : List (V × V) → List (Value × Value) → Prop := Paired fun p q => RelV p.1 q.1 ∧ RelV p.2 q.2
def PPs (X : Cx) (pos : Pos) (keys : List (Option Expr)) (values : List Expr) (trs : List (TE × TE)) : Prop :=
  ∀ (pins : List (Addr × Obj)) (s : Shared) (σ : St) (H : Hp) (Q : List (V × V) → Hp → Prop), Inv X pins σ H s → tPairs trs σ H Q →
    wpAny (model X.prog X.w) X.A (evalPairs (pairTrees keys values X.env pos)) (fun vs s' => ∃ ps H', Inv X pins σ H' s' ∧ VV ps vs ∧ Q ps H') X.xe s
theorem pps_nil {X : Cx} {pos : Pos} : PPs X pos [] [] [] := fun pins s σ H Q I h => pairTrees_nil_walk ⟨[], H, I, .nil, h⟩
theorem pps_cons {X : Cx} {pos : Pos} {k v : Expr} {ks : List (Option Expr)} {vs : List Expr} {tk tv : TE} {trs : List (TE × TE)} (hk : PE X k tk) (hv : PE X v tv) (hr : PPs X pos ks vs trs) :
    PPs X pos (some k :: ks) (v :: vs) ((tk, tv) :: trs) := fun pins s σ H Q I h =>
  pairTrees_cons_walk (thn (hk pins s σ H _ I h) fun u s1 ⟨x, H1, I1, rx, q1⟩ => thn (hv pins s1 σ H1 _ I1 q1) fun w2 s2 ⟨y, H2, I2, ry, q2⟩ =>
    thn (hr pins s2 σ H2 _ I2 q2) fun ws s3 ⟨ps, H3, I3, rel, q3⟩ => ⟨(x, y) :: ps, H3, I3, .cons ⟨rx, ry⟩ rel, q3⟩)
def mergeK (kvs more : List (Key × V)) : List (Key × V) := more.foldl (fun acc kv => putK acc kv.1 kv.2) kvs
theorem KV.merge : ∀ {more : List (Key × V)} {rs : List (Key × Value)} {kvs : List (Key × V)} {vs : List (Key × Value)}, KV more rs → KV kvs vs → KV (mergeK kvs more) (merged vs rs) := by
  intro more rs kvs vs r
  unfold KV at r
  induction r generalizing kvs vs with
  | nil => intro q; exact q
  | @cons p q ps qs h t ih =>
    intro r0
    have e : KV (putK kvs p.1 p.2) (stored vs q.1 q.2) := by
      have := r0.put p.1 h.2
      rw [← h.1]; exact this
    exact ih e
theorem length_mergeK : ∀ (more kvs : List (Key × V)), (mergeK kvs more).length ≤ kvs.length + more.length
  | [], kvs => by show kvs.length ≤ kvs.length + 0; exact Nat.le_add_right _ _
  | p :: r, kvs => by
    have h1 := length_mergeK r (putK kvs p.1 p.2)
    have h2 := length_putK kvs p.1 p.2
    show (mergeK (putK kvs p.1 p.2) r).length ≤ _
    rw [List.length_cons]; omega
theorem carries_of {P : Program} {w : World} : ∀ {kvs : List (Key × V)} {ws : List (Value × Value)}, VV (kvs.map fun kv => (kV kv.1, kv.2)) ws → ∃ rs, Carries (mixKind P w) ws rs ∧ KV kvs rs
  | [], _, r => by rw [List.map_nil] at r; cases r; exact ⟨[], True.intro, .nil⟩
  | p :: kvs, _, r => by
    rw [List.map_cons] at r
    cases r with
    | @cons a b as bs h t =>
      obtain ⟨rs, c, q⟩ := carries_of (P := P) (w := w) t
      obtain ⟨b1, b2⟩ := b
      exact ⟨(p.1, b2) :: rs, ⟨kV_is h.1, rfl, c⟩, .cons ⟨rfl, h.2⟩ q⟩
def tDisp (trs : List (TE × TE)) : TE := fun σ H Q => ∀ p, H p = none → tPairs trs σ (upd H p (.dK [])) fun ps H2 => H2 p = some (.dK []) ∧ ∃ kvs : List (Key × V), ps = kvs.map (fun kv => (kV kv.1, kv.2)) ∧ kvs.length ≤ 15 ∧ Q (.ref p) (upd H2 p (.dK (mergeK [] kvs)))
theorem pe_disp {X : Cx} {pos : Pos} {keys : List (Option Expr)} {values : List Expr} {trs : List (TE × TE)} (h : PPs X pos keys values trs) (hall : keys.all (·.isSome) = true) (hl : keys.length = values.length) (h0 : keys ≠ [])
    (h15 : keys.length ≤ 15) : PE X (.Dict keys values pos) (tDisp trs) := by
  intro pins s σ H Q I q
  have hn := I.hok.fresh (Nat.le_refl s.heap.objs.size)
  have I1 := I.laid (a := s.heap.objs.size) (o := .dK []) (h' := s.heap.push { cls := .type "dict", data := .dict #[] }) (t' := s.toks) (fun _ _ q => Heap.get?_push_of_some _ q) (Nat.le_refl _) (dk_empty s.heap I.big)
  refine wpAny_Dict_walk (knd := mixKind X.prog X.w) hall hl h0 h15 (thn (h pins _ σ _ _ I1 (q _ hn)) fun ws s2 ⟨ps, H2, I2, rel, e, kvs, ep, lk, q2⟩ => ?_)
  subst ep
  obtain ⟨rs, c, rk⟩ := carries_of (P := X.prog) (w := X.w) rel
  obtain ⟨z, hd, vs0, r0, dd⟩ := dk_of I2.hok e
  cases r0
  refine ⟨rs, c, dd, fun h' dd' hs => ⟨.ref s.heap.objs.size, _, ?_, rfl, q2⟩⟩
  have hz : (mergeK [] kvs).length ≤ sizeLine := by
    have h1 := length_mergeK kvs []
    rw [List.length_nil] at h1
    rw [sizeLine_eq]; omega
  have he : ∃ q, h'.get? s.heap.objs.size = some q := let ⟨q, _, _, hq, _⟩ := dd'; ⟨q, hq⟩
  exact d_write I2 (by rw [e]; exact True.intro) hs he (dk_new hz hd (rk.merge .nil) dd')
end L2
namespace Att
open PySem PySem.W PySem.Calls PyProof.Rows
theorem ints_of_wellAll {P : Params} {h : Heap} : ∀ (ns : List Int) (vs : List Value), WellAll P h vs (ns.map WData.int) → IntsAre vs ns := by
  intro ns
  induction ns with
  | nil =>
    intro vs w
    rw [List.map_nil] at w
    cases w
    exact .nil
  | cons n ns ih =>
    intro vs w
    rw [List.map_cons] at w
    cases w with
    | cons a b =>
      cases a
      exact .cons _ _ (ih _ b)
theorem script_of {l : OpenLaw} {n : Nat} (hn : l.most = some n) {P : Params} {h : Heap} {args : List WData} {vals : List Value}
    (hpre : l.row.toRowW.claim.pre args = true) (hwl : WellAll P h vals args) :
    ∃ a vs ns, vals = [Value.ref a] ∧ args = [WData.list (ns.map WData.int)] ∧ h.get? a = some { cls := .type "list", data := .seq vs.toArray } ∧ IntsAre vs ns ∧ ns.length ≤ n := by
  have hsh : WShape.hasAll [] args [.list .int] = true := (pre_splitW hpre).1
  have hc : l.pre.holds [] { args := args } = true := (pre_splitW hpre).2
  obtain ⟨d, r, rfl, h1, h2⟩ := hasAllW_cons hsh
  obtain rfl := hasAllW_nil h2
  obtain ⟨xs, rfl, h3⟩ := hasW_list h1
  obtain ⟨ns, rfl⟩ := items_int h3
  have hlen : ns.length ≤ n := by
    unfold OpenLaw.pre at hc
    have h4 : (WTm.not (.lt (.lit (.int (n : Int))) (.len (.arg 0)))).holds [] { args := [.list (ns.map .int)] } = true := by
      have h4 := (holds_andW hc).1
      rw [hn] at h4
      exact h4
    have h5 := condW_of h4 (w_not (w_lt w_lit (w_len_list (w_arg rfl))))
    rw [List.length_map] at h5
    refine Nat.le_of_not_lt fun q => ?_
    have q' : (n : Int) < ((ns.length : Nat) : Int) := by omega
    first
      | (rw [decide_eq_true q'] at h5; exact absurd h5 (by decide))
      | (simp at h5; omega)
  cases hwl with
  | cons w1 w2 =>
    cases w2
    cases w1 with
    | list ho hall => exact ⟨_, _, ns, rfl, rfl, ho, ints_of_wellAll ns _ hall, hlen⟩
theorem post_true (l : OpenLaw) (args : List WData) : l.row.toRowW.claim.post args (.bool true) args = true :=
  postW_of (r := l.row.toRowW) (X := (true == true))
    (show WShape.has [] (.bool true) .bool = true by first | rfl | decide | simp [WShape.has, WShape.arms, WShape.armsAll])
    (show (WTm.eq .res (.lit (.bool true))).value [] { args := args, res := some (.bool true), after := args } = some (.bool (true == true)) from w_eq_bool (w_res rfl) w_lit) rfl
theorem attach_call {l : OpenLaw} {n : Nat} {q : Program} {loose : List Str} {XP : (Str → Option Value) → Heap → Prop} {YP : World → Heap → Prop} {d : DefRec}
    (hn : l.most = some n) (hdf : d.params.defaults = [])
    (call : ∀ (w : World) (s₀ s₁ : Shared) (mg mb : Str → Option Value) (fa : Addr) (o : Obj) (pm cd doc : Value) (a : Addr) (vs : List Value) (ns : List Int),
      Ground q loose [] XP w s₀ mg mb s₁.heap → YP w s₁.heap →
      s₁.heap.get? fa = some o → o.data = .func (docDef d.name d.params d.body d.scope pm cd doc) → s₁.heap.CodeRec cd d.name → mg d.name = some (.ref fa) →
      s₁.heap.get? a = some { cls := .type "list", data := .seq vs.toArray } → IntsAre vs ns → ns.length ≤ n → s₁.gens = #[] →
      codeAny (model l.prog w) callerA (.call (.ref fa) ⟨[.ref a], []⟩) (fun r s' => r = .ok (.ret (.bool true)) ∧ OldK s₁.heap s'.heap ∧ s'.os = s₁.os ∧ AllBare s'.gens) s₁) :
    WalkO q loose XP YP l.row.toRowW d [] (fun f vs => PySem.call f vs) := by
  intro w s₀ s₁ mg mb G Y fa o pm cd doc dV kV ho hd hcd hD hmg hg args vals as hpre hlay hrd hwl hlo
  obtain rfl : dV = .none := Dflts.none hD hdf
  obtain rfl : kV = .none := Dflts.noKw hD
  obtain ⟨a, vs, ns, rfl, rfl, hobj, hints, hlen⟩ := script_of hn hpre hwl
  refine enter_call (codeAny_mono (call w s₀ s₁ mg mb fa o pm cd doc a vs ns G Y ho (fd_plain hd) hcd hmg hobj hints hlen hg) fun r s' hq => ?_)
  obtain ⟨rfl, h2, h3, h4⟩ := hq
  exact ⟨.inl ⟨.bool true, .bool true, [], rfl, fun _ => rfl, .bool true, post_true l _, fun _ => ⟨List.Pairwise.nil, fun _ hm => (nomatch hm)⟩⟩, h2, h3, h4⟩
end Att
namespace L2
open PySem PySem.Spec PyProof.Rows
theorem vals_ints : ∀ {vs : List Value} {ns : List Int}, IntsAre vs ns → Vals (ns.map V.int) vs
  | _, _, .nil => .nil
  | _, _, .cons n t h => .cons ⟨t, rfl⟩ (vals_ints h)
def Only (H : Hp) : Prop := ∀ b, H b = none ∨ ∃ o xs, H b = some (.frz o (.lst xs))
theorem law_call {P : Program} {w : World} {K : PySem.W.Frag} {mg mb : Str → Option Value} {CX : CXT} {k : Nat} {fa a : Addr} {fd : FuncData} {x : Str} {sp : Sp} {s₁ : Shared} {vs : List Value} {ns : List Int}
    (KX : K.In s₁.heap) (hns : s₁.heap.Ns mainGlobals mg) (hb : s₁.heap.Ns builtinsNs mb) (hbb : ∀ x : Str, x ≠ "__name__" → mb x = bootBuiltins x) (hlim : s₁.heap.NoLimit) (hg : s₁.gens = #[])
    (ha : s₁.heap.get? a = some { cls := .type "list", data := .seq vs.toArray }) (hi : IntsAre vs ns) (hl : ns.length ≤ sizeLine) (hr : Room k callerA)
    (F : ∀ base : Heap, K.In base → base.Ns mainGlobals mg → FnOk P w K mg base CX k fa fd [x] sp) (hbind : ∀ (s : Shared) (u : Value), BindsTo s fd ⟨[u], []⟩ [(x, u)])
    (hsp : ∀ H : Hp, Only H → SqL K H a (ns.map V.int) → sp [.ref a] H (fun v _ => v = .bl true) fun _ _ _ => False)
    (hCX : ∀ H e s', CX [] H s₁ (fun _ _ _ => False) e s' → False) :
    codeAny (model P w) callerA (.call (.ref fa) ⟨[.ref a], []⟩) (fun r s' => r = .ok (.ret (.bool true)) ∧ OldK s₁.heap s'.heap ∧ s'.os = s₁.os ∧ AllBare s'.gens) s₁ := by
  have rv := vals_ints hi
  have lenV := hi.length
  have core : ∀ H : Hp, Only H → SqL K H a (ns.map V.int) → HOk P w H s₁.heap → (∀ b, H b ≠ none → b = a) → (H a ≠ none → K.lookup a = none) →
      codeAny (model P w) callerA (.call (.ref fa) ⟨[.ref a], []⟩) (fun r s' => r = .ok (.ret (.bool true)) ∧ OldK s₁.heap s'.heap ∧ s'.os = s₁.os ∧ AllBare s'.gens) s₁ := by
    intro H hO hS hok hA hK
    have base_of : ∀ {b : Addr} {o : Obj}, s₁.heap.get? b = some o → H b = none → (hidT s₁.heap H).get? b = some o := fun e n => hidT_get e n
    have noA : ∀ {b : Addr} {o : Obj} {es : Array DictEntry} {ep : Nat}, s₁.heap.get? b = some o → o.data = .dict es ep → H b = none := fun {b o es ep} e d => by
      cases q : H b with
      | none => rfl
      | some u =>
        have e' : b = a := hA b (by rw [q]; simp)
        subst e'
        rw [ha] at e; cases e
        have d' : Data.seq vs.toArray _ = Data.dict es ep := d
        cases d'
    have nsK : ∀ {b : Addr} {m : Str → Option Value}, s₁.heap.Ns b m → (hidT s₁.heap H).Ns b m := fun {b m} ⟨o, es, ep, e, d, r⟩ => ⟨o, es, ep, base_of e (noA e d), d, r⟩
    have hKb : K.In (hidT s₁.heap H) := fun b o e => base_of (KX b o e) (by
      cases q : H b with
      | none => rfl
      | some u =>
        have e' : b = a := hA b (by rw [q]; simp)
        subst e'
        rw [hK (by rw [q]; simp)] at e; cases e)
    have hM : Mod K mg (hidT s₁.heap H) := ⟨hKb, nsK hns, ⟨mb, nsK hb, hbb⟩, let ⟨mc, h1, h2⟩ := hlim; ⟨mc, nsK h1, h2⟩⟩
    have e0 : Env0 P w K mg (hidT s₁.heap H) callerA [] s₁ H := ⟨rfl, hM, fun b o e => of_hidT e, Nat.le_of_eq (hidT_size _ _), trivial, fun b hb => absurd (show b ∈ ([] : List Addr) from hb) (by simp), hok, .of_eq hg⟩
    refine codeAny_mono ((F _ hKb (nsK hns)).run callerA [] s₁ H ⟨[.ref a], []⟩ [.ref a] [.ref a] _ _ hr e0 (hbind s₁ (.ref a)) (.cons rfl .nil) (hsp H hO hS)) fun r s' h => ?_
    cases r with
    | error e => exact (hCX H e s' h).elim
    | ok fl =>
      cases fl with
      | next => exact False.elim h
      | brk => exact False.elim h
      | cont => exact False.elim h
      | ret u =>
        obtain ⟨v, H', os, bare, un, hok', r', q⟩ := h
        have q' : v = .bl true := q
        subst q'
        obtain rfl : u = Value.bool true := r'
        refine ⟨rfl, OldK.of_keep fun b o e => ?_, os, bare⟩
        cases q : H b with
        | none => exact un.keep b o e q (by intro z; exact absurd (show b ∈ ([] : List Addr) from z) (by simp)) (by simp)
        | some u =>
          rcases hO b with z | ⟨ob, xs, z⟩
          · rw [q] at z; cases z
          · have z2 := un.frzs b ob _ z
            obtain ⟨e1, _⟩ := hok b _ z
            obtain ⟨e2, _⟩ := hok' b _ z2
            rw [e] at e1; cases e1
            exact e2
  cases hk : K.lookup a with
  | some o =>
    have e := KX a o hk
    rw [ha] at e
    cases e
    refine core (fun _ => none) (fun _ => .inl rfl) (.inr ⟨_, vs.toArray, _, hk, rfl, rfl, rfl, by rw [List.size_toArray, lenV]; exact hl, by simpa using rv⟩) (fun b u z => by have z' : (none : Option HO) = some u := z; cases z') (fun b z => absurd rfl z) fun z => absurd rfl z
  | none =>
    refine core (fun b => if b = a then some (.frz { cls := .type "list", data := .seq vs.toArray } (.lst (ns.map V.int))) else none) (fun b => ?_) (.inl (.inr ⟨{ cls := .type "list", data := .seq vs.toArray }, if_pos rfl⟩)) (fun b u z => ?_) (fun b z => ?_) fun _ => hk
    · by_cases hb : b = a
      · exact .inr ⟨_, _, if_pos hb⟩
      · exact .inl (if_neg hb)
    · by_cases hb : b = a
      · have z' := (if_pos hb).symm.trans z
        cases z'
        subst hb
        exact ⟨ha, by rw [List.length_map]; exact hl, vs, _, rv, ha⟩
      · have z' := (if_neg hb).symm.trans z
        cases z'
    · by_cases hb : b = a
      · exact hb
      · exact absurd (if_neg hb) z
end L2
namespace L2
open PySem PySem.Spec PyProof.Rows
theorem walk_of {l : PySem.W.OpenLaw} {n k : Nat} {q : Program} {loose : List Str} {XP : (Str → Option Value) → Heap → Prop} {YP : World → Heap → Prop} {d : DefRec} {K : Params → PySem.W.Frag} {CX : World → CXT} {sp : World → Sp} {x : Str}
    (hn : l.most = some n) (hn2 : n ≤ sizeLine) (hdf : d.params.defaults = []) (hr : Room k callerA)
    (hY : ∀ (w : World) (h : Heap), YP w h → (K w.params).In h)
    (F : ∀ (w : World) (mg : Str → Option Value) (fa : Addr) (h : Heap), (K w.params).In h → h.Ns mainGlobals mg → mg d.name = some (.ref fa) →
      ∃ fd : FuncData, (∀ (s : Shared) (u : Value), BindsTo s fd ⟨[u], []⟩ [(x, u)]) ∧
        ∀ base : Heap, (K w.params).In base → base.Ns mainGlobals mg → FnOk l.prog w (K w.params) mg base (CX w) k fa fd [x] (sp w))
    (hsp : ∀ (w : World) (H : Hp) (a : Addr) (ns : List Int), ns.length ≤ n → Only H → SqL (K w.params) H a (ns.map V.int) → sp w [.ref a] H (fun v _ => v = .bl true) fun _ _ _ => False)
    (hCX : ∀ (w : World) (H : Hp) (s : Shared) (e : Value) (s' : Shared), CX w [] H s (fun _ _ _ => False) e s' → False) :
    PySem.W.WalkO q loose XP YP l.row.toRowW d [] (fun f vs => PySem.call f vs) := by
  refine Att.attach_call hn hdf fun w s₀ s₁ mg mb fa o pm cd doc a vs ns G Y ho hd hcd hmg hobj hints hlen hg => ?_
  have KX := hY w _ Y
  obtain ⟨fd, hb, hF⟩ := F w mg fa _ KX G.T.g hmg
  exact law_call KX G.T.g G.T.b G.T.builtins G.T.nolimit hg hobj hints (Nat.le_trans hlen hn2) hr hF hb (fun H hO hS => hsp w H a ns hlen hO hS) fun H e s' => hCX w H s₁ e s'
end L2
/- THE LAST THEOREM (shape; LID, My.* are yours):
   My.Adr: a structure of the addresses that your layer names (classes, functions); My.Txt K t: a structure (Prop) of the equations over K;
   My.txt_mk : {K} {implicit addresses ..} (e1 : nsIn K mainGlobals "law" = some (some (.ref f))) (e2 : K.lookup f = some ⟨oc, od, .func (fnOf "law" "law" params body scope dV kV doc pm an cdv ct), sl⟩) (e3 : codeIn K cdv "law" = true) .. : ∃ t, My.Txt K t
set_option maxRecDepth 100000 in
set_option maxHeartbeats 0 in
theorem PySem.Challenge.cw_LID_holds : PySem.Challenge.rw_LID.Holds := by
  w_on; o_law; k_head; (case hw => w_witness2)
  k_fill
  refine L2.walk_of (l := PySem.Challenge.rw_LID) (n := 63) (k := 40) (x := "script") (CX := fun w => ..) (sp := fun _ => My.sp_law) rfl (by decide) rfl ⟨rfl, by decide, by decide⟩ (fun w h Y => PySem.W.kIn_of Y) ?F ?S ?C
  case F =>
    intro w mg fa h KX G hmg
    have T : ∃ t, My.Txt (L2.KOf KX) t := by
      dsimp only [L2.KOf]                          -- K must stand as «<heap const> w.params» for k_is
      refine' My.txt_mk ?e1 ?e2 ?e3 ..
      (case e1 => PySem.W.k_is)                    -- in the order: a name -> its address -> its object -> its parts
      (case e2 => PySem.W.k_is)
      ..
    obtain ⟨t, T⟩ := T
    have e0 := hmg.symm.trans (PySem.W.mg_of KX G T.law)
    cases e0                                       -- fa is the law's own address
    exact ⟨_, fun s u => .of_eq rfl, fun base kb nb => My.law_fn T kb nb⟩     -- if «.of_eq rfl» comes too early: refine' ⟨_, ?b, fun base kb nb => My.law_fn T kb nb⟩; exact fun s u => .of_eq rfl
  case S => exact fun w H a ns hl hO hS => ..
  case C => exact ..
(the tactic k_is has no namespace: write k_is) -/
namespace L2
open PySem PySem.Spec PyProof.Rows
def defArgs (s : Stmt) : Arguments := match s with
  | .FunctionDef _ a _ _ _ _ _ _ _ _ => a
  | _ => { posonlyargs := [], args := [], vararg := none, kwonlyargs := [], kw_defaults := [], kwarg := none, defaults := [] }
def defBody (s : Stmt) : List Stmt := match s with
  | .FunctionDef _ _ b _ _ _ _ _ _ _ => b
  | _ => []
def defScope (s : Stmt) : Scope := match s with
  | .FunctionDef _ _ _ _ _ _ sc _ _ _ => sc
  | _ => { kind := .function, names := [], isGenerator := false, isCoroutine := false }
abbrev CX0 : CXT := fun _ _ _ _ _ _ => False
abbrev E0 : XK := fun _ _ _ => False
theorem pass0 {X : Cx} : Passes CX0 X E0 := fun _ _ _ _ _ _ _ h => h.elim
structure Fun (K : PySem.W.Frag) (x qual : Str) (st : Stmt) (f : Addr) (fd : FuncData) : Prop where
  ex : ∃ (oc : Value) (od : Option Addr) (kV doc pm : Value) (an : Option Addr) (cdv ct : Value) (osl : Array (Option Value)),
    fd = PySem.W.fnOf x qual (defArgs st) (defBody st) (defScope st) .none kV doc pm an cdv ct ∧ K.lookup f = some ⟨oc, od, .func fd, osl⟩ ∧ PySem.W.codeIn K cdv qual = true
  kp : PySem.W.keepIn K (.ref f) = true
section
variable {P : Program} {w : World} {K : PySem.W.Frag} {mg : Str → Option Value} {base : Heap}
theorem Fun.ok {x qual : Str} {st : Stmt} {f : Addr} {fd : FuncData} {N ps : List Str} {k : Nat} {sp : Sp} (F : Fun K x qual st f fd) (S : FnScope N ps (defScope st)) (len : ∀ vs H Q E, sp vs H Q E → vs.length = ps.length)
    (hbody : ∀ (cdv : Value) (A : Around) (outer : List Env) (s : Shared) (H : Hp) (vs : List V) (Q : VK) (E : XK), Room k (A.deeper (envOfC qual (defScope st) s.heap.objs.size f cdv)) → sp vs H Q E →
      ∃ t, PSs (cxOf CX0 P w K mg base N qual (defScope st) f cdv A outer s H E).nox (defBody st) t ∧ t { nx := fun _ H' => Q .non H', rt := Q } (start N vs) H) : FnOk P w K mg base CX0 (k + 1) f fd ps sp := by
  obtain ⟨oc, od, kV, doc, pm, an, cdv, ct, osl, rfl, lk, hcd⟩ := F.ex
  refine fn_of lk hcd S len fun A outer s H vs Q E hr hsp => ?_
  obtain ⟨t, h, q⟩ := hbody cdv A outer s H vs Q E hr hsp
  exact ⟨t, h.nox, q⟩
theorem Fun.binds {x qual : Str} {st : Stmt} {f : Addr} {fd : FuncData} {ps : List Str} (F : Fun K x qual st f fd)
    (h : ∀ (kV doc pm : Value) (an : Option Addr) (cdv ct : Value) (us : List Value), us.length = ps.length → bindArgs (PySem.W.fnOf x qual (defArgs st) (defBody st) (defScope st) .none kV doc pm an cdv ct) ⟨us, []⟩ = pure (ps.zip us)) : Binds K fd ps [] := by
  obtain ⟨oc, od, kV, doc, pm, an, cdv, ct, osl, rfl, lk, hcd⟩ := F.ex
  exact .all (h kV doc pm an cdv ct)
theorem fun_mk {x qual : Str} {st : Stmt} {f : Addr} {oc : Value} {od an : Option Addr} {osl : Array (Option Value)} {kV doc pm cdv ct : Value} (l : K.lookup f = some ⟨oc, od, .func (PySem.W.fnOf x qual (defArgs st) (defBody st) (defScope st) .none kV doc pm an cdv ct), osl⟩)
    (c : PySem.W.codeIn K cdv qual = true) (k : PySem.W.keepIn K (.ref f) = true) : Fun K x qual st f (PySem.W.fnOf x qual (defArgs st) (defBody st) (defScope st) .none kV doc pm an cdv ct) := ⟨⟨oc, od, kV, doc, pm, an, cdv, ct, osl, rfl, l, c⟩, k⟩
end
theorem small1000 {n : Nat} (h : n ≤ 1000) : n < sizeLine := Nat.lt_of_le_of_lt h (by decide)
section
variable {X : Cx}
theorem pv (i : Nat) {x : Str} {pos : Pos} (hN : X.N[i]? = some x := by rfl) (hv : Vis X.env.scope x := by first | exact Or.inl rfl | exact Or.inr (Or.inl rfl) | exact Or.inr (Or.inr rfl)) (hd : (x == ("__debug__" : Str)) = false := by decide)
    (hcd : (x == ("__classdict__" : Str)) = false := by decide) : PE X (.Name x pos) (tVar i) := pe_var hN hv hd hcd
end
theorem iteF {A B : Prop} (h : B) : if false = true then A else B := by
  rw [if_neg Bool.false_ne_true]
  exact h
theorem iteT {A B : Prop} (h : A) : if true = true then A else B := by
  rw [if_pos rfl]
  exact h
theorem ite2 {c A B : Prop} [Decidable c] (h1 : c → A) (h2 : ¬ c → B) : if c then A else B := by
  by_cases h : c
  · rw [if_pos h]
    exact h1 h
  · rw [if_neg h]
    exact h2 h
def Same (H H' : Hp) : Prop := ∀ b o, H b = some o → H' b = some o
theorem Same.trans {H H1 H2 : Hp} (a : Same H H1) (b : Same H1 H2) : Same H H2 := fun c o h => b c o (a c o h)
end L2
set_option maxHeartbeats 4000000
namespace L2
open PySem PySem.Spec PyProof.Rows
def closes (env : Env) : List (Str × NameKind) → List (Str × Addr) → List (Str × Addr)
  | [], cs => cs
  | (n, k) :: r, cs => closes env r (if k = .free then (n, (env.cells.lookup n).getD 0) :: cs else cs)
theorem closes_ok {env : Env} : ∀ (ns : List (Str × NameKind)) (cs : List (Str × Addr)), (∀ p ∈ ns, p.2 = .free → (env.cells.lookup p.1).isSome = true) →
    (forIn ns cs fun (x : Str × NameKind) r => (do
      let mut cs := r
      if x.2 == .free then cs := (x.1, ← cellOf env x.1) :: cs
      pure (ForInStep.yield cs) : Sem (ForInStep (List (Str × Addr))))) = pure (closes env ns cs)
  | [], cs, _ => rfl
  | (n, k) :: r, cs, h => by
    have ih := fun cs => closes_ok (env := env) r cs fun p hp => h p (List.mem_cons_of_mem _ hp)
    rw [List.forIn_cons]
    by_cases hk : k = .free
    · subst hk
      have q := h (n, .free) List.mem_cons_self rfl
      obtain ⟨c, hc⟩ := Option.isSome_iff_exists.mp q
      have e : cellOf env n = pure c := by unfold cellOf; rw [hc]
      simp only [e]
      simp [closes, hc, ih]
      have := ih ((n, c) :: cs)
      simpa using this
    · have hb : (k == NameKind.free) = false := by simpa using hk
      simp [closes, hk]
      have := ih cs
      simpa using this
theorem closureFor_closes {scope : Scope} {env : Env} (h : ∀ p ∈ scope.names, p.2 = .free → (env.cells.lookup p.1).isSome = true) : closureFor scope env = pure (closes env scope.names []) := by
  have q := closes_ok (env := env) scope.names [] h
  unfold closureFor
  simp at q ⊢
  exact q
theorem closes_sub {env : Env} : ∀ (ns : List (Str × NameKind)) (cs : List (Str × Addr)), (∀ p ∈ ns, p.2 = .free → (env.cells.lookup p.1).isSome = true) → (∀ y c, cs.lookup y = some c → env.cells.lookup y = some c) →
    ∀ y c, (closes env ns cs).lookup y = some c → env.cells.lookup y = some c
  | [], cs, _, h, y, c, e => h y c e
  | (n, k) :: r, cs, h, hc, y, c, e => by
    unfold closes at e
    refine closes_sub r _ (fun p hp => h p (List.mem_cons_of_mem _ hp)) ?_ y c e
    intro y c e
    by_cases hk : k = .free
    · subst hk
      rw [if_pos rfl] at e
      obtain ⟨d, hd⟩ := Option.isSome_iff_exists.mp (h (n, .free) List.mem_cons_self rfl)
      rw [List.lookup_cons] at e
      cases q : y == n with
      | true =>
        rw [q] at e
        have : y = n := by simpa using q
        subst this
        rw [hd] at e ⊢
        exact e
      | false =>
        rw [q] at e
        exact hc y c e
    · rw [if_neg hk] at e
      exact hc y c e
theorem closes_keep {env : Env} {y : Str} : ∀ (ns : List (Str × NameKind)) (cs : List (Str × Addr)), (cs.lookup y).isSome = true → ((closes env ns cs).lookup y).isSome = true
  | [], cs, h => h
  | (n, k) :: r, cs, h => by
    unfold closes
    refine closes_keep r _ ?_
    split
    · rw [List.lookup_cons]
      split
      · rfl
      · exact h
    · exact h
theorem closes_has {env : Env} {y : Str} : ∀ (ns : List (Str × NameKind)) (cs : List (Str × Addr)), (y, NameKind.free) ∈ ns → ((closes env ns cs).lookup y).isSome = true
  | (n, k) :: r, cs, h => by
    unfold closes
    rcases List.mem_cons.mp h with e | e
    · cases e
      refine closes_keep r _ ?_
      rw [if_pos rfl, List.lookup_cons]
      simp
    · exact closes_has r _ e
def compCx (X : Cx) (scope : Scope) (N : List Str) (C : Addr) (s : Shared) (H : Hp) (ex : List Addr) (pins : List (Addr × Obj)) : Cx where
  prog := X.prog
  w := X.w
  K := X.K
  mg := X.mg
  base := X.base
  A := X.A
  N := N
  s₀ := s
  H₀ := H
  env := compEnvC scope (closes X.env scope.names []) C X.env
  outer := X.stack
  stack := X.stack
  ex := ex
  fn := fun _ => false
  calm := X.calm
  pn := X.pn ++ pins
  xe := fun _ _ => False
def cst (nT : Nat) (js : List Nat) (σ : St) : St := List.replicate nT none ++ js.map fun j => (σ[j]?).join
structure CScope (X : Cx) (scope : Scope) (T F : List Str) (js : List Nat) : Prop where
  kind : scope.kind = .function
  nocell : ∀ y ∈ scope.names, y.2 ≠ .cell
  names : ∀ x ∈ scope.names, x.2 = .local → scope.names.lookup x.1 = some .local
  free : ∀ x ∈ scope.names, x.2 = .free → X.env.kindOf x.1 = some .cell
  loc : ∀ y ∈ T, (relabel scope X.env).names.lookup y = some .local
  cel : ∀ y ∈ F, (relabel scope X.env).names.lookup y = some .cell ∧ X.env.kindOf y = some .cell ∧ (y, NameKind.free) ∈ scope.names
  all : ∀ x ∈ (relabel scope X.env).names, (x.2 = .cell ∨ x.2 = .free) → (x.1, NameKind.free) ∈ scope.names
  js : js.map (fun j => X.N[j]?) = F.map some
section
variable {X : Cx} {scope : Scope} {T F : List Str} {js : List Nat}
theorem comp_inv {pins : List (Addr × Obj)} {σ : St} {H : Hp} {s : Shared} {h1 : Heap} {tk : Nat} {fp : List Addr} {m : Str → Option Value} (S : CScope X scope T F js) (I : Inv X pins σ H s)
    (hn : h1.Ns s.heap.objs.size m) (kk : ∀ b o, s.heap.get? b = some o → h1.get? b = some o) (hf : ∀ b ∈ fp, FpOk X pins H b ∧ ∃ o, s.heap.get? b = some o ∧ ∀ v, o.data ≠ .cell v) :
    Inv (compCx X scope (T ++ F) s.heap.objs.size s H fp pins) [] (cst T.length js σ) H { s with heap := h1, toks := tk } := by
  have sub := closes_sub (env := X.env) scope.names [] (fun p hp hk => by
    obtain ⟨c, e⟩ := I.ok.has p.1 (.inl (S.free p hp hk))
    rw [e]; rfl) (fun y c e => by simp at e)
  have ltC : ∀ y c, X.env.cells.lookup y = some c → c < s.heap.objs.size := fun y c e => by
    obtain ⟨v, z⟩ := I.cell y c e
    exact z.lt
  refine ⟨⟨I.ok.mod, ?_, I.ok.glob, I.ok.blt, Nat.le_refl _, fun x y c e1 e2 => I.ok.inj x y c (sub x c e1) (sub y c e2), fun x hx => ?_, fun x c hx => absurd hx Bool.false_ne_true, I.ok.hd, I.ok.frames, .inl rfl, fun b hb => ?_, I.bs, ?_, fun b o e hb => ?_, fun b hb hs => ?_, I.stack, I.stkFree⟩,
    rfl, I.bare, Un.kept kk, ⟨m, hn, fun i x v e1 e2 e3 => ?_⟩, fun x c e => ?_, I.hok.fresh (Nat.le_refl _), fun x c e => I.freeC x c (sub x c e), fun p hp => ?_, I.hok.kept kk, ?_⟩
  · show (relabel scope X.env).kind = .function
    exact S.kind
  · have hx : (relabel scope X.env).names.lookup x = some .cell ∨ (relabel scope X.env).names.lookup x = some .free := hx
    have hm : (x, NameKind.free) ∈ scope.names := by
      rcases hx with h | h
      · exact S.all _ (PySem.mem_of_lookup h) (.inl rfl)
      · exact S.all _ (PySem.mem_of_lookup h) (.inr rfl)
    exact Option.isSome_iff_exists.mp (closes_has scope.names [] hm)
  · obtain ⟨⟨f0, f1, f2, f3, f4, f5⟩, o, ho, _⟩ := hf b hb
    exact ⟨Nat.ne_of_lt (Heap.lt_size ho), fun x c e => f4 x c (sub x c e)⟩
  · exact Nat.le_trans I.ok.bsz I.sz
  · obtain ⟨⟨f0, f1, f2, f3, f4, f5⟩, _⟩ := hf b hb
    rcases f3 with z | z
    · exact I.ok.noex b o e z
    · exact absurd (Nat.lt_of_lt_of_le (Heap.lt_size e) (Nat.le_trans I.ok.bsz z)) (Nat.lt_irrefl _)
  · obtain ⟨⟨f0, f1, f2, f3, f4, f5⟩, _⟩ := hf b hb
    rcases List.mem_cons.mp (I.stkSub b hs) with z | z
    · exact f1 z
    · exact f2 z
  · -- a name's value
    have hi : T.length ≤ i := by
      by_cases hi : i < T.length
      · unfold cst at e2
        rw [List.getElem?_append_left (by simpa using hi), List.getElem?_replicate] at e2
        split at e2 <;> cases e2
      · exact Nat.not_lt.mp (by assumption)
    obtain ⟨k, rfl⟩ : ∃ k, i = T.length + k := ⟨i - T.length, by omega⟩
    have e1 : (T ++ F)[T.length + k]? = some x := e1
    rw [List.getElem?_append_right (by assumption)] at e1
    have e1 : F[k]? = some x := by simpa using e1
    unfold cst at e2
    rw [List.getElem?_append_right (by simp)] at e2
    have e2 : (js.map fun j => (σ[j]?).join)[k]? = some (some v) := by simpa using e2
    rw [List.getElem?_map] at e2
    cases ej : js[k]? with
    | none => rw [ej] at e2; cases e2
    | some j =>
      rw [ej] at e2
      have e2 : (σ[j]?).join = some v := by simpa using e2
      have e3' : σ[j]? = some (some v) := by
        cases q : σ[j]? with
        | none => rw [q] at e2; cases e2
        | some z => rw [q] at e2; cases z with
          | none => cases e2
          | some z => simp at e2; rw [e2]
      have eN : X.N[j]? = some x := by
        have q := congrArg (fun l => l[k]?) S.js
        simp only [List.getElem?_map, ej, e1] at q
        simpa using q
      obtain ⟨c1, c2, c3⟩ := S.cel x (List.mem_of_getElem? e1)
      obtain ⟨m0, hn0, hl⟩ := I.loc
      obtain ⟨u, ru, lk⟩ := hl j x v eN e3' (.inr (.inl c2))
      refine ⟨u, ru, ?_⟩
      rcases lk with ⟨z, _⟩ | ⟨_, c, ec, hc⟩
      · rw [c2] at z; cases z
      · obtain ⟨c', ec'⟩ := Option.isSome_iff_exists.mp (closes_has (env := X.env) scope.names [] c3)
        have := sub x c' ec'
        rw [ec] at this; cases this
        refine .inr ⟨.inl c1, c, ec', ?_⟩
        obtain ⟨o, ho, hd⟩ := hc
        exact ⟨o, kk _ _ ho, hd⟩
  · obtain ⟨v, o, ho, hd⟩ := I.cell x c (sub x c e)
    exact ⟨v, o, kk _ _ ho, hd⟩
  · have hp : p ∈ (X.pn ++ pins) ++ [] := hp
    rw [List.append_nil] at hp
    obtain ⟨e, n, ne, nf, d⟩ := I.pin p hp
    refine ⟨kk _ _ e, n, Nat.ne_of_lt (Heap.lt_size e), fun z => ?_, d⟩
    rcases List.mem_cons.mp (I.stkSub p.1 z) with q | q
    · exact ne q
    · exact nf q
  · unfold cst
    show _ = (T ++ F).length
    have q := congrArg List.length S.js
    simp at q
    simp [q]
def PIf (X : Cx) (ifs : List Expr) (t : TT) : Prop :=
  ∀ (pins : List (Addr × Obj)) (s : Shared) (σ : St) (H : Hp) (Q : Bool → Hp → Prop), Inv X pins σ H s → t σ H Q →
    wpAny (model X.prog X.w) X.A (forIn ifs true fun c r => if r = true then do let ok ← isTrue c X.env (eval c X.env); pure (ForInStep.yield ok) else pure (ForInStep.yield r)) (TP X pins σ Q) X.xe s
def tYes : TT := fun _ H Q => Q true H
theorem pif_nil : PIf X [] tYes := fun pins s σ H Q I h => wpAny_tests_nil ⟨H, I, h⟩
theorem pif_one {c : Expr} {t : TT} (h : PT X c t) : PIf X [c] t := fun pins s σ H Q I hw => wpAny_tests_one (h pins s σ H Q I hw)
def cturn (g : TG) (ti : TT) (te : TE) (D : Addr) (x : V) (σ : St) (ys : List V) (H : Hp) (N : St → List V → Hp → Prop) : Prop :=
  g x σ H fun σ2 H2 => ti σ2 H2 fun b H3 => if b = true then te σ2 H3 fun y H4 => H4 D = some (.lst ys) ∧ ys.length < sizeLine ∧ N σ2 (ys ++ [y]) (upd H4 D (.lst (ys ++ [y]))) else N σ2 ys H3
def cgo (J : It) (g : TG) (ti : TT) (te : TE) (D : Addr) (σ : St) (H : Hp) (Q : VK) : Prop :=
  ∃ W : Nat → Nat → St → List V → Hp → Prop, (∃ m, W 0 m σ [] (upd H D (.lst []))) ∧ ∀ i m σ ys H, W i m σ ys H → H D = some (.lst ys) ∧
    ((J.stop i H ∧ Q (.ref D) H) ∨ (J.go i H ∧ ∃ N : St → List V → Hp → Prop, (∀ σ' ys' H', N σ' ys' H' → ∃ m', m' < m ∧ W (i + 1) m' σ' ys' H') ∧ ∀ x H', J.yld i H x H' → cturn g ti te D x σ ys H' N))
def tComp (wi : TI) (g : TG) (ti : TT) (te : TE) (nT : Nat) (js : List Nat) : TE := fun σ H Q => wi σ H fun J H1 => ∀ D, H1 D = none → cgo J g ti te D (cst nT js σ) H1 Q
theorem comp_out {pins : List (Addr × Obj)} {σ σ' : St} {H H' : Hp} {s s' : Shared} {h' : Heap} {N : List Str} {fp : List Addr} (I : Inv X pins σ H s) (hf : ∀ b ∈ fp, FpOk X pins H b)
    (J : Inv (compCx X scope N s.heap.objs.size s H fp pins) [] σ' H' s') (sb : Heap.SameBut s.heap.objs.size s'.heap h') : Inv X pins σ H' { s' with heap := h' } := by
  have ne : ∀ b o, s.heap.get? b = some o → b ≠ s.heap.objs.size := fun b o e => Nat.ne_of_lt (Heap.lt_size e)
  have u := J.base
  have u' : Un (frs X.stack) fp H H' s.heap h' :=
    ⟨fun b o e n h1 h2 => sb.extBut b o (ne b o e) (u.keep b o e n h1 h2), fun b o e n h1 h2 => by
      obtain ⟨sl, q⟩ := u.slot b o e n h1 h2
      exact ⟨sl, sb.extBut b _ (ne b o e) q⟩, u.free, fun b o e h => by
      obtain ⟨o', q⟩ := u.there b o e h
      exact ⟨o', sb.extBut b _ (ne b o e) q⟩, u.tups, u.frzs, u.tbls⟩
  have nC : H' s.heap.objs.size = none := J.free
  have hok : HOk X.prog X.w H' h' := fun b o e => by
    refine (J.hok b o e).stay (fun c v hc q => sb.extBut c v ?_ q) (fun _ q => q) fun _ _ q => q
    rcases hc with z | z
    · rw [z]; intro z'; rw [z', nC] at e; cases e
    · intro z'; rw [z', nC] at z; cases z
  exact I.call' (s' := { s' with heap := h' }) J.os u' hok J.bare fun b hb => by
    obtain ⟨f0, f1, f2, f3, f4, f5⟩ := hf b hb
    exact ⟨f3, f1, f4, f5⟩
theorem comp_go {tg elt iter : Expr} {ifs : List Expr} {pos : Pos} {g : TG} {ti : TT} {te : TE} {wi : TI} {pins : List (Addr × Obj)} {σ : St} {H : Hp} {s : Shared} {use : Option (Value → Sem Unit)} {QQ : Value → Shared → Prop} {Q : VK} (S : CScope X scope T F js) (hc : X.calm = true)
    (hi : PI X tg iter wi) (hg : ∀ C s H ex pins, PG (compCx X scope (T ++ F) C s H ex pins) tg g) (hif : ∀ C s H ex pins, PIf (compCx X scope (T ++ F) C s H ex pins) ifs ti) (he : ∀ C s H ex pins, PE (compCx X scope (T ++ F) C s H ex pins) elt te)
    (I : Inv X pins σ H s) (h : tComp wi g ti te T.length js σ H Q)
    (fin : ∀ (D C : Addr) (s' : Shared) (H' : Hp) (m : Str → Option Value), s'.heap.Ns C m → Q (.ref D) H' → FpOk X pins H' C → (∀ h', Heap.SameBut C s'.heap h' → Inv X pins σ H' { s' with heap := h' }) →
      compPost (model X.prog X.w) X.A X.xe use QQ (.ref D) C (.ok .next) s')
    (hs : ∀ x, foldedSetIterable iter X.env x = pure x) :
    wpAny (model X.prog X.w) X.A (comprehension (.ListComp elt [⟨tg, iter, ifs, 0⟩] scope pos) scope X.env (firstIterPos [⟨tg, iter, ifs, 0⟩] pos) (newList []) false (eval iter X.env) use) QQ X.xe s := by
  refine wpAny_comprehension_free (use := use) rfl hs (closureFor_closes fun p hp hk => ?_) S.kind S.names (thn (hi pins s σ H _ I h) fun v s1 h1 => thn h1 fun itv s2 h2 => ?_)
  · obtain ⟨c, e⟩ := I.ok.has p.1 (.inl (S.free p hp hk))
    rw [e]; rfl
  obtain ⟨it, fp, tn, J, H2, rfl, I2, Tn, st2, f2, h2⟩ := h2
  obtain ⟨W, ⟨m0, w0⟩, turn⟩ := h2 s2.heap.objs.size I2.fresh
  refine wpAny_newObj_type (wpAny_newFunctionEnv S.nocell (by intro y hy; simp at hy) (fun h₁ hns₁ hsb₁ => ?_) S.kind)
  have I3 := I2.lnew (t' := s2.toks) (ys := []) (its := []) Paired.nil (Nat.zero_le _)
  generalize hs3 : ({ s2 with heap := s2.heap.push { cls := .type "list", data := .seq ([] : List Value).toArray }, toks := s2.toks } : Shared) = s3 at I3
  have hf3 : ∀ b ∈ fp, FpOk X pins (upd H2 s2.heap.objs.size (.lst [])) b ∧ ∃ o, s3.heap.get? b = some o ∧ ∀ v, o.data ≠ .cell v := fun b hb => by
    obtain ⟨f0, fr⟩ := f2 b hb
    obtain ⟨o, e, d⟩ := Tn.obj _ _ st2 b hb
    refine ⟨⟨by rw [upd_ne (Nat.ne_of_lt (Heap.lt_size e))]; exact f0, fr⟩, o, ?_, d⟩
    rw [← hs3]
    exact Heap.get?_push_of_some _ e
  have e3 : s3.heap = s2.heap.push { cls := .type "list", data := .seq ([] : List Value).toArray } := by rw [← hs3]
  have kk : ∀ b o, s3.heap.get? b = some o → h₁.get? b = some o := fun b o e => by
    rw [e3] at e
    exact hsb₁.extBut b o (Nat.ne_of_lt (Heap.lt_size e)) (Heap.get?_push_of_some _ e)
  have hns : h₁.Ns s3.heap.objs.size (fun x => ([] : List (Str × Value)).reverse.lookup x) := by rw [e3]; exact hns₁
  have I4 := comp_inv (tk := s3.toks + ([] : List (Str × Value)).length) S I3 hns kk hf3
  have stat : ∀ {H' : Hp} {pl : List (Addr × Obj)}, (∀ p ∈ pl, ∀ b ∈ fp, p.1 ≠ b) → (∀ b ∈ fp, H' b = none) → ∀ b ∈ fp, FpOk (compCx X scope (T ++ F) s3.heap.objs.size s3 (upd H2 s2.heap.objs.size (.lst [])) fp pins) pl H' b := fun {H' pl} hp hn b hb => by
    obtain ⟨⟨f0, f1, f2, f3, f4, f5⟩, o, e, d⟩ := hf3 b hb
    obtain ⟨x1, x2⟩ := I4.ok.exf b hb
    refine ⟨hn b hb, x1, I4.ok.exfs b hb, .inl hb, x2, fun p hq => ?_⟩
    rcases List.mem_append.mp hq with z | z
    · exact f5 p z
    · exact hp p z b hb
  have loop : codeAny (model X.prog X.w) X.A (.compLoop (.ListComp elt [⟨tg, iter, ifs, 0⟩] scope pos) 0 (.ref it) (.ref s2.heap.objs.size) (compEnvC scope (closes X.env scope.names []) s3.heap.objs.size X.env))
      (compPost (model X.prog X.w) X.A X.xe use QQ (.ref s2.heap.objs.size) s3.heap.objs.size) { s3 with heap := h₁, toks := s3.toks + ([] : List (Str × Value)).length } := by
    refine codeAny_loop rfl (fun n s' => ∃ i σ' ys H', Inv (compCx X scope (T ++ F) s3.heap.objs.size s3 (upd H2 s2.heap.objs.size (.lst [])) fp pins) [] σ' H' s' ∧ tn i s'.heap ∧ (∀ b ∈ fp, H' b = none) ∧ W i n σ' ys H') ?_ m0 ⟨0, _, [], _, I4, ?_, fun b hb => (hf3 b hb).1.1, w0⟩
    · rintro n s5 ⟨i, σ5, ys, H5, I5, st5, fr5, w5⟩
      show wpAny _ X.A ((compTurn (.ListComp elt [⟨tg, iter, ifs, 0⟩] scope pos) 0 (.ref it) (.ref s2.heap.objs.size) (compEnvC scope (closes X.env scope.names []) s3.heap.objs.size X.env)).onRaise (fun x => do noteFrame x _; theTreesLotGoes x)) _ _ s5
      refine wpAny_noted ?_
      rw [compTurn_list]
      refine wpAny_bind (wpAny_standAt (wpAny_bind ?_))
      obtain ⟨hD, tu⟩ := turn i n σ5 ys H5 w5
      rcases tu with ⟨stop, qq⟩ | ⟨go, NN, hNN, step⟩
      · refine thn (Tn.done (compCx X scope (T ++ F) s3.heap.objs.size s3 (upd H2 s2.heap.objs.size (.lst [])) fp pins) rfl rfl rfl hc i [] s5 σ5 H5 _ I5 (stat (pl := []) (fun _ hp => absurd hp List.not_mem_nil) fr5) st5 stop) fun r s6 ⟨hr, I6⟩ => ?_
        subst hr
        refine wpAny_pure ?_
        obtain ⟨m6, hn6, _⟩ := I6.loc
        have lC : s.heap.objs.size ≤ s.heap.objs.size := Nat.le_refl _
        exact fin _ _ s6 H5 m6 hn6 qq (I3.fpOk (Nat.le_refl _) I6.free) fun h' sb => comp_out I3 (fun b hb => (hf3 b hb).1) I6 sb
      · refine thn (Tn.item (compCx X scope (T ++ F) s3.heap.objs.size s3 (upd H2 s2.heap.objs.size (.lst [])) fp pins) rfl rfl rfl hc i [] s5 σ5 H5 _ I5 (stat (pl := []) (fun _ hp => absurd hp List.not_mem_nil) fr5) st5 go) fun r s6 ⟨u, hr, h6⟩ => ?_
        subst hr
        refine wpAny_bind (thn h6 fun _ s7 ⟨x, H7, I7, r7, y7, st7, fr7⟩ => ?_)
        have I7' := I7.pinned (stat (pl := []) (fun _ hp => absurd hp List.not_mem_nil) fr7) (Tn.obj _ _ st7)
        have back : ∀ {σ8 : St} {H8 : Hp} {s8 : Shared} {ys8 : List V} {m' : Nat}, Inv (compCx X scope (T ++ F) s3.heap.objs.size s3 (upd H2 s2.heap.objs.size (.lst [])) fp pins) ([] ++ pinsAt fp s7.heap) σ8 H8 s8 → m' < n → W (i + 1) m' σ8 ys8 H8 →
            ∃ m, m < n ∧ ∃ i σ' ys H', Inv (compCx X scope (T ++ F) s3.heap.objs.size s3 (upd H2 s2.heap.objs.size (.lst [])) fp pins) [] σ' H' s8 ∧ tn i s8.heap ∧ (∀ b ∈ fp, H' b = none) ∧ W i m σ' ys H' := fun {σ8 H8 s8 ys8 m'} I8 hm w8 => by
          refine ⟨m', hm, i + 1, σ8, ys8, H8, I8.unpinned, Tn.keep _ _ _ st7 fun b hb o e => (I8.pin (b, o) (List.mem_append_right _ (List.mem_append_right _ (mem_pinsAt hb e)))).1, fun b hb => ?_, w8⟩
          obtain ⟨o, e, d⟩ := Tn.obj _ _ st7 b hb
          exact (I8.pin (b, o) (List.mem_append_right _ (List.mem_append_right _ (mem_pinsAt hb e)))).2.1
        refine wpAny_bind (wpAny_mono (hg _ _ _ _ _ _ s7 σ5 H7 x u _ I7' r7 (step x H7 y7)) (fun _ s8 ⟨σ8, H8, I8, q8⟩ => ?_) fun _ _ z => z.elim)
        refine wpAny_bind (wpAny_mono (hif _ _ _ _ _ _ s8 σ8 H8 _ I8 q8) (fun ok s9 ⟨H9, I9, q9⟩ => ?_) fun _ _ z => z.elim)
        cases ok with
        | false =>
          rw [if_neg Bool.false_ne_true] at q9
          obtain ⟨m', hm, w9⟩ := hNN _ _ _ q9
          exact wpAny_pure ⟨rfl, back I9 hm w9⟩
        | true =>
          rw [if_pos rfl] at q9
          refine wpAny_bind (wpAny_bind (wpAny_mono (he _ _ _ _ _ _ s9 σ8 H9 _ I9 q9) (fun yv s10 ⟨y, H10, I10, r10, d10, l10, q10⟩ => ?_) fun _ _ z => z.elim))
          obtain ⟨m', hm, w10⟩ := hNN _ _ _ q10
          obtain ⟨z10, its, n10, rv, el, eo⟩ := I10.lstM d10
          refine wpAny_bind (wpAny_list_append_plain (items := its.toArray) ⟨n10, eo⟩ (fun h' hl' sb' => ?_) (by simp; omega))
          obtain ⟨n11, eo'⟩ := hl'
          have I11 := I10.write (x := s2.heap.objs.size) (e := s2.heap.objs.size) (o := .lst (ys ++ [y])) (t' := s10.toks) (by rw [d10]; exact trivial) (.inl rfl) (fun b o hb e => sb'.extBut b o hb e) ⟨_, eo'⟩ ⟨by simp; assumption, its ++ [yv], n11, rv.append (.cons r10 .nil), by simpa using eo'⟩
          exact wpAny_pure (wpAny_pure ⟨rfl, back I11 hm w10⟩)
    · refine Tn.keep _ _ _ st2 fun b hb o e => kk b o ?_
      rw [e3]
      exact Heap.get?_push_of_some _ e
  have st1 : tn 0 h₁ := Tn.keep _ _ _ st2 fun b hb o e => kk b o (by rw [e3]; exact Heap.get?_push_of_some _ e)
  exact codeAny_compStart_list loop (Tn.self _ 0 _ _ _ st1 loop)
theorem pe_comp {tg elt iter : Expr} {ifs : List Expr} {pos : Pos} {g : TG} {ti : TT} {te : TE} {wi : TI} (S : CScope X scope T F js) (hc : X.calm = true)
    (hi : PI X tg iter wi) (hg : ∀ C s H ex pins, PG (compCx X scope (T ++ F) C s H ex pins) tg g) (hif : ∀ C s H ex pins, PIf (compCx X scope (T ++ F) C s H ex pins) ifs ti) (he : ∀ C s H ex pins, PE (compCx X scope (T ++ F) C s H ex pins) elt te)
    (hs : ∀ x, foldedSetIterable iter X.env x = pure x := by intro _; rfl) : PE X (.ListComp elt [⟨tg, iter, ifs, 0⟩] scope pos) (tComp wi g ti te T.length js) := by
  intro pins s σ H Q I h
  rw [eval_ListComp]
  exact comp_go (use := none) S hc hi hg hif he I h (fun D C s' H' m hn q _ hinv => ⟨m, hn, fun h' sb => ⟨.ref D, H', hinv h' sb, rfl, q⟩⟩) hs
theorem ps_comp {i : Nat} {x : Str} {pos' spos : Pos} {tg elt iter : Expr} {ifs : List Expr} {pos : Pos} {g : TG} {ti : TT} {te : TE} {wi : TI} (hN : X.N.Nodup) (hx1 : X.N[i]? = some x) (hx2 : Loc X.env.scope x) (S : CScope X scope T F js) (hc : X.calm = true)
    (hi : PI X tg iter wi) (hg : ∀ C s H ex pins, PG (compCx X scope (T ++ F) C s H ex pins) tg g) (hif : ∀ C s H ex pins, PIf (compCx X scope (T ++ F) C s H ex pins) ifs ti) (he : ∀ C s H ex pins, PE (compCx X scope (T ++ F) C s H ex pins) elt te)
    (hsw : swapsWith (.ListComp elt [⟨tg, iter, ifs, 0⟩] scope pos) (some (.Name x pos')) spos.line X.env = pure true := by rfl)
    (hf : X.fn x = true ∨ X.env.scope.names.lookup x = some .local := by first | exact .inl rfl | exact .inr rfl | assumption)
    (hs : ∀ x, foldedSetIterable iter X.env x = pure x := by intro _; rfl) : PS X (.Assign [.Name x pos'] (.ListComp elt [⟨tg, iter, ifs, 0⟩] scope pos) spos) (tAsg (tComp wi g ti te T.length js) (gName i)) := by
  intro pins s σ H D I h
  rw [exec_Assign_Name_used _ _ _ _ hsw]
  refine wpAny_bind (wpAny_standAt (wpAny_bind ?_))
  show wpAny _ X.A (do let _ ← comprehension (.ListComp elt [⟨tg, iter, ifs, 0⟩] scope pos) scope X.env _ (newList []) false (eval iter X.env) (some (assign (.Name x pos') X.env))) _ _ s
  refine wpAny_bind (wpAny_mono (comp_go (use := some (assign (.Name x pos') X.env)) (QQ := fun _ s' => SP X pins D .next s') S hc hi hg hif he I h (fun d C s' H' m hn q fC hinv => ?_) hs) (fun _ s' hq => wpAny_pure (wpAny_pure hq)) fun _ _ e => e)
  have I1 : Inv X pins σ H' s' := hinv s'.heap (Heap.SameBut.refl ..)
  obtain ⟨oC, es, ep, ho, hd, hr⟩ := id hn
  obtain ⟨f0, f1, f2, f3, f4, f5⟩ := fC
  have I2 : Inv X (pins ++ [(C, oC)]) σ H' s' := I1.pins_of fun p hp => (List.mem_append.mp hp).elim (fun z => I1.pin p (List.mem_append_right _ z)) fun z => by
    have e := List.mem_singleton.mp z
    subst e
    exact ⟨ho, f0, f1, f2, fun v z => by rw [hd] at z; cases z⟩
  show wpAny _ X.A (assign (.Name x pos') X.env (.ref d)) _ _ _
  refine wpAny_assign_Name (store_ok (v := .ref d) I2 hN hx1 hx2 rfl (fun s'' I'' => ?_) hf)
  have e2 := (I''.pin (C, oC) (List.mem_append_right _ (List.mem_append_right _ (List.mem_singleton.mpr rfl)))).1
  refine ⟨m, ⟨oC, es, ep, e2, hd, hr⟩, fun h' sb => ?_⟩
  exact ⟨_, H', I''.unpinned.turned (t' := s''.toks) (it := C) (fun b o hb e => sb.extBut b o hb e) f0 f1 f3 f4 f5, q⟩
end
section
variable {g : TG} {ti : TT} {te : TE} {Q : VK} {D : Addr} {σ : St} {H : Hp}
theorem comp_tup {K : PySem.W.Frag} {a : Addr} {xs : List V} (Pv : Nat → St → List V → Hp → Prop) (h0 : Pv 0 σ [] (upd H D (.lst []))) (hl : ∀ i σ ys H, i ≤ xs.length → Pv i σ ys H → SqT K H a xs ∧ H D = some (.lst ys))
    (hs : ∀ i x σ ys H, xs[i]? = some x → Pv i σ ys H → cturn g ti te D x σ ys H (Pv (i + 1))) (hd : ∀ σ ys H, Pv xs.length σ ys H → Q (.ref D) H) :
    cgo (Itt K a) g ti te D σ H Q := by
  refine ⟨fun i m σ ys H => m = xs.length - i ∧ i ≤ xs.length ∧ Pv i σ ys H, ⟨xs.length, by simp, Nat.zero_le _, h0⟩, ?_⟩
  rintro i m σ ys H ⟨rfl, hi, p⟩
  obtain ⟨q, hD⟩ := hl i σ ys H hi p
  refine ⟨hD, ?_⟩
  by_cases hlt : i < xs.length
  · refine .inr ⟨⟨xs, xs[i], q, by simp [hlt]⟩, Pv (i + 1), fun σ' ys' H' p' => ⟨xs.length - (i + 1), by omega, rfl, hlt, p'⟩, fun x H' y => ?_⟩
    obtain ⟨e, y⟩ := y
    subst e
    exact (hs i x σ ys _ (y xs q) p)
  · have e : i = xs.length := by omega
    subst e
    exact .inl ⟨⟨xs, q, Nat.le_refl _⟩, hd σ ys H p⟩
end
end L2
set_option maxHeartbeats 4000000
namespace L2
open PySem PySem.Spec PyProof.Rows
mutual
inductive Rep (K : PySem.W.Frag) (H : Hp) : V → PyData → Prop
  | non : Rep K H .non .none
  | bl (b : Bool) : Rep K H (.bl b) (.bool b)
  | int (i : Int) : Rep K H (.int i) (.int i)
  | str (x : Str) : Rep K H (.str x) (.str x)
  | lst {a : Addr} {xs : List V} {ds : List PyData} : SqL K H a xs → RepAll K H xs ds → Rep K H (.ref a) (.list ds)
  | tup {a : Addr} {xs : List V} {ds : List PyData} : SqT K H a xs → RepAll K H xs ds → Rep K H (.ref a) (.tuple ds)
inductive RepAll (K : PySem.W.Frag) (H : Hp) : List V → List PyData → Prop
  | nil : RepAll K H [] []
  | cons {x : V} {xs : List V} {d : PyData} {ds : List PyData} : Rep K H x d → RepAll K H xs ds → RepAll K H (x :: xs) (d :: ds)
end
mutual
theorem Rep.reads {X : Cx} {pins : List (Addr × Obj)} {σ : St} {H : Hp} {s : Shared} (I : Inv X pins σ H s) : ∀ {v : V} {d : PyData} {u : Value}, Rep X.K H v d → RelV v u → ∃ as, Reads s.heap u d as
  | _, _, _, .non, r => by cases r; exact ⟨_, .none⟩
  | _, _, _, .bl b, r => by cases r; exact ⟨_, .bool b⟩
  | _, _, _, .int i, r => by obtain ⟨t, rfl⟩ := r; exact ⟨_, .int i t⟩
  | _, _, _, .str x, r => by obtain ⟨t, rfl⟩ := r; exact ⟨_, .str x t⟩
  | _, _, _, .lst hq hx, r => by
    cases r
    obtain ⟨its, rv, hl, hz⟩ := I.list hq
    obtain ⟨as, ra⟩ := RepAll.reads I hx rv
    obtain ⟨o, ho, hc, n, hd⟩ := hl.isList
    exact ⟨_, .list ho hc hd ra⟩
  | _, _, _, .tup hq hx, r => by
    cases r
    obtain ⟨its, rv, hl, hz⟩ := I.tuple hq
    obtain ⟨as, ra⟩ := RepAll.reads I hx rv
    obtain ⟨o, ho, hc, n, hd⟩ := hl
    exact ⟨_, .tuple ho hc hd ra⟩
theorem RepAll.reads {X : Cx} {pins : List (Addr × Obj)} {σ : St} {H : Hp} {s : Shared} (I : Inv X pins σ H s) : ∀ {xs : List V} {ds : List PyData} {us : List Value}, RepAll X.K H xs ds → Vals xs us → ∃ as, ReadsAll s.heap us ds as
  | _, _, _, .nil, .nil => ⟨_, .nil⟩
  | _, _, _, .cons h t, .cons r rs => by
    obtain ⟨a, ra⟩ := Rep.reads I h r
    obtain ⟨b, rb⟩ := RepAll.reads I t rs
    exact ⟨_, .cons ra rb⟩
end
section
variable {X : Cx} {a b c e : Expr} {ta tb tc te : TE} {pos p2 : Pos}
theorem call_isi : CallR X (.builtin "isinstance") (fun xs H Q => ∃ (x : V) (t : Value) (c : String) (b : Bool), xs = [x, .ty c] ∧ TyOf X.K H x t ∧ PySem.W.kitOne X.K t (.type c) = some b ∧ Q (.bl b) H) := by
  intro pins s σ H xs us Q I r h
  obtain ⟨x, t, c, b, rfl, ty, e, q⟩ := h
  obtain ⟨u, v, rfl, rx, ry⟩ := vals2 r
  cases ry
  exact isinst_ok I rx ty e fun tk => ⟨.bl b, H, I.tok tk, rfl, q⟩
theorem pe_ty {x : Str} {T : String} (hg : Gl X x) (hm : X.mg x = none) (hv : bootBuiltins x = some (.type T)) (hn : x ≠ "__name__" := by decide) (hd : (x == ("__debug__" : Str)) = false := by decide) : PE X (.Name x pos) (tC (.ty T)) :=
  fun pins s σ H Q I h => ld_blt I hg hm hv ⟨.ty T, H, I, rfl, h⟩ hn hd
def rints (i : Int) (n : Nat) : List Int := (List.range n).map fun (k : Nat) => i + (k : Int)
end
section
variable {prog : Program} {w : World} {A : Around} {E : Value → Shared → Prop}
variable {s : Shared}
end
end L2
set_option maxHeartbeats 4000000
namespace L2
open PySem PySem.Spec PyProof.Rows
def relab (scope osc : Scope) : Scope := { scope with names := scope.names.map fun (n, k) => if (k == .free && osc.kind == .function && osc.names.lookup n == some .cell) then (n, .cell) else (n, k) }
structure CS (osc scope : Scope) (T F : List Str) : Prop where
  kind : scope.kind = .function
  nocell : ∀ y ∈ scope.names, y.2 ≠ .cell
  names : ∀ x ∈ scope.names, x.2 = .local → scope.names.lookup x.1 = some .local
  free : ∀ x ∈ scope.names, x.2 = .free → osc.names.lookup x.1 = some .cell
  loc : ∀ y ∈ T, (relab scope osc).names.lookup y = some .local
  cel : ∀ y ∈ F, (relab scope osc).names.lookup y = some .cell ∧ osc.names.lookup y = some .cell ∧ (y, NameKind.free) ∈ scope.names
  all : ∀ x ∈ (relab scope osc).names, (x.2 = .cell ∨ x.2 = .free) → (x.1, NameKind.free) ∈ scope.names
theorem CS.to {X : Cx} {scope osc : Scope} {T F : List Str} {js : List Nat} (h : CS osc scope T F) (hj : js.map (fun j => X.N[j]?) = F.map some) (ho : X.env.scope = osc) : CScope X scope T F js := by
  subst ho
  exact ⟨h.kind, h.nocell, h.names, h.free, h.loc, h.cel, h.all, hj⟩
theorem PSs.imp' {X : Cx} {st : List PySem.Stmt} {t t' : TS} (h : PSs X st t) (f : ∀ D σ H, t' D σ H → t D σ H) : PSs X st t' := fun pins s σ H D I h' => h pins s σ H D I (f D σ H h')
end L2
set_option maxHeartbeats 4000000
namespace L2
open PySem PySem.Spec PyProof.Rows
section
variable {X : Cx} {pins : List (Addr × Obj)} {σ : St} {H : Hp} {s : Shared}
theorem Inv.turnedL {t' : Nat} {h' : Heap} (ch : List Addr) (I : Inv X pins σ H s) (k : ∀ b o, b ∉ ch → s.heap.get? b = some o → h'.get? b = some o) (hf : ∀ b ∈ ch, FpOk X pins H b) : Inv X pins σ H { s with heap := h', toks := t' } := by
  have out : ∀ b u, H b = some u → b ∉ ch := fun b u e z => by rw [(hf b z).1] at e; cases e
  have outL : X.env.locals ∉ ch := fun z => (hf _ z).2.1 rfl
  refine I.step (g' := s.gens) (d' := s.drawn) (ch := ch) (fun b hb => ⟨(hf b hb).2.2.2.1, (hf b hb).2.1, (hf b hb).2.2.2.2.1, (hf b hb).2.2.2.2.2⟩) (fun b o _ _ hc e _ => k b o hc e) (fun b o _ _ hc e _ => ⟨o.slots, k b o hc e⟩)
    (fun _ _ _ _ n => n) (fun b o hc e => ⟨o, k b o hc e⟩) (fun _ _ e => e) (fun _ _ _ e => e) (fun b ps e => ⟨#[], by rw [e]; simp⟩) (fun m hm => ?_) (fun b u e => ?_) I.bare
  · obtain ⟨o, es, ep, ho, r⟩ := hm
    exact ⟨o, es, ep, k _ o outL ho, r⟩
  · refine (I.hok b u e).stay (fun c v hc q => k c v ?_ q) (fun _ q => q) fun _ _ q => q
    rcases hc with z | z
    · rw [z]; exact out b u e
    · exact out c _ z
theorem FpOk.up {b T : Addr} {o : HO} (h : FpOk X pins H b) (n : b ≠ T) : FpOk X pins (upd H T o) b := ⟨by rw [upd_ne n]; exact h.1, h.2⟩
end
end L2
set_option maxHeartbeats 4000000
namespace PySem
open Builtin
section
variable {prog : Program} {w : World} {A : Around} {E : Value → Shared → Prop} {s : Shared}
theorem nextOf_tup {it t : Addr} {i : Nat} {its : Array Value} {x : Value} {Q : Value → Shared → Prop} (hi : s.heap.IsTupleIter it t i) (ht : s.heap.IsTuple t its) (hx : its[i]? = some x)
    (hQ : ∀ h', h'.IsTupleIter it t (i + 1) → Heap.SameBut it s.heap h' → Q x { s with heap := h' }) : wpAny (model prog w) A (Builtin.SmallTypes.nextOf (.ref it)) Q E s := by
  obtain ⟨oi, gi, ci, di⟩ := id hi
  obtain ⟨ot, gt, _, nt, dt⟩ := ht
  unfold Builtin.SmallTypes.nextOf
  refine wpAny_bind (wpAny_callSpecial?_slot (name := Str.ofString "__next__") hi.typeIs F.slot_tuple_iterator_next (wpAny_call_entry F.slot_tuple_iterator_next hi.typeIs F.entry_tuple_iterator_next ?_ (F.args_tuple_iterator_next_1 _)))
  show wpAny _ _ (field (.ref it) 0 >>= fun _ => _) _ _ s
  refine wpAny_bind (wpAny_field gi di (x := .ref t) rfl ?_)
  show wpAny _ _ (ite ((Value.ref t == Value.none) = true) _ _) _ _ s
  have ng : ¬ ((Value.ref t == Value.none) = true) := Bool.false_ne_true
  rw [if_neg ng]
  show wpAny _ _ (field (.ref it) 1 >>= fun _ => _) _ _ s
  refine wpAny_bind (wpAny_field gi di (x := .int i 0) rfl ?_)
  show wpAny _ _ (seqItems? (.ref t) >>= fun _ => _) _ _ s
  refine wpAny_bind (wpAny_seqItems gt dt ?_)
  simp only [Int.toNat_natCast, hx]
  refine wpAny_bind (wpAny_setField gi di (by simp) (wpAny_pure ⟨x, rfl, wpAny_pure (hQ _ ⟨_, Heap.get?_update_self _ gi (Obj.isFreed_of_fields (Obj.data_mapFields di _)), (Obj.cls_mapFields ..).trans ci, ?_⟩ (Heap.SameBut.update ..))⟩))
  rw [Obj.data_mapFields di]
  simp [rawInt]
theorem nextOf_tup_end {it t : Addr} {i : Nat} {its : Array Value} {Q : Value → Shared → Prop} (hh : A.handled = none) (hi : s.heap.IsTupleIter it t i) (ht : s.heap.IsTuple t its) (hx : its[i]? = none)
    (hE : ∀ h' e, Heap.ExtBut it s.heap h' → (∃ o, h'.get? e = some o ∧ o.cls = .type "StopIteration") → E (.ref e) { s with heap := h' }) : wpAny (model prog w) A (Builtin.SmallTypes.nextOf (.ref it)) Q E s := by
  obtain ⟨oi, gi, ci, di⟩ := id hi
  obtain ⟨ot, gt, _, nt, dt⟩ := ht
  unfold Builtin.SmallTypes.nextOf
  refine wpAny_bind (wpAny_callSpecial?_slot (name := Str.ofString "__next__") hi.typeIs F.slot_tuple_iterator_next (wpAny_call_entry F.slot_tuple_iterator_next hi.typeIs F.entry_tuple_iterator_next ?_ (F.args_tuple_iterator_next_1 _)))
  show wpAny _ _ (field (.ref it) 0 >>= fun _ => _) _ _ s
  refine wpAny_bind (wpAny_field gi di (x := .ref t) rfl ?_)
  show wpAny _ _ (ite ((Value.ref t == Value.none) = true) _ _) _ _ s
  have ng : ¬ ((Value.ref t == Value.none) = true) := Bool.false_ne_true
  rw [if_neg ng]
  show wpAny _ _ (field (.ref it) 1 >>= fun _ => _) _ _ s
  refine wpAny_bind (wpAny_field gi di (x := .int i 0) rfl ?_)
  show wpAny _ _ (seqItems? (.ref t) >>= fun _ => _) _ _ s
  refine wpAny_bind (wpAny_seqItems gt dt ?_)
  simp only [Int.toNat_natCast, hx]
  refine wpAny_bind (wpAny_rule (wpAny_bind (wpAny_setField gi di (by simp) ?_)))
  show wpAny _ _ (newExc (.type "StopIteration") [] >>= fun _ => _) _ _ _
  refine wpAny_bind ?_
  simp only [newExc, newTuple]
  refine wpAny_bind (wpAny_newObj_type ?_ (by size_fits))
  refine wpAny_bind (m := firstArgMember _ _) (wpAny_of_eq (a := Value.none) (by first | rfl | (simp only [firstArgMember]; rfl)) ?_)
  refine wpAny_newObj_type ?_ (by size_fits)
  simp only [raiseNew]
  refine wpAny_bind (wpAny_handled ?_)
  first | rw [show A.in1.handled = none from hh] | rw [hh]
  exact wpAny_bind (wpAny_pure (wpAny_throw (hE _ _ (((Heap.SameBut.update ..).extBut.push _).push _) ⟨_, Heap.get?_push_size _ rfl, rfl⟩)))
theorem Draws.tup {prog : Program} {w : World} {A : Around} (hh : A.handled = none) (it t : Addr) (hne : t ≠ it) (its : Array Value) :
    Draws prog w A it [it, t] its.size (fun i v => its[i]? = some v) (fun i h => h.IsTupleIter it t i ∧ h.IsTuple t its) where
  live := fun _ _ st => ⟨st.1.choose, st.1.choose_spec.1⟩
  frame := fun _ _ _ st hk => ⟨st.1.at fun o e => hk it (by simp) o e, let ⟨o, ho, r⟩ := st.2; ⟨o, hk t (by simp) o ho, r⟩⟩
  item := fun i s Q E hi st hQ => by
    refine nextOf_tup st.1 st.2 (x := its[i]) (by simp [hi]) fun h' hit' hs' => ?_
    exact hQ _ h' s.toks (by simp [hi]) ⟨hit', let ⟨o, ho, r⟩ := st.2; ⟨o, hs'.extBut _ _ hne ho, r⟩⟩ hs'
  done := fun s Q E st hE => nextOf_tup_end hh st.1 st.2 (by simp) hE
end
end PySem
namespace PySem
open Builtin
structure ZAp (z TI TO i1 i2 : Addr) (f1 f2 : List Addr) : Prop where
  a1 : TI ≠ z
  a2 : TO ≠ z
  a3 : i1 ≠ z
  a4 : i2 ≠ z
  a5 : TI ≠ TO
  a6 : TI ≠ i1
  a7 : TI ≠ i2
  a8 : TO ≠ i1
  a9 : TO ≠ i2
  b1 : i1 ≠ i2
  b2 : z ∉ f1
  b3 : z ∉ f2
  b4 : TO ∉ f1
  b5 : TO ∉ f2
  b6 : i1 ∉ f2
  b7 : i2 ∉ f1
section
variable {prog : Program} {w : World} {A : Around} {E : Value → Shared → Prop} {s : Shared} {z TI TO i1 i2 : Addr} {f1 f2 : List Addr} {n1 n2 : Nat} {P1 P2 : Nat → Value → Prop} {S1 S2 : Nat → Heap → Prop}
theorem zip_itemD {k : Nat} {a b : Value} {Q : Value → Shared → Prop} (D : ZAp z TI TO i1 i2 f1 f2) (D1 : Draws prog w A i1 f1 n1 P1 S1) (D2 : Draws prog w A i2 f2 n2 P2 S2)
    (hZ : IsZip s.heap z TI TO .none) (pI : IsPair s.heap TI (.ref i1) (.ref i2)) (pO : IsPair s.heap TO a b) (t1 : S1 k s.heap) (t2 : S2 k s.heap) (l1 : k < n1) (l2 : k < n2)
    (hQ : ∀ h' tk x y, P1 k x → P2 k y → IsZip h' z TI TO (rawInt s.heap.objs.size) → IsPair h' TO x y → S1 (k + 1) h' → S2 (k + 1) h' → IsPair h' s.heap.objs.size x y →
      (∀ c o, c ≠ z → c ≠ TO → c ≠ i1 → c ≠ i2 → s.heap.get? c = some o → h'.get? c = some o) → Q (.ref s.heap.objs.size) { s with heap := h', toks := tk }) :
    wpAny (model prog w) A (Builtin.«zip.__next__» ⟨[.ref z], []⟩) (fun fin s' => ∃ v, fin = .done (.ret v) ∧ Q v s') E s := by
  show wpAny _ _ (field (.ref z) 2 >>= fun _ => _) _ _ _
  refine wpAny_bind (wpAny_field hZ rfl (x := .bool false) rfl ?_)
  show wpAny _ _ (field (.ref z) 3 >>= fun _ => _) _ _ _
  refine wpAny_bind (wpAny_field hZ rfl (x := .ref TI) rfl ?_)
  refine wpAny_bind (wpAny_seqItems pI rfl ?_)
  show wpAny _ _ (Builtin.SmallTypes.ownedTupleIsFree (.ref z) >>= fun _ => _) _ _ _
  refine wpAny_bind ?_
  unfold Builtin.SmallTypes.ownedTupleIsFree
  refine wpAny_bind (wpAny_field hZ rfl (x := .none) rfl (wpAny_pure ?_))
  simp only [if_true]
  refine wpAny_bind (wpAny_rule (wpAny_bind (wpAny_field hZ rfl (x := .ref TO) rfl ?_)))
  refine wpAny_bind (wpAny_setField_rec hZ (by simp) fun g1 zg1 k1 => ?_)
  replace zg1 : IsZip g1 z TI TO .ellipsis := zg1
  refine wpAny_bind ?_
  simp only [List.zipIdx_cons, List.zipIdx_nil, List.forIn_cons, List.forIn_nil]
  refine wpAny_bind (wpAny_bind (wpAny_onRaise ?_))
  show wpAny _ _ (Builtin.SmallTypes.nextOf (.ref i1) >>= fun _ => _) _ _ _
  refine wpAny_bind (D1.item k _ _ _ l1 (D1.frame _ _ _ t1 fun c hc o e => k1.extBut _ _ (fun q => D.b2 (q ▸ hc)) e) fun x g2 tk2 px sg2 k2 => wpAny_pure ?_)
  have pO2 : IsPair g2 TO a b := k2.extBut _ _ D.a8 (k1.extBut _ _ D.a2 pO)
  refine wpAny_bind (wpAny_seqItems pO2 rfl (wpAny_bind (wpAny_updateSeq_pair pO2 fun g3 pO3 k3 => ?_)))
  replace pO3 : IsPair g3 TO x b := pO3
  refine wpAny_bind (wpAny_letGo (wpAny_pure (wpAny_bind (wpAny_bind (wpAny_onRaise ?_)))))
  show wpAny _ _ (Builtin.SmallTypes.nextOf (.ref i2) >>= fun _ => _) _ _ _
  have t2' : S2 k g3 := D2.frame _ _ _ t2 fun c hc o e => k3.extBut _ _ (fun q => D.b5 (q ▸ hc)) (k2.extBut _ _ (fun q => D.b6 (q ▸ hc)) (k1.extBut _ _ (fun q => D.b3 (q ▸ hc)) e))
  refine wpAny_bind (D2.item k _ _ _ l2 t2' fun y g4 tk4 py sg4 k4 => wpAny_pure ?_)
  have pO4 : IsPair g4 TO x b := k4.extBut _ _ D.a9 pO3
  refine wpAny_bind (wpAny_seqItems pO4 rfl (wpAny_bind (wpAny_updateSeq_pair pO4 fun g5 pO5 k5 => ?_)))
  replace pO5 : IsPair g5 TO x y := pO5
  refine wpAny_bind (wpAny_letGo (wpAny_pure (wpAny_pure (wpAny_bind (wpAny_seqItems pO5 rfl (wpAny_bind (wpAny_newTuple ?_)))))))
  have sz : g5.objs.size = s.heap.objs.size := by rw [k5.1, k4.1, k3.1, k2.1, k1.1]
  have zg5 : IsZip g5 z TI TO .ellipsis := k5.extBut _ _ D.a2.symm (k4.extBut _ _ D.a4.symm (k3.extBut _ _ D.a2.symm (k2.extBut _ _ D.a3.symm zg1)))
  have kk : ∀ c o, c ≠ z → c ≠ TO → c ≠ i1 → c ≠ i2 → s.heap.get? c = some o → g5.get? c = some o := fun c o c1 c2 c3 c4 e => k5.extBut _ _ c2 (k4.extBut _ _ c4 (k3.extBut _ _ c2 (k2.extBut _ _ c3 (k1.extBut _ _ c1 e))))
  have u1 : S1 (k + 1) g5 := D1.frame _ _ _ sg2 fun c hc o e => k5.extBut _ _ (fun q => D.b4 (q ▸ hc)) (k4.extBut _ _ (fun q => D.b7 (q ▸ hc)) (k3.extBut _ _ (fun q => D.b4 (q ▸ hc)) e))
  have u2 : S2 (k + 1) g5 := D2.frame _ _ _ sg4 fun c hc o e => k5.extBut _ _ (fun q => D.b5 (q ▸ hc)) e
  have zlt : z < g5.objs.size := Heap.lt_size zg5
  show wpAny _ _ (Builtin.SmallTypes.ownedTupleHandOut (.ref z) (.ref g5.objs.size) >>= fun _ => _) _ _ _
  refine wpAny_bind ?_
  unfold Builtin.SmallTypes.ownedTupleHandOut
  have zg6 : IsZip (g5.push { cls := .type "tuple", data := .seq #[x, y] }) z TI TO .ellipsis := Heap.get?_push_of_some _ zg5
  refine wpAny_bind (wpAny_setField_rec zg6 (by simp) fun g7 zg7 k7 => ?_)
  replace zg7 : IsZip g7 z TI TO (rawInt g5.objs.size) := zg7
  refine wpAny_setField_rec zg7 (by simp) fun g8 zg8 k8 => ?_
  replace zg8 : IsZip g8 z TI TO (rawInt g5.objs.size) := zg8
  have up : ∀ c o, c ≠ z → g5.get? c = some o → g8.get? c = some o := fun c o c1 e => k8.extBut _ _ c1 (k7.extBut _ _ c1 (Heap.get?_push_of_some _ e))
  have pT : IsPair g8 g5.objs.size x y := k8.extBut _ _ (Nat.ne_of_gt zlt) (k7.extBut _ _ (Nat.ne_of_gt zlt) (Heap.get?_push_size _ rfl))
  rw [sz] at zg8 pT
  refine wpAny_pure ⟨_, rfl, ?_⟩
  show Q (.ref g5.objs.size) _
  rw [sz]
  exact hQ g8 _ x y px py zg8 (up _ _ D.a2 pO5) (D1.frame _ _ _ u1 fun c hc o e => up c o (fun q => D.b2 (q ▸ hc)) e) (D2.frame _ _ _ u2 fun c hc o e => up c o (fun q => D.b3 (q ▸ hc)) e) pT fun c o c1 c2 c3 c4 e => up c o c1 (kk c o c1 c2 c3 c4 e)
theorem zip_endD {k : Nat} {a b : Value} {Q : Fin → Shared → Prop} (D : ZAp z TI TO i1 i2 f1 f2) (D1 : Draws prog w A i1 f1 n1 P1 S1) (D2 : Draws prog w A i2 f2 n2 P2 S2)
    (hZ : IsZip s.heap z TI TO .none) (pI : IsPair s.heap TI (.ref i1) (.ref i2)) (pO : IsPair s.heap TO a b) (t1 : S1 k s.heap) (t2 : S2 k s.heap) (hend : k = n1 ∨ (k < n1 ∧ k = n2))
    (hE : ∀ h' tk e, (∀ c o, c ≠ z → c ≠ TO → c ≠ i1 → c ≠ i2 → s.heap.get? c = some o → h'.get? c = some o) → (∃ o, h'.get? e = some o ∧ o.cls = .type "StopIteration") → E (.ref e) { s with heap := h', toks := tk }) :
    wpAny (model prog w) A (Builtin.«zip.__next__» ⟨[.ref z], []⟩) Q E s := by
  show wpAny _ _ (field (.ref z) 2 >>= fun _ => _) _ _ _
  refine wpAny_bind (wpAny_field hZ rfl (x := .bool false) rfl ?_)
  show wpAny _ _ (field (.ref z) 3 >>= fun _ => _) _ _ _
  refine wpAny_bind (wpAny_field hZ rfl (x := .ref TI) rfl ?_)
  refine wpAny_bind (wpAny_seqItems pI rfl ?_)
  show wpAny _ _ (Builtin.SmallTypes.ownedTupleIsFree (.ref z) >>= fun _ => _) _ _ _
  refine wpAny_bind ?_
  unfold Builtin.SmallTypes.ownedTupleIsFree
  refine wpAny_bind (wpAny_field hZ rfl (x := .none) rfl (wpAny_pure ?_))
  simp only [if_true]
  refine wpAny_bind (wpAny_rule (wpAny_bind (wpAny_field hZ rfl (x := .ref TO) rfl ?_)))
  refine wpAny_bind (wpAny_setField_rec hZ (by simp) fun g1 zg1 k1 => ?_)
  replace zg1 : IsZip g1 z TI TO .ellipsis := zg1
  refine wpAny_bind ?_
  simp only [List.zipIdx_cons, List.zipIdx_nil, List.forIn_cons, List.forIn_nil]
  refine wpAny_bind (wpAny_bind (wpAny_onRaise ?_))
  show wpAny _ _ (Builtin.SmallTypes.nextOf (.ref i1) >>= fun _ => _) _ _ _
  have t1' : S1 k g1 := D1.frame _ _ _ t1 fun c hc o e => k1.extBut _ _ (fun q => D.b2 (q ▸ hc)) e
  rcases hend with rfl | ⟨l1, rfl⟩
  · refine wpAny_bind (D1.done _ _ _ t1' fun g2 e k2 he => ?_)
    obtain ⟨oe, ge, ce⟩ := he
    have zg2 : IsZip g2 z TI TO .ellipsis := k2 _ _ D.a3.symm zg1
    have ne : e ≠ z := fun q => by subst q; rw [zg2] at ge; cases ge; simp at ce
    exact wpAny_setField_rec zg2 (by simp) fun g3 _ k3 => hE g3 _ e (fun c o c1 _ c3 _ q => k3.extBut _ _ c1 (k2 _ _ c3 (k1.extBut _ _ c1 q))) ⟨oe, k3.extBut _ _ ne ge, ce⟩
  · refine wpAny_bind (D1.item k _ _ _ l1 t1' fun x g2 tk2 px sg2 k2 => wpAny_pure ?_)
    have pO2 : IsPair g2 TO a b := k2.extBut _ _ D.a8 (k1.extBut _ _ D.a2 pO)
    refine wpAny_bind (wpAny_seqItems pO2 rfl (wpAny_bind (wpAny_updateSeq_pair pO2 fun g3 pO3 k3 => ?_)))
    refine wpAny_bind (wpAny_letGo (wpAny_pure (wpAny_bind (wpAny_bind (wpAny_onRaise ?_)))))
    show wpAny _ _ (Builtin.SmallTypes.nextOf (.ref i2) >>= fun _ => _) _ _ _
    have t2' : S2 k g3 := D2.frame _ _ _ t2 fun c hc o e => k3.extBut _ _ (fun q => D.b5 (q ▸ hc)) (k2.extBut _ _ (fun q => D.b6 (q ▸ hc)) (k1.extBut _ _ (fun q => D.b3 (q ▸ hc)) e))
    refine wpAny_bind (D2.done _ _ _ t2' fun g4 e k4 he => ?_)
    obtain ⟨oe, ge, ce⟩ := he
    have zg4 : IsZip g4 z TI TO .ellipsis := k4 _ _ D.a4.symm (k3.extBut _ _ D.a2.symm (k2.extBut _ _ D.a3.symm zg1))
    have ne : e ≠ z := fun q => by subst q; rw [zg4] at ge; cases ge; simp at ce
    exact wpAny_setField_rec zg4 (by simp) fun g5 _ k5 => hE g5 _ e (fun c o c1 c2 c3 c4 q => k5.extBut _ _ c1 (k4 _ _ c4 (k3.extBut _ _ c2 (k2.extBut _ _ c3 (k1.extBut _ _ c1 q))))) ⟨oe, k5.extBut _ _ ne ge, ce⟩
end
end PySem
namespace PySem
open Builtin
section
variable {prog : Program} {w : World} {A : Around} {E : Value → Shared → Prop} {s : Shared} {z TI TO i1 i2 : Addr} {f1 f2 : List Addr} {n1 n2 : Nat} {P1 P2 : Nat → Value → Prop} {S1 S2 : Nat → Heap → Prop}
theorem pyNext_zip_itemD {k : Nat} {a b : Value} {Q : Option Value → Shared → Prop} (D : ZAp z TI TO i1 i2 f1 f2) (D1 : Draws prog w A.in1 i1 f1 n1 P1 S1) (D2 : Draws prog w A.in1 i2 f2 n2 P2 S2)
    (hZ : IsZip s.heap z TI TO .none) (pI : IsPair s.heap TI (.ref i1) (.ref i2)) (pO : IsPair s.heap TO a b) (t1 : S1 k s.heap) (t2 : S2 k s.heap) (l1 : k < n1) (l2 : k < n2)
    (hQ : ∀ h' tk x y, P1 k x → P2 k y → IsZip h' z TI TO (rawInt s.heap.objs.size) → IsPair h' TO x y → S1 (k + 1) h' → S2 (k + 1) h' → IsPair h' s.heap.objs.size x y →
      (∀ c o, c ≠ z → c ≠ TO → c ≠ i1 → c ≠ i2 → s.heap.get? c = some o → h'.get? c = some o) → Q (some (.ref s.heap.objs.size)) { s with heap := h', toks := tk }) :
    wpAny (model prog w) A (pyNext (.ref z)) Q E s := by
  have tz : s.TypeIs (.ref z) "zip" := ⟨_, hZ, rfl⟩
  unfold pyNext
  exact wpAny_bind (wpAny_attempt (wpAny_callSpecial?_slot (name := Str.ofString "__next__") tz F.slot_zip_next (wpAny_call_entry F.slot_zip_next tz F.entry_zip_next
      (zip_itemD D D1 D2 hZ pI pO t1 t2 l1 l2 fun h' tk x y a1 a2 a3 a4 a5 a6 a7 a8 => wpAny_pure (hQ h' tk x y a1 a2 a3 a4 a5 a6 a7 a8)) (F.args_zip_next_1 _))))
theorem pyNext_zip_endD {k : Nat} {a b : Value} {Q : Option Value → Shared → Prop} (D : ZAp z TI TO i1 i2 f1 f2) (D1 : Draws prog w A.in1 i1 f1 n1 P1 S1) (D2 : Draws prog w A.in1 i2 f2 n2 P2 S2)
    (hZ : IsZip s.heap z TI TO .none) (pI : IsPair s.heap TI (.ref i1) (.ref i2)) (pO : IsPair s.heap TO a b) (t1 : S1 k s.heap) (t2 : S2 k s.heap) (hend : k = n1 ∨ (k < n1 ∧ k = n2))
    (hQ : ∀ h' tk, (∀ c o, c ≠ z → c ≠ TO → c ≠ i1 → c ≠ i2 → s.heap.get? c = some o → h'.get? c = some o) → Q none { s with heap := h', toks := tk }) :
    wpAny (model prog w) A (pyNext (.ref z)) Q E s := by
  have tz : s.TypeIs (.ref z) "zip" := ⟨_, hZ, rfl⟩
  unfold pyNext
  refine wpAny_bind (wpAny_attempt (wpAny_callSpecial?_slot (name := Str.ofString "__next__") tz F.slot_zip_next (wpAny_call_entry F.slot_zip_next tz F.entry_zip_next (zip_endD D D1 D2 hZ pI pO t1 t2 hend fun h' tk e hk he => ?_) (F.args_zip_next_1 _))))
  obtain ⟨o, ho, hc⟩ := he
  exact wpAny_bind (wpAny_isInstance (T := "StopIteration") (b := true) ⟨o, ho, hc⟩ isSubtype_stop (wpAny_pure (hQ _ _ hk)))
end
abbrev zT1 (h : Heap) (a : Addr) : Heap := h.push { cls := .type "tuple_iterator", data := .fields #[.ref a, .int 0 0] }
abbrev zT2 (h : Heap) (a b : Addr) : Heap := (zT1 h a).push { cls := .type "tuple_iterator", data := .fields #[.ref b, .int 0 0] }
abbrev zT3 (h : Heap) (a b : Addr) : Heap := (zT2 h a b).push { cls := .type "tuple", data := .seq #[.ref h.objs.size, .ref (zT1 h a).objs.size] }
abbrev zT4 (h : Heap) (a b : Addr) : Heap := (zT3 h a b).push { cls := .type "tuple", data := .seq #[.none, .none] }
abbrev zT5 (h : Heap) (a b : Addr) : Heap := (zT4 h a b).push { cls := .type "zip", data := .fields #[.none, .bool false, .bool false, .ref (zT2 h a b).objs.size, .ref (zT3 h a b).objs.size] }
theorem meets_zip_tt (a b : Addr) (xs ys : Array Value) :
    Meets (Builtin.«zip.__new__» ⟨[.type "zip", .ref a, .ref b], []⟩) (fun _ R s => s.heap.IsTuple a xs ∧ s.heap.IsTuple b ys ∧ R (.ok (.ret (.ref (zT4 s.heap a b).objs.size))) { s with heap := zT5 s.heap a b }) :=
  .of_wp fun prog w A R s h => by
    obtain ⟨hp, g, d, tk, os⟩ := s
    obtain ⟨ta, tb, h⟩ := h
    have hsub := sub_zip
    have q1 : Heap.IsTuple (Shared.heap ⟨hp, g, d, tk, os⟩) a xs := ta
    have q2 : Heap.IsTuple (Shared.heap ⟨hp.push { cls := .type "tuple_iterator", data := .fields #[.ref a, .int 0 0] }, g, d, tk, os⟩) b ys := let ⟨o, ho, r⟩ := tb; ⟨o, Heap.get?_push_of_some _ ho, r⟩
    wp_walk using wpAny_pyIter_tuple q1, wpAny_pyIter_tuple q2
    exact ⟨_, rfl, h⟩
section
variable {prog : Program} {w : World} {A : Around} {E : Value → Shared → Prop} {s : Shared}
theorem call_zip_tt {a b : Addr} {xs ys : Array Value} {Q : Value → Shared → Prop} (ta : s.heap.IsTuple a xs) (tb : s.heap.IsTuple b ys)
    (h : ∀ h', IsZip h' (s.heap.objs.size + 4) (s.heap.objs.size + 2) (s.heap.objs.size + 3) .none → IsPair h' (s.heap.objs.size + 2) (.ref s.heap.objs.size) (.ref (s.heap.objs.size + 1)) → IsPair h' (s.heap.objs.size + 3) .none .none →
      h'.IsTupleIter s.heap.objs.size a 0 → h'.IsTupleIter (s.heap.objs.size + 1) b 0 → (∀ c o, s.heap.get? c = some o → h'.get? c = some o) → Q (.ref (s.heap.objs.size + 4)) { s with heap := h' }) :
    wpAny (model prog w) A (call (.type "zip") [.ref a, .ref b]) Q E s := by
  refine callType_new F.called_zip (by decide) (F.typeCall_zip_2 _ _) (F.newCall_zip_2 _ _) (fun obj => F.args_object_init_3 obj _ _) F.entry_zip_new (meets_zip_tt a b xs ys) ⟨ta, tb, ?_⟩
  have y1 : (zT1 s.heap a).objs.size = s.heap.objs.size + 1 := Heap.size_push ..
  have y2 : (zT2 s.heap a b).objs.size = s.heap.objs.size + 2 := by rw [Heap.size_push, y1]
  have y3 : (zT3 s.heap a b).objs.size = s.heap.objs.size + 3 := by rw [Heap.size_push, y2]
  have y4 : (zT4 s.heap a b).objs.size = s.heap.objs.size + 4 := by rw [Heap.size_push, y3]
  have e5 : (zT5 s.heap a b).get? (zT4 s.heap a b).objs.size = some _ := Heap.get?_push_size _ rfl
  have e4 : (zT5 s.heap a b).get? (zT3 s.heap a b).objs.size = some _ := Heap.get?_push_of_some _ (Heap.get?_push_size _ rfl)
  have e3 : (zT5 s.heap a b).get? (zT2 s.heap a b).objs.size = some _ := Heap.get?_push_of_some _ (Heap.get?_push_of_some _ (Heap.get?_push_size _ rfl))
  have e2 : (zT5 s.heap a b).get? (zT1 s.heap a).objs.size = some _ := Heap.get?_push_of_some _ (Heap.get?_push_of_some _ (Heap.get?_push_of_some _ (Heap.get?_push_size _ rfl)))
  have e1 : (zT5 s.heap a b).get? s.heap.objs.size = some _ := Heap.get?_push_of_some _ (Heap.get?_push_of_some _ (Heap.get?_push_of_some _ (Heap.get?_push_of_some _ (Heap.get?_push_size _ rfl))))
  show _ ∧ _
  rw [y2, y3, y4] at e5
  rw [y1, y2] at e3
  rw [y3] at e4
  rw [y1] at e2
  rw [y4]
  refine ⟨⟨_, e5, rfl⟩, h _ e5 e3 e4 ⟨_, e1, rfl, rfl⟩ ⟨_, e2, rfl, rfl⟩ fun c o e => ?_⟩
  exact Heap.get?_push_of_some _ (Heap.get?_push_of_some _ (Heap.get?_push_of_some _ (Heap.get?_push_of_some _ (Heap.get?_push_of_some _ e))))
end
end PySem
namespace L2
open PySem PySem.Spec PyProof.Rows
def Itz (K : PySem.W.Frag) (a b : Addr) : It :=
  ⟨fun i H => ∃ xs ys x y, SqT K H a xs ∧ SqT K H b ys ∧ xs[i]? = some x ∧ ys[i]? = some y, fun i H v H' => ∃ T x y, H T = none ∧ v = .ref T ∧ H' = upd H T (.tup [x, y]) ∧ (∀ xs, SqT K H a xs → xs[i]? = some x) ∧ ∀ ys, SqT K H b ys → ys[i]? = some y,
   fun i H => ∃ xs ys, SqT K H a xs ∧ SqT K H b ys ∧ (i = xs.length ∨ (i < xs.length ∧ i = ys.length))⟩
theorem zap_of {z TI TO i1 i2 a b : Addr} (nd : [z, TI, TO, i1, i2].Nodup) (na : a ∉ [z, TI, TO, i1, i2]) (nb : b ∉ [z, TI, TO, i1, i2]) : ZAp z TI TO i1 i2 [i1, a] [i2, b] := by
  simp only [List.nodup_cons, List.mem_cons, List.mem_nil_iff, or_false, not_or, List.nodup_nil, and_true, not_false_eq_true] at nd na nb
  obtain ⟨⟨q1, q2, q3, q4⟩, ⟨q5, q6, q7⟩, ⟨q8, q9⟩, q10⟩ := nd
  obtain ⟨r1, r2, r3, r4, r5⟩ := na
  obtain ⟨s1, s2, s3, s4, s5⟩ := nb
  constructor <;> first | exact Ne.symm ‹_› | assumption | (simp only [List.mem_cons, List.mem_nil_iff, or_false, not_or]; constructor <;> first | assumption | exact Ne.symm ‹_›)
theorem turn_zip {P : Program} {w : World} {K : PySem.W.Frag} {elts : List Expr} {x1} {pos : Pos} (a b z TI TO i1 i2 : Addr) (nd : [z, TI, TO, i1, i2].Nodup) (na : a ∉ [z, TI, TO, i1, i2]) (nb : b ∉ [z, TI, TO, i1, i2]) : Turn P w K (.Tuple elts x1 pos) (Itz K a b) [z, TI, TO, i1, i2] z
    (fun i h => IsZip h z TI TO .none ∧ IsPair h TI (.ref i1) (.ref i2) ∧ (∃ u v, IsPair h TO u v) ∧ h.IsTupleIter i1 a i ∧ h.IsTupleIter i2 b i) where
  mem := by simp
  obj := fun i h st c hc => by
    obtain ⟨h1, h2, ⟨u, v, h3⟩, ⟨o4, g4, _, d4⟩, ⟨o5, g5, _, d5⟩⟩ := st
    simp only [List.mem_cons, List.mem_nil_iff, or_false] at hc
    rcases hc with rfl | rfl | rfl | rfl | rfl
    · exact ⟨_, h1, fun v q => by cases q⟩
    · exact ⟨_, h2, fun v q => by cases q⟩
    · exact ⟨_, h3, fun v q => by cases q⟩
    · exact ⟨_, g4, fun v q => by rw [d4] at q; cases q⟩
    · exact ⟨_, g5, fun v q => by rw [d5] at q; cases q⟩
  keep := fun i h h' st k => by
    obtain ⟨h1, h2, ⟨u, v, h3⟩, h4, h5⟩ := st
    exact ⟨k z (by simp) _ h1, k TI (by simp) _ h2, ⟨u, v, k TO (by simp) _ h3⟩, h4.at fun o q => k i1 (by simp) o q, h5.at fun o q => k i2 (by simp) o q⟩
  item := by
    intro X hP hw hK hc i pins s σ H E I hf st hg
    subst hP hw hK
    obtain ⟨hZ, pI, ⟨u, v, pO⟩, t1, t2⟩ := st
    obtain ⟨xs, ys, x, y, ha, hb, hx, hy⟩ := hg
    obtain ⟨its, rv, p1, _⟩ := I.tuple ha
    obtain ⟨jts, rw', p2, _⟩ := I.tuple hb
    obtain ⟨ux, hux, rx⟩ := rv.get hx
    obtain ⟨uy, huy, ry⟩ := rw'.get hy
    have AP := zap_of nd na nb
    have fresh : H s.heap.objs.size = none := I.hok.fresh (Nat.le_refl _)
    have ltz : ∀ c ∈ [z, TI, TO, i1, i2], c ≠ s.heap.objs.size := by
      intro c hc
      obtain ⟨o4, g4, _⟩ := id t1
      obtain ⟨o5, g5, _⟩ := id t2
      simp only [List.mem_cons, List.mem_nil_iff, or_false] at hc
      rcases hc with rfl | rfl | rfl | rfl | rfl
      · exact Nat.ne_of_lt (Heap.lt_size hZ)
      · exact Nat.ne_of_lt (Heap.lt_size pI)
      · exact Nat.ne_of_lt (Heap.lt_size pO)
      · exact Nat.ne_of_lt (Heap.lt_size g4)
      · exact Nat.ne_of_lt (Heap.lt_size g5)
    refine pyNext_zip_itemD AP (Draws.tup (A := X.A.in1) (I.ok.hd hc) i1 a (fun q => na (by simp [q])) its.toArray) (Draws.tup (A := X.A.in1) (I.ok.hd hc) i2 b (fun q => nb (by simp [q])) jts.toArray) hZ pI pO ⟨t1, p1⟩ ⟨t2, p2⟩
      (by have := (List.getElem?_eq_some_iff.mp hux).1; simpa using this) (by have := (List.getElem?_eq_some_iff.mp huy).1; simpa using this) fun h' tk xv yv px py z' pO' s1' s2' pT kk => ⟨_, rfl, ?_⟩
    have ex : ux = xv := Option.some.inj (hux.symm.trans (by simpa using px))
    have ey : uy = yv := Option.some.inj (huy.symm.trans (by simpa using py))
    subst ex ey
    refine wpAny_letOwnedTupleGo_zip (s := { s with heap := h', toks := tk }) z' fun h2 z2 sb => ?_
    have I1 : Inv X pins σ (upd H s.heap.objs.size (.tup [x, y])) { s with heap := s.heap.push { cls := .type "tuple", data := .seq #[ux, uy] }, toks := s.toks } :=
      I.laid (o := .tup [x, y]) (fun b ob q => Heap.get?_push_of_some _ q) (Nat.le_refl _) ⟨by rw [sizeLine_eq]; simp, [ux, uy], .cons rx (.cons ry .nil), IsTupN.new _ _⟩
    have I2 := I1.turnedL (h' := h2) (t' := tk) [z, TI, TO, i1, i2] (fun c o hc' q => ?_) (fun c hc' => (hf c hc').up (ltz c hc'))
    · refine ⟨.ref s.heap.objs.size, _, I2, rfl, ⟨_, x, y, fresh, rfl, rfl, fun ys' hy' => by rw [I.tuple_inj hy' ha]; exact hx, fun ys' hy' => by rw [I.tuple_inj hy' hb]; exact hy⟩,
        ⟨z2, (sb.2 TI AP.a1).trans (kk _ _ AP.a1 AP.a5 AP.a6 AP.a7 pI), ⟨_, _, (sb.2 TO AP.a2).trans pO'⟩, s1'.1.at fun o q => (sb.2 i1 AP.a3).trans q, s2'.1.at fun o q => (sb.2 i2 AP.a4).trans q⟩, fun c hc' => ?_⟩
      rw [upd_ne (ltz c hc')]; exact (hf c hc').1
    · have c1 : c ≠ z := fun q => hc' (by simp [q])
      have c2 : c ≠ TO := fun q => hc' (by simp [q])
      have c3 : c ≠ i1 := fun q => hc' (by simp [q])
      have c4 : c ≠ i2 := fun q => hc' (by simp [q])
      refine (sb.2 c c1).trans ?_
      by_cases hcs : c = s.heap.objs.size
      · subst hcs
        rw [Heap.get?_push_size _ rfl] at q
        cases q
        exact pT
      · rw [Heap.get?_push_ne _ _ _ hcs] at q
        exact kk c o c1 c2 c3 c4 q
  done := by
    intro X hP hw hK hc i pins s σ H E I hf st hg
    subst hP hw hK
    obtain ⟨hZ, pI, ⟨u, v, pO⟩, t1, t2⟩ := st
    obtain ⟨xs, ys, ha, hb, hend⟩ := hg
    obtain ⟨its, rv, p1, _⟩ := I.tuple ha
    obtain ⟨jts, rw', p2, _⟩ := I.tuple hb
    have AP := zap_of nd na nb
    have l1 := rv.length
    have l2 := rw'.length
    refine pyNext_zip_endD AP (Draws.tup (A := X.A.in1) (I.ok.hd hc) i1 a (fun q => na (by simp [q])) its.toArray) (Draws.tup (A := X.A.in1) (I.ok.hd hc) i2 b (fun q => nb (by simp [q])) jts.toArray) hZ pI pO ⟨t1, p1⟩ ⟨t2, p2⟩
      (by simp only [List.size_toArray]; omega) fun h' tk kk => ⟨rfl, I.turnedL (t' := tk) [z, TI, TO, i1, i2] (fun c o hc' q => ?_) hf⟩
    exact kk c o (fun q => hc' (by simp [q])) (fun q => hc' (by simp [q])) (fun q => hc' (by simp [q])) (fun q => hc' (by simp [q])) q
  self := fun A i s Q E st h => wpAny_pyIter_zip st.1 h
def iZip (K : PySem.W.Frag) (ta : TA) : TI := fun σ H R => ta σ H fun vs H1 => ∃ a b xs ys, vs = [.ref a, .ref b] ∧ SqT K H1 a xs ∧ SqT K H1 b ys ∧ R (Itz K a b) H1
theorem pi_zip {X : Cx} {elts : List Expr} {x1} {tpos : Pos} {e1 e2 : Expr} {ta : TA} {p pos : Pos} (hg : Gl X "zip") (hm : X.mg "zip" = none) (ha : PA X [e1, e2] ta) (hs : starEach [e1, e2] X.env = [(false, eval e1 X.env), (false, eval e2 X.env)] := by rfl) (hs2 : starEach [e2] X.env = [(false, eval e2 X.env)] := by rfl) :
    PI X (.Tuple elts x1 tpos) (.Call (.Name "zip" p) [e1, e2] [] pos) (iZip X.K ta) := by
  intro pins s σ H R I h
  refine Call_ (ld_blt I hg hm (show bootBuiltins "zip" = some (.type "zip") by decide +kernel) (PyProof.Rows.callWith_type1 (thn (ha pos pins s σ H _ I h) fun us s1 ⟨vs, H1, I1, r1, q1⟩ => ?_) (by rw [hs, hs2]) (by rw [hs2]; rfl)))
  obtain ⟨a, b, xs, ys, e, hqa, hqb, q⟩ := q1
  subst e
  cases r1 with
  | cons r rr =>
    cases rr with
    | cons r' rr =>
      cases rr
      cases r
      cases r'
      obtain ⟨its, rv, p1, _⟩ := I1.tuple hqa
      obtain ⟨jts, rw', p2, _⟩ := I1.tuple hqb
      refine call_zip_tt p1 p2 fun h' hZ pI pO t1 t2 kk => wpAny_pyIter_zip hZ ?_
      obtain ⟨oa, ga, _⟩ := id p1
      obtain ⟨ob, gb, _⟩ := id p2
      have la := Heap.lt_size ga
      have lb := Heap.lt_size gb
      have big : ∀ c ∈ [s1.heap.objs.size + 4, s1.heap.objs.size + 2, s1.heap.objs.size + 3, s1.heap.objs.size, s1.heap.objs.size + 1], s1.heap.objs.size ≤ c := by
        intro c hc
        simp only [List.mem_cons, List.mem_nil_iff, or_false] at hc
        rcases hc with rfl | rfl | rfl | rfl | rfl <;> first | exact Nat.le_add_right _ _ | exact Nat.le_refl _
      refine ⟨s1.heap.objs.size + 4, [s1.heap.objs.size + 4, s1.heap.objs.size + 2, s1.heap.objs.size + 3, s1.heap.objs.size, s1.heap.objs.size + 1], _, _, H1, rfl, I1.kept (t' := s1.toks) kk,
        turn_zip a b _ _ _ _ _ ?_ (fun q => Nat.lt_irrefl _ (Nat.lt_of_lt_of_le la (big _ q))) (fun q => Nat.lt_irrefl _ (Nat.lt_of_lt_of_le lb (big _ q))), ⟨hZ, pI, ⟨_, _, pO⟩, t1, t2⟩, fun c hc => I1.fpOk (big c hc) (I1.hok.fresh (big c hc)), q⟩
      generalize s1.heap.objs.size = n
      show List.Nodup ([n + 4, n + 2, n + 3, n, n + 1] : List Nat)
      simp
section
variable {g : TG} {ti : TT} {te : TE} {Q : VK} {D : Addr} {σ : St} {H : Hp}
theorem comp_zip {K : PySem.W.Frag} {a b : Addr} {xs ys : List V} (Pv : Nat → St → List V → Hp → Prop) (h0 : Pv 0 σ [] (upd H D (.lst []))) (hl : ∀ i σ zs H, i ≤ xs.length → i ≤ ys.length → Pv i σ zs H → SqT K H a xs ∧ SqT K H b ys ∧ H D = some (.lst zs))
    (hs : ∀ i x y σ zs H T, xs[i]? = some x → ys[i]? = some y → Pv i σ zs H → H T = none → cturn g ti te D (.ref T) σ zs (upd H T (.tup [x, y])) (Pv (i + 1))) (hd : ∀ i σ zs H, i = min xs.length ys.length → Pv i σ zs H → Q (.ref D) H) :
    cgo (Itz K a b) g ti te D σ H Q := by
  refine ⟨fun i m σ zs H => m = xs.length - i ∧ i ≤ xs.length ∧ i ≤ ys.length ∧ Pv i σ zs H, ⟨xs.length, by simp, Nat.zero_le _, Nat.zero_le _, h0⟩, ?_⟩
  rintro i m σ zs H ⟨rfl, hi, hj, p⟩
  obtain ⟨q1, q2, hD⟩ := hl i σ zs H hi hj p
  refine ⟨hD, ?_⟩
  by_cases hlt : i < xs.length ∧ i < ys.length
  · refine .inr ⟨⟨xs, ys, xs[i], ys[i], q1, q2, by simp [hlt.1], by simp [hlt.2]⟩, Pv (i + 1), fun σ' ys' H' p' => ⟨xs.length - (i + 1), by omega, rfl, hlt.1, hlt.2, p'⟩, fun x H' y => ?_⟩
    obtain ⟨T, x, y, hT, rfl, rfl, y1, y2⟩ := y
    exact hs i x y σ zs H T (y1 xs q1) (y2 ys q2) p hT
  · exact .inl ⟨⟨xs, ys, q1, q2, by omega⟩, hd i σ zs H (by omega) p⟩
end
end L2
set_option maxHeartbeats 4000000
namespace HT
open PySem PyProof.Rows
end HT
namespace L2
open PySem PySem.Spec PyProof.Rows
theorem same_new {H : Hp} {p : Addr} {o : HO} (h : H p = none) : Same H (upd H p o) := fun b u e => by rw [upd_ne (ne_of_none e h)]; exact e
theorem same_refl (H : Hp) : Same H H := fun _ _ e => e
theorem small {n : Nat} (h : n ≤ 10000) : n ≤ sizeLine := by rw [sizeLine_eq]; exact Nat.le_trans (by assumption) (by decide)
theorem sqL_same {K : PySem.W.Frag} {H H' : Hp} {a : Addr} {xs : List V} (h : SqL K H a xs) (s : Same H H') : SqL K H' a xs := by
  rcases h with (e | ⟨o, e⟩) | e
  · exact .inl (.inl (s _ _ e))
  · exact .inl (.inr ⟨o, s _ _ e⟩)
  · exact .inr e
theorem none_of {H H' : Hp} {a : Addr} (s : Same H H') (h : H' a = none) : H a = none := by
  cases e : H a with
  | none => rfl
  | some o => rw [s _ _ e] at h; cases h
theorem pg_tupK {X : Cx} {es : List Expr} {k : Nat} {t : TGs} {pos : Pos} (K : PySem.W.Frag) (n : Nat) (hK : X.K = K) (hc : X.calm = true) (h : PGs X es t) (hn : (assignEach es X.env).length = n := by rfl) (hst : (assignEach es X.env).findIdx? (·.1) = none := by rfl) : PG X (.Tuple es k pos) (gTup K n t) := by
  subst hK
  exact pg_tup hc h hn hst
end L2
set_option maxHeartbeats 4000000
namespace PySem
open Builtin
section
variable {prog : Program} {w : World} {A : Around} {E : Value → Shared → Prop} {s : Shared}
theorem collect_rng {Q : List Value → Shared → Prop} {r : Addr} {a b c : Int} {t u v : Tok} {n : Nat} (hh : A.handled = none) (hr : IsRange s.heap r a b c t u v) (hsmall : Builtin.Range.small a b c = true) (hn : Builtin.Range.rangeSize a b c = n) (hlen : n ≤ 2 ^ 24)
    (hQ : ∀ (h' : Heap) (tk : Nat) (acc : Array Value), (∀ b o, s.heap.get? b = some o → h'.get? b = some o) → ItemsOf (fun i v => ∃ t, v = .int (a + i * c) t) acc n → Q acc.toList { s with heap := h', toks := tk }) : wpAny (model prog w) A (collect (.ref r)) Q E s := by
  unfold collect
  refine wpAny_bind (wpAny_runValue (codeAny_builtin F.entry_proto_collect ?_))
  rw [Around.under_plainId F.plain_proto_collect _]
  show wpAny _ A.in1 (newList [] >>= fun l => again (.builtin "list.__iadd__" ⟨[l, .ref r], []⟩)) _ _ s
  refine wpAny_bind (wpAny_newObj_type (wpAny_pure ⟨plainId_quiet F.plain_list_iadd _, codeAny_builtin F.entry_list_iadd ?_⟩))
  rw [Around.under_plainId F.plain_list_iadd _]
  show wpAny _ A.in1 (Builtin.List.listExtendWith (.ref s.heap.objs.size) (.ref r) (.ref s.heap.objs.size)) _ _ _
  have oS : (s.heap.push { cls := .type "list", data := .seq ([] : List Value).toArray }).get? s.heap.objs.size = some { cls := .type "list", data := .seq ([] : List Value).toArray } := Heap.get?_push_size _ rfl
  have key := wpAny_extend_range (prog := prog) (w := w) (A := A) (s := { s with heap := s.heap.push { cls := .type "list", data := .seq ([] : List Value).toArray } })
    (R := fun r' s' => ∃ (h' : Heap) (tk : Nat) (acc : Array Value) (c' : Nat), r' = .ok (.ret (.ref s.heap.objs.size)) ∧ s' = { s with heap := h', toks := tk } ∧ (∀ b o, s.heap.get? b = some o → h'.get? b = some o) ∧ h'.get? s.heap.objs.size = some { cls := .type "list", dict := none, data := .seq acc c', slots := #[] } ∧ ItemsOf (fun i v => ∃ t, v = .int (a + i * c) t) acc n)
    hh (Heap.get?_push_of_some _ hr) hsmall hn hlen s.heap.objs.size (.ref s.heap.objs.size) _ oS fun h' tk acc' c' hk hS' hacc => ⟨h', tk, acc', c', rfl, rfl, fun b o e => hk b o (Nat.ne_of_lt (Heap.lt_size e)) (Heap.get?_push_of_some _ e), hS', hacc⟩
  have out : ∀ (r' : Result) (s' : Shared), (∃ (h' : Heap) (tk : Nat) (acc : Array Value) (c' : Nat), r' = .ok (.ret (.ref s.heap.objs.size)) ∧ s' = { s with heap := h', toks := tk } ∧ (∀ b o, s.heap.get? b = some o → h'.get? b = some o) ∧ h'.get? s.heap.objs.size = some { cls := .type "list", dict := none, data := .seq acc c', slots := #[] } ∧ ItemsOf (fun i v => ∃ t, v = .int (a + i * c) t) acc n) →
      ∃ (acc : Array Value) (c' : Nat), r' = .ok (.ret (.ref s.heap.objs.size)) ∧ s'.heap.get? s.heap.objs.size = some { cls := .type "list", dict := none, data := .seq acc c', slots := #[] } ∧ Q acc.toList s' := by
    rintro r' s' ⟨h', tk, acc, c', e1, rfl, e3, e4, e5⟩
    exact ⟨acc, c', e1, e4, hQ h' tk acc e3 e5⟩
  refine wpAny_mono key (fun fin s' hf => ?_) fun e s' he => ?_
  · cases fin with
    | done f =>
      obtain ⟨acc, c', e1, e2, e3⟩ := out _ _ hf
      cases e1
      show wpAny _ A (load s.heap.objs.size >>= fun _ => _) _ _ _
      exact wpAny_bind (wpAny_load e2 (wpAny_pure e3))
    | again c' =>
      refine ⟨hf.1, codeAny_mono hf.2 fun r' s' h' => ?_⟩
      obtain ⟨acc, c', e1, e2, e3⟩ := out _ _ h'
      subst e1
      show wpAny _ A (load s.heap.objs.size >>= fun _ => _) _ _ _
      exact wpAny_bind (wpAny_load e2 (wpAny_pure e3))
  · obtain ⟨_, _, e1, _⟩ := out _ _ he
    cases e1
end
theorem meets_tuple_rng (r : Addr) (a b c : Int) (t u v : Tok) (n : Nat) (hsmall : Builtin.Range.small a b c = true) (hn : Builtin.Range.rangeSize a b c = n) (hlen : n ≤ 2 ^ 24) (hz : n ≤ sizeLine) :
    Meets (Builtin.«tuple.__new__» ⟨[.type "tuple", .ref r], []⟩)
      (fun A R s => A.handled = none ∧ IsRange s.heap r a b c t u v ∧ ∀ (h' : Heap) (tk : Nat) (acc : Array Value), (∀ b o, s.heap.get? b = some o → h'.get? b = some o) → ItemsOf (fun i v => ∃ t, v = .int (a + i * c) t) acc n →
        R (.ok (.ret (.ref h'.objs.size))) { s with heap := h'.push { cls := .type "tuple", data := .seq acc }, toks := tk }) :=
  .of_wp fun prog w A R s h => by
    obtain ⟨hh, hr, h⟩ := h
    have hsub := sub_tuple_self
    have hinit := init_tuple_lookup
    have hmh := madeHere_tuple
    have tr : s.TypeIs (.ref r) "range" := ⟨_, hr, rfl⟩
    have hh1 : A.in1.handled = none := hh
    wp_walk using wpAny_typeOf tr, collect_rng hh1 hr hsmall hn hlen
    intro h' tk acc hk hacc
    show wpAny _ _ (Builtin.Tuple.tupleExact acc.toList.toArray >>= fun v => ret v) _ _ _
    unfold Builtin.Tuple.tupleExact
    refine wpAny_bind (wpAny_newObj_type ?_ (show acc.toList.toArray.size ≤ sizeLine by simp only [Array.toArray_toList]; rw [hacc.1]; exact hz))
    refine wpAny_pure ⟨_, rfl, ?_⟩
    have e : acc.toList.toArray = acc := by simp
    rw [e]
    exact h h' tk acc hk hacc
section
variable {prog : Program} {w : World} {A : Around} {E : Value → Shared → Prop} {s : Shared}
theorem call_tuple_rng' {Q : Value → Shared → Prop} {r : Addr} {a b c : Int} {t u v : Tok} {n : Nat} (hh : A.handled = none) (hr : IsRange s.heap r a b c t u v) (hsmall : Builtin.Range.small a b c = true) (hn : Builtin.Range.rangeSize a b c = n) (hlen : n ≤ 2 ^ 24) (hz : n ≤ sizeLine)
    (h : ∀ (h' : Heap) (tk : Nat) (acc : Array Value), (∀ b o, s.heap.get? b = some o → h'.get? b = some o) → ItemsOf (fun i v => ∃ t, v = .int (a + i * c) t) acc n → Q (.ref h'.objs.size) { s with heap := h'.push { cls := .type "tuple", data := .seq acc }, toks := tk }) :
    wpAny (model prog w) A (call (.type "tuple") [.ref r]) Q E s :=
  callType_new F.called_tuple (by decide) (F.typeCall_tuple_1 _) (F.newCall_tuple_1 _) (fun obj => F.args_object_init_2 obj _) F.entry_tuple_new (meets_tuple_rng r a b c t u v n hsmall hn hlen hz) ⟨hh, hr, fun h' tk acc hk hacc => ⟨⟨_, Heap.get?_push_size _ rfl, rfl⟩, h h' tk acc hk hacc⟩⟩
end
end PySem
namespace PySem
open Builtin
end PySem
namespace L2
open PySem PySem.Spec PyProof.Rows
section
variable {X : Cx}
theorem countP_vals {i : Int} : ∀ {ns : List Int} {us : List Value}, Vals (ns.map V.int) us → us.countP (fun v => match v with | .int j _ => j == i | _ => false) = ns.count i
  | [], _, .nil => rfl
  | n :: ns, _, .cons h t => by
    obtain ⟨u, rfl⟩ := h
    rw [List.countP_cons, List.count_cons, countP_vals t]
inductive RCountTP (K : PySem.W.Frag) (x : V) (vs : List V) (H : Hp) (Q : VK) : Prop
  | mk (a : Addr) (ns : List Int) (i : Int) : (x = .ref a) → (vs = [.int i]) → (SqT K H a (ns.map V.int)) → (Q (.int (ns.count i : Nat)) H) → RCountTP K x vs H Q
def rCountT (K : PySem.W.Frag) : V → List V → Hp → VK → Prop := fun x vs H Q => RCountTP K x vs H Q
theorem mt_countT : MtM X "tuple.count" (rCountT X.K) := by
  intro pins s σ H x xs v us Q I rx r h
  obtain ⟨a, ns, i, rfl, rfl, ha, q⟩ := h
  cases rx
  obtain ⟨u, rfl, ⟨t, rfl⟩⟩ := vals1 r
  obtain ⟨its, rv, p, hz⟩ := I.tuple ha
  obtain ⟨⟨cls, dd, data, sl⟩, ho, hc, n, hd⟩ := id p
  simp only at hc hd
  subst hc hd
  refine call_meets PySem.F.slot_tuple_count ⟨_, ho, rfl⟩ PySem.F.entry_tuple_count (PySem.F.args_tuple_count_2 _ _) (SeqAt.tuple_countAt a its.toArray n dd sl (.int i t) (fun v => match v with | .int j _ => j == i | _ => false)) ⟨ho, ?_, ?_⟩
  · intro y hy
    have hy : y ∈ its := by simpa using hy
    have : ∀ {ns : List Int} {us : List Value}, Vals (ns.map V.int) us → ∀ y ∈ us, ∃ j t', y = .int j t' := by
      intro ns us hv
      induction ns generalizing us with
      | nil => cases hv; intro y hy; cases hy
      | cons n ns ih =>
        cases hv with
        | cons h tl =>
          intro y hy
          rcases List.mem_cons.mp hy with rfl | hy
          · obtain ⟨u, rfl⟩ := h; exact ⟨n, u, rfl⟩
          · exact ih tl y hy
    obtain ⟨j, t', rfl⟩ := this rv y hy
    exact SeqAt.EqAt.int_int j t' i t
  · refine ⟨.int _, H, I.tok _, ⟨_, rfl⟩, ?_⟩
    have := countP_vals (i := i) rv
    simp only [List.toList_toArray]
    rw [this]
    exact q
theorem call_range1 : CallR X (.type "range") (fun xs H Q => ∃ j : Int, xs = [.int j] ∧ ∀ l, H l = none → Q (.ref l) (upd H l (.rng 0 j))) := by
  intro pins s σ H xs us Q I r h
  obtain ⟨j, rfl, q⟩ := h
  obtain ⟨u, rfl, ⟨t, rfl⟩⟩ := vals1 r
  exact call_range_1 ⟨.ref s.heap.objs.size, _, I.laid (o := .rng 0 j) (fun _ _ q => Heap.get?_push_of_some _ q) (Nat.le_refl _) ⟨_, _, _, Heap.get?_push_size _ rfl⟩, rfl, q _ I.fresh⟩
theorem vals_rng : ∀ (l : List Value) (k : Nat) (i : Int), (∀ (n : Nat) (x : Value), l[n]? = some x → ∃ t, x = .int (i + n) t) → l.length = k → Vals ((rints i k).map V.int) l := by
  intro l
  induction l with
  | nil => intro k i _ e; cases e; exact .nil
  | cons x l ih =>
    intro k i h e
    cases k with
    | zero => cases e
    | succ k =>
      have h0 := h 0 x rfl
      have e1 : rints i (k + 1) = i :: rints (i + 1) k := by
        simp only [rints, List.range_succ_eq_map, List.map_cons, List.map_map]
        refine congr (congrArg List.cons (by simp)) (List.map_congr_left fun a _ => ?_)
        simp only [Function.comp]; omega
      rw [e1]
      refine .cons (by obtain ⟨t, q⟩ := h0; exact ⟨t, by simpa using q⟩) (ih k (i + 1) (fun n y hy => ?_) (by simpa using e))
      obtain ⟨t, q⟩ := h (n + 1) y (by simpa using hy)
      exact ⟨t, by rw [q]; congr 1; omega⟩
theorem call_tuple_rng (hc : X.calm = true) : CallR X (.type "tuple") (fun xs H Q => ∃ (p : Addr) (j : Int), xs = [.ref p] ∧ H p = some (.rng 0 j) ∧ 0 ≤ j ∧ j ≤ 1000 ∧ ∀ l H', Same H H' → H' l = some (.tup ((rints 0 j.toNat).map V.int)) → Q (.ref l) H') := by
  intro pins s σ H xs us Q I r h
  obtain ⟨p, j, rfl, hp, b1, b2, q⟩ := h
  obtain ⟨u, rfl, rx⟩ := vals1 r
  cases rx
  obtain ⟨t, u, v, ho⟩ := (show ObjOk X.prog X.w H s.heap p (.rng 0 j) from I.hok p _ hp)
  refine call_tuple_rng' (n := j.toNat) (I.ok.hd hc) (show IsRange s.heap p 0 j 1 t u v from ho) (small_one (by decide) (by decide) (by omega) (by omega)) (by rw [rangeSize_one]; split <;> omega) (by omega) (by rw [sizeLine_eq]; omega) fun h' tk acc hk hacc => ?_
  have I1 : Inv X pins σ H { s with heap := h', toks := tk } := I.kept hk
  have fr : H h'.objs.size = none := I1.hok.fresh (Nat.le_refl _)
  refine ⟨.ref h'.objs.size, _, I1.laid (o := .tup ((rints 0 j.toNat).map V.int)) (t' := tk) (fun b ob q => Heap.get?_push_of_some _ q) (Nat.le_refl _) ⟨by simp [rints, sizeLine_eq]; omega, acc.toList, ?_, ?_⟩, rfl, q _ _ (same_new fr) upd_same⟩
  · refine vals_rng acc.toList _ 0 (fun n x hx => ?_) (by simpa using hacc.1)
    obtain ⟨t, q⟩ := hacc.2 n x (by simpa using hx)
    exact ⟨t, by rw [q, Int.mul_one]⟩
  · exact ⟨_, Heap.get?_push_size _ rfl, rfl, rfl, 0, by simp⟩
end
end L2
set_option maxHeartbeats 4000000
namespace PySem
open Builtin
theorem noFill_tup_mul : fillsNumberSlot (.type "tuple") "mul" = pure false := fillsNumberSlot_seq (id := "tuple.__mul__") (r := some (.builtin "tuple.__rmul__")) F.slot_tuple_mul.lookup (by decide +kernel) F.slot_tuple_rmul.lookup (by decide +kernel)
theorem repeat_tup : seqRepeat? (.type "tuple") = pure (some (.builtin "tuple.__mul__")) := by
  unfold seqRepeat?
  rw [seqSlot_of (T := "tuple") (name := "__mul__") (id := "tuple.__mul__") F.slot_tuple_mul.lookup (by decide +kernel), seqSlot_of (T := "tuple") (name := "__rmul__") (id := "tuple.__rmul__") F.slot_tuple_rmul.lookup (by decide +kernel)]
  rfl
theorem int_rmul_tup (a : Int) (t : Tok) (l : Addr) (items : Array Value) (n : Nat) (dd : Option Addr) (sl : Array (Option Value)) :
    Meets (Builtin.«int.__rmul__» ⟨[.int a t, .ref l], []⟩) (fun _ R s => s.heap.get? l = some { cls := .type "tuple", dict := dd, data := .seq items n, slots := sl } ∧ R (.ok (.ret Value.notImplemented)) s) :=
  .of_wp fun prog w A R s h => by
    obtain ⟨hp, g, d, tk, os⟩ := s
    obtain ⟨hl, h⟩ := h
    wp_walk
    exact ⟨_, rfl, h⟩
theorem tup_mul (l : Addr) (items : Array Value) (n : Nat) (dd : Option Addr) (sl : Array (Option Value)) (k : Int) (t : Tok) (hk : 1 ≤ k) (hk2 : k ≤ 1000) (h1 : items.size = 1) :
    Meets (Builtin.«tuple.__mul__» ⟨[.ref l, .int k t], []⟩) (fun _ R s => s.heap.get? l = some { cls := .type "tuple", dict := dd, data := .seq items n, slots := sl } ∧ (k = 1 → R (.ok (.ret (.ref l))) s) ∧
      (k ≠ 1 → R (.ok (.ret (.ref s.heap.objs.size))) { s with heap := s.heap.push { cls := .type "tuple", data := .seq ((List.replicate k.toNat items).foldl (· ++ ·) #[]) } })) :=
  .of_wp fun prog w A R s h => by
    obtain ⟨hp, g, d, tk, os⟩ := s
    obtain ⟨hl, q1, q2⟩ := h
    have f1 := AutoSeq1.idx_int
    have b1 : (decide (k < -(2 ^ 63)) || decide (k ≥ 2 ^ 63)) = false := by rw [decide_eq_false (by omega), decide_eq_false (by omega)]; rfl
    have b2 : items.isEmpty = false := by rw [Array.isEmpty]; simp [h1]
    have hT : Shared.TypeIs ⟨hp, g, d, tk, os⟩ (.ref l) "tuple" := ⟨_, hl, rfl⟩
    by_cases hk1 : k = 1
    · subst hk1
      have z := q1 rfl
      wp_walk using AutoSeq1.wpAny_loadPart' hl, wpAny_typeOf hT
      exact ⟨_, rfl, z⟩
    · have z := q2 hk1
      have c1 : (items.isEmpty || k == 1) = false := by rw [b2]; simpa using hk1
      have c2 : (decide (k ≤ 0) || items.isEmpty) = false := by rw [b2, decide_eq_false (by omega)]; rfl
      have c3 : ¬ ((items.size : Int) * k > (2 ^ 63 - 1) / 8) := by rw [h1]; omega
      have c4 : Builtin.Tuple.tupleTooMany ((items.size : Int) * k) = false := by unfold Builtin.Tuple.tupleTooMany; rw [h1, sizeLine_eq]; exact decide_eq_false (by omega)
      wp_walk using AutoSeq1.wpAny_loadPart' hl, wpAny_typeOf hT
      rw [if_neg (by rw [b1]; decide)]
      wp_walk using AutoSeq1.wpAny_loadPart' hl, wpAny_typeOf hT
      rw [if_neg (by rw [c2]; decide)]
      wp_walk using AutoSeq1.wpAny_loadPart' hl, wpAny_typeOf hT
      rw [if_neg c3]
      wp_walk using AutoSeq1.wpAny_loadPart' hl, wpAny_typeOf hT
      rw [if_neg (by rw [c4]; decide)]
      have len : ((List.replicate k.toNat items).foldl (· ++ ·) #[]).size ≤ sizeLine := by
        have key : ∀ (m : Nat) (acc : Array Value), ((List.replicate m items).foldl (· ++ ·) acc).size = acc.size + m := by
          intro m
          induction m with
          | zero => intro acc; rfl
          | succ m ih => intro acc; rw [List.replicate_succ, List.foldl_cons, ih, Array.size_append, h1]; omega
        rw [key, sizeLine_eq]
        simp
        omega
      refine wpAny_bind (m := Builtin.Tuple.tupleExact _) ?_
      unfold Builtin.Tuple.tupleExact
      exact wpAny_newObj_type (wpAny_pure ⟨_, rfl, z⟩) len
end PySem
namespace L2
open PySem PySem.Spec PyProof.Rows
section
variable {X : Cx}
theorem foldl_one (u : Value) : ∀ (m : Nat) (acc : Array Value), (List.replicate m (#[u] : Array Value)).foldl (· ++ ·) acc = (acc.toList ++ List.replicate m u).toArray := by
  intro m
  induction m with
  | zero => intro acc; simp
  | succ m ih => intro acc; rw [List.replicate_succ, List.foldl_cons, ih, List.replicate_succ]; simp
theorem vals_rep {x : V} {u : Value} (r : RelV x u) : ∀ m : Nat, Vals (List.replicate m x) (List.replicate m u)
  | 0 => .nil
  | m + 1 => by rw [List.replicate_succ, List.replicate_succ]; exact .cons r (vals_rep r m)
theorem op_repT1 : OpR X (binaryOp .Mult) (fun x y H Q => ∃ (a : Addr) (z : V) (k : Int), x = .ref a ∧ y = .int k ∧ SqT X.K H a [z] ∧ 1 ≤ k ∧ k ≤ 1000 ∧ (k = 1 → Q (.ref a) H) ∧ (k ≠ 1 → ∀ p, H p = none → Q (.ref p) (upd H p (.tup (List.replicate k.toNat z))))) := by
  intro pins s σ H x y v u Q I rx ry h
  obtain ⟨a, z, k, rfl, rfl, ha, k1, k2, q1, q2⟩ := h
  cases rx
  obtain ⟨t, rfl⟩ := ry
  obtain ⟨its, rv, p, hz⟩ := I.tuple ha
  obtain ⟨u0, rfl, ru⟩ := vals1 rv
  obtain ⟨⟨cls, dd, data, sl⟩, ho, hc, n, hd⟩ := id p
  simp only at hc hd
  subst hc hd
  refine wpAny_binaryOp_repeat_ref (T := "tuple") (U := "int") (by decide) ⟨_, ho, rfl⟩ (fun s' => typeIs_int s' k t) noFill_tup_mul PySem.F.fills_int_mul PySem.F.slot_int_rmul repeat_tup PySem.F.slot_int_index.lookup
    (call_meets PySem.F.slot_int_rmul (typeIs_int s k t) PySem.F.entry_int_rmul (PySem.F.args_int_rmul_2 _ _) (int_rmul_tup k t a _ n dd sl)
      ⟨ho, rfl, ⟨_, ho, rfl⟩, call_meets PySem.F.slot_tuple_mul ⟨_, ho, rfl⟩ PySem.F.entry_tuple_mul (PySem.F.args_tuple_mul_2 _ _) (tup_mul a _ n dd sl k t k1 k2 (by simp)) ⟨ho, fun e => ?_, fun e => ?_⟩⟩)
  · exact ⟨.ref a, H, I, rfl, q1 e⟩
  · refine ⟨.ref s.heap.objs.size, _, I.laid (o := .tup (List.replicate k.toNat z)) (fun b ob q => Heap.get?_push_of_some _ q) (Nat.le_refl _) ⟨by simp [sizeLine_eq]; omega, List.replicate k.toNat u0, vals_rep ru _, ?_⟩, rfl, q2 e _ I.fresh⟩
    have e := foldl_one u0 k.toNat #[]
    rw [show ([u0].toArray : Array Value) = #[u0] from rfl, e]
    simp only [List.nil_append]
    exact IsTupN.new _ _
end
section
variable {X : Cx}
theorem op_repT2 : OpR X (binaryOp .Mult) (fun x y H Q => ∃ (a : Addr) (z : V) (k : Int), x = .ref a ∧ y = .int k ∧ H a = some (.tup [z]) ∧ 1 ≤ k ∧ k ≤ 1000 ∧ ∀ p H', Same H H' → H' p = some (.tup (List.replicate k.toNat z)) → Q (.ref p) H') := by
  intro pins s σ H x y v u Q I rx ry h
  obtain ⟨a, z, k, hx, hy, ha, k1, k2, q⟩ := h
  exact op_repT1 pins s σ H x y v u Q I rx ry ⟨a, z, k, hx, hy, SqT.of ha, k1, k2, fun e => q a H (same_refl H) (by rw [ha, e]; rfl), fun _ p hp => q p _ (same_new hp) upd_same⟩
end
def IteT (K : PySem.W.Frag) (a : Addr) : It :=
  ⟨fun i H => ∃ xs x, SqT K H a xs ∧ xs[i]? = some x, fun i H v H' => ∃ T x, H T = none ∧ v = .ref T ∧ H' = upd H T (.tup [.int i, x]) ∧ ∀ xs, SqT K H a xs → xs[i]? = some x, fun i H => ∃ xs, SqT K H a xs ∧ i = xs.length⟩
theorem turn_enumT {P : Program} {w : World} {K : PySem.W.Frag} {elts : List Expr} {x1} {pos : Pos} (a e it : Addr) (hei : e ≠ it) (hae : a ≠ e) (hai : a ≠ it) : Turn P w K (.Tuple elts x1 pos) (IteT K a) [e, it] e (fun i h => (∃ old, IsEnum h e it i old) ∧ h.IsTupleIter it a i) where
  mem := by simp
  obj := fun i h st b hb => by
    obtain ⟨⟨old, he⟩, o, ho, hc, hd⟩ := st
    rcases List.mem_cons.mp hb with rfl | hb
    · exact ⟨_, he, fun v z => by cases z⟩
    · have : b = it := by simpa using hb
      subst this
      exact ⟨o, ho, fun v z => by rw [hd] at z; cases z⟩
  keep := fun i h h' st k => ⟨let ⟨old, he⟩ := st.1; ⟨old, k e (by simp) _ he⟩, st.2.at fun o q => k it (by simp) o q⟩
  item := by
    intro X hP hw hK hc i pins s σ H E I hf st hg
    subst hP hw hK
    obtain ⟨⟨old, he⟩, hit⟩ := st
    obtain ⟨xs, x, hq, hx⟩ := hg
    obtain ⟨its, rv, p, hz⟩ := I.tuple hq
    obtain ⟨u, hu, ru⟩ := rv.get hx
    have fresh : H s.heap.objs.size = none := I.hok.fresh (Nat.le_refl _)
    have elt : e < s.heap.objs.size := Heap.lt_size he
    have ilt : it < s.heap.objs.size := by obtain ⟨_, q, _⟩ := hit; exact Heap.lt_size q
    have hil : i < its.toArray.size := by have := (List.getElem?_eq_some_iff.mp hu).1; simpa using this
    refine wpAny_pyNext_enum_itemD (Draws.tup (A := X.A.in1) (I.ok.hd hc) it a hai its.toArray) he ⟨hit, p⟩ hil hei (by simp only [List.mem_cons, List.mem_nil_iff, or_false, not_or]; exact ⟨hei, hae.symm⟩) fun uv h' tk pu eo it' hT hsz kk => ⟨_, rfl, ?_⟩
    have eu : u = uv := Option.some.inj (hu.symm.trans (by simpa using pu))
    subst eu
    refine wpAny_letOwnedTupleGo_enum (s := { s with heap := h', toks := tk + 1 }) eo fun h2 e2 sb => ?_
    have I1 : Inv X pins σ (upd H s.heap.objs.size (.tup [.int i, x])) { s with heap := s.heap.push { cls := .type "tuple", data := .seq #[.int i tk, u] }, toks := s.toks } :=
      I.laid (o := .tup [.int i, x]) (fun b ob q => Heap.get?_push_of_some _ q) (Nat.le_refl _) ⟨by rw [sizeLine_eq]; simp, [.int i tk, u], .cons ⟨_, rfl⟩ (.cons ru .nil), IsTupN.new _ _⟩
    have I2 := I1.turnedL (h' := h2) (t' := tk + 1) [e, it] (fun b o hb q => ?_) (fun b hb => ?_)
    · refine ⟨.ref s.heap.objs.size, _, I2, rfl, ⟨_, x, fresh, rfl, rfl, fun ys hy => by rw [I.tuple_inj hy hq]; exact hx⟩, ⟨⟨_, by simpa using e2⟩, it'.1.at fun o q => (sb.2 it hei.symm).trans q⟩, fun b hb => ?_⟩
      rcases List.mem_cons.mp hb with rfl | hb
      · rw [upd_ne (Nat.ne_of_lt elt)]; exact (hf _ (by simp)).1
      · have : b = it := by simpa using hb
        subst this
        rw [upd_ne (Nat.ne_of_lt ilt)]; exact (hf _ (by simp)).1
    · have b1 : b ≠ e := fun z => hb (by simp [z])
      have b2 : b ≠ it := fun z => hb (by simp [z])
      refine (sb.2 b b1).trans ?_
      by_cases hbs : b = s.heap.objs.size
      · subst hbs
        rw [Heap.get?_push_size _ rfl] at q
        cases q
        exact hT
      · rw [Heap.get?_push_ne _ _ _ hbs] at q
        exact kk b o b1 b2 q
    · rcases List.mem_cons.mp hb with rfl | hb
      · exact (hf _ (by simp)).up (Nat.ne_of_lt elt)
      · have : b = it := by simpa using hb
        subst this
        exact (hf _ (by simp)).up (Nat.ne_of_lt ilt)
  done := by
    intro X hP hw hK hc i pins s σ H E I hf st hg
    subst hP hw hK
    obtain ⟨⟨old, he⟩, hit⟩ := st
    obtain ⟨xs, hq, hx⟩ := hg
    obtain ⟨its, rv, p, hz⟩ := I.tuple hq
    have hl := rv.length
    have hn : i = its.toArray.size := by simp; omega
    subst hn
    exact wpAny_pyNext_enum_endD (Draws.tup (A := X.A.in1) (I.ok.hd hc) it a hai its.toArray) he ⟨hit, p⟩ fun h' eb => ⟨rfl, I.turnedL (t' := s.toks) [e, it] (fun b o hb q => eb b o (fun z => hb (by simp [z])) q) hf⟩
  self := fun A i s Q E st h => let ⟨⟨old, he⟩, _⟩ := st; wpAny_pyIter_enum he h
end L2
namespace PySem
open Builtin
theorem meets_enumerate_newT (a : Addr) (items : Array Value) (n : Nat) (dd : Option Addr) (sl : Array (Option Value)) :
    Meets (Builtin.«enumerate.__new__» ⟨[.type "enumerate", .ref a], []⟩) (fun _ R s => s.heap.get? a = some { cls := .type "tuple", dict := dd, data := .seq items n, slots := sl } ∧
      R (.ok (.ret (.ref (s.heap.push { cls := .type "tuple_iterator", data := .fields #[.ref a, .int 0 0] }).objs.size)))
        { s with heap := (s.heap.push { cls := .type "tuple_iterator", data := .fields #[.ref a, .int 0 0] }).push { cls := .type "enumerate", data := .fields #[.none, .bool false, .ref s.heap.objs.size, rawInt 0, .none, .none] } }) :=
  .of_wp fun prog w A R s h => by
    obtain ⟨hp, g, d, tk, os⟩ := s
    obtain ⟨ha, h⟩ := h
    have hsub := sub_enumerate
    have tA : Heap.IsTuple (Shared.heap ⟨hp, g, d, tk, os⟩) a items := ⟨_, ha, rfl, n, rfl⟩
    wp_walk using AutoSeq1.wpAny_loadPart' ha
    refine wpAny_stack_any fun st => wpAny_pure ?_
    split
    · rename_i c _ _ _ _ _
      cases (c == Value.type "enumerate") <;> (wp_walk using AutoSeq1.wpAny_loadPart' ha, wpAny_pyIter_tuple tA; exact ⟨_, rfl, h⟩)
    · wp_walk using AutoSeq1.wpAny_loadPart' ha, wpAny_pyIter_tuple tA
      exact ⟨_, rfl, h⟩
theorem call_enumerate_tup {prog : Program} {w : World} {A : Around} {E : Value → Shared → Prop} {s : Shared} {a : Addr} {items : Array Value} {Q : Value → Shared → Prop} (tA : s.heap.IsTuple a items)
    (h : ∀ h', IsEnum h' (s.heap.objs.size + 1) s.heap.objs.size 0 .none → h'.IsTupleIter s.heap.objs.size a 0 → (∀ b o, s.heap.get? b = some o → h'.get? b = some o) → Q (.ref (s.heap.objs.size + 1)) { s with heap := h' }) :
    wpAny (model prog w) A (call (.type "enumerate") [.ref a]) Q E s := by
  obtain ⟨⟨c, dd, dt, sl⟩, ha, hc, n, hd⟩ := tA
  replace hc : c = .type "tuple" := hc
  replace hd : dt = .seq items n := hd
  subst hc hd
  refine callType_new F.called_enumerate (by decide) (F.typeCall_enumerate_1 _) (F.newCall_enumerate_1 _) (fun obj => F.args_object_init_2 obj _) F.entry_enumerate_new (meets_enumerate_newT a items n dd sl) ⟨ha, ?_⟩
  have y1 : (s.heap.push { cls := .type "tuple_iterator", data := .fields #[.ref a, .int 0 0] }).objs.size = s.heap.objs.size + 1 := Heap.size_push ..
  have e1 : ((s.heap.push { cls := .type "tuple_iterator", data := .fields #[.ref a, .int 0 0] }).push { cls := .type "enumerate", data := .fields #[.none, .bool false, .ref s.heap.objs.size, rawInt 0, .none, .none] }).get? (s.heap.push { cls := .type "tuple_iterator", data := .fields #[.ref a, .int 0 0] }).objs.size = some _ := Heap.get?_push_size _ rfl
  have e2 : ((s.heap.push { cls := .type "tuple_iterator", data := .fields #[.ref a, .int 0 0] }).push { cls := .type "enumerate", data := .fields #[.none, .bool false, .ref s.heap.objs.size, rawInt 0, .none, .none] }).get? s.heap.objs.size = some _ := Heap.get?_push_of_some _ (Heap.get?_push_size _ rfl)
  show _ ∧ _
  rw [y1] at e1 ⊢
  exact ⟨⟨_, e1, rfl⟩, h _ e1 ⟨_, e2, rfl, rfl⟩ fun b o e => Heap.get?_push_of_some _ (Heap.get?_push_of_some _ e)⟩
end PySem
namespace L2
open PySem PySem.Spec PyProof.Rows
def iEnumT (K : PySem.W.Frag) (ta : TA) : TI := fun σ H R => ta σ H fun vs H1 => ∃ a xs, vs = [.ref a] ∧ SqT K H1 a xs ∧ R (IteT K a) H1
theorem pi_enumT {X : Cx} {elts : List Expr} {x1} {tpos : Pos} {a : Expr} {ta : TA} {p pos : Pos} (hg : Gl X "enumerate") (hm : X.mg "enumerate" = none) (ha : PA X [a] ta) (hs : starEach [a] X.env = [(false, eval a X.env)] := by rfl) :
    PI X (.Tuple elts x1 tpos) (.Call (.Name "enumerate" p) [a] [] pos) (iEnumT X.K ta) := by
  intro pins s σ H R I h
  refine Call_ (ld_blt I hg hm (show bootBuiltins "enumerate" = some (.type "enumerate") by decide +kernel) (PyProof.Rows.callWith_type1 (thn (ha pos pins s σ H _ I h) fun us s1 ⟨vs, H1, I1, r1, q1⟩ => ?_) hs rfl))
  obtain ⟨l, xs, e, hq, q⟩ := q1
  subst e
  obtain ⟨u, rfl, ru⟩ := vals1 r1
  cases ru
  obtain ⟨its, rv, pl, hz⟩ := I1.tuple hq
  refine call_enumerate_tup pl fun h' he hit kk => wpAny_pyIter_enum he ?_
  obtain ⟨ol, gl, _⟩ := id pl
  have ll := Heap.lt_size gl
  refine ⟨s1.heap.objs.size + 1, [s1.heap.objs.size + 1, s1.heap.objs.size], _, _, H1, rfl, I1.kept (t' := s1.toks) kk, turn_enumT l _ _ (Nat.succ_ne_self _) (Nat.ne_of_lt (Nat.lt_succ_of_lt ll)) (Nat.ne_of_lt ll), ⟨⟨_, he⟩, hit⟩, fun b hb => ?_, q⟩
  have hb : s1.heap.objs.size ≤ b := by
    rcases List.mem_cons.mp hb with rfl | hb
    · exact Nat.le_succ _
    · have : b = s1.heap.objs.size := by simpa using hb
      exact Nat.le_of_eq this.symm
  exact I1.fpOk hb (I1.hok.fresh hb)
section
variable {g : TG} {ti : TT} {te : TE} {Q : VK} {D : Addr} {σ : St} {H : Hp}
theorem comp_enumT {K : PySem.W.Frag} {a : Addr} {xs : List V} (Pv : Nat → St → List V → Hp → Prop) (h0 : Pv 0 σ [] (upd H D (.lst []))) (hl : ∀ i σ ys H, i ≤ xs.length → Pv i σ ys H → SqT K H a xs ∧ H D = some (.lst ys))
    (hs : ∀ i x σ ys H T, xs[i]? = some x → Pv i σ ys H → H T = none → cturn g ti te D (.ref T) σ ys (upd H T (.tup [.int (i : Nat), x])) (Pv (i + 1))) (hd : ∀ σ ys H, Pv xs.length σ ys H → Q (.ref D) H) :
    cgo (IteT K a) g ti te D σ H Q := by
  refine ⟨fun i m σ ys H => m = xs.length - i ∧ i ≤ xs.length ∧ Pv i σ ys H, ⟨xs.length, by simp, Nat.zero_le _, h0⟩, ?_⟩
  rintro i m σ ys H ⟨rfl, hi, p⟩
  obtain ⟨q, hD⟩ := hl i σ ys H hi p
  refine ⟨hD, ?_⟩
  by_cases hlt : i < xs.length
  · refine .inr ⟨⟨xs, xs[i], q, by simp [hlt]⟩, Pv (i + 1), fun σ' ys' H' p' => ⟨xs.length - (i + 1), by omega, rfl, hlt, p'⟩, fun x H' y => ?_⟩
    obtain ⟨T, z, hT, rfl, rfl, y⟩ := y
    exact hs i z σ ys H T (y xs q) p hT
  · have e : i = xs.length := by omega
    subst e
    exact .inl ⟨⟨xs, q, rfl⟩, hd σ ys H p⟩
end
end L2
set_option maxHeartbeats 1000000
namespace Srt
open PySem PySem.W PyProof.Rows
section
variable {n : Nat} (h0 : 0 < n)
include h0
end
end Srt
set_option maxHeartbeats 1000000
namespace Srt
open PySem PySem.W PyProof.Rows
end Srt
set_option maxHeartbeats 1000000
namespace Srt
open PySem PySem.W PyProof.Rows L2
end Srt
set_option maxHeartbeats 1000000
namespace Srt
open PySem PySem.W PyProof.Rows L2
end Srt
set_option maxHeartbeats 1000000
namespace L2
open PySem PySem.Spec PyProof.Rows
end L2
set_option maxHeartbeats 400000
namespace L2
open PySem PySem.Spec PyProof.Rows
end L2
set_option maxHeartbeats 1000000
namespace PySem
end PySem
namespace PySem
end PySem
set_option maxHeartbeats 1000000
namespace L2
open PySem PySem.Spec PyProof.Rows
end L2
set_option maxHeartbeats 1000000
namespace HT
open PySem PyProof.Rows
end HT
namespace L2
open PySem PySem.Spec PyProof.Rows
end L2
set_option maxHeartbeats 4000000
namespace HT
open PySem PyProof.Rows L2
section
open PySem.SeqAt
open PySem.AutoSeq1 (wpAny_loadPart')
open PySem.MeetsSeq PySem.MeetsSeq2 PySem.MeetsSeq3
end
end HT
namespace L2
open PySem PySem.Spec PyProof.Rows
end L2
set_option maxHeartbeats 1000000
namespace L2
open PySem PySem.Spec PyProof.Rows
end L2
set_option maxHeartbeats 1000000
namespace L2
open PySem PySem.Spec PyProof.Rows
end L2
set_option maxHeartbeats 1000000
namespace L2
open PySem PySem.Spec PyProof.Rows
end L2
set_option maxHeartbeats 1000000
namespace PySem
open PyProof.Rows
end PySem
namespace L2
open PySem PySem.Spec PyProof.Rows
end L2
set_option maxHeartbeats 1000000
namespace PySem
open PyProof.Rows
namespace F
end F
end PySem
namespace L2
open PySem PySem.Spec PyProof.Rows
end L2
set_option maxHeartbeats 1000000
namespace Wk
open PySem
end Wk
set_option maxHeartbeats 1000000
namespace L2
open PySem
end L2
namespace Wk
open PySem L2
end Wk
set_option maxHeartbeats 1000000
namespace Wk
open PySem L2
theorem nat_of {v : Int} (h0 : 0 ≤ v) : ∃ j : Nat, v = (j : Int) := ⟨v.toNat, by omega⟩
end Wk
set_option maxHeartbeats 1000000
namespace Wk
open PySem L2
theorem mod_ne {N a v : Nat} (ha : a < N) (hv : v < N - 1) : (a + 1 + v) % N ≠ a ∧ (a + 1 + v) % N < N := by
  refine ⟨?_, Nat.mod_lt _ (by omega)⟩
  by_cases h : a + 1 + v < N
  · rw [Nat.mod_eq_of_lt h]; omega
  · rw [Nat.mod_eq_sub_mod (by exact Nat.not_lt.mp (by assumption)), Nat.mod_eq_of_lt (by omega)]; omega
theorem mod_int {a b : Nat} : ((a : Int) % (b : Int)) = ((a % b : Nat) : Int) := by simp
end Wk
namespace L2
open PySem
end L2
set_option maxHeartbeats 1000000
namespace Wk
open PySem L2
end Wk
set_option maxHeartbeats 1000000
namespace L2
open PySem PySem.Spec PyProof.Rows
end L2
namespace Wk
open PySem L2
end Wk
set_option maxHeartbeats 1000000
namespace Wk
open PySem L2
end Wk
set_option maxHeartbeats 1000000
namespace Wk
open PySem L2
end Wk
set_option maxHeartbeats 1000000
namespace L2
open PySem PySem.Spec PyProof.Rows
end L2
namespace Wk
open PySem L2
end Wk
set_option maxHeartbeats 1000000
namespace HT
open PySem PyProof.Rows
end HT
namespace L2
open PySem PySem.Spec PyProof.Rows
end L2
namespace Wk
open PySem L2
end Wk
set_option maxHeartbeats 4000000
namespace L2
open PySem PySem.Spec PyProof.Rows
end L2
set_option maxHeartbeats 1000000
namespace L2
open PySem PySem.Spec PyProof.Rows
def Flt : V → V → Bool
  | .non, .non => true
  | .non, .bl _ => true
  | .non, .int _ => true
  | .non, .str _ => true
  | .bl _, .non => true
  | .bl _, .bl _ => true
  | .bl _, .str _ => true
  | .int _, .non => true
  | .int _, .int _ => true
  | .int _, .str _ => true
  | .str _, .non => true
  | .str _, .bl _ => true
  | .str _, .int _ => true
  | .str _, .str _ => true
  | _, _ => false
def Eqs (K : PySem.W.Frag) (H : Hp) : Nat → V → V → Bool → Prop
  | 0, x, y, b => Flt x y = true ∧ b = decide (x = y)
  | n + 1, x, y, b => (Flt x y = true ∧ b = decide (x = y)) ∨
      (∃ (a c : Addr) (xs ys : List V) (e : Nat → Bool), x = .ref a ∧ y = .ref c ∧ ((SqT K H a xs ∧ SqT K H c ys) ∨ (SqL K H a xs ∧ SqL K H c ys)) ∧ (∀ (j : Nat) p q, xs[j]? = some p → ys[j]? = some q → Eqs K H n p q (e j)) ∧ b = ((List.range (min xs.length ys.length)).all e && xs.length == ys.length)) ∨
      (∃ (a : Addr) (xs : List V), x = .ref a ∧ y = .non ∧ SqT K H a xs ∧ b = false) ∨
      (∃ (a : Addr) (xs : List V), x = .non ∧ y = .ref a ∧ SqT K H a xs ∧ b = false)
theorem Eqs.flat {K : PySem.W.Frag} {H : Hp} {n : Nat} {x y : V} (h : Flt x y = true) : Eqs K H n x y (decide (x = y)) := by
  cases n with
  | zero => exact ⟨h, rfl⟩
  | succ n => exact .inl ⟨h, rfl⟩
theorem Eqs.three {K : PySem.W.Frag} {H : Hp} {n : Nat} {a c : Addr} {x1 x2 x3 y1 y2 y3 : V} {b1 b2 b3 : Bool} (h1 : SqT K H a [x1, x2, x3]) (h2 : SqT K H c [y1, y2, y3]) (e1 : Eqs K H n x1 y1 b1) (e2 : Eqs K H n x2 y2 b2) (e3 : Eqs K H n x3 y3 b3) : Eqs K H (n + 1) (.ref a) (.ref c) (b1 && b2 && b3) := by
  refine .inr (.inl ⟨a, c, _, _, fun j => if j = 0 then b1 else if j = 1 then b2 else b3, rfl, rfl, .inl ⟨h1, h2⟩, fun j p q hp hq => ?_, ?_⟩)
  · match j, hp, hq with
    | 0, hp, hq => cases hp; cases hq; exact e1
    | 1, hp, hq => cases hp; cases hq; exact e2
    | 2, hp, hq => cases hp; cases hq; exact e3
    | j + 3, hp, _ => simp at hp
  · show (b1 && b2 && b3) = ((List.range 3).all (fun j => if j = 0 then b1 else if j = 1 then b2 else b3) && (3 == 3))
    simp [List.range_succ, List.all_append, Bool.and_assoc]
section
variable {X : Cx} {pins : List (Addr × Obj)} {σ : St} {H : Hp} {s : Shared}
theorem eqs_refl (I : Inv X pins σ H s) : ∀ (n : Nat) {x : V} {b : Bool}, Eqs X.K H n x x b → b = true
  | 0, x, b, ⟨_, e⟩ => by rw [e, decide_eq_true rfl]
  | n + 1, x, b, h => by
    rcases h with ⟨_, e⟩ | ⟨a, c, xs, ys, e, e1, e2, hh, hj, eb⟩ | ⟨a, xs, e1, e2, _⟩ | ⟨a, xs, e1, e2, _⟩
    · rw [e, decide_eq_true rfl]
    · rw [e1] at e2
      injection e2 with e2
      subst e2
      have ex : xs = ys := by
        rcases hh with ⟨h1, h2⟩ | ⟨h1, h2⟩
        · exact I.tuple_inj h1 h2
        · exact I.list_inj h1 h2
      subst ex
      rw [eb, Bool.and_eq_true]
      refine ⟨List.all_eq_true.mpr fun j hj' => ?_, by simp⟩
      have hj' := List.mem_range.mp hj'
      have hjx : j < xs.length := by omega
      exact eqs_refl I n (hj j _ _ (List.getElem?_eq_getElem hjx) (List.getElem?_eq_getElem hjx))
    · rw [e1] at e2; cases e2
    · rw [e1] at e2; cases e2
theorem flt_at {x y : V} {v u : Value} (h : Flt x y = true) (rx : RelV x v) (ry : RelV y u) (A : Around) : SeqAt.EqAt A s v u (decide (x = y)) := by
  have sw : ∀ {b c : Bool}, SeqAt.EqAt A s v u b → b = c → SeqAt.EqAt A s v u c := fun h e => e ▸ h
  cases x <;> cases y <;> simp only [Flt, Bool.false_eq_true] at h <;> simp only [RelV] at rx ry
  · subst rx; subst ry; exact SeqAt.EqAt.same _
  · subst rx; subst ry; exact sw (SeqAt.EqAt.none_bool _) (by simp)
  · obtain ⟨t, rfl⟩ := ry; subst rx; exact sw (SeqAt.EqAt.none_int _ _) (by simp)
  · obtain ⟨t, rfl⟩ := ry; subst rx; exact sw (SeqAt.EqAt.none_str _ _) (by simp)
  · subst rx; subst ry; exact sw (SeqAt.EqAt.bool_none _) (by simp)
  · subst rx; subst ry; exact sw (SeqAt.EqAt.bool_bool _ _) (by rw [Bool.eq_iff_iff]; simp)
  · obtain ⟨t, rfl⟩ := ry; subst rx; exact sw (SeqAt.EqAt.bool_str _ _ _) (by simp)
  · obtain ⟨t, rfl⟩ := rx; subst ry; exact sw (SeqAt.EqAt.int_none _ _) (by simp)
  · obtain ⟨t, rfl⟩ := rx; obtain ⟨t', rfl⟩ := ry; exact sw (SeqAt.EqAt.int_int _ _ _ _) (by rw [Bool.eq_iff_iff]; simp)
  · obtain ⟨t, rfl⟩ := rx; obtain ⟨t', rfl⟩ := ry; exact sw (SeqAt.EqAt.int_str _ _ _ _) (by simp)
  · obtain ⟨t, rfl⟩ := rx; subst ry; exact sw (SeqAt.EqAt.str_none _ _) (by simp)
  · obtain ⟨t, rfl⟩ := rx; subst ry; exact sw (SeqAt.EqAt.str_bool _ _ _) (by simp)
  · obtain ⟨t, rfl⟩ := rx; obtain ⟨t', rfl⟩ := ry; exact sw (SeqAt.EqAt.str_int _ _ _ _) (by simp)
  · obtain ⟨t, rfl⟩ := rx; obtain ⟨t', rfl⟩ := ry; exact sw (SeqAt.EqAt.str_str _ _ _ _) (by rw [Bool.eq_iff_iff]; simp)
theorem val_at {xs : List V} {its : List Value} (r : Vals xs its) {j : Nat} (h : j < its.toArray.size) : ∃ x, xs[j]? = some x ∧ RelV x its.toArray[j] := by
  have l := r.length
  have hj : j < xs.length := by simpa [l] using h
  obtain ⟨v, e, rv⟩ := r.get (i := j) (x := xs[j]) (by simp [hj])
  have w1 : its.toArray[j] = v := by
    have := (List.getElem?_eq_some_iff.mp e).2
    simpa using this
  exact ⟨xs[j], by simp [hj], by rw [w1]; exact rv⟩
theorem in1_units (A : Around) : A.in1.units ≤ A.units + 1 := by first | exact Nat.le_refl _ | exact Nat.le_succ _
theorem eqs_at (I : Inv X pins σ H s) : ∀ (n : Nat) {x y : V} {b : Bool} {v u : Value} {A : Around}, A.units + n < cLine → Eqs X.K H n x y b → RelV x v → RelV y u → SeqAt.EqAt A s v u b
  | 0, x, y, b, v, u, A, _, ⟨h, e⟩, rx, ry => by rw [e]; exact flt_at h rx ry A
  | n + 1, x, y, b, v, u, A, hu, h, rx, ry => by
    rcases id h with ⟨h, e⟩ | ⟨a, c, xs, ys, e, rfl, rfl, hh, hj, eb⟩ | ⟨a, xs, rfl, rfl, h1, e⟩ | ⟨a, xs, rfl, rfl, h1, e⟩
    · rw [e]; exact flt_at h rx ry A
    · cases rx
      cases ry
      by_cases hne : a = c
      · subst hne
        rw [eqs_refl I (n + 1) h]
        exact SeqAt.EqAt.same _
      refine SeqAt.EqAt.of_refs hne ?_
      have iu := in1_units A
      rcases hh with ⟨h1, h2⟩ | ⟨h1, h2⟩
      · obtain ⟨its, r1, p1, _⟩ := I.tuple h1
        obtain ⟨its2, r2, p2, _⟩ := I.tuple h2
        have := SeqAt.RcAt.tuples (A := A) (e := e) p1 p2 (by omega) fun j j1 j2 => ?_
        · rw [List.size_toArray, List.size_toArray, ← r1.length, ← r2.length] at this
          rw [eb]; exact this
        · obtain ⟨p, ep, rp⟩ := val_at r1 j1
          obtain ⟨q, eq, rq⟩ := val_at r2 j2
          exact eqs_at I n (by omega) (hj j p q ep eq) rp rq
      · obtain ⟨its, r1, p1, _⟩ := I.list h1
        obtain ⟨its2, r2, p2, _⟩ := I.list h2
        have m1 := r1.length
        have m2 := r2.length
        by_cases hl : xs.length = ys.length
        · have := SeqAt.RcAt.lists (A := A) (e := e) p1.isList p2.isList (by rw [List.size_toArray, List.size_toArray]; omega) (by omega) fun j j1 j2 => ?_
          · rw [List.size_toArray, ← m1] at this
            rw [eb, hl, Nat.min_self, ← hl]
            simpa using this
          · obtain ⟨p, ep, rp⟩ := val_at r1 j1
            obtain ⟨q, eq, rq⟩ := val_at r2 j2
            exact eqs_at I n (by omega) (hj j p q ep eq) rp rq
        · have := SeqAt.RcAt.lists_lengths (A := A) p1.isList p2.isList (by rw [List.size_toArray, List.size_toArray]; simp; omega) (by omega)
          have eb' : b = false := by rw [eb]; simp [hl]
          rw [eb']; exact this
    · cases rx
      cases ry
      obtain ⟨its, r1, p1, _⟩ := I.tuple h1
      rw [e]; exact SeqAt.EqAt.tuple_none p1 (by omega)
    · cases rx
      cases ry
      obtain ⟨its, r1, p1, _⟩ := I.tuple h1
      rw [e]; exact SeqAt.EqAt.none_tuple p1 (by omega)
end
section
variable {X : Cx}
inductive REqsP (K : PySem.W.Frag) (x : V) (y : V) (H : Hp) (Q : VK) : Prop
  | mk (n : Nat) (b : Bool) (a c : Addr) : (x = .ref a) → (y = .ref c) → (n ≤ 30) → (Eqs K H (n + 1) x y b) → (Q (.bl b) H) → REqsP K x y H Q
def rEqs (K : PySem.W.Frag) : V → V → Hp → VK → Prop := fun x y H Q => REqsP K x y H Q
inductive RNesP (K : PySem.W.Frag) (x : V) (y : V) (H : Hp) (Q : VK) : Prop
  | mk (n : Nat) (b : Bool) (a c : Addr) : (x = .ref a) → (y = .ref c) → (n ≤ 30) → (Eqs K H (n + 1) x y b) → (Q (.bl (!b)) H) → RNesP K x y H Q
def rNes (K : PySem.W.Frag) : V → V → Hp → VK → Prop := fun x y H Q => RNesP K x y H Q
theorem op_eqs (hu : X.A.units + 64 < cLine) : OpR X (compareOp .Eq) (rEqs X.K) := by
  intro pins s σ H x y v u Q I rx ry h
  obtain ⟨n, b, a, c, rfl, rfl, hn, h, q⟩ := h
  cases rx
  cases ry
  have iu := in1_units X.A
  rcases h with ⟨h, _⟩ | ⟨a', c', xs, ys, e, e1, e2, hh, hj, eb⟩ | ⟨_, _, _, e2, _⟩ | ⟨_, _, e1, _⟩
  · cases h
  · cases e1
    cases e2
    rcases hh with ⟨h1, h2⟩ | ⟨h1, h2⟩
    · obtain ⟨its, r1, p1, _⟩ := I.tuple h1
      obtain ⟨its2, r2, p2, _⟩ := I.tuple h2
      refine (SeqAt.RcAt.tuples (A := X.A) (e := e) p1 p2 (by omega) fun j j1 j2 => ?_) X.prog X.w X.xe _ ⟨.bl _, H, I, rfl, ?_⟩
      · obtain ⟨p, ep, rp⟩ := val_at r1 j1
        obtain ⟨q, eq, rq⟩ := val_at r2 j2
        exact eqs_at I n (by omega) (hj j p q ep eq) rp rq
      · rw [List.size_toArray, List.size_toArray, ← r1.length, ← r2.length, ← eb]
        exact q
    · obtain ⟨its, r1, p1, _⟩ := I.list h1
      obtain ⟨its2, r2, p2, _⟩ := I.list h2
      have m1 := r1.length
      have m2 := r2.length
      by_cases hl : xs.length = ys.length
      · refine (SeqAt.RcAt.lists (A := X.A) (e := e) p1.isList p2.isList (by rw [List.size_toArray, List.size_toArray]; omega) (by omega) fun j j1 j2 => ?_) X.prog X.w X.xe _ ⟨.bl _, H, I, rfl, ?_⟩
        · obtain ⟨p, ep, rp⟩ := val_at r1 j1
          obtain ⟨q, eq, rq⟩ := val_at r2 j2
          exact eqs_at I n (by omega) (hj j p q ep eq) rp rq
        · have : b = (List.range its.toArray.size).all e := by
            rw [eb, hl, Nat.min_self, ← hl, List.size_toArray, ← m1]
            simp
          rw [← this]; exact q
      · refine (SeqAt.RcAt.lists_lengths (A := X.A) p1.isList p2.isList (by rw [List.size_toArray, List.size_toArray]; simp; omega) (by omega)) X.prog X.w X.xe _ ⟨.bl _, H, I, rfl, ?_⟩
        have eb' : b = false := by rw [eb]; simp [hl]
        rw [← eb']; exact q
  · cases e2
  · cases e1
theorem op_nes (hu : X.A.units + 64 < cLine) : OpR X (compareOp .NotEq) (rNes X.K) := by
  intro pins s σ H x y v u Q I rx ry h
  obtain ⟨n, b, a, c, rfl, rfl, hn, h, q⟩ := h
  cases rx
  cases ry
  have iu := in1_units X.A
  rcases h with ⟨h, _⟩ | ⟨a', c', xs, ys, e, e1, e2, hh, hj, eb⟩ | ⟨_, _, _, e2, _⟩ | ⟨_, _, e1, _⟩
  · cases h
  · cases e1
    cases e2
    rcases hh with ⟨h1, h2⟩ | ⟨h1, h2⟩
    · obtain ⟨its, r1, p1, _⟩ := I.tuple h1
      obtain ⟨its2, r2, p2, _⟩ := I.tuple h2
      refine (SeqAt.RcNeAt.tuples (A := X.A) (e := e) p1 p2 (by omega) fun j j1 j2 => ?_) X.prog X.w X.xe _ ⟨.bl _, H, I, rfl, ?_⟩
      · obtain ⟨p, ep, rp⟩ := val_at r1 j1
        obtain ⟨q, eq, rq⟩ := val_at r2 j2
        exact eqs_at I n (by omega) (hj j p q ep eq) rp rq
      · rw [List.size_toArray, List.size_toArray, ← r1.length, ← r2.length, ← eb]
        exact q
    · obtain ⟨its, r1, p1, _⟩ := I.list h1
      obtain ⟨its2, r2, p2, _⟩ := I.list h2
      have m1 := r1.length
      have m2 := r2.length
      by_cases hl : xs.length = ys.length
      · refine (SeqAt.RcNeAt.lists (A := X.A) (e := e) p1.isList p2.isList (by rw [List.size_toArray, List.size_toArray]; omega) (by omega) fun j j1 j2 => ?_) X.prog X.w X.xe _ ⟨.bl _, H, I, rfl, ?_⟩
        · obtain ⟨p, ep, rp⟩ := val_at r1 j1
          obtain ⟨q, eq, rq⟩ := val_at r2 j2
          exact eqs_at I n (by omega) (hj j p q ep eq) rp rq
        · have : b = (List.range its.toArray.size).all e := by
            rw [eb, hl, Nat.min_self, ← hl, List.size_toArray, ← m1]
            simp
          rw [← this]; exact q
      · refine (SeqAt.RcNeAt.lists_lengths (A := X.A) p1.isList p2.isList (by rw [List.size_toArray, List.size_toArray]; simp; omega) (by omega)) X.prog X.w X.xe _ ⟨.bl _, H, I, rfl, ?_⟩
        have eb' : b = false := by rw [eb]; simp [hl]
        rw [eb'] at q; exact q
  · cases e2
  · cases e1
end
end L2
set_option maxHeartbeats 4000000
namespace L2
open PySem PySem.Spec PyProof.Rows
abbrev vE : List Value := [.type "ValueError", .type "Exception", .type "BaseException", .type "object"]
inductive Tl : List Value → Prop
  | base : Tl vE
  | own {A : Addr} {tl : List Value} : Tl tl → Tl (.ref A :: tl)
theorem Tl.has {tl : List Value} (T : Tl tl) {X : String} {b : Bool} (hb : vE.contains (.type X) = b) : tl.contains (.type X) = b := by
  induction T with
  | base => exact hb
  | own _ ih => rw [List.contains_cons, ih]; rfl
theorem Tl.refuse {tl : List Value} (T : Tl tl) (self : Value) : refuseLoop self "__setattr__" tl = pure () := by
  induction T with
  | base => exact PySem.F.store_ValueError.passes self
  | own _ ih => rw [refuseLoop_ref]; exact ih
structure XAt (K : PySem.W.Frag) (C : Addr) (bm : List Value) : Prop where
  at_ : ∃ nm q N bs sn sub ab col dd k0 k1 k2 k3 k5, K.lookup C = some (excClassObj nm q C N bs bm true sn sub ab col dd k0 k1 k2 k3 k5 "ValueError.__new__")
  tl : Tl bm
structure XCls (K : PySem.W.Frag) (C : Addr) (bm : List Value) : Prop extends XAt K C bm where
  sa : PySem.W.findIn K (.ref C) "__setattr__" = some (some (.builtin "object.__setattr__"))
  kp : PySem.W.keepIn K (.ref C) = true
end L2
namespace PySem
open Sem (wp)
open L2 (Tl XAt)
section
variable {prog : Program} {w : World} {A : Around} {E : Value → Shared → Prop} {h : Heap} {g : Array GenState} {d : Drawn} {t : Nat} {os : OsState} {K : PySem.W.Frag}
variable {nm q : Str} {C N f : Addr} {bs bm : List Value} {hdct : Bool} {sn : List Str} {sub : List Value} {ab : Bool} {col : Option Bool} {dd : Option Addr} {k0 k1 k2 k3 k5 : Option Value}
theorem check_newX (T : Tl bm) {M : Model} {rest : List Value} {Q : Unit → Shared → Prop} (hC : h.get? C = some (excClassObj nm q C N bs bm hdct sn sub ab col dd k0 k1 k2 k3 k5 "ValueError.__new__"))
    (hq : Q () ⟨h, g, d, t, os⟩) : wpAny M A (checkBuiltinCall "ValueError.__new__" ⟨.ref C :: rest, []⟩) Q E ⟨h, g, d, t, os⟩ := by
  have F := PySem.F.excBase_ValueError
  have hcont : (Value.ref C :: bm).contains (.type "ValueError") = true := by rw [List.contains_cons, T.has F.hasB, Bool.or_true]
  have hstar := F.noStar
  simp only [checkBuiltinCall, F.newKind, F.newSplit, F.newRow]
  repeat (first | refine wpAny_loadPart_at hC ?_ | (refine wpAny_isSubtype_exc hC ?_; rw [hcont]) | refine wpAny_staticBase_exc hC ?_ | refine wpAny_madeBy_exc hC ?_ | simp only [bne_self_eq_false, Bool.false_eq_true, if_false] | wp_step)
  exact hq
theorem exc_newX (T : Tl bm) {rest : List Value} {R : Result → Shared → Prop} (hC : h.get? C = some (excClassObj nm q C N bs bm hdct sn sub ab col dd k0 k1 k2 k3 k5 "ValueError.__new__"))
    (hq : R (.ok (.ret (.ref (h.objs.size + 1)))) ⟨(h.push { cls := .type "tuple", data := .seq rest.toArray }).push { cls := .ref C, data := .fields #[.ref h.objs.size, .none, .none, .none, .bool false, .none] }, g, d, t, os⟩) (hrest : rest.length ≤ sizeLine) :
    codeAny (model prog w) A (.builtin "ValueError.__new__" ⟨.ref C :: rest, []⟩) R ⟨h, g, d, t, os⟩ := by
  have F := PySem.F.excBase_ValueError
  have hends := F.ends
  have hcB : (Value.ref C :: bm).contains (.type "ValueError") = true := by rw [List.contains_cons, T.has F.hasB, Bool.or_true]
  have hcA : (Value.ref C :: bm).contains (.type "AttributeError") = false := by rw [List.contains_cons, T.has F.noAttr]; rfl
  have hcN : (Value.ref C :: bm).contains (.type "NameError") = false := by rw [List.contains_cons, T.has F.noName]; rfl
  refine codeAny_builtinAt F.entry ?_
  unfold Builtin.«BaseException.__new__»
  refine wpAt_bind ?_
  show wpAt _ _ _ (stack >>= _) _ _ _
  refine wpAt_bind (wpAt_stack fun p below => wpAt_of_wpAny ?_)
  wp_walk
  refine wpAt_of_wpAny ?_
  rw [F.owner]
  repeat (first | with_reducible refine wpAny_madeHere_exc F.canon hC ?_ | with_reducible refine wpAny_loadPart_at hC ?_ | (with_reducible refine wpAny_isSubtype_exc hC ?_; first | rw [hcB] | rw [hcA] | rw [hcN]) | wp_step)
  show R _ _
  rw [Heap.size_push]
  exact hq
theorem type_callX (X : K.In h) (T : Tl bm) (hC : h.get? C = some (excClassObj nm q C N bs bm hdct sn sub ab col dd k0 k1 k2 k3 k5 "ValueError.__new__")) (hi : PySem.W.findIn K (.ref C) "__init__" = some (some (.ref f))) (hf : PySem.W.isFn K (.ref f) = true) {rest : List Value} {Q : Fin → Shared → Prop} (hrest : rest.length ≤ sizeLine)
    (hq : wpAny (model prog w) A (call (.ref f) (.ref (h.objs.size + 1) :: rest)) (fun r s' => r = .none ∧ Q (.done (.ret (.ref (h.objs.size + 1)))) s') E
      ⟨(h.push { cls := .type "tuple", data := .seq rest.toArray }).push { cls := .ref C, data := .fields #[.ref h.objs.size, .none, .none, .none, .bool false, .none] }, g, d, t, os⟩) :
    wpAny (model prog w) A (Builtin.«type.__call__» ⟨.ref C :: rest, []⟩) Q E ⟨h, g, d, t, os⟩ := by
  have F := PySem.F.excBase_ValueError
  repeat (first | with_reducible refine wpAny_loadPart_at hC ?_ | with_reducible refine wpAny_madeBy_exc hC ?_ | wp_step)
  refine codeAny_call_builtin_code (Code.quiet_builtin _ F.quiet) (check_newX T hC ?_)
  refine exc_newX T hC ?_ hrest
  show wpAny _ _ _ _ _ _
  have k : ∀ b o, h.get? b = some o → ((h.push { cls := .type "tuple", data := .seq rest.toArray }).push { cls := .ref C, data := .fields #[.ref h.objs.size, .none, .none, .none, .bool false, .none] }).get? b = some o := fun b o e => Heap.get?_push_of_some _ (Heap.get?_push_of_some _ e)
  have hC₁ := k _ _ hC
  have hget : ((h.push { cls := .type "tuple", data := .seq rest.toArray }).push { cls := .ref C, data := .fields #[.ref h.objs.size, .none, .none, .none, .bool false, .none] }).get? (h.objs.size + 1) = some { cls := .ref C, data := .fields #[.ref h.objs.size, .none, .none, .none, .bool false, .none] } := by heap_get
  have hcC : (Value.ref C :: bm).contains (.ref C) = true := by simp
  have X₁ : K.In ((h.push { cls := .type "tuple", data := .seq rest.toArray }).push { cls := .ref C, data := .fields #[.ref h.objs.size, .none, .none, .none, .bool false, .none] }) := X.keeps k
  have i1 := PySem.W.looks_findIn (M := model prog w) X₁ hi
  have b1 := PySem.W.bind_fn (M := model prog w) X₁ (.ref (h.objs.size + 1)) (beq_iff_eq.mp hf)
  unfold isInstance
  repeat (first | with_reducible refine wpAny_loadPart_at hget ?_ | (with_reducible refine wpAny_isSubtype_exc hC₁ ?_; rw [hcC]) | wp_step)
  show wpAny _ _ (typeLookup (.ref C) _) _ _ _
  refine i1.here ?_
  refine wpAny_holding (wpAny_bind (b1.here ?_))
  refine wpAny_bind (wpAny_mono hq (fun r s' hr => ?_) fun _ _ x => x)
  obtain ⟨rfl, hQ⟩ := hr
  wp_walk
  exact hQ
theorem exc_call (X : K.In h) (c : XAt K C bm) (hi : PySem.W.findIn K (.ref C) "__init__" = some (some (.ref f))) (hf : PySem.W.isFn K (.ref f) = true) {rest : List Value} {Q : Value → Shared → Prop} (hrest : rest.length ≤ sizeLine)
    (hq : wpAny (model prog w) (A.under (.builtin "type.__call__" ⟨.ref C :: rest, []⟩)) (call (.ref f) (.ref (h.objs.size + 1) :: rest)) (fun r s' => r = .none ∧ Q (.ref (h.objs.size + 1)) s') E
      ⟨(h.push { cls := .type "tuple", data := .seq rest.toArray }).push { cls := .ref C, data := .fields #[.ref h.objs.size, .none, .none, .none, .bool false, .none] }, g, d, t, os⟩) :
    wpAny (model prog w) A (call (.ref C) rest) Q E ⟨h, g, d, t, os⟩ := by
  obtain ⟨nm, q, N, bs, sn, sub, ab, col, dd, k0, k1, k2, k3, k5, lk⟩ := c.at_
  have hC := X _ _ lk
  have f1 := tc_lookup
  have f2 := tc_bind (.ref C)
  have hT : (⟨h, g, d, t, os⟩ : Shared).TypeIs (.ref C) "type" := ⟨_, hC, rfl⟩
  refine wpAny_call (codeAny_of_tree ?_)
  show wpAny _ _ (callAny (.ref C) _) _ _ _
  repeat (any_goals (first | assumption | with_reducible refine wpAny_loadPart_at hC ?_ | wp_step))
  refine ⟨rfl, ?_⟩
  exact codeAny_call_builtin_at (Code.quiet_builtin _ (by decide +kernel)) entry_typeCall (wpAny_check_type_call_sub hC (type_callX (hrest := hrest) X c.tl hC hi hf hq))
end
end PySem
set_option maxHeartbeats 4000000
namespace L2
open PySem PySem.Spec PyProof.Rows
def ExcV (e C : Addr) (od : Option Addr) (vs : Array Value) (h : Heap) : Prop := ∃ oe, h.get? e = some oe ∧ oe.cls = .ref C ∧ oe.dict = od ∧ oe.data = .fields vs
def ExcO (e C : Addr) (od : Option Addr) (h : Heap) : Prop := ∃ oe vs, h.get? e = some oe ∧ oe.cls = .ref C ∧ oe.dict = od ∧ oe.data = .fields vs
def XdO (d : Addr) (fs : List (Str × V)) (h : Heap) : Prop := ∃ mA, h.Ns1 d mA ∧ (∀ f, RelO (fs.lookup f) (mA f)) ∧ PySem.Within mA (fs.map (·.1))
theorem ExcV.ok {P : Program} {w : World} {H : Hp} {h : Heap} {e C : Addr} {od : Option Addr} {vs : Array Value} (x : ExcV e C od vs h) : ObjOk P w H h e (.ext (ExcV e C od vs)) :=
  ⟨x, let ⟨oe, h1, _⟩ := x; ⟨oe, h1⟩, fun _ _ ⟨oe, h1, r⟩ k => ⟨oe, k oe h1, r⟩⟩
theorem ExcO.ok {P : Program} {w : World} {H : Hp} {h : Heap} {e C : Addr} {od : Option Addr} (x : ExcO e C od h) : ObjOk P w H h e (.ext (ExcO e C od)) :=
  ⟨x, let ⟨oe, _, h1, _⟩ := x; ⟨oe, h1⟩, fun _ _ ⟨oe, vs, h1, r⟩ k => ⟨oe, vs, k oe h1, r⟩⟩
theorem XdO.ok {P : Program} {w : World} {H : Hp} {h : Heap} {d : Addr} {fs : List (Str × V)} (x : XdO d fs h) : ObjOk P w H h d (.ext (XdO d fs)) :=
  ⟨x, let ⟨_, ⟨o, _, _, h1, _⟩, _⟩ := x; ⟨o, h1⟩, fun h1 h2 ⟨mA, n, r⟩ k => ⟨mA, n.at fun o q => k o q, r⟩⟩
theorem XAt.cls {K : PySem.W.Frag} {C : Addr} {bm : List Value} (c : XAt K C bm) : ∃ cd : ClassData, PySem.W.clsIn K C = some cd ∧ cd.mro = .ref C :: bm ∧ cd.hasDict = true := by
  obtain ⟨nm, q, N, bs, sn, sub, ab, col, dd, k0, k1, k2, k3, k5, lk⟩ := c.at_
  refine ⟨{ name := nm, bases := bs, mro := .ref C :: bm, ns := N, qualname := q, hasDict := true, slotNames := sn, subclasses := sub, abstract := ab, collection := col, hasDel := false }, ?_, rfl, rfl⟩
  unfold PySem.W.clsIn
  rw [lk]
theorem osa_openX {prog : Program} {w : World} {A : Around} {s : Shared} {K : PySem.W.Frag} {x C : Addr} {bm : List Value} {R : Result → Shared → Prop} {ox : Obj} {od : Option Obj} {name : Str} {tk : Tok} {v : Value} (X : K.In s.heap) (I : PySem.W.InstAt s.heap x ox C od) (c : XAt K C bm) (ht : PySem.W.findIn K (.ref C) name = some none)
    (h : wpAny (model prog w) A.in1 (Builtin.ObjectAttr.storeInOwnDict (.ref x) (.ref C) (.str name tk) name v false)
      (fun fin s' => match fin with | .done f => R (.ok f) s' | .again c' => c'.quiet = true ∧ codeAny (model prog w) A c' R s') (fun e s' => R (.error e) s') s) :
    codeAny (model prog w) A (.call (.builtin "object.__setattr__") ⟨[.ref x, .str name tk, v], []⟩) R s := by
  have SF := PySem.F.store_object
  obtain ⟨cd, hc, hcm, _⟩ := c.cls
  have ho : (Value.ref C :: bm).contains (.type "object") = true := by rw [List.contains_cons, c.tl.has (by decide +kernel : vE.contains (.type "object") = true), Bool.or_true]
  have sub : PySem.W.Looks (model prog w) s.heap (isInstance (.ref x) (.type "object")) true := I.type.andThen (PySem.W.looks_mroIn X (by unfold PySem.W.mroIn; rw [hc, Option.bind_some, hcm]; exact congrArg some ho))
  refine codeAny_call_builtin SF.slot.plain SF.entry (@PySem.W.check_slot (model prog w) _ _ s "object.__setattr__" "object" "__setattr__" (.ref x) [.str name tk, v] [] _ SF.kind SF.split sub (SF.args (.ref x) (.str name tk) v) ?_)
  have hm : PySem.W.Looks (model prog w) s.heap (mroOf (.ref C)) (Value.ref C :: bm) := hcm ▸ ((PySem.W.looks_clsIn X hc).andThen .now)
  have L3 : PySem.W.Looks (model prog w) s.heap (Builtin.ObjectAttr.storeTaker? none) none := .now
  rw [PySem.W.osa_eq, refuse_eq]
  refine wpAny_bind (wpAny_bind (I.type.here (wpAny_bind (hm.here ?_))))
  rw [refuseLoop_ref, c.tl.refuse]
  exact wpAny_pure (wpAny_bind (I.type.here (wpAny_bind ((PySem.W.looks_findIn X ht).here (wpAny_bind (L3.here h))))))
section
variable {X : Cx} {pins : List (Addr × Obj)} {σ : St} {H : Hp} {s : Shared} {e C d : Addr} {bm : List Value} {f : Str} {y : V} {u : Value} {A : Around} {E : Value → Shared → Prop} {vs : Array Value} {Q : Unit → Shared → Prop}
theorem setattrX_new (I : Inv X pins σ H s) (he : H e = some (.ext (ExcV e C none vs))) (c : XCls X.K C bm) (n : NoAttr X.K C f) (ry : RelV y u)
    (h : ∀ d s', H d = none → d ≠ e → Inv X pins σ (upd (upd (upd H d (.ext (XdO d []))) e (.ext (ExcV e C (some d) vs))) d (.ext (XdO d [(f, y)]))) s' → Q () s') : wpAny (model X.prog X.w) A (setAttr (.ref e) f u) Q E s := by
  obtain ⟨⟨oe, hx, hcl, hdn, hdat⟩, _, _⟩ := I.hok e _ he
  have J : PySem.W.InstAt s.heap e oe C none := ⟨hx, hcl, by unfold PySem.W.notCls; rw [hdat], by rw [hdn]; trivial⟩
  refine PySem.W.set_plain I.kIn J c.sa (osa_openX (s := { s with toks := s.toks + 1 }) I.kIn J c.toXAt n ?_)
  obtain ⟨cd, hc, _, hd'⟩ := c.toXAt.cls
  refine wpAny_bind (wpAny_pure (wpAny_bind (wpAny_bind (wpAny_loadPart hx ?_))))
  rw [hcl]
  refine wpAny_bind (PySem.W.Looks.here (s := { s with toks := s.toks + 1 }) (PySem.W.looks_clsIn I.kIn hc) ?_)
  rw [hd', hdn]
  rw [hdat]
  have hxs : e ≠ s.heap.objs.size := Nat.ne_of_lt (Heap.lt_size hx)
  have hx₁ := Heap.get?_push_of_some (h := s.heap) { cls := .type "dict", data := .dict #[] } hx
  refine wpAny_bind (wpAny_alloc' ?_)
  refine wpAny_bind (wpAny_update' hx₁ ?_)
  refine wpAny_pure ?_
  have hgd0 : (s.heap.push { cls := .type "dict", data := .dict #[] }).get? s.heap.objs.size = some { cls := .type "dict", data := .dict #[] } := Heap.get?_push_at rfl rfl
  have hn0 : (s.heap.push { cls := .type "dict", data := .dict #[] }).Ns s.heap.objs.size (fun _ => none) := ⟨_, #[], _, hgd0, rfl, fun e he => absurd he (by simp), fun _ => rfl⟩
  have I1 : Inv X pins σ (upd H s.heap.objs.size (.ext (XdO s.heap.objs.size []))) { s with heap := s.heap.push { cls := .type "dict", data := .dict #[] }, toks := s.toks + 1 } :=
    I.laid (fun b u q => Heap.get?_push_of_some _ q) (Nat.le_refl _) (XdO.ok ⟨fun _ => none, Heap.Ns1.of_empty hn0, fun _ => True.intro, fun y hy => absurd rfl hy⟩)
  have hx2 : ((s.heap.push { cls := .type "dict", data := .dict #[] }).update e fun o => { cls := o.cls, dict := some s.heap.objs.size, data := o.data, slots := o.slots }).get? e = some { cls := oe.cls, dict := some s.heap.objs.size, data := oe.data, slots := oe.slots } :=
    Heap.get?_update_self _ hx₁ (by rw [hdat]; rfl)
  have I2 : Inv X pins σ (upd (upd H s.heap.objs.size (.ext (XdO s.heap.objs.size []))) e (.ext (ExcV e C (some s.heap.objs.size) vs)))
      { s with heap := (s.heap.push { cls := .type "dict", data := .dict #[] }).update e fun o => { cls := o.cls, dict := some s.heap.objs.size, data := o.data, slots := o.slots }, toks := s.toks + 1 } :=
    I1.write (x := e) (e := e) (by rw [upd_ne hxs, he]; exact True.intro) (.inl rfl) (fun b u hb q => (Heap.get?_update_ne _ _ _ _ hb).trans q) ⟨_, hx2⟩ (ExcV.ok ⟨_, hx2, hcl, rfl, hdat⟩)
  have hnd : ((s.heap.push { cls := .type "dict", data := .dict #[] }).update e fun o => { cls := o.cls, dict := some s.heap.objs.size, data := o.data, slots := o.slots }).Ns s.heap.objs.size (fun _ => none) :=
    ⟨_, #[], _, (Heap.get?_update_ne _ _ _ _ hxs.symm).trans hgd0, rfl, fun e he => absurd he (by simp), fun _ => rfl⟩
  show wpAny _ _ (Builtin.ObjectAttr.storeInDict s.heap.objs.size (.str f s.toks) f u) _ _ _
  unfold Builtin.ObjectAttr.storeInDict Builtin.ObjectAttr.newKeyGuard
  refine wpAny_bind (wpAny_pure (wpAny_bind (wpAny_nsSet1 (Heap.Ns1.of_empty hnd) fun h' hn' hs => ?_)))
  obtain ⟨oD, esD, epD, hoD, hdD, hcD⟩ := hn'.count (Within.cons f u Within.nil)
  refine wpAny_bind (wpAny_lookBehind hoD (by rw [hdD]; exact pastItsLine_dict (Nat.le_trans hcD (by rw [List.length_cons, List.length_nil, sizeLine_eq]; omega))) ?_)
  refine wpAny_pure (h s.heap.objs.size _ (I.hok.fresh (Nat.le_refl _)) hxs.symm (I2.write (x := s.heap.objs.size) (e := s.heap.objs.size) (by rw [upd_ne hxs.symm, upd_same]; exact True.intro) (.inl rfl) (fun b o hb q => (hs.2 b hb).trans q) ⟨_, hoD⟩ (XdO.ok ⟨_, hn', fun g => ?_, fun g hg => ?_⟩)))
  · show RelO (List.lookup g [(f, y)]) (if g = f then some u else none)
    by_cases q : g = f
    · subst q; rw [if_pos rfl]; simp; exact ry
    · rw [if_neg q]; simp [List.lookup_cons, beq_false_of_ne q]; trivial
  · by_cases q : g = f
    · rw [q]; simp
    · exact absurd (if_neg q) hg
end
end L2
set_option maxHeartbeats 4000000
namespace PySem
open Sem (wp)
structure NF (fr : List Addr) (e : Addr) (T? : Option Addr) (h h' : Heap) (oe : Obj) (vs : Array Value) (fl : Value) : Prop where
  keep : ∀ b o, h.get? b = some o → b ≠ e → T? ≠ some b → b ∉ fr → h'.get? b = some o
  slot : ∀ b o, h.get? b = some o → b ≠ e → T? ≠ some b → ∃ sl, h'.get? b = some { o with slots := sl }
  exc : ∃ oe' vs' T', h'.get? e = some oe' ∧ oe'.cls = oe.cls ∧ oe'.dict = oe.dict ∧ oe'.data = .fields vs' ∧ vs'[0]? = vs[0]? ∧ vs'[1]? = some (.ref T') ∧ T' ≠ e ∧ h.get? T' = none ∧
    ∃ oT ts, h'.get? T' = some oT ∧ oT.data = .fields ts ∧ ts[3]? = some fl
section
variable {M : Model} {A : Around} {E : Value → Shared → Prop} {s : Shared} {base : Heap} {env : Env} {outer : List Env} {L e : Addr} {oe : Obj} {vs : Array Value} {Q : Unit → Shared → Prop}
theorem dict_mapFields (o : Obj) (g : Array Value → Array Value) : (o.mapFields g).dict = o.dict := by
  unfold Obj.mapFields; split <;> rfl
theorem entry_NF {head : Value} {hadNext : Bool} (hfr : A.frames = some (env :: outer)) (hl : s.heap.FunFrames base (env :: outer)) (hf : env.frame = some L)
    (he : s.heap.get? e = some oe) (hd : oe.data = .fields vs) (hsz : 1 < vs.size)
    (h : ∀ h', NF ((env :: outer).filterMap (·.frame)) e none s.heap h' oe vs (rawInt L) → Q () { s with heap := h' }) :
    wpAny M A (do let a ← frameOf env; let pl ← entryPlaceOf L hadNext; let b ← EntryCells.newEntry head a .none (rawInt L) .none pl; setField (.ref e) 1 b) Q E s := by
  have hene : e ∉ (env :: outer).filterMap (·.frame) := fun hm => by
    obtain ⟨_, o, ho, hnf⟩ := hl.mem hm
    rw [he] at ho; injection ho with ho; subst ho; exact hnf vs hd
  refine wpAny_bind (wpAny_frameOf_fun hfr hl hf fun h₁ hs₁ => ?_)
  refine wpAny_bind (wpAny_entryPlaceOf fun pl hpl => ?_)
  unfold EntryCells.newEntry newFields
  refine wpAny_bind (wpAny_newObj_type ?_ (hpl.sizeOk5 _ _ _ _ _))
  have he₁ : h₁.get? e = some oe := (hs₁.2.1 e hene).trans he
  have he₂ := Heap.get?_push_of_some (h := h₁) { cls := .type "traceback", dict := none, data := .fields ([head, .ref L, .none, rawInt L, .none] ++ (if pl.isEmpty then List.replicate 6 Value.none else pl)).toArray } he₁
  refine wpAny_setField he₂ hd hsz (h _ ?_)
  have hTe : h₁.objs.size ≠ e := Nat.ne_of_gt (Heap.lt_size he₁)
  have hd₃ := Obj.data_mapFields hd (·.setIfInBounds 1 (Value.ref h₁.objs.size))
  have he₃ := Heap.get?_update_self (Obj.mapFields (·.setIfInBounds 1 (Value.ref h₁.objs.size))) he₂ (Obj.isFreed_of_fields hd₃)
  have hT₃ := (Heap.get?_update_other (h₁.push { cls := .type "traceback", dict := none, data := .fields ([head, .ref L, .none, rawInt L, .none] ++ (if pl.isEmpty then List.replicate 6 Value.none else pl)).toArray })
    (Obj.mapFields (·.setIfInBounds 1 (Value.ref h₁.objs.size))) (Ne.symm hTe)).trans (Heap.get?_push_size h₁ rfl)
  have keep : ∀ b o, b ≠ e → h₁.get? b = some o →
      ((h₁.push { cls := .type "traceback", dict := none, data := .fields ([head, .ref L, .none, rawInt L, .none] ++ (if pl.isEmpty then List.replicate 6 Value.none else pl)).toArray }).update e (Obj.mapFields (·.setIfInBounds 1 (Value.ref h₁.objs.size)))).get? b = some o :=
    fun b o hbe hb => by
      rw [Heap.get?_update_other _ _ (Ne.symm hbe)]
      exact Heap.get?_push_of_some _ hb
  refine ⟨fun b o hb hbe _ hfr => keep b o hbe ((hs₁.2.1 b hfr).trans hb), fun b o hb hbe _ => ?_, _, _, h₁.objs.size, he₃, Obj.cls_mapFields _ _, dict_mapFields _ _, hd₃, by rw [Array.getElem?_setIfInBounds_ne (by decide)], by simp [hsz], hTe, ?_, _, _, hT₃, rfl, ?_⟩
  · obtain ⟨sl, hs⟩ := hs₁.2.2 b o hb
    exact ⟨sl, keep b _ hbe hs⟩
  · rw [hs₁.1]; exact Heap.get?_none_of_le (Nat.le_refl _)
  · first | (simp; done) | (rcases hpl with rfl | ⟨_, _, _, _, _, _, _, rfl⟩ <;> simp)
def Trc (h : Heap) (e : Addr) (vs : Array Value) (T? : Option Addr) : Prop :=
  (vs[1]? = some .none ∧ T? = none) ∨ ∃ T oT ts, T? = some T ∧ vs[1]? = some (.ref T) ∧ T ≠ e ∧ h.get? T = some oT ∧ oT.data = .fields ts ∧ ts[3]? = some .none
theorem noteFrame_NF {T? : Option Addr} (hfr : A.frames = some (env :: outer)) (hl : s.heap.FunFrames base (env :: outer)) (hf : env.frame = some L)
    (he : s.heap.get? e = some oe) (hd : oe.data = .fields vs) (ht : Trc s.heap e vs T?)
    (h : ∀ h', NF ((env :: outer).filterMap (·.frame)) e T? s.heap h' oe vs (rawInt L) → Q () { s with heap := h' }) : wpAny M A (noteFrame (.ref e) env) Q E s := by
  unfold noteFrame
  simp only [hf]
  rcases ht with ⟨h1, rfl⟩ | ⟨T, oT, ts, rfl, h1, hTe, hT, hdT, h3⟩
  · refine wpAny_bind (wpAny_field he hd h1 ?_)
    rw [if_neg (by decide)]
    exact entry_NF hfr hl hf he hd (Array.getElem?_eq_some_iff.mp h1).1 h
  · refine wpAny_bind (wpAny_field he hd h1 ?_)
    rw [if_pos (show (Value.ref T != Value.none) = true from by simp)]
    refine wpAny_bind (wpAny_field hT hdT h3 ?_)
    rw [if_neg (show ¬ ((Value.none == rawInt L) = true) from by simp [rawInt])]
    refine wpAny_bind (wpAny_setField hT hdT (Array.getElem?_eq_some_iff.mp h3).1 ?_)
    have other : ∀ b, b ≠ T → (s.heap.update T (Obj.mapFields (·.setIfInBounds 3 Value.none))).get? b = s.heap.get? b := fun b hb => Heap.get?_update_other _ _ (Ne.symm hb)
    have noRecord : ∀ b o, s.heap.get? b = some o → (∀ vs, o.data ≠ .fields vs) → b ≠ T := fun b o hb hnf q => by
      rw [q, hT] at hb; injection hb with hb; subst hb; exact hnf ts hdT
    have hT' := Heap.get?_update_self (Obj.mapFields (·.setIfInBounds 3 Value.none)) hT (Obj.isFreed_of_fields (Obj.data_mapFields hdT _))
    refine entry_NF hfr (hl.of_keeps fun b o hb hnf => ⟨o, (other b (noRecord b o hb hnf)).trans hb, rfl⟩) hf ((other e (Ne.symm hTe)).trans he) hd (Array.getElem?_eq_some_iff.mp h1).1 fun h' N => h h' ?_
    obtain ⟨k1, k2, oe', vs', T', x1, x2, x3, x4, x5, x6, x7, x8, x9⟩ := N
    refine ⟨fun b o hb hbe hbT hfr => ?_, fun b o hb hbe hbT => ?_, oe', vs', T', x1, x2, x3, x4, x5, x6, x7, ?_, x9⟩
    · exact k1 b o ((other b fun z => hbT (by rw [z])).trans hb) hbe (by simp) hfr
    · exact k2 b o ((other b fun z => hbT (by rw [z])).trans hb) hbe (by simp)
    · by_cases hq : T' = T
      · rw [hq, hT'] at x8; cases x8
      · rw [← other T' hq]; exact x8
theorem flight_NF {h : Heap} {T? : Option Addr} {fr : List Addr} {fl : Value} (N : NF fr e T? h s.heap oe vs fl) (hq : ∀ h', NF fr e T? h h' oe vs .none → Q () { s with heap := h' }) : wpAny M A (setFlight (.ref e) none) Q E s := by
  obtain ⟨k1, k2, oe', vs', T', x1, x2, x3, x4, x5, x6, x7, x8, oT, ts, y1, y2, y3⟩ := N
  have hsz3 : 3 < ts.size := (Array.getElem?_eq_some_iff.mp y3).1
  have other : ∀ b, b ≠ T' → (s.heap.update T' (Obj.mapFields (·.setIfInBounds 3 ((none : Option Addr).elim Value.none fun f => rawInt f)))).get? b = s.heap.get? b :=
    fun b hb => Heap.get?_update_other _ _ (Ne.symm hb)
  have hne : ∀ b o, h.get? b = some o → b ≠ T' := fun b o hb z => by rw [z, x8] at hb; cases hb
  unfold setFlight
  refine wpAny_bind (wpAny_field x1 x4 x6 ?_)
  rw [if_pos (show (Value.ref T' != Value.none) = true from by simp)]
  refine wpAny_setField y1 y2 hsz3 (hq _ ⟨fun b o hb h1 h2 h3 => (other b (hne b o hb)).trans (k1 b o hb h1 h2 h3), fun b o hb h1 h2 => ?_, oe', vs', T', (other e (Ne.symm x7)).trans x1, x2, x3, x4, x5, x6, x7, x8, _, _, Heap.get?_update_self _ y1 (Obj.isFreed_of_fields (Obj.data_mapFields y2 _)), Obj.data_mapFields y2 _, by simp [hsz3]⟩)
  obtain ⟨sl, q⟩ := k2 b o hb h1 h2
  exact ⟨sl, (other b (hne b o hb)).trans q⟩
theorem leaving_NF {T? : Option Addr} (hfr : A.frames = some (env :: outer)) (hl : s.heap.FunFrames base (env :: outer)) (hf : env.frame = some L)
    (he : s.heap.get? e = some oe) (hd : oe.data = .fields vs) (ht : Trc s.heap e vs T?)
    (h : ∀ h', NF ((env :: outer).filterMap (·.frame)) e T? s.heap h' oe vs .none → Q () { s with heap := h' }) : wpAny M A (leaving env (.ref e)) Q E s := by
  unfold leaving
  refine wpAny_bind (noteFrame_NF hfr hl hf he hd ht fun h' N => flight_NF (s := { s with heap := h' }) N h)
end
end PySem
set_option maxHeartbeats 4000000
namespace L2
open PySem PySem.Spec PyProof.Rows
theorem ObjOk.thereX {P : Program} {w : World} {H : Hp} {h : Heap} {a : Addr} {o : HO} (x : ObjOk P w H h a o) : ∃ u, h.get? a = some u := by
  cases o with
  | lst xs => obtain ⟨_, _, _, _, e⟩ := x; exact ⟨_, e⟩
  | tup xs => obtain ⟨_, _, _, o, e, _⟩ := x; exact ⟨_, e⟩
  | dK kvs => obtain ⟨_, _, _, _, o, _, _, e, _⟩ := x; exact ⟨_, e⟩
  | dT kvs => obtain ⟨_, _, _, _, o, _, _, e, _⟩ := x; exact ⟨_, e⟩
  | set S n => obtain ⟨o, _, _, _, e, _⟩ := x; exact ⟨_, e⟩
  | ins C dx fs => obtain ⟨_, _, _, e, _⟩ := x; exact ⟨_, e⟩
  | own y => exact x
  | xd fs => obtain ⟨_, ⟨_, _, _, e, _⟩, _⟩ := x; exact ⟨_, e⟩
  | rng lo hi => obtain ⟨_, _, _, e⟩ := x; exact ⟨_, e⟩
  | frz ob u => obtain ⟨e, _⟩ := x; exact ⟨_, e⟩
  | tbl ps => exact ⟨_, x⟩
  | met f y => exact ⟨_, x⟩
  | ext φ => obtain ⟨_, e, _⟩ := x; exact e
structure CXD (P : Program) (w : World) (outer : List Env) (H : Hp) (s : Shared) (s' : Shared) (e C : Addr) (od : Option Addr) (H' : Hp) (oe : Obj) (vs : Array Value) (T? : Option Addr) : Prop where
  os : s'.os = s.os
  bare : AllBare s'.gens
  un : Un (frs outer) [] H H' s.heap s'.heap
  hok : HOk P w H' s'.heap
  at_ : H' e = some (.ext (ExcO e C od))
  new : s.heap.get? e = none
  obj : s'.heap.get? e = some oe
  dat : oe.data = .fields vs
  trc : Trc s'.heap e vs T?
  tn : ∀ T, T? = some T → H' T = none ∧ s.heap.get? T = none
def CXU (P : Program) (w : World) : CXT := fun outer H s E ev s' => ∃ e C od H' oe vs T?, ev = .ref e ∧ CXD P w outer H s s' e C od H' oe vs T? ∧ E (.ref C) (some e) H'
section
variable {P : Program} {w : World} {outer : List Env} {H H' : Hp} {s s' : Shared} {e C : Addr} {od : Option Addr} {oe : Obj} {vs : Array Value} {T? : Option Addr} {h' : Heap} {fl : Value}
theorem CXD.noted (c : CXD P w outer H s s' e C od H' oe vs T?) (fr : ∀ b ∈ frs outer, H' b = none) (N : NF (frs outer) e T? s'.heap h' oe vs fl) :
    Un (frs outer) [] H H' s.heap h' ∧ HOk P w H' h' ∧ ∃ oe' vs' T', h'.get? e = some oe' ∧ oe'.data = .fields vs' ∧ vs'[1]? = some (.ref T') ∧ T' ≠ e ∧ H' T' = none ∧ s.heap.get? T' = none ∧ ∃ oT ts, h'.get? T' = some oT ∧ oT.data = .fields ts ∧ ts[3]? = some fl := by
  have ne : ∀ b o, s.heap.get? b = some o → b ≠ e := fun b o q z => by rw [z, c.new] at q; cases q
  have nT : ∀ b o, s.heap.get? b = some o → T? ≠ some b := fun b o q z => by rw [(c.tn b z).2] at q; cases q
  obtain ⟨oe', vs', T', x1, x2, x3, x4, x5, x6, x7, x8, x9⟩ := N.exc
  have hT' : H' T' = none := by
    cases q : H' T' with
    | none => rfl
    | some o =>
      obtain ⟨u, z⟩ := (c.hok T' o q).thereX
      rw [x8] at z; cases z
  refine ⟨⟨fun b o q n hb hx => N.keep b o (c.un.keep b o q n hb hx) (ne b o q) (nT b o q) hb, fun b o q n hb hx => ?_, c.un.free, fun b o q hx => ?_, c.un.tups, c.un.frzs, c.un.tbls⟩, fun b o q => ?_, oe', vs', T', x1, x4, x6, x7, hT', ?_, x9⟩
  · obtain ⟨sl, q1⟩ := c.un.slot b o q n hb hx
    obtain ⟨sl', q2⟩ := N.slot b _ q1 (ne b o q) (nT b o q)
    exact ⟨sl', q2⟩
  · obtain ⟨o', q1⟩ := c.un.there b o q hx
    obtain ⟨sl', q2⟩ := N.slot b _ q1 (ne b o q) (nT b o q)
    exact ⟨_, q2⟩
  · by_cases hb : b = e
    · subst hb
      rw [c.at_] at q; cases q
      obtain ⟨⟨oe2, vs2, z1, z2, z3, z4⟩, _, _⟩ := c.hok b _ c.at_
      rw [c.obj] at z1; cases z1
      exact ExcO.ok ⟨oe', vs', x1, x2.trans z2, x3.trans z3, x4⟩
    · refine (c.hok b o q).stay (fun x v hx r => N.keep x v r ?_ ?_ ?_) (fun _ q => q) fun _ _ q => q
      · rcases hx with z | z
        · rw [z]; exact hb
        · intro z2; rw [z2, c.at_] at z; cases z
      · intro z2
        have z3 := (c.tn x z2).1
        rcases hx with z | z
        · rw [z, q] at z3; cases z3
        · rw [z] at z3; cases z3
      · intro z2
        have z3 := fr x z2
        rcases hx with z | z
        · rw [z, q] at z3; cases z3
        · rw [z] at z3; cases z3
  · cases q : s.heap.get? T' with
    | none => rfl
    | some o =>
      obtain ⟨o', q1⟩ := c.un.there T' o q (by simp)
      rw [x8] at q1; cases q1
end
def XPq (X : Cx) (pins : List (Addr × Obj)) (σ : St) (E : XK) (ev : Value) (s1 : Shared) : Prop := ∃ s H, Inv X pins σ H s ∧ CXU X.prog X.w X.stack H s E ev s1
def XE (X : Cx) (pins : List (Addr × Obj)) (Ex : St → XK) (ev : Value) (s1 : Shared) : Prop := X.xe ev s1 ∨ ∃ σ', XPq X pins σ' (Ex σ') ev s1
abbrev TEX := XK → TE
abbrev TSX := (St → XK) → TS
def PEX (X : Cx) (e : Expr) (t : TEX) : Prop := ∀ (pins : List (Addr × Obj)) (s : Shared) (σ : St) (H : Hp) (Q : VK) (E : XK), Inv X pins σ H s → t E σ H Q →
  wpAny (model X.prog X.w) X.A (eval e X.env) (EP X pins σ Q) (fun ev s1 => X.xe ev s1 ∨ XPq X pins σ E ev s1) s
def PSX (X : Cx) (st : Stmt) (t : TSX) : Prop := ∀ (pins : List (Addr × Obj)) (s : Shared) (σ : St) (H : Hp) (D : Ends) (Ex : St → XK), Inv X pins σ H s → t Ex D σ H →
  wpAny (model X.prog X.w) X.A (exec st X.env) (SP X pins D) (XE X pins Ex) s
def PSXs (X : Cx) (st : List Stmt) (t : TSX) : Prop := ∀ (pins : List (Addr × Obj)) (s : Shared) (σ : St) (H : Hp) (D : Ends) (Ex : St → XK), Inv X pins σ H s → t Ex D σ H →
  wpAny (model X.prog X.w) X.A (execs st X.env) (SP X pins D) (XE X pins Ex) s
section
variable {X : Cx} {st : Stmt} {rest : List Stmt} {t u : TSX} {e : Expr} {pos : Pos}
theorem psxs_of {sts : List Stmt} {t : TS} (h : PSs X sts t) : PSXs X sts fun _ => t := fun pins s σ H D Ex I hw => wpAny_mono (h pins s σ H D I hw) (fun _ _ q => q) fun _ _ z => .inl z
theorem psxs_nil : PSXs X [] fun _ => tNext := psxs_of pss_nil
theorem psxs_cons (h1 : PSX X st t) (h2 : PSXs X rest u) : PSXs X (st :: rest) fun Ex => tSeq (t Ex) (u Ex) := by
  intro pins s σ H D Ex I h
  refine wpAny_execs_cons (thn (h1 pins s σ H { D with nx := u Ex D } Ex I h) fun f s1 q => ?_)
  cases f with
  | next =>
    obtain ⟨σ', H', I', q⟩ := q
    exact h2 pins s1 σ' H' D Ex I' q
  | ret v => exact q
  | brk => exact q
  | cont => exact q
theorem psxs_one (h1 : PSX X st t) : PSXs X [st] t := by
  intro pins s σ H D Ex I h
  refine wpAny_execs_cons (thn (h1 pins s σ H D Ex I h) fun f s1 q => ?_)
  cases f with
  | next => exact wpAny_execs_nil q
  | ret v => exact q
  | brk => exact q
  | cont => exact q
theorem psx_if {c : Expr} {a b : List Stmt} {tc : TT} (hc : PT X c tc) (ha : PSXs X a t) (hb : PSXs X b u) : PSX X (.If c a b pos) fun Ex => tIfS tc (t Ex) (u Ex) := by
  intro pins s σ H D Ex I h
  refine wpAny_If (wpAny_mono (hc pins s σ H _ I h) (fun d s1 ⟨H1, I1, q1⟩ => ?_) fun _ _ z => .inl z)
  cases d with
  | true => exact ha pins s1 σ H1 D Ex I1 q1
  | false => exact hb pins s1 σ H1 D Ex I1 q1
theorem psx_expr {t : TEX} (he : PEX X e t) (hs : swapsWith e none pos.line X.env = pure false := by rfl) : PSX X (.Expr e pos) fun Ex D σ H => t (Ex σ) σ H fun _ H1 => D.nx σ H1 := by
  intro pins s σ H D Ex I h
  exact wpAny_Expr_any (wpAny_mono (he pins s σ H _ (Ex σ) I h) (fun v s1 ⟨x, H1, I1, r1, q1⟩ => ⟨σ, H1, I1, q1⟩) fun _ _ z => z.elim .inl fun z => .inr ⟨σ, z⟩) I.quiet hs
end
section
variable {X : Cx} {k : Nat} {f C : Addr} {fd : FuncData} {ps : List Str} {sp : Sp} {x m : Str} {p pos apos : Pos} {e o : Expr} {es : List Expr} {ta : TE} {t : TA}
theorem run_fnX {pins : List (Addr × Obj)} {σ : St} {H : Hp} {s : Shared} {Q : VK} {E : XK} {us : List Value} {vs : List V} (F : FnOk X.prog X.w X.K X.mg X.base (CXU X.prog X.w) k f fd ps sp) (hr : Room k X.A) (hb : Binds X.K fd ps [])
    (I : Inv X pins σ H s) (r : Vals vs us) (h : sp vs H Q E) : wpAny (model X.prog X.w) X.A (call (.ref f) us) (EP X pins σ Q) (fun ev s1 => X.xe ev s1 ∨ XPq X pins σ E ev s1) s := by
  have hl : (us ++ []).length = ps.length := by rw [List.append_nil, ← r.length]; exact F.len _ _ _ _ h
  refine wpAny_call (codeAny_mono (F.run X.A X.stack s H ⟨us, []⟩ (us ++ []) vs Q E hr I.env0 (hb s us I.kIn hl) (by rw [List.append_nil]; exact r) h) fun r s' hq => ?_)
  cases r with
  | error e => exact .inr ⟨s, H, I, hq⟩
  | ok fl =>
    cases fl with
    | ret u => exact I.after hq
    | next => exact False.elim hq
    | brk => exact False.elim hq
    | cont => exact False.elim hq
theorem pex_meth {pl : Sem Bool} (he : PE X o ta) (c : Cls X.K C) (hm : Meth X.K C m f) (F : FnOk X.prog X.w X.K X.mg X.base (CXU X.prog X.w) k f fd ps sp) (hr : Room k X.A) (hb : Binds X.K fd ps []) (ha : PA X (e :: es) t)
    (hst : starEach (e :: es) X.env = (false, eval e X.env) :: starEach es X.env := by rfl) (hpl : (backTo pos (starEach es X.env)).any (·.1) = false := by rfl)
    (ht : eval (.Call (.Attribute o m apos) (e :: es) [] pos) X.env = (do
      let ov ← eval o X.env
      standAt apos.atName
      let (f, first) ← holding [ov] (getMethod ov m pl)
      callWith pos f first (backTo pos (starEach (e :: es) X.env)) (backToKw pos (keywordEach [] X.env))) := by rfl) :
    PEX X (.Call (.Attribute o m apos) (e :: es) [] pos) fun E σ H Q => ta σ H fun x H1 => ∃ a dx fs, x = .ref a ∧ H1 a = some (.ins C dx fs) ∧ fs.lookup m = none ∧ t σ H1 fun vs H2 => sp (x :: vs) H2 Q E := by
  intro pins s σ H Q E I h
  refine PySem.W.methodCall_KW (pl := pl) (wpAny_mono (he pins s σ H _ I h) (fun u s1 ⟨x, H1, I1, rx, a, dx, fs, ex, ea, l, q⟩ => ?_) fun _ _ z => .inl z) ht
  subst ex
  obtain rfl : u = Value.ref a := rx
  refine getmeth_ok I1 ea c hm l ?_
  refine PySem.W.callWith_K (first := [.ref a]) (h₀ := X.base) I.ok.mod.kin hm.kp (wpAny_mono (ha pos pins s1 σ H1 _ I1 q) (fun us s2 ⟨vs, H2, I2, r, q2⟩ => ⟨I2.kIn, ?_⟩) fun _ _ z => .inl z) hst hpl
  exact run_fnX (us := .ref a :: us) (vs := .ref a :: vs) F hr hb I2 (.cons rfl r) q2
end
end L2
set_option maxHeartbeats 4000000
namespace PySem
open Sem (wp)
open L2 (Tl XAt)
section
variable {M : Model} {A : Around} {E : Value → Shared → Prop} {s : Shared} {env : Env} {K : PySem.W.Frag} {C : Addr} {bm : List Value}
theorem raiseX {x : Expr} {pos : Pos} {Q : Flow → Shared → Prop} (c : XAt K C bm) (hh : A.handled = none)
    (h : wpAny M A (eval x env) (fun v s₁ => ∃ e t od sl, v = .ref e ∧ K.In s₁.heap ∧ s₁.heap.get? e = some { cls := .ref C, dict := od, data := .fields #[.ref t, .none, .none, .none, .bool false, .none], slots := sl } ∧ E (.ref e) s₁) E s) :
    wpAny M A (exec (.Raise (some x) none pos) env) Q E s := by
  obtain ⟨nm, q, N, bs, sn, sub, ab, col, dd, k0, k1, k2, k3, k5, lk⟩ := c.at_
  have hcB : (Value.ref C :: bm).contains (.type "BaseException") = true := by rw [List.contains_cons, c.tl.has (by decide +kernel : L2.vE.contains (.type "BaseException") = true), Bool.or_true]
  have core : wpAny M A (raiseStmt env (some (do let v ← eval x env; standAt pos; pure v)) none) Q E s := by
    unfold raiseStmt
    refine wpAny_bind (wpAny_bind (wpAny_mono h (fun v s₁ h₁ => wpAny_bind (wpAny_standAt (wpAny_pure ?_))) fun _ _ x => x))
    obtain ⟨e, t, od, sl, rfl, X, he, hE⟩ := h₁
    have hC := X _ _ lk
    obtain ⟨hp, g, d, tk, os⟩ := s₁
    repeat (first | with_reducible refine wpAny_loadPart_at he ?_ | with_reducible refine wpAny_loadPart_at hC ?_ | (with_reducible refine wpAny_isSubtype_exc hC ?_; rw [hcB]) | wp_step)
    exact wpAny_raiseNew_none hh hE
  rw [arm_exec_Raise]
  first
    | exact wpAny_bind (wpAny_standAt core)
    | (simp only [evalOpt, Option.map]; exact wpAny_bind (wpAny_standAt core))
theorem excMatchesX {h : Heap} {g : Array GenState} {d : Drawn} {t : Nat} {os : OsState} {e D : Addr} {bmD : List Value} {oe : Obj} {Q : Bool → Shared → Prop} (X : K.In h) (c : XAt K C bm) (cD : XAt K D bmD) (hsub : (Value.ref C :: bm).contains (.ref D) = true)
    (he : h.get? e = some oe) (hcls : oe.cls = .ref C) (hq : Q true ⟨h, g, d, t, os⟩) : wpAny M A (excMatches (.ref e) (.ref D)) Q E ⟨h, g, d, t, os⟩ := by
  obtain ⟨nm, q, N, bs, sn, sub, ab, col, dd, k0, k1, k2, k3, k5, lk⟩ := c.at_
  obtain ⟨nm', q', N', bs', sn', sub', ab', col', dd', k0', k1', k2', k3', k5', lk'⟩ := cD.at_
  have hC := X _ _ lk
  have hD := X _ _ lk'
  have hcB : (Value.ref D :: bmD).contains (.type "BaseException") = true := by rw [List.contains_cons, cD.tl.has (by decide +kernel : L2.vE.contains (.type "BaseException") = true), Bool.or_true]
  have f := tc_notTuple
  unfold excMatches
  repeat (first | (with_reducible refine wpAny_loadPart_at he ?_; rw [hcls]) | with_reducible refine wpAny_loadPart_at hD ?_ | (with_reducible refine wpAny_isSubtype_exc hD ?_; rw [hcB]) | (with_reducible refine wpAny_isSubtype_exc hC ?_; rw [hsub]) | wp_step)
  exact hq
end
end PySem
namespace L2
open PySem PySem.Spec PyProof.Rows
abbrev xvs (tt : Addr) : Array Value := #[.ref tt, .none, .none, .none, .bool false, .none]
def tRaise (C : Addr) (sp : Sp) (t : TA) : TSX := fun Ex D σ H => t σ H fun vs H1 => vs.length ≤ 1000 ∧ ∀ ex tt, H1 ex = none → sp (.ref ex :: vs) (upd H1 ex (.ext (ExcV ex C none (xvs tt))))
  (fun v H2 => v = .non ∧ ∃ od, H2 ex = some (.ext (ExcV ex C od (xvs tt))) ∧ Ex σ (.ref C) (some ex) (upd H2 ex (.ext (ExcO ex C od)))) E0
section
variable {X : Cx} {k : Nat} {f C : Addr} {fd : FuncData} {ps : List Str} {sp : Sp} {x m : Str} {p pos apos rpos : Pos} {e o : Expr} {es : List Expr} {ta : TE} {t : TA} {bm : List Value}
theorem psx_raise (c : XCls X.K C bm) (hi : PySem.W.findIn X.K (.ref C) "__init__" = some (some (.ref f))) (hf : PySem.W.isFn X.K (.ref f) = true) (F : FnOk X.prog X.w X.K X.mg X.base CX0 k f fd ps sp) (hr : Room (k + 1) X.A) (hg : Gl X x) (hm : X.mg x = some (.ref C)) (hb : Binds X.K fd ps [])
    (ha : PA X (e :: es) t) (hdb : (x == ("__debug__" : Str)) = false := by decide) (he : starEach (e :: es) X.env = (false, eval e X.env) :: starEach es X.env := by rfl) (hpl : (backTo pos (starEach es X.env)).any (·.1) = false := by rfl) :
    PSX X (.Raise (some (.Call (.Name x p) (e :: es) [] pos)) none rpos) (tRaise C sp t) := by
  intro pins s σ H D Ex I h
  refine raiseX c.toXAt hr.hd ?_
  refine wpAny_Call_Name_kw (ld_glob I hg hm ?_ hdb)
  refine PySem.W.callWith_K (h₀ := X.base) I.ok.mod.kin c.kp (wpAny_mono (ha pos pins s σ H _ I h) (fun us s1 ⟨vs, H1, I1, r, hlen, q⟩ => ⟨I1.kIn, ?_⟩) fun _ _ z => .inl z) he hpl
  obtain ⟨h1, g1, d1, t1, o1⟩ := s1
  have hul : us.length ≤ sizeLine := by rw [← r.length, sizeLine_eq]; exact Nat.le_trans hlen (by decide)
  refine exc_call (h := h1) I1.kIn c.toXAt hi hf (by simpa using hul) ?_
  have hq := q (h1.objs.size + 1) h1.objs.size (I1.hok.fresh (Nat.le_succ _))
  have hget : ((h1.push { cls := .type "tuple", data := .seq us.toArray }).push { cls := .ref C, data := .fields #[.ref h1.objs.size, .none, .none, .none, .bool false, .none] }).get? (h1.objs.size + 1) = some { cls := .ref C, data := .fields #[.ref h1.objs.size, .none, .none, .none, .bool false, .none] } := by heap_get
  have kk : ∀ b o, h1.get? b = some o → ((h1.push { cls := .type "tuple", data := .seq us.toArray }).push { cls := .ref C, data := .fields #[.ref h1.objs.size, .none, .none, .none, .bool false, .none] }).get? b = some o := fun b o e => Heap.get?_push_of_some _ (Heap.get?_push_of_some _ e)
  have I2 : Inv X pins σ (upd H1 (h1.objs.size + 1) (.ext (ExcV (h1.objs.size + 1) C none (xvs h1.objs.size)))) ⟨(h1.push { cls := .type "tuple", data := .seq us.toArray }).push { cls := .ref C, data := .fields #[.ref h1.objs.size, .none, .none, .none, .bool false, .none] }, g1, d1, t1, o1⟩ :=
    I1.laid (a := h1.objs.size + 1) (t' := t1) kk (Nat.le_succ _) (ExcV.ok ⟨_, hget, rfl, rfl, rfl⟩)
  have r2 : Vals (V.ref (h1.objs.size + 1) :: vs) (Value.ref (h1.objs.size + 1) :: us) := .cons rfl r
  have hl : (Value.ref (h1.objs.size + 1) :: us ++ []).length = ps.length := by
    rw [List.append_nil, ← r2.length]; exact F.len _ _ _ _ hq
  show wpAny _ _ (call (.ref f) (Value.ref (h1.objs.size + 1) :: us)) _ _ _
  refine wpAny_call (codeAny_mono (F.run _ X.stack _ _ ⟨Value.ref (h1.objs.size + 1) :: us, []⟩ (Value.ref (h1.objs.size + 1) :: us ++ []) _ _ E0 (hr.make C us []) (I2.env0.make C us []) (hb _ (Value.ref (h1.objs.size + 1) :: us) I2.kIn hl) (by rw [List.append_nil]; exact r2) hq) fun r s' hq' => ?_)
  cases r with
  | error e => exact False.elim hq'
  | ok fl =>
    cases fl with
    | next => exact False.elim hq'
    | brk => exact False.elim hq'
    | cont => exact False.elim hq'
    | ret u =>
      obtain ⟨v, H', os, bare, un, hok, rv, ev, od, hex, hE⟩ := hq'
      subst ev
      refine ⟨rv, ?_⟩
      obtain ⟨⟨oe, z1, z2, z3, z4⟩, _, _⟩ := hok _ _ hex
      have kin : X.K.In s'.heap := (I2.call' os un hok bare (fun b z => absurd z (by simp))).kIn
      have z1' : s'.heap.get? (h1.objs.size + 1) = some { cls := .ref C, dict := od, data := .fields #[.ref h1.objs.size, .none, .none, .none, .bool false, .none], slots := oe.slots } := by
        rw [z1, ← z2, ← z3, ← z4]
      refine ⟨_, _, _, _, rfl, kin, z1', .inr ⟨σ, ⟨h1, g1, d1, t1, o1⟩, H1, I1, h1.objs.size + 1, C, od, _, oe, _, none, rfl, ⟨os, bare, ?_, ?_, upd_same, Heap.get?_none_of_le (Nat.le_succ _), z1, z4, .inl ⟨rfl, rfl⟩, fun T z => by cases z⟩, hE⟩⟩
      · exact ((Un.laid kk (Nat.le_succ _) (I1.hok.fresh (Nat.le_succ _))).trans un).trans (Un.write (x := h1.objs.size + 1) (e := h1.objs.size + 1) (by rw [hex]; exact True.intro) (.inl rfl) (fun b u _ q => q) ⟨_, z1⟩)
      · exact hok.write (x := h1.objs.size + 1) (e := h1.objs.size + 1) (by rw [hex]; exact True.intro) (.inl rfl) (fun b u _ q => q) ⟨_, z1⟩ (ExcO.ok ⟨oe, _, z1, z2, z3, z4⟩)
end
theorem leaveX {X : Cx} {pins : List (Addr × Obj)} {σ : St} {H : Hp} {s s1 : Shared} {E : XK} {ev : Value} {M : Model} {A : Around} {F : Value → Shared → Prop} (I : Inv X pins σ H s) (c : CXU X.prog X.w X.stack H s E ev s1) (hst : X.stack = X.env :: X.outer) (hfr : X.env.frame = some X.env.locals) (hex : X.ex = []) (hA : A.frames = some (X.env :: X.outer)) :
    wpAny M A (leaving X.env ev) (fun _ s'' => CXU X.prog X.w X.outer X.H₀ X.s₀ E ev s'') F s1 := by
  obtain ⟨e, C, od, H', oe, vs, T?, rfl, c, hE⟩ := c
  have I1 : Inv X pins σ H' s1 := I.call' c.os c.un c.hok c.bare (fun b z => absurd z (by simp))
  have hfun := I1.stack
  rw [hst] at hfun
  refine leaving_NF hA hfun hfr c.obj c.dat c.trc fun h' N => ?_
  have N' : NF (frs X.stack) e T? s1.heap h' oe vs .none := by rw [hst]; exact N
  obtain ⟨un, hok, oe', vs', T', x1, x2, x3, x4, x5, x6, oT, ts, y1, y2, y3⟩ := c.noted I1.stkFree N'
  have I2 : Inv X pins σ H' { s1 with heap := h' } := I.call' (s' := { s1 with heap := h' }) c.os un hok c.bare (fun b z => absurd z (by simp))
  have un2 := I2.base
  rw [hex] at un2
  have old : ∀ b, s.heap.get? b = none → X.s₀.heap.get? b = none := fun b hb => by
    cases q : X.s₀.heap.get? b with
    | none => rfl
    | some o =>
      obtain ⟨o', q1⟩ := I.base.there b o q (by rw [hex]; simp)
      rw [hb] at q1; cases q1
  exact ⟨e, C, od, H', oe', vs', some T', rfl, ⟨I2.os, I2.bare, un2, hok, c.at_, old e c.new, x1, x2, .inr ⟨T', oT, ts, rfl, x3, x4, y1, y2, y3⟩, fun T z => by cases z; exact ⟨x5, old _ x6⟩⟩, hE⟩
theorem Fun.okX {P : Program} {w : World} {K : PySem.W.Frag} {mg : Str → Option Value} {base : Heap} {x qual : Str} {st : Stmt} {f : Addr} {fd : FuncData} {N ps : List Str} {k : Nat} {sp : Sp} (F : Fun K x qual st f fd) (S : FnScope N ps (defScope st)) (len : ∀ vs H Q E, sp vs H Q E → vs.length = ps.length)
    (hbody : ∀ (cdv : Value) (A : Around) (outer : List Env) (s : Shared) (H : Hp) (vs : List V) (Q : VK) (E : XK), Room k (A.deeper (envOfC qual (defScope st) s.heap.objs.size f cdv)) → sp vs H Q E →
      ∃ t, PSXs (cxOf (CXU P w) P w K mg base N qual (defScope st) f cdv A outer s H E).nox (defBody st) t ∧ t (fun _ => E) { nx := fun _ H' => Q .non H', rt := Q } (start N vs) H) : FnOk P w K mg base (CXU P w) (k + 1) f fd ps sp := by
  obtain ⟨oc, od, kV, doc, pm, an, cdv, ct, osl, rfl, lk, hcd⟩ := F.ex
  refine fn_of lk hcd S len fun A outer s H vs Q E hr hsp => ?_
  obtain ⟨t, h, q⟩ := hbody cdv A outer s H vs Q E hr hsp
  refine ⟨t (fun _ => E), fun pins s1 σ H1 D I hw => ?_, q⟩
  refine wpAny_mono (h pins s1 σ H1 D (fun _ => E) (I.wish _) hw) (fun _ _ q => q.unwish) fun ev s2 z => ?_
  rcases z with z | ⟨σ', s3, H3, I3, z⟩
  · exact False.elim z
  · exact leaveX (X := cxOf (CXU P w) P w K mg base N qual (defScope st) f cdv A outer s H E) I3.unwish z rfl rfl rfl I.ok.frames
end L2
set_option maxHeartbeats 4000000
namespace L2
open PySem PySem.Spec PyProof.Rows
abbrev Cx.hold (X : Cx) (ev : Value) : Cx := { X with A := X.A.mark (some ev), calm := false, xe := fun _ _ => False }
section
variable {X : Cx} {pins : List (Addr × Obj)} {σ : St} {H : Hp} {s : Shared} {ev : Value}
theorem Inv.hold (I : Inv X pins σ H s) (ev : Value) : Inv (X.hold ev) pins σ H s :=
  ⟨⟨I.ok.mod, I.ok.kind, I.ok.glob, I.ok.blt, I.ok.above, I.ok.inj, I.ok.has, I.ok.cab, fun z => Bool.noConfusion z, I.ok.frames, I.ok.stk, I.ok.exf, I.ok.bs, I.ok.bsz, I.ok.noex, I.ok.exfs, I.ok.funs, I.ok.frf⟩, I.os, I.bare, I.base, I.loc, I.cell, I.free, I.freeC, I.pin, I.hok, I.len⟩
theorem Inv.unhold (ok : X.Ok) (I : Inv (X.hold ev) pins σ H s) : Inv X pins σ H s := ⟨ok, I.os, I.bare, I.base, I.loc, I.cell, I.free, I.freeC, I.pin, I.hok, I.len⟩
theorem caughtX {s1 : Shared} {E : XK} {ev : Value} {M : Model} {A : Around} {F : Value → Shared → Prop} {Q : Unit → Shared → Prop} (I : Inv X pins σ H s) (c : CXU X.prog X.w X.stack H s E ev s1) (hst : X.stack = X.env :: X.outer) (hfr : X.env.frame = some X.env.locals) (hA : A.frames = some (X.env :: X.outer))
    (h : ∀ s3 e C od H' oe (vs : Option Addr × Array Value), ev = .ref e → Inv X pins σ H' s3 → H' e = some (.ext (ExcO e C od)) → NF (frs X.stack) e vs.1 s1.heap s3.heap oe vs.2 .none → E (.ref C) (some e) H' → (∀ h', NF (frs X.stack) e vs.1 s1.heap h' oe vs.2 .none → Inv X pins σ H' { s3 with heap := h' }) → Q () s3) :
    wpAny M A (noteFrame ev X.env) (fun _ s2 => wpAny M A (setFlight ev none) Q F s2) F s1 := by
  obtain ⟨e, C, od, H', oe, vs, T?, rfl, c, hE⟩ := c
  have I1 : Inv X pins σ H' s1 := I.call' c.os c.un c.hok c.bare (fun b z => absurd z (by simp))
  have hfun := I1.stack
  rw [hst] at hfun
  refine noteFrame_NF hA hfun hfr c.obj c.dat c.trc fun h' N => flight_NF (s := { s1 with heap := h' }) N fun h3 N3 => ?_
  have inv : ∀ h', NF (frs X.stack) e T? s1.heap h' oe vs .none → Inv X pins σ H' { s1 with heap := h' } := fun h' N' => by
    obtain ⟨un, hok, _⟩ := c.noted I1.stkFree N'
    exact I.call' (s' := { s1 with heap := h' }) c.os un hok c.bare (fun b z => absurd z (by simp))
  have N3' : NF (frs X.stack) e T? s1.heap h3 oe vs .none := by rw [hst]; exact N3
  exact h { s1 with heap := h3 } e C od H' oe (T?, vs) rfl (inv h3 N3') c.at_ N3' hE inv
end
end L2
set_option maxHeartbeats 4000000
namespace L2
open PySem PySem.Spec PyProof.Rows
def sXF (K : PySem.W.Frag) (ta tv : TE) (f : Str) : TS := fun D σ H => tv σ H fun y H1 => ta σ H1 fun x H2 => ∃ (e C : Addr) (bm : List Value) (vs : Array Value), x = .ref e ∧ H2 e = some (.ext (ExcV e C none vs)) ∧ XCls K C bm ∧ NoAttr K C f ∧
  ∀ d, H2 d = none → d ≠ e → D.nx σ (upd (upd (upd H2 d (.ext (XdO d []))) e (.ext (ExcV e C (some d) vs))) d (.ext (XdO d [(f, y)])))
section
variable {X : Cx} {o e value : Expr} {f : Str} {pos pos' : Pos} {ta tv : TE}
theorem ps_xf (ha : PE X o ta) (hv : PE X value tv) (hs : swapsWith value (some (.Attribute o f pos')) pos.line X.env = pure false := by rfl) : PS X (.Assign [.Attribute o f pos'] value pos) (sXF X.K ta tv f) := by
  intro pins s σ H D I h
  refine plainObj_wpAny_Assign_Attribute (thn (hv pins s σ H _ I h) fun u s1 ⟨y, H1, I1, ry, q⟩ => thn (ha pins s1 σ H1 _ I1 q) fun ov s2 ⟨x, H2, I2, rx, a, C, bm, vs, ex, ea, c, n, q2⟩ => ?_) hs
  subst ex
  obtain rfl : ov = Value.ref a := rx
  exact setattrX_new I2 ea c n ry fun d s3 hd hne I3 => ⟨σ, _, I3, q2 d hd hne⟩
end
end L2
set_option maxHeartbeats 4000000
namespace PySem
open Sem (wp)
open L2 (Tl XAt)
section
variable {prog : Program} {w : World} {A : Around} {E : Value → Shared → Prop} {h : Heap} {g : Array GenState} {d : Drawn} {t : Nat} {os : OsState} {K : PySem.W.Frag} {x C : Addr} {bm : List Value} {ox : Obj} {od : Option Obj} {name : Str} {v : Value}
theorem isBaseX (X : K.In h) (c : XAt K C bm) {M : Model} (I : PySem.W.InstAt h x ox C od) {T : String} (hT : L2.vE.contains (.type T) = true) : PySem.W.Looks M h (isInstance (.ref x) (.type T)) true := by
  obtain ⟨nm, q, N, bs, sn, sub, ab, col, dd, k0, k1, k2, k3, k5, lk⟩ := c.at_
  have hc : PySem.W.clsIn K C = some { name := nm, bases := bs, mro := .ref C :: bm, ns := N, qualname := q, hasDict := true, slotNames := sn, subclasses := sub, abstract := ab, collection := col, hasDel := false } := by
    unfold PySem.W.clsIn; rw [lk]
  refine I.type.andThen (PySem.W.looks_mroIn X ?_)
  unfold PySem.W.mroIn
  rw [hc, Option.bind_some]
  show some ((Value.ref C :: bm).contains (.type T)) = some true
  rw [List.contains_cons, c.tl.has hT, Bool.or_true]
theorem getX_call {tk : Tok} {R : Result → Shared → Prop} (X : K.In h) (c : XAt K C bm) (I : PySem.W.InstAt h x ox C od) (hf : PySem.W.findObj K C od name = some (.value v)) (hq : R (.ok (.ret v)) ⟨h, g, d, t, os⟩) :
    codeAny (model prog w) A (.call (.builtin "BaseException.__getattribute__") ⟨[.ref x, .str name tk], []⟩) R ⟨h, g, d, t, os⟩ := by
  have L0 := I.type (M := model prog w)
  have L1 := PySem.W.looks_find (M := model prog w) X I hf
  refine codeAny_call_builtin PySem.F.attr_ValueError.ga.plain F.entry_bexc_ga (@PySem.W.check_slot (model prog w) _ _ ⟨h, g, d, t, os⟩ "BaseException.__getattribute__" "BaseException" "__getattribute__" (.ref x) [.str name tk] [] _ (by decide +kernel) (by decide +kernel) (isBaseX X c I (by decide +kernel)) (F.args_bexc_ga (.ref x) (.str name tk)) ?_)
  unfold Builtin.«object.__getattribute__»
  refine wpAny_bind (wpAny_pure (wpAny_bind (wpAny_pure (wpAny_bind (L0.at (wpAny_bind (L1.at ?_)))))))
  exact wpAny_pure hq
theorem getX {expr : Bool} {Q : Value → Shared → Prop} (X : K.In h) (c : XAt K C bm) (I : PySem.W.InstAt h x ox C od) (hga : PySem.W.findIn K (.ref C) "__getattribute__" = some (some (.builtin "BaseException.__getattribute__"))) (hgn : PySem.W.findIn K (.ref C) "__getattr__" = some none)
    (hf : PySem.W.findObj K C od name = some (.value v)) (hh : PySem.W.handedIn v = true) (hq : Q v ⟨h, g, d, t + 1, os⟩) : wpAny (model prog w) A (getAttr (.ref x) name expr) Q E ⟨h, g, d, t, os⟩ := by
  have L0 := I.type (M := model prog w)
  have L1 := PySem.W.looks_findIn (M := model prog w) X hga
  have L2 := PySem.W.looks_findIn (M := model prog w) X hgn
  have f3 := PySem.F.attr_ValueError.ga.bind (.ref x)
  have hx0 : (expr && onTheHeap (Value.builtin "BaseException.__getattribute__")) = false := by cases expr <;> rfl
  have hx2 : (Value.builtin "BaseException.__getattribute__" == Value.builtin "object.__getattribute__") = false := by decide +kernel
  have hx1 : (onTheHeap (Value.ref C) && Value.builtin "BaseException.__getattribute__" == Value.builtin "object.__getattribute__") = false := by rw [hx2]; rfl
  unfold getAttr getAttrBy
  refine wpAny_bind (wpAny_mkText (wpAny_holding (wpAny_bind (L0.at (wpAny_bind (L1.at ?_))))))
  dsimp only
  rw [if_neg (by rw [hx1]; exact Bool.false_ne_true)]
  unfold getAttrByItsOwn
  refine wpAny_bind ?_
  show wpAny _ _ (typeLookup (Value.ref C) _) _ _ _
  refine L2.at (wpAny_bind (wpAny_attempt (wpAny_holding ?_)))
  unfold callGetattribute
  rw [if_neg (by rw [hx0]; exact Bool.false_ne_true)]
  unfold boundAndCalled
  rw [f3]
  refine wpAny_bind (wpAny_pure (wpAny_call (getX_call X c I hf ?_)))
  show wpAny _ _ (handedOut v) _ _ _
  rw [PySem.W.handedOut_of hh]
  exact wpAny_pure hq
end
end PySem
namespace L2
open PySem PySem.Spec PyProof.Rows
structure XGet (K : PySem.W.Frag) (C : Addr) : Prop where
  ga : PySem.W.findIn K (.ref C) "__getattribute__" = some (some (.builtin "BaseException.__getattribute__"))
  gn : PySem.W.findIn K (.ref C) "__getattr__" = some none
theorem getattrX {X : Cx} {pins : List (Addr × Obj)} {σ : St} {H : Hp} {s : Shared} {e C d : Addr} {bm : List Value} {f : Str} {y : V} {A : Around} {E : Value → Shared → Prop} {fs : List (Str × V)} {b : Bool} {Q : Value → Shared → Prop} (I : Inv X pins σ H s) (he : H e = some (.ext (ExcO e C (some d)))) (hd : H d = some (.ext (XdO d fs))) (c : XAt X.K C bm) (gt : XGet X.K C) (n : NoAttr X.K C f) (hv : fs.lookup f = some y)
    (h : ∀ u s', Inv X pins σ H s' → RelV y u → Q u s') : wpAny (model X.prog X.w) A (getAttr (.ref e) f b) Q E s := by
  obtain ⟨⟨oe, vs, hx, hcl, hdn, hdat⟩, _, _⟩ := I.hok e _ he
  obtain ⟨⟨mA, hns, hr, hwi⟩, _, _⟩ := I.hok d _ hd
  obtain ⟨od, hod, hl⟩ := lookIn_ns hns
  have J : PySem.W.InstAt s.heap e oe C (some od) := ⟨hx, hcl, by unfold PySem.W.notCls; rw [hdat], by rw [hdn]; exact hod⟩
  obtain ⟨u, hu, ru⟩ := RelO.some_of (v := y) (o := mA f) (by rw [← hv]; exact hr f)
  obtain ⟨cd, hc, _, hd'⟩ := c.cls
  have hh : PySem.W.hasDictIn X.K C = true := by unfold PySem.W.hasDictIn; rw [hc]; simp [hd']
  obtain ⟨hp, g, dr, tk, os⟩ := s
  exact getX I.kIn c J gt.ga gt.gn (PySem.W.findObj_own hh n rfl (by rw [hl, hu])) (handed_of ru) (h u _ (I.tok _) ru)
def tXf (K : PySem.W.Frag) (ta : TE) (f : Str) : TE := fun σ H Q => ta σ H fun x H1 => ∃ (e C d : Addr) (bm : List Value) (fs : List (Str × V)) (y : V), x = .ref e ∧ H1 e = some (.ext (ExcO e C (some d))) ∧ H1 d = some (.ext (XdO d fs)) ∧ XAt K C bm ∧ XGet K C ∧ NoAttr K C f ∧ fs.lookup f = some y ∧ Q y H1
theorem pe_xf {X : Cx} {e : Expr} {ta : TE} {f : Str} {pos : Pos} (he : PE X e ta) (hb : attributeBase e f X.env (eval e X.env) = eval e X.env := by rfl) : PE X (.Attribute e f pos) (tXf X.K ta f) := by
  intro pins s σ H Q I h
  refine attr_of hb (thn (he pins s σ H _ I h) fun u s1 ⟨x, H1, I1, rx, a, C, d, bm, fs, y, ex, ea, ed, c, g, n, l, q⟩ => ?_)
  subst ex
  obtain rfl : u = Value.ref a := rx
  exact getattrX I1 ea ed c g n l fun u' s2 I2 ru => ⟨y, H1, I2, ru, q⟩
end L2
set_option maxHeartbeats 4000000
namespace L2
open PySem PySem.Spec PyProof.Rows
theorem gone_ok {X : Cx} {pins : List (Addr × Obj)} {σ : St} {H : Hp} {s : Shared} {M : Model} {A : Around} {E : Value → Shared → Prop} {i : Nat} {x : Str} {pos : Pos} {Q : Unit → Shared → Prop} (I : Inv X pins σ H s) (hN : X.N.Nodup) (hi : X.N[i]? = some x) (hk : X.env.scope.names.lookup x = some .local)
    (h : ∀ s', Inv X pins (σ.set i none) H s' → Q () s') : wpAny M A (do bindName X.env x .none; unbindBehindTheSuite X.env x pos) Q E s := by
  obtain ⟨m, hn, hl⟩ := id I.loc
  have hcls : (X.env.scope.kind == .class || (X.env.scope.kind == .module && X.env.locals != X.env.globals)) = false := by rw [I.ok.kind]; rfl
  have cne := I.cne
  obtain ⟨oL, _, _, hoL, _⟩ := id hn
  refine wpAny_nameGoes_keeps hk hn hcls fun h' v hn' hs => ?_
  have lt : ∀ b o, X.s₀.heap.get? b = some o → b ≠ X.env.locals := fun b o e => Nat.ne_of_lt (Nat.lt_of_lt_of_le (Heap.lt_size e) I.ok.above)
  have hok' : HOk X.prog X.w H h' := fun b ob e => by
    refine (I.hok b ob e).stay (fun c w' hc q => (hs.2 c ?_).trans q) (fun _ q => q) fun _ _ q => q
    rintro rfl
    have fr := I.free
    rcases hc with z | hc
    · rw [z, e] at fr; cases fr
    · rw [fr] at hc; cases hc
  refine h _ ⟨I.ok, I.os, I.bare, ⟨fun b o e n hb hx => (hs.2 b (lt b o e)).trans (I.base.keep b o e n hb hx), fun b o e n hb hx => ?_, I.base.free, fun b o e hx => ?_, I.base.tups, I.base.frzs, I.base.tbls⟩, ⟨_, hn', fun j y v' e1 e2 e3 => ?_⟩, fun y c e => ?_, I.free, I.freeC, fun p hp => ?_, hok', by simpa using I.len⟩
  · obtain ⟨sl, e1⟩ := I.base.slot b o e n hb hx
    exact ⟨sl, (hs.2 b (lt b o e)).trans e1⟩
  · obtain ⟨o', e1⟩ := I.base.there b o e hx
    exact ⟨o', (hs.2 b (lt b o e)).trans e1⟩
  · have hj : j ≠ i := fun z => by
      rw [z] at e2
      by_cases hlt : i < σ.length
      · rw [List.getElem?_set_self hlt] at e2; cases e2
      · rw [List.getElem?_eq_none (by simpa using hlt)] at e2; cases e2
    rw [List.getElem?_set_ne (Ne.symm hj)] at e2
    obtain ⟨u', r', q⟩ := hl j y v' e1 e2 e3
    refine ⟨u', r', ?_⟩
    rcases q with ⟨k, e⟩ | ⟨k, c, e, z⟩
    · refine .inl ⟨k, ?_⟩
      have : y ≠ x := fun e => hj (nodup_ix hN e1 (e ▸ hi))
      simp [this, e]
    · exact .inr ⟨k, c, e, z.sameBut hs (cne y c e)⟩
  · obtain ⟨w', z⟩ := I.cell y c e
    exact ⟨w', z.sameBut hs (cne y c e)⟩
  · obtain ⟨e, n, ne, nf, d⟩ := I.pin p hp
    exact ⟨(hs.2 p.1 ne).trans e, n, ne, nf, d⟩
def tTryAs (K : PySem.W.Frag) (D : Addr) (i : Nat) (tb : TSX) (ts : TS) : TS := fun En σ H => tb (fun σ' cls oe H' => ∃ C e bm od, cls = .ref C ∧ oe = some e ∧ XAt K C bm ∧ (Value.ref C :: bm).contains (.ref D) = true ∧ H' e = some (.ext (ExcO e C od)) ∧
  ts { nx := fun σ2 H2 => En.nx (σ2.set i none) H2, rt := En.rt, bk := fun σ2 H2 => En.bk (σ2.set i none) H2, ct := fun σ2 H2 => En.ct (σ2.set i none) H2 } (σ'.set i (some (.ref e))) H') En σ H
theorem ps_tryAs {X : Cx} {body : List Stmt} {b₀ : Stmt} {suite : List Stmt} {x n : Str} {np hpos pos : Pos} {D : Addr} {bmD : List Value} {i : Nat} {tb : TSX} {ts : TS} (hx : ∀ ev s, ¬ X.xe ev s) (hst : X.stack = X.env :: X.outer) (hfr : X.env.frame = some X.env.locals) (hb : PSXs X body tb) (cD : XAt X.K D bmD)
    (hg : Gl X x) (hm : X.mg x = some (.ref D)) (hN : X.N.Nodup) (hi : X.N[i]? = some n) (hk : X.env.scope.names.lookup n = some .local) (hs : ∀ ev, PSs (X.hold ev) (b₀ :: suite) ts) (hd : (x == ("__debug__" : Str)) = false := by decide) : PS X (.Try body [.ExceptHandler (some (.Name x np)) (some n) (b₀ :: suite) hpos] [] [] pos) (tTryAs X.K D i tb ts) := by
  intro pins s σ H En I h
  have hA : X.A.frames = some (X.env :: X.outer) := I.ok.frames.trans (by rw [hst])
  refine wpAny_Try_except (wpAny_mono (hb pins s σ H En _ I h) (fun f s1 q => ?_) fun ev s1 z => ?_)
  · cases f with
    | next => exact wpAny_execs_nil q
    | ret v => exact q
    | brk => exact q
    | cont => exact q
  rcases z with z | ⟨σ', s', H₁, I', z⟩
  · exact absurd z (hx _ _)
  refine caughtX I' z hst hfr hA fun s3 e C od H' oe vs hev I3 hat N hE inv => ?_
  subst hev
  obtain ⟨C', e', bm, od', z1, z2, cC, hsub, _, hts⟩ := hE
  cases z1
  cases z2
  refine wpAny_handleBy_cons (codeAny_handlers_test (ld_glob (X := X.hold (.ref e)) (I3.hold _) hg hm ?_ hd)) (by intro q; cases q)
  obtain ⟨⟨oe', vs', y1, y2, y3, y4⟩, _, _⟩ := I3.hok e _ hat
  obtain ⟨h3, g3, d3, t3, o3⟩ := s3
  refine excMatchesX I3.kIn cC cD hsub y1 y2 ?_
  refine codeAny_handlers_suite_as (flight_NF (s := ⟨h3, g3, d3, t3, o3⟩) N fun h4 N4 => ?_)
  have I4 := inv h4 N4
  refine store_ok (X := X.hold (.ref e)) (v := V.ref e) (I4.hold _) hN hi (.inl hk) rfl (fun s5 I5 => ?_) (.inr hk)
  refine wpAny_mono (hs (.ref e) pins _ _ H' _ I5 hts) (fun f s6 q => ?_) fun _ _ z => False.elim z
  cases f with
  | next =>
    obtain ⟨σ6, H6, I6, q6⟩ := q
    exact gone_ok (I6.unhold I4.ok) hN hi hk fun s7 I7 => ⟨_, H6, I7, q6⟩
  | brk =>
    obtain ⟨σ6, H6, I6, q6⟩ := q
    exact gone_ok (I6.unhold I4.ok) hN hi hk fun s7 I7 => ⟨_, H6, I7, q6⟩
  | cont =>
    obtain ⟨σ6, H6, I6, q6⟩ := q
    exact gone_ok (I6.unhold I4.ok) hN hi hk fun s7 I7 => ⟨_, H6, I7, q6⟩
  | ret u =>
    obtain ⟨v, σ6, H6, I6, r6, q6⟩ := q
    exact gone_ok (I6.unhold I4.ok) hN hi hk fun s7 I7 => ⟨v, _, H6, I7, r6, q6⟩
end L2
set_option maxHeartbeats 4000000
namespace PySem
open Sem (wp)
open L2 (Tl XAt XGet)
section
variable {prog : Program} {w : World} {A : Around} {E : Value → Shared → Prop} {h : Heap} {g : Array GenState} {d : Drawn} {t : Nat} {os : OsState} {K : PySem.W.Frag} {x C : Addr} {bm : List Value} {ox : Obj} {od : Option Obj} {name : Str} {v : Value}
theorem classX_call {tk : Tok} {R : Result → Shared → Prop} (X : K.In h) (c : XAt K C bm) (I : PySem.W.InstAt h x ox C od) (hf : PySem.W.findObj K C od "__class__" = some (.bind (.builtin "getset_descriptor.__get__") (.builtin "object.__class__"))) (hm : PySem.W.mroIn K C (.type "object") = some true) (hq : R (.ok (.ret (.ref C))) ⟨h, g, d, t, os⟩) :
    codeAny (model prog w) A (.call (.builtin "BaseException.__getattribute__") ⟨[.ref x, .str "__class__" tk], []⟩) R ⟨h, g, d, t, os⟩ := by
  have L0 := I.type (M := model prog w)
  have L1 := PySem.W.looks_find (M := model prog w) X I hf
  refine codeAny_call_builtin PySem.F.attr_ValueError.ga.plain F.entry_bexc_ga (@PySem.W.check_slot (model prog w) _ _ ⟨h, g, d, t, os⟩ "BaseException.__getattribute__" "BaseException" "__getattribute__" (.ref x) [.str "__class__" tk] [] _ (by decide +kernel) (by decide +kernel) (isBaseX X c I (by decide +kernel)) (F.args_bexc_ga (.ref x) (.str "__class__" tk)) ?_)
  unfold Builtin.«object.__getattribute__»
  refine wpAny_bind (wpAny_pure (wpAny_bind (wpAny_pure (wpAny_bind (L0.at (wpAny_bind (L1.at ?_)))))))
  show wpAny _ _ (Builtin.ObjectAttr.bindTo (.builtin "getset_descriptor.__get__") (.builtin "object.__class__") (.ref x) (.ref C)) _ _ _
  unfold Builtin.ObjectAttr.bindTo
  refine wpAny_bind (wpAny_holding (wpAny_call (PySem.W.class_get (s := ⟨h, g, d, t, os⟩) X I hm ?_)))
  exact wpAny_pure hq
theorem classX {Q : Option Value → Shared → Prop} (X : K.In h) (c : XAt K C bm) (I : PySem.W.InstAt h x ox C od) (gt : XGet K C)
    (hf : PySem.W.findObj K C od "__class__" = some (.bind (.builtin "getset_descriptor.__get__") (.builtin "object.__class__"))) (hm : PySem.W.mroIn K C (.type "object") = some true) (hq : Q (some (.ref C)) ⟨h, g, d, t + 1, os⟩) : wpAny (model prog w) A (getAttr? (.ref x) "__class__") Q E ⟨h, g, d, t, os⟩ := by
  have L0 := I.type (M := model prog w)
  have L1 := PySem.W.looks_findIn (M := model prog w) X gt.ga
  have L2 := PySem.W.looks_findIn (M := model prog w) X gt.gn
  have f3 := PySem.F.attr_ValueError.ga.bind (.ref x)
  have hx2 : (Value.builtin "BaseException.__getattribute__" == Value.builtin "object.__getattribute__") = false := by decide +kernel
  have hx1 : (onTheHeap (Value.ref C) && Value.builtin "BaseException.__getattribute__" == Value.builtin "object.__getattribute__") = false := by rw [hx2]; rfl
  unfold getAttr? getAttrBy? getAttrBy
  refine wpAny_bind (wpAny_mkText (wpAny_bind (wpAny_attempt (wpAny_holding (wpAny_bind (L0.at (wpAny_bind (L1.at ?_))))))))
  dsimp only
  rw [if_neg (by rw [hx1]; exact Bool.false_ne_true)]
  unfold getAttrByItsOwn
  refine wpAny_bind ?_
  show wpAny _ _ (typeLookup (Value.ref C) _) _ _ _
  refine L2.at (wpAny_bind (wpAny_attempt (wpAny_holding ?_)))
  unfold callGetattribute
  rw [if_neg (by simp)]
  unfold boundAndCalled
  rw [f3]
  refine wpAny_bind (wpAny_pure (wpAny_call (classX_call X c I hf hm ?_)))
  show wpAny _ _ (handedOut (.ref C)) _ _ _
  rw [PySem.W.handedOut_of rfl]
  exact wpAny_pure (wpAny_pure hq)
end
end PySem
namespace L2
open PySem PySem.Spec PyProof.Rows
structure XIsi (K : PySem.W.Frag) (C : Addr) : Prop where
  ha : PySem.W.findIn K (.ref C) "__class__" = some (some (.builtin "object.__class__"))
  hn : PySem.W.specialIn K (.builtin "object.__class__") "__get__" = some (some (.builtin "getset_descriptor.__get__"))
  htk : PySem.W.takesIn K (.builtin "object.__class__") = some true
theorem XAt.mro {K : PySem.W.Frag} {C : Addr} {bm : List Value} (c : XAt K C bm) (base : Value) : PySem.W.mroIn K C base = some ((Value.ref C :: bm).contains base) := by
  obtain ⟨cd, hc, hcm, _⟩ := c.cls
  unfold PySem.W.mroIn
  rw [hc, Option.bind_some, hcm]
  rfl
theorem findObj_dataX {K : PySem.W.Frag} {C : Addr} {od : Option Obj} {name : Str} {a g : Value} {cd : ClassData} (hc : PySem.W.clsIn K C = some cd) (ha : PySem.W.findIn K (.ref C) name = some (some a)) (hg : PySem.W.specialIn K a "__get__" = some (some g)) (ht : PySem.W.takesIn K a = some true) : PySem.W.findObj K C od name = some (.bind g a) := by
  unfold PySem.W.findObj
  rw [hc, Option.bind_some, ha, Option.bind_some]
  simp [hg, ht]
theorem kitx_exc {K : PySem.W.Frag} {x C : Addr} {bm : List Value} (c : XAt K C bm) (gt : XGet K C) (is : XIsi K C) : PySem.W.KitX K (.ref x) (.ref C) (fun h => ∃ ox od, PySem.W.InstAt h x ox C od) where
  ty := fun _ _ _ ⟨_, _, I⟩ => I.type
  it := fun _ _ X _ => by
    obtain ⟨nm, q, N, bs, sn, sub, ab, col, dd, k0, k1, k2, k3, k5, lk⟩ := c.at_
    intro A' Q' E' s' k q
    unfold isType loadHead
    exact wpAny_bind (wpAny_loadPart (k _ _ (X _ _ lk)) (wpAny_pure q))
  ne := fun h tp dd its n sl X htp => by
    obtain ⟨nm, q, N, bs, sn, sub, ab, col, dd', k0, k1, k2, k3, k5, lk⟩ := c.at_
    refine Bool.eq_false_iff.mpr fun z => ?_
    have e : C = tp := Value.ref.inj (beq_iff_eq.mp z)
    subst e
    have z := congrArg Obj.data (Option.some.inj ((X _ _ lk).symm.trans htp))
    cases z
  ca := fun {prog w A E Q s} X ⟨ox, od, I⟩ k => by
    obtain ⟨hp, g, d, t, os⟩ := s
    have ho : (Value.ref C :: bm).contains (.type "object") = true := by rw [List.contains_cons, c.tl.has (by decide +kernel : vE.contains (.type "object") = true), Bool.or_true]
    obtain ⟨cd, hc, _, hd'⟩ := c.cls
    exact classX X c I gt (findObj_dataX hc is.ha is.hn is.htk) (by rw [c.mro, ho]) k
section
variable {X : Cx}
theorem inst_exc {pins : List (Addr × Obj)} {σ : St} {H : Hp} {s : Shared} {e C : Addr} {od : Option Addr} (I : Inv X pins σ H s) (he : H e = some (.ext (ExcO e C od))) (hd : ∀ d, od = some d → ∃ o, H d = some o) : ∃ ox od', PySem.W.InstAt s.heap e ox C od' := by
  obtain ⟨⟨oe, vs, hx, hcl, hdn, hdat⟩, _, _⟩ := I.hok e _ he
  cases od with
  | none => exact ⟨oe, none, hx, hcl, by unfold PySem.W.notCls; rw [hdat], by rw [hdn]; trivial⟩
  | some d =>
    obtain ⟨o, ho⟩ := hd d rfl
    obtain ⟨u, hu⟩ := (I.hok d o ho).thereX
    exact ⟨oe, some u, hx, hcl, by unfold PySem.W.notCls; rw [hdat], by rw [hdn]; exact hu⟩
inductive ClsV : V → Value → Prop
  | own (D : Addr) : ClsV (.ref D) (.ref D)
  | ty (T : String) : ClsV (.ty T) (.type T)
theorem ClsV.rel {y : V} {c u : Value} (h : ClsV y c) (r : RelV y u) : u = c := by
  cases h with
  | own D => exact r
  | ty T => exact r
def rIsX (K : PySem.W.Frag) : List V → Hp → VK → Prop := fun xs H Q => ∃ (e C : Addr) (bm : List Value) (od : Option Addr) (y : V) (c : Value) (b : Bool), xs = [.ref e, y] ∧ H e = some (.ext (ExcO e C od)) ∧ (∀ d, od = some d → ∃ o, H d = some o) ∧ XAt K C bm ∧ XGet K C ∧ XIsi K C ∧ ClsV y c ∧ PySem.W.kitOne K (.ref C) c = some b ∧ Q (.bl b) H
theorem call_isX : CallR X (.builtin "isinstance") (rIsX X.K) := by
  intro pins s σ H xs us Q I r h
  obtain ⟨e, C, bm, od, y, c, b, rfl, he, hd, xa, xg, xi, cv, ek, q⟩ := h
  obtain ⟨u, v, rfl, rx, ry⟩ := vals2 r
  obtain rfl : u = Value.ref e := rx
  obtain rfl := cv.rel ry
  obtain ⟨ox, od', J⟩ := inst_exc I he hd
  exact PySem.W.kia_one (kitx_exc xa xg xi) I.kIn ⟨ox, od', J⟩ ek (fun z => nomatch z) fun tk => ⟨.bl b, H, I.tok tk, rfl, q⟩
theorem vals_refsX : ∀ {Ds : List Addr} {its : List Value}, Vals (Ds.map V.ref) its → its = Ds.map Value.ref
  | [], _, .nil => rfl
  | a :: Ds, _, .cons ru rr => by rw [List.map_cons, ← vals_refsX rr]; cases ru; rfl
def rIsT (K : PySem.W.Frag) : List V → Hp → VK → Prop := fun xs H Q => ∃ (e C tp : Addr) (bm : List Value) (od : Option Addr) (Ds : List Addr) (b : Bool), xs = [.ref e, .ref tp] ∧ H e = some (.ext (ExcO e C od)) ∧ (∀ d, od = some d → ∃ o, H d = some o) ∧ XAt K C bm ∧ XGet K C ∧ XIsi K C ∧ H tp = some (.tup (Ds.map V.ref)) ∧ PySem.W.kitAny K (.ref C) (Ds.map Value.ref) = some b ∧ Q (.bl b) H
theorem call_isT : CallR X (.builtin "isinstance") (rIsT X.K) := by
  intro pins s σ H xs us Q I r h
  obtain ⟨e, C, tp, bm, od, Ds, b, rfl, he, hd, xa, xg, xi, ht, ek, q⟩ := h
  obtain ⟨u, v, rfl, rx, ry⟩ := vals2 r
  obtain rfl : u = Value.ref e := rx
  obtain rfl : v = Value.ref tp := ry
  obtain ⟨ox, od', J⟩ := inst_exc I he hd
  obtain ⟨_, its, rv, o, h1, h2, h3, n, h4⟩ := (show ObjOk X.prog X.w H s.heap tp (.tup (Ds.map V.ref)) from I.hok tp _ ht)
  have e1 := vals_refsX rv
  subst e1
  obtain ⟨oc, odd, oda, osl⟩ := o
  dsimp only at h2 h3 h4
  subst h2 h3 h4
  exact PySem.W.kia_tup (kitx_exc xa xg xi) I.kIn ⟨ox, od', J⟩ h1 ek (fun z => nomatch z) fun tk => ⟨.bl b, H, I.tok tk, rfl, q⟩
end
theorem kit_self {K : PySem.W.Frag} {C : Addr} : PySem.W.kitOne K (.ref C) (.ref C) = some true := by unfold PySem.W.kitOne; simp
theorem kit_own {K : PySem.W.Frag} {C D : Addr} {bm bmD : List Value} (c : XAt K C bm) (cD : XAt K D bmD) : PySem.W.kitOne K (.ref C) (.ref D) = some ((Value.ref C :: bm).contains (.ref D)) := by
  unfold PySem.W.kitOne
  by_cases h : C = D
  · subst h; simp
  · rw [if_neg (by simpa using h)]
    obtain ⟨nm, q, N, bs, sn, sub, ab, col, dd, k0, k1, k2, k3, k5, lk⟩ := cD.at_
    obtain ⟨cd, hc, _, _⟩ := cD.cls
    unfold PySem.W.kitCls
    have e1 : PySem.W.typeIn K (.ref D) = some (.type "type") := by show (K.lookup D).map (·.cls) = _; rw [lk]; rfl
    dsimp only
    rw [hc, e1, if_pos (by simp)]
    exact c.mro _
theorem kit_val {K : PySem.W.Frag} {C : Addr} {bm : List Value} (c : XAt K C bm) : PySem.W.kitOne K (.ref C) (.type "ValueError") = some true := by
  unfold PySem.W.kitOne
  rw [if_neg (by simp)]
  unfold PySem.W.kitCls
  dsimp only
  rw [if_pos (by decide +kernel)]
  show PySem.W.mroIn K C (.type "ValueError") = some true
  rw [c.mro, List.contains_cons, c.tl.has (by decide +kernel : vE.contains (.type "ValueError") = true), Bool.or_true]
end L2
set_option maxHeartbeats 4000000
namespace L2
open PySem PySem.Spec PyProof.Rows
def tMkX (C : Addr) (sp : Sp) (t : TA) : TE := fun σ H Q => t σ H fun vs H1 => vs.length ≤ 1000 ∧ ∀ ex tt, H1 ex = none → sp (.ref ex :: vs) (upd H1 ex (.ext (ExcV ex C none (xvs tt))))
  (fun v H2 => v = .non ∧ ∃ od, H2 ex = some (.ext (ExcV ex C od (xvs tt))) ∧ Q (.ref ex) (upd H2 ex (.ext (ExcO ex C od)))) E0
section
variable {X : Cx} {k : Nat} {f C : Addr} {fd : FuncData} {ps : List Str} {sp : Sp} {x m : Str} {p pos apos rpos : Pos} {e o : Expr} {es : List Expr} {ta : TE} {t : TA} {bm : List Value}
theorem pe_mkX (c : XCls X.K C bm) (hi : PySem.W.findIn X.K (.ref C) "__init__" = some (some (.ref f))) (hf : PySem.W.isFn X.K (.ref f) = true) (F : FnOk X.prog X.w X.K X.mg X.base CX0 k f fd ps sp) (hr : Room (k + 1) X.A) (hg : Gl X x) (hm : X.mg x = some (.ref C)) (hb : Binds X.K fd ps [])
    (ha : PA X (e :: es) t) (hdb : (x == ("__debug__" : Str)) = false := by decide) (he : starEach (e :: es) X.env = (false, eval e X.env) :: starEach es X.env := by rfl) (hpl : (backTo pos (starEach es X.env)).any (·.1) = false := by rfl) :
    PE X (.Call (.Name x p) (e :: es) [] pos) (tMkX C sp t) := by
  intro pins s σ H Q I h
  refine wpAny_Call_Name_kw (ld_glob I hg hm ?_ hdb)
  refine PySem.W.callWith_K (h₀ := X.base) I.ok.mod.kin c.kp (wpAny_mono (ha pos pins s σ H _ I h) (fun us s1 ⟨vs, H1, I1, r, hlen, q⟩ => ⟨I1.kIn, ?_⟩) fun _ _ z => z) he hpl
  obtain ⟨h1, g1, d1, t1, o1⟩ := s1
  have hul : us.length ≤ sizeLine := by rw [← r.length, sizeLine_eq]; exact Nat.le_trans hlen (by decide)
  refine exc_call (h := h1) I1.kIn c.toXAt hi hf (by simpa using hul) ?_
  have hq := q (h1.objs.size + 1) h1.objs.size (I1.hok.fresh (Nat.le_succ _))
  have hget : ((h1.push { cls := .type "tuple", data := .seq us.toArray }).push { cls := .ref C, data := .fields #[.ref h1.objs.size, .none, .none, .none, .bool false, .none] }).get? (h1.objs.size + 1) = some { cls := .ref C, data := .fields #[.ref h1.objs.size, .none, .none, .none, .bool false, .none] } := by heap_get
  have kk : ∀ b o, h1.get? b = some o → ((h1.push { cls := .type "tuple", data := .seq us.toArray }).push { cls := .ref C, data := .fields #[.ref h1.objs.size, .none, .none, .none, .bool false, .none] }).get? b = some o := fun b o e => Heap.get?_push_of_some _ (Heap.get?_push_of_some _ e)
  have I2 : Inv X pins σ (upd H1 (h1.objs.size + 1) (.ext (ExcV (h1.objs.size + 1) C none (xvs h1.objs.size)))) ⟨(h1.push { cls := .type "tuple", data := .seq us.toArray }).push { cls := .ref C, data := .fields #[.ref h1.objs.size, .none, .none, .none, .bool false, .none] }, g1, d1, t1, o1⟩ :=
    I1.laid (a := h1.objs.size + 1) (t' := t1) kk (Nat.le_succ _) (ExcV.ok ⟨_, hget, rfl, rfl, rfl⟩)
  have r2 : Vals (V.ref (h1.objs.size + 1) :: vs) (Value.ref (h1.objs.size + 1) :: us) := .cons rfl r
  have hl : (Value.ref (h1.objs.size + 1) :: us ++ []).length = ps.length := by
    rw [List.append_nil, ← r2.length]; exact F.len _ _ _ _ hq
  show wpAny _ _ (call (.ref f) (Value.ref (h1.objs.size + 1) :: us)) _ _ _
  refine wpAny_call (codeAny_mono (F.run _ X.stack _ _ ⟨Value.ref (h1.objs.size + 1) :: us, []⟩ (Value.ref (h1.objs.size + 1) :: us ++ []) _ _ E0 (hr.make C us []) (I2.env0.make C us []) (hb _ (Value.ref (h1.objs.size + 1) :: us) I2.kIn hl) (by rw [List.append_nil]; exact r2) hq) fun r s' hq' => ?_)
  cases r with
  | error e => exact False.elim hq'
  | ok fl =>
    cases fl with
    | next => exact False.elim hq'
    | brk => exact False.elim hq'
    | cont => exact False.elim hq'
    | ret u =>
      obtain ⟨v, H', os, bare, un, hok, rv, ev, od, hex, hE⟩ := hq'
      subst ev
      refine ⟨rv, ?_⟩
      obtain ⟨⟨oe, z1, z2, z3, z4⟩, _, _⟩ := hok _ _ hex
      have un' : Un (frs X.stack) [] H1 (upd H' (h1.objs.size + 1) (.ext (ExcO (h1.objs.size + 1) C od))) h1 s'.heap := ((Un.laid kk (Nat.le_succ _) (I1.hok.fresh (Nat.le_succ _))).trans un).trans (Un.write (x := h1.objs.size + 1) (e := h1.objs.size + 1) (by rw [hex]; exact True.intro) (.inl rfl) (fun b u _ q => q) ⟨_, z1⟩)
      have hok' : HOk X.prog X.w (upd H' (h1.objs.size + 1) (.ext (ExcO (h1.objs.size + 1) C od))) s'.heap := hok.write (x := h1.objs.size + 1) (e := h1.objs.size + 1) (by rw [hex]; exact True.intro) (.inl rfl) (fun b u _ q => q) ⟨_, z1⟩ (ExcO.ok ⟨oe, _, z1, z2, z3, z4⟩)
      exact ⟨.ref (h1.objs.size + 1), _, I1.call' os un' hok' bare (fun b z => absurd z (by simp)), rfl, hE⟩
end
theorem op_fdivW {X : Cx} : OpR X (binaryOp .FloorDiv) (rI (fun _ j => 0 < j ∧ j < 2 ^ 200) fun i j => .int (i / j)) := opI fun i j _ _ _ _ _ hc q => by
  have h1 : (0 : Int) < j := hc.1
  have h2 : j < 2 ^ 200 := hc.2
  exact floordiv_int (by omega) (by rw [Int.fdiv_eq_ediv_of_nonneg i (by omega)]; exact q) (.inl (PyProof.noPylong_of_log2 (PySem.Flt.log2_lt_of (by decide) (Nat.lt_of_lt_of_le (show j.natAbs < 2 ^ 200 by omega) (Nat.pow_le_pow_right (by decide) (by decide))))))
section
variable {X : Cx} {K : PySem.W.Frag} {T : String} {name : Str} {id : String} {r : V → List V → Hp → VK → Prop} {o e : Expr} {es : List Expr} {apos cpos : Pos} {to : TE} {t : TA}
theorem pe_bmK (hK : X.K = K) (pa : PlainAttrs T) (slot : Slot T name id) (hty : typeOf (.builtin id) = pure (.type "method_descriptor")) (hm : MtR X id r) (ho : PE X o to) (ha : PA X (e :: es) t)
    (hbase : attributeBase o name X.env (eval o X.env) = eval o X.env := by rfl)
    (hfew : ((backTo cpos (starEach (e :: es) X.env)).all (fun x => !x.1) && (backToKw cpos (keywordEach [] X.env)).all (fun x => x.1.isSome)
      && decide ((e :: es).length + ([] : List Keyword).length + (if ([] : List Keyword).isEmpty then 0 else 1) < 30)) = true := by rfl)
    (hline : (apos.endLine == cpos.line) = true := by rfl) (hs : starEach (e :: es) X.env = (false, eval e X.env) :: starEach es X.env := by rfl) (hplain : (backTo cpos (starEach es X.env)).any (·.1) = false := by rfl) :
    PE X (.Call (.Attribute o name apos) (e :: es) [] cpos) (tBM K T r to t) := by
  subst hK
  exact pe_bm pa slot hty hm ho ha hbase hfew hline hs hplain
theorem pe_xfK {f : Str} {pos : Pos} (hK : X.K = K) (he : PE X e to) (hb : attributeBase e f X.env (eval e X.env) = eval e X.env := by rfl) : PE X (.Attribute e f pos) (tXf K to f) := by
  subst hK
  exact pe_xf he hb
end
end L2
set_option maxHeartbeats 1000000
namespace Rp
open PySem L2 PySem.Spec PyProof.Rows PySem.P
mutual
inductive RepF (H : Hp) : Bool → V → PyData → Prop
  | non {f : Bool} : RepF H f .non .none
  | bl {f : Bool} (b : Bool) : RepF H f (.bl b) (.bool b)
  | int {f : Bool} (i : Int) : RepF H f (.int i) (.int i)
  | str {f : Bool} (x : Str) : RepF H f (.str x) (.str x)
  | tup {f : Bool} {a : Addr} {xs : List V} {ds : List PyData} : H a = some (.tup xs) → RepFs H f xs ds → RepF H f (.ref a) (.tuple ds)
  | lst {a : Addr} {xs : List V} {ds : List PyData} : H a = some (.lst xs) → RepFs H false xs ds → RepF H false (.ref a) (.list ds)
  | dct {a : Addr} : H a = some (.dK []) → RepF H true (.ref a) (.dict [])
  | dc1 {a : Addr} {x : Str} {i : Int} : H a = some (.dK [(.inr x, .int i)]) → RepF H true (.ref a) (.dict [(.str x, .int i)])
inductive RepFs (H : Hp) : Bool → List V → List PyData → Prop
  | nil {f : Bool} : RepFs H f [] []
  | cons {f : Bool} {x : V} {xs : List V} {d : PyData} {ds : List PyData} : RepF H f x d → RepFs H f xs ds → RepFs H f (x :: xs) (d :: ds)
end
mutual
theorem RepF.same {H H' : Hp} (s : Same H H') : ∀ {f : Bool} {v : V} {d : PyData}, RepF H f v d → RepF H' f v d
  | _, _, _, .non => .non
  | _, _, _, .bl b => .bl b
  | _, _, _, .int i => .int i
  | _, _, _, .str x => .str x
  | _, _, _, .tup e h => .tup (s _ _ e) (RepFs.same s h)
  | _, _, _, .lst e h => .lst (s _ _ e) (RepFs.same s h)
  | _, _, _, .dct e => .dct (s _ _ e)
  | _, _, _, .dc1 e => .dc1 (s _ _ e)
theorem RepFs.same {H H' : Hp} (s : Same H H') : ∀ {f : Bool} {vs : List V} {ds : List PyData}, RepFs H f vs ds → RepFs H' f vs ds
  | _, _, _, .nil => .nil
  | _, _, _, .cons h t => .cons (RepF.same s h) (RepFs.same s t)
end
mutual
theorem RepF.reads {X : Cx} {pins : List (Addr × Obj)} {σ : L2.St} {H : Hp} {s : Shared} (I : Inv X pins σ H s) : ∀ {f : Bool} {v : V} {d : PyData} {u : Value}, RepF H f v d → RelV v u → ∃ as, Reads s.heap u d as ∧ (f = true → sysModules ∉ as)
  | _, _, _, _, .non, r => by cases r; exact ⟨_, .none, fun _ => by simp⟩
  | _, _, _, _, .bl b, r => by cases r; exact ⟨_, .bool b, fun _ => by simp⟩
  | _, _, _, _, .int i, r => by obtain ⟨t, rfl⟩ := r; exact ⟨_, .int i t, fun _ => by simp⟩
  | _, _, _, _, .str x, r => by obtain ⟨t, rfl⟩ := r; exact ⟨_, .str x t, fun _ => by simp⟩
  | _, _, _, _, .tup e h, r => by
    cases r
    obtain ⟨_, its, rv, o, e1, e2, _, n, e3⟩ := I.hok _ _ e
    obtain ⟨as, q, na⟩ := RepFs.reads I h rv
    exact ⟨as, .tuple e1 e2 e3 (by simpa using q), na⟩
  | _, _, _, _, .lst e h, r => by
    cases r
    obtain ⟨_, its, n, rv, e1⟩ := I.hok _ _ e
    obtain ⟨as, q, na⟩ := RepFs.reads I h rv
    exact ⟨_, .list e1 rfl rfl (by simpa using q), fun z => by cases z⟩
  | _, _, _, _, .dct (a := a) e, r => by
    cases r
    obtain ⟨_, ns, vs, kv, o, es, ep, e1, ex, e3, _, pr, _⟩ := I.hok _ _ e
    have hv : vs = [] := by cases kv; rfl
    subst hv
    have he : es.toList = [] := by
      have := pr.length
      simpa using this
    refine ⟨a :: [] ++ [], .dict (kvs := []) e1 ex.1 e3 (by rw [he]; exact .nil) (by rw [he]; exact .nil), fun _ => ?_⟩
    have : a ≠ sysModules := by simpa using ns
    simpa using this.symm
  | _, _, _, _, .dc1 (a := a) (x := x) (i := i) e, r => by
    cases r
    obtain ⟨_, ns, vs, kv, o, es, ep, e1, ex, e3, _, pr, _⟩ := I.hok _ _ e
    obtain ⟨u, hv, t', hu⟩ : ∃ u, vs = [(Sum.inr x, u)] ∧ ∃ t, u = Value.int i t := by
      cases kv with
      | @cons _ b _ _ r1 r2 =>
        cases r2
        obtain ⟨b1, b2⟩ := b
        obtain ⟨z, r1⟩ := r1
        cases z
        exact ⟨_, rfl, r1⟩
    subst hv
    generalize hes : es.toList = el at pr
    cases pr with
    | @cons en _ el _ h1 h2 h3 =>
      cases h3
      obtain ⟨t, ht⟩ : ∃ t, en.key = Value.str x t := by
        rcases keyIs_shape (k := Sum.inr x) (v := en.key) h1 with ⟨_, _, z, _⟩ | ⟨y, t, z, e'⟩
        · cases z
        · cases z; exact ⟨t, e'⟩
      refine ⟨a :: ([] ++ []) ++ ([] ++ []), .dict (kvs := [(.str x, .int i)]) e1 ex.1 e3 ?_ ?_, fun _ => ?_⟩
      · rw [hes]; show ReadsAll s.heap [en.key] [.str x] _; rw [ht]; exact .cons (.str x t) .nil
      · rw [hes]; show ReadsAll s.heap [en.val] [.int i] _; rw [h2, hu]; exact .cons (.int i t') .nil
      · have : a ≠ sysModules := by simpa using ns
        simpa using this.symm
theorem RepFs.reads {X : Cx} {pins : List (Addr × Obj)} {σ : L2.St} {H : Hp} {s : Shared} (I : Inv X pins σ H s) : ∀ {f : Bool} {vs : List V} {ds : List PyData} {us : List Value}, RepFs H f vs ds → Vals vs us → ∃ as, ReadsAll s.heap us ds as ∧ (f = true → sysModules ∉ as)
  | _, _, _, _, .nil, r => by cases r; exact ⟨_, .nil, fun _ => by simp⟩
  | _, _, _, _, .cons h t, r => by
    cases r with
    | cons r1 r2 =>
      obtain ⟨as, q1, n1⟩ := RepF.reads I h r1
      obtain ⟨bs, q2, n2⟩ := RepFs.reads I t r2
      exact ⟨_, .cons q1 q2, fun z => by simp [n1 z, n2 z]⟩
end
mutual
theorem RepF.nodict {H : Hp} : ∀ {v : V} {d : PyData}, RepF H false v d → d.hasDict = false
  | _, _, .non => rfl
  | _, _, .bl _ => rfl
  | _, _, .int _ => rfl
  | _, _, .str _ => rfl
  | _, _, .tup _ h => by rw [PyData.hasDict]; exact RepFs.nodict h
  | _, _, .lst _ h => by rw [PyData.hasDict]; exact RepFs.nodict h
theorem RepFs.nodict {H : Hp} : ∀ {vs : List V} {ds : List PyData}, RepFs H false vs ds → PyData.hasDictAll ds = false
  | _, _, .nil => rfl
  | _, _, .cons h t => by rw [PyData.hasDictAll, RepF.nodict h, RepFs.nodict t]; rfl
end
end Rp
namespace L2
open PySem PySem.Spec PyProof.Rows Rp PySem.P
section
variable {X : Cx}
theorem call_reprF (hu : X.A.units + 64 < cLine) (hg : X.A.guards = some []) : CallR X (.builtin "repr") (fun xs H Q => ∃ (v : V) (d : PyData) (f : Bool), xs = [v] ∧ RepF H f v d ∧ d.showable = true ∧ d.depth ≤ 20 ∧ d.shown.length ≤ sizeLine ∧ Q (.str d.shown) H) := by
  intro pins s σ H xs us Q I r h
  obtain ⟨v, d, f, rfl, hp, h1, h3, h4, q⟩ := h
  obtain ⟨u, rfl, rx⟩ := vals1 r
  have hr := hp.reads I rx
  cases hp with
  | non => cases rx; exact repr_of_none ⟨.str _, H, I.tok _, ⟨_, rfl⟩, q⟩
  | bl b => cases rx; exact repr_of_bool ⟨.str _, H, I.tok _, ⟨_, rfl⟩, by cases b <;> exact q⟩
  | int i =>
    obtain ⟨t, rfl⟩ := rx
    exact repr_of_int (by simpa [PyData.showable] using h1) ⟨.str _, H, I.tok _, ⟨_, rfl⟩, q⟩
  | str x =>
    obtain ⟨t, rfl⟩ := rx
    exact repr_of_str ⟨.str _, H, I.tok _, ⟨_, rfl⟩, q⟩ h4
  | tup e h =>
    have hp : RepF H f _ _ := .tup e h
    cases rx
    obtain ⟨as, r1, na⟩ := hr
    refine repr_of_reads' r1 h1 (fun hd => ?_) hg (by omega) (fun _ _ e => e) (fun h' u tk hk => ⟨.str _, H, I.kept hk, ⟨u, rfl⟩, q⟩) h4
    cases f with
    | true => exact na rfl
    | false => rw [hp.nodict] at hd; cases hd
  | lst e h =>
    have hp : RepF H false _ _ := .lst e h
    cases rx
    obtain ⟨as, r1, na⟩ := hr
    exact repr_of_reads' r1 h1 (fun hd => by rw [hp.nodict] at hd; cases hd) hg (by omega) (fun _ _ e => e) (fun h' u tk hk => ⟨.str _, H, I.kept hk, ⟨u, rfl⟩, q⟩) h4
  | dct e =>
    cases rx
    obtain ⟨as, r1, na⟩ := hr
    exact repr_of_reads' r1 h1 (fun _ => na rfl) hg (by omega) (fun _ _ e => e) (fun h' u tk hk => ⟨.str _, H, I.kept hk, ⟨u, rfl⟩, q⟩) h4
  | dc1 e =>
    cases rx
    obtain ⟨as, r1, na⟩ := hr
    exact repr_of_reads' r1 h1 (fun _ => na rfl) hg (by omega) (fun _ _ e => e) (fun h' u tk hk => ⟨.str _, H, I.kept hk, ⟨u, rfl⟩, q⟩) h4
theorem call_strI : CallR X (.type "str") (fun xs H Q => ∃ i : Int, xs = [.int i] ∧ i.natAbs.log2 < 1920 ∧ Q (.str (toString i : String)) H) := by
  intro pins s σ H xs us Q I r h
  obtain ⟨i, rfl, h1, q⟩ := h
  obtain ⟨u, rfl, ⟨t, rfl⟩⟩ := vals1 r
  exact str_of_int h1 ⟨.str _, H, I.tok _, ⟨_, rfl⟩, q⟩
end
end L2
namespace Rp
open PySem L2
structure Fine (n k : Nat) (d : PyData) : Prop where
  sh : d.showable = true
  ln : d.shown.length ≤ n
  dp : d.depth ≤ k
theorem Fine.mono {n k n' k' : Nat} {d : PyData} (h : Fine n k d) (h1 : n ≤ n') (h2 : k ≤ k') : Fine n' k' d := ⟨h.sh, Nat.le_trans h.ln h1, Nat.le_trans h.dp h2⟩
theorem len_of (s : String) : (Str.ofString s).length = s.toList.length := by
  rw [Str.ofString_eq_toList]
  simp [Str.length]
theorem int_len {i : Int} (h : i.natAbs < 10 ^ 45) : ((toString i : String) : Str).length ≤ 46 := by
  show (Str.ofString (toString i)).length ≤ 46
  rw [len_of]
  cases i with
  | ofNat n =>
    have := PySem.Flt.repr_len (k := 45) (by decide) (show n < 10 ^ 45 from h)
    show (Nat.repr n).toList.length ≤ 46
    omega
  | negSucc n =>
    have := PySem.Flt.repr_len (k := 45) (by decide) (show n + 1 < 10 ^ 45 from h)
    show (("-" : String) ++ Nat.repr (n + 1)).toList.length ≤ 46
    rw [String.toList_append, List.length_append]
    have e : ("-" : String).toList.length = 1 := by decide
    omega
theorem int_log {i : Int} (h : i.natAbs < 10 ^ 45) : i.natAbs.log2 < 1920 := by
  refine PySem.Flt.log2_lt_of (by decide) (Nat.lt_of_lt_of_le h ?_)
  exact Nat.le_trans (show (10 : Nat) ^ 45 ≤ 2 ^ 200 by decide +kernel) (Nat.pow_le_pow_right (by decide) (by decide))
theorem Fine.int {i : Int} (h : i.natAbs < 10 ^ 45) : Fine 46 0 (.int i) := ⟨by simpa [PyData.showable] using int_log h, int_len h, Nat.le_refl _⟩
theorem Fine.non : Fine 46 0 .none := ⟨rfl, by show (Str.ofString "None").length ≤ 46; rw [len_of]; decide, Nat.le_refl _⟩
theorem Fine.bl (b : Bool) : Fine 46 0 (.bool b) := ⟨rfl, by cases b <;> (show (Str.ofString _).length ≤ 46; rw [len_of]; decide), Nat.le_refl _⟩
theorem Fine.nil : Fine 46 0 (.str "") := ⟨rfl, by
  refine Nat.le_trans (PySem.StrLaws.reprText_len _ fun c hc => ?_) ?_
  · simp [Str.ofString_eq_toList] at hc
  · show 10 * (Str.ofString "").length + 2 ≤ 46
    rw [len_of]; decide, Nat.le_refl _⟩
theorem char_lt (c : Char) : c.toNat < 16 ^ 8 := by
  have := c.val.toBitVec.isLt
  exact Nat.lt_of_lt_of_le this (by decide)
theorem Fine.digits {i : Int} (h : i.natAbs < 10 ^ 45) : Fine 500 0 (.str (toString i : String)) := ⟨rfl, by
  refine Nat.le_trans (PySem.StrLaws.reprText_len _ fun c hc => ?_) ?_
  · have hc : c ∈ (Str.ofString (toString i)).cps.toList := hc
    rw [Str.ofString_eq_toList] at hc
    simp only [List.mem_map] at hc
    obtain ⟨ch, _, rfl⟩ := hc
    exact char_lt ch
  · have := int_len h
    omega, Nat.le_refl _⟩
theorem all_fine {n k : Nat} : ∀ {ds : List PyData}, (∀ d ∈ ds, Fine n k d) → PyData.showableAll ds = true ∧ ((PyData.shownAll ds).map (·.length)).sum ≤ n * ds.length ∧ (PyData.shownAll ds).length = ds.length ∧ PyData.depthAll ds ≤ k
  | [], _ => ⟨rfl, by simp [PyData.shownAll], rfl, by simp [PyData.depthAll]⟩
  | d :: ds, h => by
    obtain ⟨a, b, c, e⟩ := all_fine fun d' hd => h d' (List.mem_cons_of_mem _ hd)
    obtain ⟨h1, h2, h3⟩ := h d List.mem_cons_self
    refine ⟨by rw [PyData.showableAll, h1, a]; rfl, ?_, by rw [PyData.shownAll, List.length_cons, c, List.length_cons], by rw [PyData.depthAll]; omega⟩
    rw [PyData.shownAll, List.map_cons, List.sum_cons, List.length_cons, Nat.mul_succ]
    omega
theorem Fine.tup {n k l : Nat} {ds : List PyData} (h : ∀ d ∈ ds, Fine n k d) (hl : ds.length ≤ l) : Fine (n * l + 2 * l + 3) (k + 1) (.tuple ds) := by
  obtain ⟨a, b, c, e⟩ := all_fine h
  have q := tupleText_len_le (PyData.shownAll ds)
  have m1 := Nat.mul_le_mul_left n hl
  exact ⟨by rw [PyData.showable]; exact a, by rw [PyData.shown]; omega, by rw [PyData.depth]; omega⟩
theorem Fine.lst {n k l : Nat} {ds : List PyData} (h : ∀ d ∈ ds, Fine n k d) (hl : ds.length ≤ l) : Fine (n * l + 2 * l + 3) (k + 1) (.list ds) := by
  obtain ⟨a, b, c, e⟩ := all_fine h
  have q := listText_len_le (PyData.shownAll ds)
  have m1 := Nat.mul_le_mul_left n hl
  exact ⟨by rw [PyData.showable]; exact a, by rw [PyData.shown]; omega, by rw [PyData.depth]; omega⟩
theorem Fine.dct : Fine 46 1 (.dict []) := ⟨rfl, by show (dictText []).length ≤ 46; decide +kernel, by simp [PyData.depth, PyData.depthKv]⟩
theorem Fine.dc1 {i : Int} (h : i.natAbs < 10 ^ 45) : Fine 500 1 (.dict [(.str "a", .int i)]) := by
  have hi := Fine.int h
  have ha : Fine 12 0 (.str ("a" : Str)) := ⟨rfl, by decide +kernel, Nat.le_refl _⟩
  refine ⟨?_, ?_, ?_⟩
  · simp only [PyData.showable, PyData.showableKv]; simpa [PyData.showable] using int_log h
  · have h1 := hi.ln
    have h2 := ha.ln
    have q := dictText_len_le [PyData.shown (.str ("a" : Str)) ++ ": " ++ PyData.shown (.int i)]
    have e : (PyData.shown (.str ("a" : Str)) ++ ": " ++ PyData.shown (.int i)).length = (PyData.shown (.str ("a" : Str))).length + 2 + (PyData.shown (.int i)).length := by rw [strLen_append, strLen_append]; rfl
    simp only [List.map_cons, List.map_nil, List.sum_cons, List.sum_nil, List.length_cons, List.length_nil] at q
    show (dictText [PyData.shown (.str ("a" : Str)) ++ ": " ++ PyData.shown (.int i)]).length ≤ 500
    omega
  · have h1 := hi.dp
    have h2 := ha.dp
    simp only [PyData.depth, PyData.depthKv] at *
    omega
end Rp
set_option maxHeartbeats 4000000
namespace PySem
open Sem (wp)
end PySem
namespace L2
open PySem PySem.Spec PyProof.Rows
end L2
set_option maxHeartbeats 4000000
namespace K19
open PySem L2 Wk
def top (i : Nat) : Stmt := PySem.Challenge.pw_joinedever_k19_marks_refused.main.body.getD i (.Pass ⟨0, 0, 0, 0⟩)
def meth (i j : Nat) : Stmt := match top i with
  | .ClassDef (body := b) .. => b.getD j (.Pass ⟨0, 0, 0, 0⟩)
  | s => s
abbrev sWhole : Stmt := top 8
abbrev sWithin : Stmt := top 9
abbrev sStays : Stmt := top 11
abbrev sJp : Stmt := top 12
abbrev sInit : Stmt := meth 13 0
abbrev sJoin : Stmt := meth 13 1
abbrev sTop : Stmt := meth 13 2
abbrev sSide : Stmt := meth 13 3
abbrev sSize : Stmt := meth 13 4
abbrev sParts : Stmt := meth 13 5
abbrev sOdd : Stmt := meth 13 6
abbrev sJoins : Stmt := meth 13 7
abbrev sShown : Stmt := meth 13 8
abbrev sBack : Stmt := meth 13 9
abbrev sNInit : Stmt := meth 4 0
abbrev sCell : Stmt := top 15
abbrev sOpened : Stmt := top 16
abbrev sDraw : Stmt := top 17
abbrev sRare : Stmt := top 18
abbrev sTwo : Stmt := top 19
abbrev sRefused : Stmt := top 20
abbrev sOdds : Stmt := top 21
abbrev sTold : Stmt := top 22
abbrev sRight : Stmt := top 23
abbrev sLaw : Stmt := top 24
structure Txt (K : PySem.W.Frag) (mg : Str → Option Value) (C I N J B : Addr) : Prop where
  cl : Cls K C
  nS : NoAttr K C "states"
  mkC : Mk K C I
  mgC : mg "Takes" = some (.ref C)
  xN : XCls K N (.ref B :: vE)
  xB : XAt K B vE
  nT : NoAttr K N "thing"
  iN : PySem.W.findIn K (.ref N) "__init__" = some (some (.ref J))
  fN : PySem.W.isFn K (.ref J) = true
  mgN : mg "NoMark" = some (.ref N)
  mgB : mg "TieError" = some (.ref B)
  xg : XGet K N
  xi : XIsi K N
  oth : ∃ d1 d2 d3 d4 : Addr, mg "NoDeed" = some (.ref d1) ∧ mg "NoHistory" = some (.ref d2) ∧ mg "NoRow" = some (.ref d3) ∧ mg "NoText" = some (.ref d4) ∧ PySem.W.kitAny K (.ref N) [.ref d1, .ref d2, .ref d3, .ref d4] = some false
  isinstance : mg "isinstance" = none
  int : mg "int" = none
  bool : mg "bool" = none
  tuple : mg "tuple" = none
  len : mg "len" = none
  range : mg "range" = none
  str : mg "str" = none
  max : mg "max" = none
  min : mg "min" = none
  zip : mg "zip" = none
  enumerate : mg "enumerate" = none
  repr : mg "repr" = none
  ValueError : mg "ValueError" = none
structure S3 where
  tops : List Int
  sides : List Int
  odds : Int
def staysB (tops : List Int) (a b : Int) : Bool := decide (0 < (tops.count a : Int) - (tops.count b : Int)) || (decide ((tops.count a : Int) - (tops.count b : Int) = 0) && decide (a < b))
def newTops (tops : List Int) (kept taken : Int) : List Int := tops.map fun t => if t = taken then kept else t
def newSides (tops sides : List Int) (taken turn : Int) : List Int := List.zipWith (fun t s => if t = taken then Builtin.bitXor s turn else s) tops sides
def kt (tops : List Int) (a b : Int) : Int × Int := if staysB tops a b then (a, b) else (b, a)
def turnOf (s t : Int) : Int := if s = t then 1 else 0
def joinS (st : S3) (i j : Nat) : S3 × Bool :=
  let a := st.tops.getD i 0
  let b := st.tops.getD j 0
  if a = b then (⟨st.tops, st.sides, st.odds + turnOf (st.sides.getD i 0) (st.sides.getD j 0)⟩, false)
  else (⟨newTops st.tops (kt st.tops a b).1 (kt st.tops a b).2, newSides st.tops st.sides (kt st.tops a b).2 (turnOf (st.sides.getD i 0) (st.sides.getD j 0)), st.odds⟩, true)
def partsN (tops : List Int) : Nat := ((List.range tops.length).filter fun p => decide (tops.getD p 0 = (p : Nat))).length
def StAt (H : Hp) (r : Addr) (st : S3) : Prop := ∃ a b : Addr, H r = some (.tup [.ref a, .ref b, .int st.odds]) ∧ H a = some (.tup (st.tops.map V.int)) ∧ H b = some (.tup (st.sides.map V.int))
def TupS (H H' : Hp) : Prop := ∀ b xs, H b = some (.tup xs) → H' b = some (.tup xs)
theorem StAt.tup {H H' : Hp} {r : Addr} {st : S3} (h : StAt H r st) (t : TupS H H') : StAt H' r st := by
  obtain ⟨a, b, h1, h2, h3⟩ := h
  exact ⟨a, b, t _ _ h1, t _ _ h2, t _ _ h3⟩
def StsAt (H : Hp) : List Addr → List S3 → Prop
  | [], [] => True
  | r :: rs, st :: sts => StAt H r st ∧ StsAt H rs sts
  | _, _ => False
theorem StsAt.tup {H H' : Hp} (t : TupS H H') : ∀ {rs : List Addr} {sts : List S3}, StsAt H rs sts → StsAt H' rs sts
  | [], [], _ => trivial
  | _ :: _, _ :: _, h => ⟨h.1.tup t, StsAt.tup t h.2⟩
theorem StsAt.snoc {H : Hp} {r : Addr} {st : S3} (t : StAt H r st) : ∀ {rs : List Addr} {sts : List S3}, StsAt H rs sts → StsAt H (rs ++ [r]) (sts ++ [st])
  | [], [], _ => ⟨t, trivial⟩
  | _ :: _, _ :: _, h => ⟨h.1, StsAt.snoc t h.2⟩
theorem StsAt.len {H : Hp} : ∀ {rs : List Addr} {sts : List S3}, StsAt H rs sts → rs.length = sts.length
  | [], [], _ => rfl
  | _ :: _, _ :: _, h => by simp [StsAt.len h.2]
theorem StsAt.take {H : Hp} (k : Nat) : ∀ {rs : List Addr} {sts : List S3}, StsAt H rs sts → StsAt H (rs.take k) (sts.take k) := by
  induction k with
  | zero => intro rs sts _; simp [StsAt]
  | succ k ih =>
    intro rs sts h
    match rs, sts, h with
    | [], [], _ => exact trivial
    | _ :: _, _ :: _, h => exact ⟨h.1, ih h.2⟩
theorem StsAt.last {H : Hp} : ∀ {rs : List Addr} {pre : List S3} {st : S3}, StsAt H rs (pre ++ [st]) → ∃ rs' r, rs = rs' ++ [r] ∧ StAt H r st ∧ StsAt H rs' pre
  | [], [], _, h => h.elim
  | [], _ :: _, _, h => h.elim
  | r :: rs, [], st, h => by
    match rs, h with
    | [], h => exact ⟨[], r, rfl, h.1, trivial⟩
    | _ :: _, h => exact h.2.elim
  | r :: rs, p :: pre, st, h => by
    obtain ⟨rs', r', e, h1, h2⟩ := StsAt.last (pre := pre) h.2
    exact ⟨r :: rs', r', by rw [e]; rfl, h1, h.1, h2⟩
def flds (S : Addr) : List (Str × V) := putF "states" (.ref S) []
theorem flds_at (S : Addr) : (flds S).lookup ("states" : Str) = some (.ref S) := by
  unfold flds
  rw [lookup_putF, if_pos rfl]
theorem flds_no (S : Addr) {m : Str} (h : ¬ m = "states") : (flds S).lookup m = none := by
  unfold flds
  rw [lookup_putF, if_neg h]
  rfl
theorem flds_put (S S' : Addr) : putF "states" (.ref S') (flds S) = flds S' := by
  unfold flds
  show (if ("states" : Str) = "states" then _ else _) = _
  rw [if_pos rfl]
  rfl
structure TkAt (C : Addr) (H : Hp) (x S : Addr) (sts : List S3) : Prop where
  ob : ∃ dx, H x = some (.ins C dx (flds S))
  st : ∃ rs : List Addr, H S = some (.lst (rs.map V.ref)) ∧ StsAt H rs sts
  le : sts.length ≤ 200
structure Ok (n : Nat) (st : S3) : Prop where
  t : st.tops.length = n
  s : st.sides.length = n
  n1 : 1 ≤ n
  n2 : n ≤ 24
def spWhole : Sp := fun vs H Q _ => ∃ i : Int, vs = [.int i] ∧ Q (.bl true) H
def spWithin : Sp := fun vs H Q _ => ∃ i lo hi : Int, vs = [.int i, .int lo, .int hi] ∧ lo ≤ i ∧ i ≤ hi ∧ Q (.bl true) H
def spStays (K : PySem.W.Frag) : Sp := fun vs H Q _ => ∃ (t : Addr) (tops : List Int) (a b : Int), vs = [.ref t, .int a, .int b] ∧ H t = some (.tup (tops.map V.int)) ∧ Q (.bl (staysB tops a b)) H
def spJp (K : PySem.W.Frag) : Sp := fun vs H Q _ => ∃ (t s : Addr) (st : S3) (n i j : Nat), vs = [.ref t, .ref s, .int (i : Nat), .int (j : Nat)] ∧ H t = some (.tup (st.tops.map V.int)) ∧ H s = some (.tup (st.sides.map V.int)) ∧ Ok n st ∧ i < n ∧ j < n ∧
  ∀ (r a b : Addr) (H' : Hp), Same H H' → H' r = some (.tup [.ref a, .ref b]) → H' a = some (.tup ((newTops st.tops (kt st.tops (st.tops.getD i 0) (st.tops.getD j 0)).1 (kt st.tops (st.tops.getD i 0) (st.tops.getD j 0)).2).map V.int)) →
    H' b = some (.tup ((newSides st.tops st.sides (kt st.tops (st.tops.getD i 0) (st.tops.getD j 0)).2 (turnOf (st.sides.getD i 0) (st.sides.getD j 0))).map V.int)) → Q (.ref r) H'
def start3 (m : Int) : S3 := ⟨rints 0 m.toNat, List.replicate m.toNat 0, 0⟩
def spInit (C : Addr) : Sp := fun vs H Q _ => ∃ (x dx : Addr) (m : Int), vs = [.ref x, .int m] ∧ H x = some (.ins C dx []) ∧ 1 ≤ m ∧ m ≤ 24 ∧ ∀ (S : Addr) (H' : Hp), H S = none → TkAt C H' x S [start3 m] → (∀ b o, H b = some o → b ≠ x → H' b = some o) → Q .non H'
def spShown (C : Addr) : Sp := fun vs H Q _ => ∃ (x S : Addr) (pre : List S3) (st : S3), vs = [.ref x] ∧ TkAt C H x S (pre ++ [st]) ∧ ∀ r, StAt H r st → Q (.ref r) H
def spTop (C : Addr) : Sp := fun vs H Q _ => ∃ (x S : Addr) (pre : List S3) (st : S3) (n i : Nat), vs = [.ref x, .int (i : Nat)] ∧ TkAt C H x S (pre ++ [st]) ∧ Ok n st ∧ i < n ∧ Q (.int (st.tops.getD i 0)) H
def spSide (C : Addr) : Sp := fun vs H Q _ => ∃ (x S : Addr) (pre : List S3) (st : S3) (n i : Nat), vs = [.ref x, .int (i : Nat)] ∧ TkAt C H x S (pre ++ [st]) ∧ Ok n st ∧ i < n ∧ Q (.int (st.sides.getD i 0)) H
def spSize (C : Addr) : Sp := fun vs H Q _ => ∃ (x S : Addr) (pre : List S3) (st : S3) (n i : Nat), vs = [.ref x, .int (i : Nat)] ∧ TkAt C H x S (pre ++ [st]) ∧ Ok n st ∧ i < n ∧ Q (.int (st.tops.count (st.tops.getD i 0) : Nat)) H
def spOdd (C : Addr) : Sp := fun vs H Q _ => ∃ (x S : Addr) (pre : List S3) (st : S3), vs = [.ref x] ∧ TkAt C H x S (pre ++ [st]) ∧ Q (.int st.odds) H
def spJoins (C : Addr) : Sp := fun vs H Q _ => ∃ (x S : Addr) (sts : List S3), vs = [.ref x] ∧ TkAt C H x S sts ∧ Q (.int ((sts.length : Int) - 1)) H
def spParts (C : Addr) : Sp := fun vs H Q _ => ∃ (x S : Addr) (pre : List S3) (st : S3) (n : Nat), vs = [.ref x] ∧ TkAt C H x S (pre ++ [st]) ∧ Ok n st ∧ ∀ H', Same H H' → Q (.int (partsN st.tops : Nat)) H'
def spJoin (C : Addr) : Sp := fun vs H Q _ => ∃ (x S : Addr) (pre : List S3) (st : S3) (n i j : Nat), vs = [.ref x, .int (i : Nat), .int (j : Nat)] ∧ TkAt C H x S (pre ++ [st]) ∧ pre.length ≤ 150 ∧ Ok n st ∧ i < n ∧ j < n ∧
  ∀ H', (∀ b o, H b = some o → b ≠ S → H' b = some o) → TkAt C H' x S (pre ++ [st] ++ [(joinS st i j).1]) → Q (.bl (joinS st i j).2) H'
def spBack (C : Addr) : Sp := fun vs H Q _ => ∃ (x S : Addr) (sts : List S3) (k : Nat), vs = [.ref x, .int (k : Nat)] ∧ TkAt C H x S sts ∧ k < sts.length ∧ ∀ (S' : Addr) (H' : Hp), H S' = none → (∀ b o, H b = some o → b ≠ x → H' b = some o) → TkAt C H' x S' (sts.take (k + 1)) → Q .non H'
theorem getD_at {ns : List Int} {i : Nat} (h : i < ns.length) : atI (ns.map V.int) (i : Int) = some (.int (ns.getD i 0)) := atI_nat (by rw [List.getElem?_map, List.getElem?_eq_getElem h]; simp [List.getD, h])
theorem at_last {r : V} {xs : List V} : atI (xs ++ [r]) (-1) = some r := by
  unfold atI ixN
  rw [if_neg (by decide), if_pos (by simp; omega)]
  have : ((-1 : Int) + ((xs ++ [r]).length : Int)).toNat = xs.length := by simp; omega
  rw [this]
  simp
section
variable {P : Program} {w : World} {K : PySem.W.Frag} {mg : Str → Option Value} {base : Heap} {C I N J B : Addr}
theorem scWhole : FnScope ["thing"] ["thing"] (defScope sWhole) := ⟨rfl, rfl, rfl, by decide +kernel, rfl, by decide +kernel, by decide +kernel⟩
theorem ok_Whole {f : Addr} {fd : FuncData} (F : Fun K "is_whole" "is_whole" sWhole f fd) (T : Txt K mg C I N J B) :
    FnOk P w K mg base CX0 1 f fd ["thing"] spWhole := by
  refine F.ok scWhole (fun vs H Q E h => ?_) (fun cdv A outer s H vs Q E hr h => ?_)
  · obtain ⟨_, rfl, _⟩ := h; rfl
  · obtain ⟨i, rfl, k⟩ := h
    refine ⟨_, pss_one (ps_ret (pe_and (pe_callB call_isi (by rfl) T.isinstance (by decide +kernel) (pa_cons (pv 0) (pa_cons (pe_ty (T := "int") (by rfl) T.int (by decide +kernel)) pa_nil))) (pe_one (pe_not (pe_callB call_isi (by rfl) T.isinstance (by decide +kernel) (pa_cons (pv 0) (pa_cons (pe_ty (T := "bool") (by rfl) T.bool (by decide +kernel)) pa_nil))))))), ?_⟩
    exact ⟨_, rfl, _, _, "int", true, rfl, .int i, rfl, _, rfl, iteT ⟨_, rfl, _, _, "bool", false, rfl, .int i, rfl, _, rfl, k⟩⟩
theorem scWithin : FnScope ["thing", "low", "high"] ["thing", "low", "high"] (defScope sWithin) := ⟨rfl, rfl, rfl, by decide +kernel, rfl, by decide +kernel, by decide +kernel⟩
theorem ok_Within {f : Addr} {fd : FuncData} (F : Fun K "is_within" "is_within" sWithin f fd) (T : Txt K mg C I N J B)
    {gWhole : Addr} {fWhole : FuncData} (kWhole : PySem.W.keepIn K (.ref gWhole) = true) (bWhole : Binds K fWhole ["thing"] []) (hWhole : mg "is_whole" = some (.ref gWhole)) (GWhole : FnOk P w K mg base CX0 1 gWhole fWhole ["thing"] spWhole) :
    FnOk P w K mg base CX0 2 f fd ["thing", "low", "high"] spWithin := by
  refine F.ok scWithin (fun vs H Q E h => ?_) (fun cdv A outer s H vs Q E hr h => ?_)
  · obtain ⟨_, _, _, rfl, _⟩ := h; rfl
  · obtain ⟨i, lo, hi, rfl, h1, h2, k⟩ := h
    refine ⟨_, pss_one (ps_ret (pe_and (pe_call GWhole hr rfl hWhole kWhole bWhole .nil pass0 (pa_cons (pv 0) pa_nil)) (pe_one (pe_chain op_le op_le (pv 1) (pv 0) (pv 2))))), ?_⟩
    refine ⟨_, rfl, i, rfl, _, rfl, iteT ⟨_, rfl, _, rfl, _, _, rfl, rfl, _, rfl, ?_⟩⟩
    rw [decide_eq_true h1]
    refine iteT ⟨_, rfl, _, _, rfl, rfl, ?_⟩
    show Q (.bl (decide (i ≤ hi))) H
    rw [decide_eq_true h2]
    exact k
theorem scStays : FnScope ["tops", "one", "other", "more"] ["tops", "one", "other"] (defScope sStays) := ⟨rfl, rfl, rfl, by decide +kernel, rfl, by decide +kernel, by decide +kernel⟩
theorem ok_Stays {f : Addr} {fd : FuncData} (F : Fun K "stays" "stays" sStays f fd) (T : Txt K mg C I N J B) :
    FnOk P w K mg base CX0 1 f fd ["tops", "one", "other"] (spStays K) := by
  refine F.ok scStays (fun vs H Q E h => ?_) (fun cdv A outer s H vs Q E hr h => ?_)
  · obtain ⟨_, _, _, _, rfl, _⟩ := h; rfl
  · obtain ⟨t, tops, a, b, rfl, ht, k⟩ := h
    refine ⟨_, pss_cons (ps_set (i := 3) scStays.nd rfl (Or.inl rfl) (pe_op op_sub (pe_bm PySem.F.plainAttrs_tuple PySem.F.slot_tuple_count PySem.F.type_tuple_count mt_countT (pv 0) (pa_cons (pv 1) pa_nil)) (pe_bm PySem.F.plainAttrs_tuple PySem.F.slot_tuple_count PySem.F.type_tuple_count mt_countT (pv 0) (pa_cons (pv 2) pa_nil))))
      (pss_one (ps_ret (pe_or (pe_cmpR op_gt (pv 3) pe_int (nomark _)) (pe_one (pe_and (pe_cmpR op_eq (pv 3) pe_int (nomark _)) (pe_one (pe_cmpR op_lt (pv 1) (pv 2) (nomark _)))))))), ?_⟩
    refine ⟨_, rfl, .inr (.inl ⟨rfl, .inr ⟨_, ht⟩⟩), _, rfl, t, tops, a, rfl, rfl, SqT.of ht, _, rfl, .inr (.inl ⟨rfl, .inr ⟨_, ht⟩⟩), _, rfl, t, tops, b, rfl, rfl, SqT.of ht, _, _, rfl, rfl, ?_⟩
    refine ⟨_, rfl, _, _, rfl, rfl, _, rfl, ite2 (fun c => ?_) fun c => ?_⟩
    · have e : staysB tops a b = true := by unfold staysB; rw [c]; rfl
      rw [e] at k
      exact k
    · have c : decide (0 < (tops.count a : Int) - (tops.count b : Int)) = false := by simpa using c
      refine ⟨_, rfl, rfl, _, rfl, ite2 (fun c2 => ?_) fun c2 => ?_⟩
      · have c2 : (tops.count a : Int) - (tops.count b : Int) = 0 := by simpa using c2
        have e : staysB tops a b = decide (a < b) := by unfold staysB; rw [c, decide_eq_true c2]; rfl
        rw [e] at k
        exact ⟨_, rfl, _, rfl, _, _, rfl, rfl, k⟩
      · have c2 : ¬ (tops.count a : Int) - (tops.count b : Int) = 0 := by simpa using c2
        have e : staysB tops a b = false := by unfold staysB; rw [c, decide_eq_false c2]; rfl
        rw [e] at k
        exact k
def tTail : TS := fun D σ H => ∃ (t s : Addr) (tops sides : List Int) (i j kept taken turn : Int) (n : Nat), σ = [some (.ref t), some (.ref s), some (.int i), some (.int j), some (.int kept), some (.int taken), some (.int turn), none, none] ∧ H t = some (.tup (tops.map V.int)) ∧ H s = some (.tup (sides.map V.int)) ∧ tops.length = n ∧ sides.length = n ∧ n ≤ 24 ∧
  ∀ (r a b : Addr) (H' : Hp), Same H H' → H' r = some (.tup [.ref a, .ref b]) → H' a = some (.tup ((newTops tops kept taken).map V.int)) → H' b = some (.tup ((newSides tops sides taken turn).map V.int)) → D.rt (.ref r) H'
theorem int_of {ms : List Int} {j : Nat} {x : V} (h : (ms.map V.int)[j]? = some x) : ∃ c, ms[j]? = some c ∧ x = .int c := by
  rw [List.getElem?_map] at h
  cases hq : ms[j]? with
  | none => rw [hq] at h; cases h
  | some z => rw [hq] at h; exact ⟨z, rfl, (Option.some.inj h).symm⟩
theorem scJp : FnScope ["tops", "sides", "one", "other", "kept", "taken", "turn", "new_tops", "new_sides"] ["tops", "sides", "one", "other"] (defScope sJp) := ⟨rfl, rfl, rfl, by decide +kernel, rfl, by decide +kernel, by decide +kernel⟩
theorem ok_Jp {f : Addr} {fd : FuncData} (F : Fun K "joined_parts" "joined_parts" sJp f fd) (T : Txt K mg C I N J B)
    {gStays : Addr} {fStays : FuncData} (kStays : PySem.W.keepIn K (.ref gStays) = true) (bStays : Binds K fStays ["tops", "one", "other"] []) (hStays : mg "stays" = some (.ref gStays)) (GStays : FnOk P w K mg base CX0 1 gStays fStays ["tops", "one", "other"] (spStays K)) :
    FnOk P w K mg base CX0 2 f fd ["tops", "sides", "one", "other"] (spJp K) := by
  refine F.ok scJp (fun vs H Q E h => ?_) (fun cdv A outer s H vs Q E hr h => ?_)
  · obtain ⟨_, _, _, _, _, _, rfl, _⟩ := h; rfl
  · obtain ⟨t, s', st, n, i, j, rfl, ht, hs, ok, hi, hj, k⟩ := h
    refine ⟨_, pss_cons (ps_asg (pe_tup (pa_cons (pe_ix ix_tup (pv 0) (pv 2) (fun _ _ => rfl)) (pa_cons (pe_ix ix_tup (pv 0) (pv 3) (fun _ _ => rfl)) pa_nil))) (pg_tup rfl (pgs_cons (pg_name (i := 4) scJp.nd rfl (Or.inr rfl)) (pgs_cons (pg_name (i := 5) scJp.nd rfl (Or.inr rfl)) pgs_nil))))
      (pss_cons (ps_if (pt_not (pt_val (pe_call GStays hr rfl hStays kStays bStays .nil pass0 (pa_cons (pv 0) (pa_cons (pv 4) (pa_cons (pv 5) pa_nil)))))) (pss_one (ps_asg (pe_tup (pa_cons (pv 5) (pa_cons (pv 4) pa_nil))) (pg_tup rfl (pgs_cons (pg_name (i := 4) scJp.nd rfl (Or.inr rfl)) (pgs_cons (pg_name (i := 5) scJp.nd rfl (Or.inr rfl)) pgs_nil))))) pss_nil)
      (pss_cons (ps_set (i := 6) scJp.nd rfl (Or.inr rfl) (pe_ifExp (pt_cmpR op_eq (pe_ix ix_tup (pv 1) (pv 2) (fun _ _ => rfl)) (pe_ix ix_tup (pv 1) (pv 3) (fun _ _ => rfl)) (nomark _)) pe_int pe_int))
      (PSs.imp' (t' := tTail) (pss_cons (ps_comp (i := 7) (T := ["top"]) (F := ["kept", "taken"]) (js := [4, 5]) scJp.nd rfl (Or.inl rfl) (CS.to (osc := defScope sJp) ⟨by rfl, by decide +kernel, by decide +kernel, by decide +kernel, by decide +kernel, by decide +kernel, by decide +kernel⟩ rfl rfl) rfl (pi_tup (pv 0)) (fun _ _ _ _ _ => pg_name (i := 0) (show (["top", "kept", "taken"] : List Str).Nodup by decide +kernel) rfl (Or.inl rfl)) (fun _ _ _ _ _ => pif_nil) (fun _ _ _ _ _ => pe_ifExp (pt_cmpR op_eq (pv 0) (pv 2) (nomark _)) (pv 1) (pv 0)))
      (pss_cons (ps_comp (i := 8) (T := ["top", "side"]) (F := ["taken", "turn"]) (js := [5, 6]) scJp.nd rfl (Or.inl rfl) (CS.to (osc := defScope sJp) ⟨by rfl, by decide +kernel, by decide +kernel, by decide +kernel, by decide +kernel, by decide +kernel, by decide +kernel⟩ rfl rfl) rfl (pi_zip rfl T.zip (pa_cons (pv 0) (pa_cons (pv 1) pa_nil))) (fun _ _ _ _ _ => pg_tupK K 2 rfl rfl (pgs_cons (pg_name (i := 0) (show (["top", "side", "taken", "turn"] : List Str).Nodup by decide +kernel) rfl (Or.inl rfl)) (pgs_cons (pg_name (i := 1) (show (["top", "side", "taken", "turn"] : List Str).Nodup by decide +kernel) rfl (Or.inl rfl)) pgs_nil))) (fun _ _ _ _ _ => pif_nil) (fun _ _ _ _ _ => pe_ifExp (pt_cmpR op_eq (pv 0) (pv 2) (nomark _)) (pe_op op_xor (pv 1) (pv 3)) (pv 1)))
      (pss_one (ps_ret (pe_tup (pa_cons (pe_callTy call_tuple_of (by rfl) T.tuple (by decide +kernel) (pa_cons (pv 7) pa_nil)) (pa_cons (pe_callTy call_tuple_of (by rfl) T.tuple (by decide +kernel) (pa_cons (pv 8) pa_nil)) pa_nil))))))) ?tail))), ?_⟩
    case tail =>
      rintro D σ H ⟨t, s', tops, sides, i, j, kept, taken, turn, n, rfl, ht, hs, tl, sl, n2, k⟩
      refine ⟨_, rfl, t, rfl, ⟨_, SqT.of ht⟩, fun D1 hD1 => comp_tup (K := K) (a := t) (xs := tops.map V.int) (fun j σ ys H2 => ∃ u : Option V, σ = [u, some (.int kept), some (.int taken)] ∧ Same H H2 ∧ H2 D1 = some (.lst ys) ∧ ys = ((newTops tops kept taken).take j).map V.int)
        ⟨none, rfl, same_new hD1, upd_same, rfl⟩ (fun j σ ys H2 _ ⟨_, _, s2, e, _⟩ => ⟨SqT.of (s2 _ _ ht), e⟩) ?_ ?_⟩
      · rintro m x σ ys H2 hx ⟨u, rfl, s2, e2, rfl⟩
        obtain ⟨c, hc, rfl⟩ := int_of hx
        have ml : m < tops.length := (List.getElem?_eq_some_iff.mp hc).1
        have nx : (newTops tops kept taken)[m]? = some (if c = taken then kept else c) := by unfold newTops; rw [List.getElem?_map, hc]; rfl
        refine ⟨_, rfl, _, rfl, rfl, _, rfl, ite2 (fun g => ?_) fun g => ?_⟩
        · have g : c = taken := by simpa using g
          rw [if_pos g] at nx
          exact ⟨_, rfl, e2, small1000 (by simp; omega), _, rfl, fun b o e => by rw [upd_ne (ne_of_none e hD1)]; exact s2 _ _ e, upd_same, by rw [List.take_add_one, nx]; simp⟩
        · have g : ¬ c = taken := by simpa using g
          rw [if_neg g] at nx
          exact ⟨_, rfl, e2, small1000 (by simp; omega), _, rfl, fun b o e => by rw [upd_ne (ne_of_none e hD1)]; exact s2 _ _ e, upd_same, by rw [List.take_add_one, nx]; simp⟩
      rintro σ ys H2 ⟨u, rfl, s2, e2, rfl⟩
      rw [List.take_of_length_le (by simp [newTops])] at e2
      refine ⟨_, rfl, _, rfl, t, s', _, _, rfl, SqT.of (s2 _ _ ht), SqT.of (s2 _ _ hs), fun D2 hD2 => comp_zip (K := K) (a := t) (b := s') (xs := tops.map V.int) (ys := sides.map V.int) (fun j σ ys H3 => ∃ u1 u2 : Option V, σ = [u1, u2, some (.int taken), some (.int turn)] ∧ Same H2 H3 ∧ H3 D2 = some (.lst ys) ∧ ys = ((newSides tops sides taken turn).take j).map V.int)
        ⟨none, none, rfl, same_new hD2, upd_same, rfl⟩ (fun j σ ys H3 _ _ ⟨_, _, _, s3, e, _⟩ => ⟨SqT.of (s3 _ _ (s2 _ _ ht)), SqT.of (s3 _ _ (s2 _ _ hs)), e⟩) ?_ ?_⟩
      · rintro m x y σ ys H3 T' hx hy ⟨u1, u2, rfl, s3, e3, rfl⟩ hT
        obtain ⟨c, hc, rfl⟩ := int_of hx
        obtain ⟨d, hd, rfl⟩ := int_of hy
        have ml : m < tops.length := (List.getElem?_eq_some_iff.mp hc).1
        have nx : (newSides tops sides taken turn)[m]? = some (if c = taken then Builtin.bitXor d turn else d) := by unfold newSides; rw [List.getElem?_zipWith, hc, hd]
        have s4 := s3.trans (same_new (o := .tup [.int c, .int d]) hT)
        have T4 := upd_same (H := H3) (a := T') (o := .tup [.int c, .int d])
        have D4 := same_new (o := .tup [.int c, .int d]) hT _ _ e3
        generalize upd H3 T' (.tup [.int c, .int d]) = H4 at s4 T4 D4
        refine ⟨T', _, rfl, SqT.of T4, rfl, _, _, rfl, _, _, rfl, rfl, ?_⟩
        have ll : (((newSides tops sides taken turn).take m).map V.int).length ≤ 24 := by simp [newSides]; omega
        refine ⟨_, rfl, _, rfl, rfl, _, rfl, ite2 (fun g => ?_) fun g => ?_⟩
        · have g : c = taken := by simpa using g
          rw [if_pos g] at nx
          exact ⟨_, rfl, _, rfl, _, _, rfl, rfl, D4, small1000 (by omega), _, _, rfl, fun b o e => by rw [upd_ne (ne_of_none e hD2)]; exact s4 _ _ e, upd_same, by rw [List.take_add_one, nx]; simp⟩
        · have g : ¬ c = taken := by simpa using g
          rw [if_neg g] at nx
          exact ⟨_, rfl, D4, small1000 (by omega), _, _, rfl, fun b o e => by rw [upd_ne (ne_of_none e hD2)]; exact s4 _ _ e, upd_same, by rw [List.take_add_one, nx]; simp⟩
      rintro m σ ys H3 hm ⟨u1, u2, rfl, s3, e3, rfl⟩
      rw [List.take_of_length_le (by simp [newSides, hm])] at e3
      refine ⟨_, rfl, D1, _, rfl, .inl ⟨SqL.of (s3 _ _ e2), fun q hq => ⟨_, rfl, D2, _, rfl, .inl ⟨SqL.of (same_new hq _ _ e3), fun q2 hq2 => ⟨small (by simp), fun r hr' => ?_⟩⟩⟩⟩⟩
      exact k r q q2 _ (((s2.trans s3).trans (same_new hq)).trans ((same_new hq2).trans (same_new hr'))) upd_same (same_new hr' _ _ (same_new hq2 _ _ upd_same)) (same_new hr' _ _ upd_same)
    have gi := getD_at (ns := st.tops) (i := i) (by rw [ok.t]; exact hi)
    have gj := getD_at (ns := st.tops) (i := j) (by rw [ok.t]; exact hj)
    have si := getD_at (ns := st.sides) (i := i) (by rw [ok.s]; exact hi)
    have sj := getD_at (ns := st.sides) (i := j) (by rw [ok.s]; exact hj)
    refine ⟨_, rfl, _, rfl, t, _, _, _, rfl, rfl, SqT.of ht, gi, _, rfl, _, rfl, t, _, _, _, rfl, rfl, SqT.of ht, gj, small (by simp), fun p hp => ⟨p, _, rfl, SqT.of upd_same, rfl, _, _, rfl, _, _, rfl, rfl, ?_⟩⟩
    have s1 := same_new (o := .tup [.int (st.tops.getD i 0), .int (st.tops.getD j 0)]) hp
    generalize upd H p (.tup [.int (st.tops.getD i 0), .int (st.tops.getD j 0)]) = H1 at s1
    refine ⟨_, rfl, _, rfl, _, rfl, t, st.tops, _, _, rfl, s1 _ _ ht, _, rfl, ite2 (fun c => ?_) fun c => ?_⟩
    · have c : staysB st.tops (st.tops.getD i 0) (st.tops.getD j 0) = false := by simpa using c
      have ek : kt st.tops (st.tops.getD i 0) (st.tops.getD j 0) = (st.tops.getD j 0, st.tops.getD i 0) := by unfold kt; rw [c]; rfl
      rw [ek] at k
      refine ⟨_, rfl, _, rfl, small (by simp), fun p2 hp2 => ⟨p2, _, rfl, SqT.of upd_same, rfl, _, _, rfl, _, _, rfl, rfl, ?_⟩⟩
      have s2 := s1.trans (same_new (o := .tup [.int (st.tops.getD j 0), .int (st.tops.getD i 0)]) hp2)
      generalize upd H1 p2 (.tup [.int (st.tops.getD j 0), .int (st.tops.getD i 0)]) = H2 at s2
      refine ⟨_, rfl, _, rfl, s', _, _, _, rfl, rfl, SqT.of (s2 _ _ hs), si, _, rfl, _, rfl, s', _, _, _, rfl, rfl, SqT.of (s2 _ _ hs), sj, rfl, _, rfl, ite2 (fun g => ?_) fun g => ?_⟩
      · have g : st.sides.getD i 0 = st.sides.getD j 0 := by simpa using g
        have eg : turnOf (st.sides.getD i 0) (st.sides.getD j 0) = 1 := by unfold turnOf; rw [if_pos g]
        rw [eg] at k
        exact ⟨t, s', st.tops, st.sides, _, _, _, _, 1, n, rfl, s2 _ _ ht, s2 _ _ hs, ok.t, ok.s, ok.n2, fun r a b H' s3 => k r a b H' (s2.trans s3)⟩
      · have g : ¬ st.sides.getD i 0 = st.sides.getD j 0 := by simpa using g
        have eg : turnOf (st.sides.getD i 0) (st.sides.getD j 0) = 0 := by unfold turnOf; rw [if_neg g]
        rw [eg] at k
        exact ⟨t, s', st.tops, st.sides, _, _, _, _, 0, n, rfl, s2 _ _ ht, s2 _ _ hs, ok.t, ok.s, ok.n2, fun r a b H' s3 => k r a b H' (s2.trans s3)⟩
    · have c : staysB st.tops (st.tops.getD i 0) (st.tops.getD j 0) = true := by simpa using c
      have ek : kt st.tops (st.tops.getD i 0) (st.tops.getD j 0) = (st.tops.getD i 0, st.tops.getD j 0) := by unfold kt; rw [c]; rfl
      rw [ek] at k
      dsimp only [tNext]
      refine ⟨_, rfl, _, rfl, s', _, _, _, rfl, rfl, SqT.of (s1 _ _ hs), si, _, rfl, _, rfl, s', _, _, _, rfl, rfl, SqT.of (s1 _ _ hs), sj, rfl, _, rfl, ite2 (fun g => ?_) fun g => ?_⟩
      · have g : st.sides.getD i 0 = st.sides.getD j 0 := by simpa using g
        have eg : turnOf (st.sides.getD i 0) (st.sides.getD j 0) = 1 := by unfold turnOf; rw [if_pos g]
        rw [eg] at k
        exact ⟨t, s', st.tops, st.sides, _, _, _, _, 1, n, rfl, s1 _ _ ht, s1 _ _ hs, ok.t, ok.s, ok.n2, fun r a b H' s3 => k r a b H' (s1.trans s3)⟩
      · have g : ¬ st.sides.getD i 0 = st.sides.getD j 0 := by simpa using g
        have eg : turnOf (st.sides.getD i 0) (st.sides.getD j 0) = 0 := by unfold turnOf; rw [if_neg g]
        rw [eg] at k
        exact ⟨t, s', st.tops, st.sides, _, _, _, _, 0, n, rfl, s1 _ _ ht, s1 _ _ hs, ok.t, ok.s, ok.n2, fun r a b H' s3 => k r a b H' (s1.trans s3)⟩
end
end K19
set_option maxHeartbeats 4000000
namespace K19
open PySem L2 Wk
theorem tupS_same {H H' : Hp} (s : Same H H') : TupS H H' := fun b xs e => s _ _ e
theorem TkAt.same {C : Addr} {H H' : Hp} {x S : Addr} {sts : List S3} (h : TkAt C H x S sts) (s : Same H H') : TkAt C H' x S sts := by
  obtain ⟨⟨dx, e1⟩, ⟨rs, e2, e3⟩, l⟩ := h
  exact ⟨⟨dx, s _ _ e1⟩, ⟨rs, s _ _ e2, e3.tup (tupS_same s)⟩, l⟩
theorem at0 {x : V} {xs : List V} : atI (x :: xs) 0 = some x := atI_nat (j := 0) rfl
theorem at1 {x y : V} {xs : List V} : atI (x :: y :: xs) 1 = some y := atI_nat (j := 1) rfl
theorem at2 {x y z : V} {xs : List V} : atI (x :: y :: z :: xs) 2 = some z := atI_nat (j := 2) rfl
def tTailJ (C : Addr) : TS := fun D σ H => ∃ (x S a b : Addr) (sts : List S3) (nw : S3) (i j : Int) (bb : Bool), σ = [some (.ref x), some (.int i), some (.int j), some (.ref a), some (.ref b), some (.int nw.odds), some (.bl bb)] ∧ TkAt C H x S sts ∧ sts.length ≤ 160 ∧ H a = some (.tup (nw.tops.map V.int)) ∧ H b = some (.tup (nw.sides.map V.int)) ∧
  ∀ H', (∀ c o, H c = some o → c ≠ S → H' c = some o) → TkAt C H' x S (sts ++ [nw]) → D.rt (.bl bb) H'
section
variable {P : Program} {w : World} {K : PySem.W.Frag} {mg : Str → Option Value} {base : Heap} {C I N J B : Addr}
theorem scInit : FnScope ["self", "many"] ["self", "many"] (defScope sInit) := ⟨rfl, rfl, rfl, by decide +kernel, rfl, by decide +kernel, by decide +kernel⟩
theorem ok_Init {f : Addr} {fd : FuncData} (F : Fun K "__init__" "Takes.__init__" sInit f fd) (T : Txt K mg C I N J B) :
    FnOk P w K mg base CX0 1 f fd ["self", "many"] (spInit C) := by
  refine F.ok scInit (fun vs H Q E h => ?_) (fun cdv A outer s H vs Q E hr h => ?_)
  · obtain ⟨_, _, _, rfl, _⟩ := h; rfl
  · obtain ⟨x, dx, m, rfl, hx, m1, m2, k⟩ := h
    refine ⟨_, pss_one (ps_fld (pv 0) (pe_lst (pa_cons (pe_tup (pa_cons (pe_callTy (call_tuple_rng rfl) (by rfl) T.tuple (by decide +kernel) (pa_cons (pe_callTy call_range1 (by rfl) T.range (by decide +kernel) (pa_cons (pv 1) pa_nil)) pa_nil)) (pa_cons (pe_op op_repT2 (pe_tup (pa_cons pe_int pa_nil)) (pv 1)) (pa_cons pe_int pa_nil)))) pa_nil)) rfl), ?_⟩
    refine ⟨_, rfl, m, rfl, fun g hg => ⟨g, m, rfl, upd_same, by omega, by omega, fun a H1 s1 e1 => ?_⟩⟩
    have s1' := (same_new (o := .rng 0 m) hg).trans s1
    refine ⟨small (by simp), fun z hz => ⟨_, rfl, z, .int 0, m, rfl, rfl, upd_same, m1, by omega, fun b H2 s2 e2 => ⟨small (by simp), fun r hr' => ⟨small (by simp), fun S hS => ?_⟩⟩⟩⟩
    have sA := (s1'.trans (same_new (o := .tup [.int 0]) hz)).trans s2
    have sB := sA.trans (same_new (o := .tup [.ref a, .ref b, .int 0]) hr')
    have sC := sB.trans (same_new (o := .lst [.ref r]) hS)
    have eS := upd_same (H := upd H2 r (.tup [.ref a, .ref b, .int 0])) (a := S) (o := .lst [.ref r])
    have er := same_new (o := .lst [.ref r]) hS _ _ (upd_same (H := H2) (a := r) (o := .tup [.ref a, .ref b, .int 0]))
    have ea := same_new (o := .lst [.ref r]) hS _ _ (same_new (o := .tup [.ref a, .ref b, .int 0]) hr' _ _ (s2 _ _ (same_new (o := .tup [.int 0]) hz _ _ e1)))
    have eb := same_new (o := .lst [.ref r]) hS _ _ (same_new (o := .tup [.ref a, .ref b, .int 0]) hr' _ _ e2)
    have nS : H S = none := none_of sB hS
    generalize upd (upd H2 r (.tup [.ref a, .ref b, .int 0])) S (.lst [.ref r]) = H3 at sC eS er ea eb
    have x3 := sC _ _ hx
    have xS : x ≠ S := ne_of x3 eS (by intro z; cases z)
    have xr : x ≠ r := ne_of x3 er (by intro z; cases z)
    have xa : x ≠ a := ne_of x3 ea (by intro z; cases z)
    have xb : x ≠ b := ne_of x3 eb (by intro z; cases z)
    refine ⟨_, rfl, x, C, dx, [], rfl, x3, T.cl, T.nS, by simp, ?_⟩
    refine k S _ nS ⟨⟨dx, upd_same⟩, ⟨[r], by rw [upd_ne xS.symm]; exact eS, ⟨a, b, by rw [upd_ne xr.symm]; exact er, by rw [upd_ne xa.symm]; exact ea, by rw [upd_ne xb.symm, eb]; simp [start3]⟩, trivial⟩, by simp⟩ fun c o e n => by rw [upd_ne n]; exact sC _ _ e
theorem scShown : FnScope ["self"] ["self"] (defScope sShown) := ⟨rfl, rfl, rfl, by decide +kernel, rfl, by decide +kernel, by decide +kernel⟩
theorem ok_Shown {f : Addr} {fd : FuncData} (F : Fun K "shown" "Takes.shown" sShown f fd) (T : Txt K mg C I N J B) :
    FnOk P w K mg base CX0 1 f fd ["self"] (spShown C) := by
  refine F.ok scShown (fun vs H Q E h => ?_) (fun cdv A outer s H vs Q E hr h => ?_)
  · obtain ⟨_, _, _, _, rfl, _⟩ := h; rfl
  · obtain ⟨x, S, pre, st, rfl, hT, k⟩ := h
    refine ⟨_, pss_one (ps_ret (pe_ix ix_list (pe_fld (pv 0) rfl) (pe_un un_neg pe_int) (fun _ _ => rfl))), ?_⟩
    obtain ⟨⟨dx, e1⟩, ⟨rs, e2, e3⟩, l⟩ := id hT
    obtain ⟨rs', r, rfl, h1, h2⟩ := e3.last
    refine ⟨_, rfl, x, C, dx, _, _, rfl, e1, T.cl, T.nS, flds_at S, _, rfl, S, _, -1, _, rfl, rfl, SqL.of e2, ?_, k r h1⟩
    rw [List.map_append]
    exact at_last
theorem scTop : FnScope ["self", "place"] ["self", "place"] (defScope sTop) := ⟨rfl, rfl, rfl, by decide +kernel, rfl, by decide +kernel, by decide +kernel⟩
theorem ok_Top {f : Addr} {fd : FuncData} (F : Fun K "top" "Takes.top" sTop f fd) (T : Txt K mg C I N J B)
    {gShown : Addr} {fShown : FuncData} (bShown : Binds K fShown ["self"] []) (hShown : Meth K C "shown" gShown) (GShown : FnOk P w K mg base CX0 1 gShown fShown ["self"] (spShown C)) :
    FnOk P w K mg base CX0 2 f fd ["self", "place"] (spTop C) := by
  refine F.ok scTop (fun vs H Q E h => ?_) (fun cdv A outer s H vs Q E hr h => ?_)
  · obtain ⟨_, _, _, _, _, _, rfl, _⟩ := h; rfl
  · obtain ⟨x, S, pre, st, n, i, rfl, hT, ok, hi, k⟩ := h
    refine ⟨_, pss_one (ps_ret (pe_ix ix_tup (pe_ix ix_tup (pe_meth0 (pv 0) T.cl hShown GShown hr bShown .nil pass0) pe_int (fun _ _ => rfl)) (pv 1) (fun _ _ => rfl))), ?_⟩
    obtain ⟨⟨dx, e1⟩, _, _⟩ := id hT
    refine ⟨_, rfl, x, dx, _, rfl, e1, flds_no S (by decide +kernel), x, S, pre, st, rfl, hT, fun r hst => ?_⟩
    obtain ⟨a, b, h1, h2, h3⟩ := hst
    exact ⟨r, _, 0, _, rfl, rfl, SqT.of h1, at0, _, rfl, _, _, _, _, rfl, rfl, SqT.of h2, getD_at (by rw [ok.t]; exact hi), k⟩
theorem scSide : FnScope ["self", "place"] ["self", "place"] (defScope sSide) := ⟨rfl, rfl, rfl, by decide +kernel, rfl, by decide +kernel, by decide +kernel⟩
theorem ok_Side {f : Addr} {fd : FuncData} (F : Fun K "side" "Takes.side" sSide f fd) (T : Txt K mg C I N J B)
    {gShown : Addr} {fShown : FuncData} (bShown : Binds K fShown ["self"] []) (hShown : Meth K C "shown" gShown) (GShown : FnOk P w K mg base CX0 1 gShown fShown ["self"] (spShown C)) :
    FnOk P w K mg base CX0 2 f fd ["self", "place"] (spSide C) := by
  refine F.ok scSide (fun vs H Q E h => ?_) (fun cdv A outer s H vs Q E hr h => ?_)
  · obtain ⟨_, _, _, _, _, _, rfl, _⟩ := h; rfl
  · obtain ⟨x, S, pre, st, n, i, rfl, hT, ok, hi, k⟩ := h
    refine ⟨_, pss_one (ps_ret (pe_ix ix_tup (pe_ix ix_tup (pe_meth0 (pv 0) T.cl hShown GShown hr bShown .nil pass0) pe_int (fun _ _ => rfl)) (pv 1) (fun _ _ => rfl))), ?_⟩
    obtain ⟨⟨dx, e1⟩, _, _⟩ := id hT
    refine ⟨_, rfl, x, dx, _, rfl, e1, flds_no S (by decide +kernel), x, S, pre, st, rfl, hT, fun r hst => ?_⟩
    obtain ⟨a, b, h1, h2, h3⟩ := hst
    exact ⟨r, _, 1, _, rfl, rfl, SqT.of h1, at1, _, rfl, _, _, _, _, rfl, rfl, SqT.of h3, getD_at (by rw [ok.s]; exact hi), k⟩
theorem scOdd : FnScope ["self"] ["self"] (defScope sOdd) := ⟨rfl, rfl, rfl, by decide +kernel, rfl, by decide +kernel, by decide +kernel⟩
theorem ok_Odd {f : Addr} {fd : FuncData} (F : Fun K "odd" "Takes.odd" sOdd f fd) (T : Txt K mg C I N J B)
    {gShown : Addr} {fShown : FuncData} (bShown : Binds K fShown ["self"] []) (hShown : Meth K C "shown" gShown) (GShown : FnOk P w K mg base CX0 1 gShown fShown ["self"] (spShown C)) :
    FnOk P w K mg base CX0 2 f fd ["self"] (spOdd C) := by
  refine F.ok scOdd (fun vs H Q E h => ?_) (fun cdv A outer s H vs Q E hr h => ?_)
  · obtain ⟨_, _, _, _, rfl, _⟩ := h; rfl
  · obtain ⟨x, S, pre, st, rfl, hT, k⟩ := h
    refine ⟨_, pss_one (ps_ret (pe_ix ix_tup (pe_meth0 (pv 0) T.cl hShown GShown hr bShown .nil pass0) pe_int (fun _ _ => rfl))), ?_⟩
    obtain ⟨⟨dx, e1⟩, _, _⟩ := id hT
    refine ⟨_, rfl, x, dx, _, rfl, e1, flds_no S (by decide +kernel), x, S, pre, st, rfl, hT, fun r hst => ?_⟩
    obtain ⟨a, b, h1, h2, h3⟩ := hst
    exact ⟨r, _, 2, _, rfl, rfl, SqT.of h1, at2, k⟩
theorem scJoins : FnScope ["self"] ["self"] (defScope sJoins) := ⟨rfl, rfl, rfl, by decide +kernel, rfl, by decide +kernel, by decide +kernel⟩
theorem ok_Joins {f : Addr} {fd : FuncData} (F : Fun K "joins" "Takes.joins" sJoins f fd) (T : Txt K mg C I N J B) :
    FnOk P w K mg base CX0 1 f fd ["self"] (spJoins C) := by
  refine F.ok scJoins (fun vs H Q E h => ?_) (fun cdv A outer s H vs Q E hr h => ?_)
  · obtain ⟨_, _, _, rfl, _⟩ := h; rfl
  · obtain ⟨x, S, sts, rfl, hT, k⟩ := h
    refine ⟨_, pss_one (ps_ret (pe_op op_sub (pe_callB call_len_seq (by rfl) T.len PySem.boot_len (pa_cons (pe_fld (pv 0) rfl) pa_nil)) pe_int)), ?_⟩
    obtain ⟨⟨dx, e1⟩, ⟨rs, e2, e3⟩, l⟩ := id hT
    refine ⟨_, rfl, x, C, dx, _, _, rfl, e1, T.cl, T.nS, flds_at S, S, _, rfl, .inl (SqL.of e2), _, _, rfl, rfl, ?_⟩
    show Q (.int (((rs.map V.ref).length : Int) - 1)) H
    rw [List.length_map, e3.len]
    exact k
theorem scSize : FnScope ["self", "place"] ["self", "place"] (defScope sSize) := ⟨rfl, rfl, rfl, by decide +kernel, rfl, by decide +kernel, by decide +kernel⟩
theorem ok_Size {f : Addr} {fd : FuncData} (F : Fun K "size" "Takes.size" sSize f fd) (T : Txt K mg C I N J B)
    {gShown : Addr} {fShown : FuncData} (bShown : Binds K fShown ["self"] []) (hShown : Meth K C "shown" gShown) (GShown : FnOk P w K mg base CX0 2 gShown fShown ["self"] (spShown C))
    {gTop : Addr} {fTop : FuncData} (bTop : Binds K fTop ["self", "place"] []) (hTop : Meth K C "top" gTop) (GTop : FnOk P w K mg base CX0 2 gTop fTop ["self", "place"] (spTop C)) :
    FnOk P w K mg base CX0 3 f fd ["self", "place"] (spSize C) := by
  refine F.ok scSize (fun vs H Q E h => ?_) (fun cdv A outer s H vs Q E hr h => ?_)
  · obtain ⟨_, _, _, _, _, _, rfl, _⟩ := h; rfl
  · obtain ⟨x, S, pre, st, n, i, rfl, hT, ok, hi, k⟩ := h
    refine ⟨_, pss_one (ps_ret (pe_bm PySem.F.plainAttrs_tuple PySem.F.slot_tuple_count PySem.F.type_tuple_count mt_countT (pe_ix ix_tup (pe_meth0 (pv 0) T.cl hShown GShown hr bShown .nil pass0) pe_int (fun _ _ => rfl)) (pa_cons (pe_meth (pv 0) T.cl hTop GTop hr bTop .nil pass0 (pa_cons (pv 1) pa_nil)) pa_nil))), ?_⟩
    obtain ⟨⟨dx, e1⟩, _, _⟩ := id hT
    refine ⟨_, rfl, x, dx, _, rfl, e1, flds_no S (by decide +kernel), x, S, pre, st, rfl, hT, fun r hst => ?_⟩
    obtain ⟨a, b, h1, h2, h3⟩ := hst
    refine ⟨r, _, 0, _, rfl, rfl, SqT.of h1, at0, .inr (.inl ⟨rfl, .inr ⟨_, h2⟩⟩), _, rfl, x, dx, _, rfl, e1, flds_no S (by decide +kernel), _, rfl, x, S, pre, st, n, i, rfl, hT, ok, hi, ?_⟩
    exact ⟨a, st.tops, _, rfl, rfl, SqT.of h2, k⟩
theorem scParts : FnScope ["self"] ["self"] (defScope sParts) := ⟨rfl, rfl, rfl, by decide +kernel, rfl, by decide +kernel, by decide +kernel⟩
theorem ok_Parts {f : Addr} {fd : FuncData} (F : Fun K "parts" "Takes.parts" sParts f fd) (T : Txt K mg C I N J B)
    {gShown : Addr} {fShown : FuncData} (bShown : Binds K fShown ["self"] []) (hShown : Meth K C "shown" gShown) (GShown : FnOk P w K mg base CX0 1 gShown fShown ["self"] (spShown C)) :
    FnOk P w K mg base CX0 2 f fd ["self"] (spParts C) := by
  refine F.ok scParts (fun vs H Q E h => ?_) (fun cdv A outer s H vs Q E hr h => ?_)
  · obtain ⟨_, _, _, _, _, rfl, _⟩ := h; rfl
  · obtain ⟨x, S, pre, st, n, rfl, hT, ok, k⟩ := h
    refine ⟨_, pss_one (ps_ret (pe_callB call_len_seq (by rfl) T.len PySem.boot_len (pa_cons (pe_comp (T := ["place", "top"]) (F := []) (js := []) (CS.to (osc := defScope sParts) ⟨by rfl, by decide +kernel, by decide +kernel, by decide +kernel, by decide +kernel, by decide +kernel, by decide +kernel⟩ rfl rfl) rfl (pi_enumT rfl T.enumerate (pa_cons (pe_ix ix_tup (pe_meth0 (pv 0) T.cl hShown GShown hr bShown .nil pass0) pe_int (fun _ _ => rfl)) pa_nil)) (fun _ _ _ _ _ => pg_tupK K 2 rfl rfl (pgs_cons (pg_name (i := 0) (show (["place", "top"] : List Str).Nodup by decide +kernel) rfl (Or.inl rfl)) (pgs_cons (pg_name (i := 1) (show (["place", "top"] : List Str).Nodup by decide +kernel) rfl (Or.inl rfl)) pgs_nil))) (fun _ _ _ _ _ => pif_one (pt_cmpR op_eq (pv 1) (pv 0) (nomark _))) (fun _ _ _ _ _ => pv 0)) pa_nil))), ?_⟩
    obtain ⟨⟨dx, e1⟩, _, _⟩ := id hT
    refine ⟨_, rfl, x, dx, _, rfl, e1, flds_no S (by decide +kernel), x, S, pre, st, rfl, hT, fun r hst => ?_⟩
    obtain ⟨a, b, h1, h2, h3⟩ := hst
    refine ⟨r, _, 0, _, rfl, rfl, SqT.of h1, at0, a, _, rfl, SqT.of h2, fun D hD => comp_enumT (K := K) (a := a) (xs := st.tops.map V.int) (fun j σ ys H2 => ∃ u1 u2 : Option V, σ = [u1, u2] ∧ Same H H2 ∧ H2 D = some (.lst ys) ∧ ys = ((List.range j).filter fun p => decide (st.tops.getD p 0 = (p : Nat))).map fun p => V.int (p : Nat))
      ⟨none, none, rfl, same_new hD, upd_same, rfl⟩ (fun j σ ys H2 _ ⟨_, _, _, s2, e, _⟩ => ⟨SqT.of (s2 _ _ h2), e⟩) ?_ ?_⟩
    · rintro j v σ ys H2 T' hv ⟨u1, u2, rfl, s2, e2, rfl⟩ hT'
      obtain ⟨c, hc, rfl⟩ := int_of hv
      have jl : j < st.tops.length := (List.getElem?_eq_some_iff.mp hc).1
      have gd : st.tops.getD j 0 = c := by simp [List.getD, hc]
      have s4 := s2.trans (same_new (o := .tup [.int (j : Nat), .int c]) hT')
      have T4 := upd_same (H := H2) (a := T') (o := .tup [.int (j : Nat), .int c])
      have D4 := same_new (o := .tup [.int (j : Nat), .int c]) hT' _ _ e2
      generalize upd H2 T' (.tup [.int (j : Nat), .int c]) = H4 at s4 T4 D4
      refine ⟨T', _, rfl, SqT.of T4, rfl, _, _, rfl, _, _, rfl, rfl, ?_⟩
      have ll : (((List.range j).filter fun p => decide (st.tops.getD p 0 = (p : Nat))).map fun p => V.int ((p : Nat) : Int)).length ≤ 24 := by
        rw [List.length_map]
        refine Nat.le_trans (List.length_filter_le _ _) ?_
        have := ok.t
        have := ok.n2
        simp; omega
      refine ⟨_, rfl, _, rfl, rfl, _, rfl, ite2 (fun g => ?_) fun g => ?_⟩
      · have g : c = (j : Int) := by simpa using g
        refine ⟨_, rfl, D4, small1000 (by omega), _, _, rfl, fun b o e => by rw [upd_ne (ne_of_none e hD)]; exact s4 _ _ e, upd_same, ?_⟩
        rw [List.range_succ, List.filter_append, List.map_append]
        have f1 : List.filter (fun p => decide (st.tops.getD p 0 = ((p : Nat) : Int))) [j] = [j] := by rw [List.filter_cons, if_pos (by rw [gd, g]; simp)]; rfl
        rw [f1]
        rfl
      · have g : ¬ c = (j : Int) := by simpa using g
        refine ⟨_, _, rfl, s4, D4, ?_⟩
        rw [List.range_succ, List.filter_append, List.map_append]
        have f1 : List.filter (fun p => decide (st.tops.getD p 0 = ((p : Nat) : Int))) [j] = [] := by rw [List.filter_cons, if_neg (by rw [gd]; simpa using g)]; rfl
        rw [f1]
        simp
    rintro σ ys H2 ⟨u1, u2, rfl, s2, e2, rfl⟩
    refine ⟨D, _, rfl, .inl (SqL.of e2), ?_⟩
    show Q (.int _) H2
    rw [List.length_map, List.length_map]
    exact k H2 s2
theorem scJoin : FnScope ["self", "one", "other", "tops", "sides", "odds", "is_new"] ["self", "one", "other"] (defScope sJoin) := ⟨rfl, rfl, rfl, by decide +kernel, rfl, by decide +kernel, by decide +kernel⟩
theorem ok_Join {f : Addr} {fd : FuncData} (F : Fun K "join" "Takes.join" sJoin f fd) (T : Txt K mg C I N J B)
    {gShown : Addr} {fShown : FuncData} (bShown : Binds K fShown ["self"] []) (hShown : Meth K C "shown" gShown) (GShown : FnOk P w K mg base CX0 2 gShown fShown ["self"] (spShown C))
    {gJp : Addr} {fJp : FuncData} (kJp : PySem.W.keepIn K (.ref gJp) = true) (bJp : Binds K fJp ["tops", "sides", "one", "other"] []) (hJp : mg "joined_parts" = some (.ref gJp)) (GJp : FnOk P w K mg base CX0 2 gJp fJp ["tops", "sides", "one", "other"] (spJp K)) :
    FnOk P w K mg base CX0 3 f fd ["self", "one", "other"] (spJoin C) := by
  refine F.ok scJoin (fun vs H Q E h => ?_) (fun cdv A outer s H vs Q E hr h => ?_)
  · obtain ⟨_, _, _, _, _, _, _, rfl, _⟩ := h; rfl
  · obtain ⟨x, S, pre, st, n, i, j, rfl, hT, pl, ok, hi, hj, k⟩ := h
    refine ⟨_, pss_cons (ps_asg (pe_meth0 (pv 0) T.cl hShown GShown hr bShown .nil pass0) (pg_tup rfl (pgs_cons (pg_name (i := 3) scJoin.nd rfl (Or.inl rfl)) (pgs_cons (pg_name (i := 4) scJoin.nd rfl (Or.inl rfl)) (pgs_cons (pg_name (i := 5) scJoin.nd rfl (Or.inl rfl)) pgs_nil)))))
      (pss_cons (ps_set (i := 6) scJoin.nd rfl (Or.inl rfl) (pe_cmpR op_ne (pe_ix ix_tup (pv 3) (pv 1) (fun _ _ => rfl)) (pe_ix ix_tup (pv 3) (pv 2) (fun _ _ => rfl)) (nomark _)))
      (pss_cons (ps_if (pt_val (pv 6)) (pss_one (ps_asg (pe_call GJp hr rfl hJp kJp bJp .nil pass0 (pa_cons (pv 3) (pa_cons (pv 4) (pa_cons (pv 1) (pa_cons (pv 2) pa_nil))))) (pg_tup rfl (pgs_cons (pg_name (i := 3) scJoin.nd rfl (Or.inl rfl)) (pgs_cons (pg_name (i := 4) scJoin.nd rfl (Or.inl rfl)) pgs_nil))))) (pss_one (ps_if (pt_cmpR op_eq (pe_ix ix_tup (pv 4) (pv 1) (fun _ _ => rfl)) (pe_ix ix_tup (pv 4) (pv 2) (fun _ _ => rfl)) (nomark _)) (pss_one (ps_aug (i := 5) scJoin.nd rfl (Or.inl rfl) pe_int ip_add)) pss_nil)))
      (PSs.imp' (t' := tTailJ C) (pss_cons (ps_expr (pe_bm PySem.F.plainAttrs_list PySem.F.slot_list_append PySem.F.type_list_append mt_append (pe_fld (pv 0) rfl) (pa_cons (pe_tup (pa_cons (pv 3) (pa_cons (pv 4) (pa_cons (pv 5) pa_nil)))) pa_nil)))
      (pss_one (ps_ret (pv 6)))) ?tail))), ?_⟩
    case tail =>
      rintro D σ H ⟨x, S, a, b, sts, nw, i, j, bb, rfl, hT, sl, ha, hb, k⟩
      obtain ⟨⟨dx, e1⟩, ⟨rs, e2, e3⟩, l⟩ := id hT
      have rl := e3.len
      refine ⟨_, rfl, x, C, dx, _, _, rfl, e1, T.cl, T.nS, flds_at S, .inl ⟨rfl, _, SqL.of e2⟩, _, rfl, _, rfl, _, rfl, small (by simp), fun r hr' => ?_⟩
      have s1 := same_new (o := .tup [.ref a, .ref b, .int nw.odds]) hr'
      have r1 := upd_same (H := H) (a := r) (o := .tup [.ref a, .ref b, .int nw.odds])
      have S1 := s1 _ _ e2
      generalize upd H r (.tup [.ref a, .ref b, .int nw.odds]) = H1 at s1 r1 S1
      refine ⟨S, _, _, rfl, rfl, S1, small1000 (by simp; omega), ?_⟩
      have up : ∀ c o, H c = some o → c ≠ S → upd H1 S (.lst (rs.map V.ref ++ [.ref r])) c = some o := fun c o e nc => by rw [upd_ne nc]; exact s1 _ _ e
      have tup : TupS H1 (upd H1 S (.lst (rs.map V.ref ++ [.ref r]))) := fun c xs e => by rw [upd_ne (ne_of e S1 (by intro z; cases z))]; exact e
      refine ⟨_, rfl, k _ up ⟨⟨dx, up _ _ e1 (ne_of e1 e2 (by intro z; cases z))⟩, ⟨rs ++ [r], by rw [upd_same, List.map_append]; rfl, StsAt.snoc ⟨a, b, tup _ _ r1, tup _ _ (s1 _ _ ha), tup _ _ (s1 _ _ hb)⟩ ((e3.tup (tupS_same s1)).tup tup)⟩, by simp; omega⟩⟩
    obtain ⟨⟨dx, e1⟩, _, _⟩ := id hT
    refine ⟨_, rfl, x, dx, _, rfl, e1, flds_no S (by decide +kernel), x, S, pre, st, rfl, hT, fun r hst => ?_⟩
    obtain ⟨a, b, h1, h2, h3⟩ := id hst
    refine ⟨r, _, rfl, SqT.of h1, rfl, _, _, rfl, _, _, rfl, _, _, rfl, rfl, ?_⟩
    have gi := getD_at (ns := st.tops) (i := i) (by rw [ok.t]; exact hi)
    have gj := getD_at (ns := st.tops) (i := j) (by rw [ok.t]; exact hj)
    have si := getD_at (ns := st.sides) (i := i) (by rw [ok.s]; exact hi)
    have sj := getD_at (ns := st.sides) (i := j) (by rw [ok.s]; exact hj)
    refine ⟨_, rfl, _, rfl, a, _, _, _, rfl, rfl, SqT.of h2, gi, _, rfl, _, rfl, a, _, _, _, rfl, rfl, SqT.of h2, gj, rfl, ?_⟩
    by_cases hab : st.tops.getD i 0 = st.tops.getD j 0
    · have ej : joinS st i j = (⟨st.tops, st.sides, st.odds + turnOf (st.sides.getD i 0) (st.sides.getD j 0)⟩, false) := by unfold joinS; simp only; rw [if_pos hab]
      rw [ej] at k
      rw [hab, decide_eq_true rfl]
      refine ⟨_, rfl, false, rfl, iteF ?_⟩
      refine ⟨_, rfl, _, rfl, b, _, _, _, rfl, rfl, SqT.of h3, si, _, rfl, _, rfl, b, _, _, _, rfl, rfl, SqT.of h3, sj, rfl, _, rfl, ite2 (fun g => ?_) fun g => ?_⟩
      · have g : st.sides.getD i 0 = st.sides.getD j 0 := by simpa using g
        have eg : turnOf (st.sides.getD i 0) (st.sides.getD j 0) = 1 := by unfold turnOf; rw [if_pos g]
        rw [eg] at k
        exact ⟨_, rfl, _, _, rfl, rfl, x, S, a, b, _, ⟨st.tops, st.sides, st.odds + 1⟩, _, _, false, rfl, hT, by simp; omega, h2, h3, k⟩
      · have g : ¬ st.sides.getD i 0 = st.sides.getD j 0 := by simpa using g
        have eg : turnOf (st.sides.getD i 0) (st.sides.getD j 0) = 0 := by unfold turnOf; rw [if_neg g]
        rw [eg, Int.add_zero] at k
        exact ⟨x, S, a, b, _, ⟨st.tops, st.sides, st.odds⟩, _, _, false, rfl, hT, by simp; omega, h2, h3, k⟩
    · have ej : joinS st i j = (⟨newTops st.tops (kt st.tops (st.tops.getD i 0) (st.tops.getD j 0)).1 (kt st.tops (st.tops.getD i 0) (st.tops.getD j 0)).2, newSides st.tops st.sides (kt st.tops (st.tops.getD i 0) (st.tops.getD j 0)).2 (turnOf (st.sides.getD i 0) (st.sides.getD j 0)), st.odds⟩, true) := by unfold joinS; simp only; rw [if_neg hab]
      rw [ej] at k
      rw [decide_eq_false (show ¬ V.int (st.tops.getD i 0) = V.int (st.tops.getD j 0) by simpa using hab)]
      refine ⟨_, rfl, true, rfl, iteT ?_⟩
      refine ⟨_, rfl, _, rfl, _, rfl, _, rfl, a, b, st, n, i, j, rfl, h2, h3, ok, hi, hj, fun r2 a2 b2 H1 s1 g1 g2 g3 => ?_⟩
      refine ⟨r2, _, rfl, SqT.of g1, rfl, _, _, rfl, _, _, rfl, rfl, ?_⟩
      exact ⟨x, S, a2, b2, _, ⟨newTops st.tops (kt st.tops (st.tops.getD i 0) (st.tops.getD j 0)).1 (kt st.tops (st.tops.getD i 0) (st.tops.getD j 0)).2, newSides st.tops st.sides (kt st.tops (st.tops.getD i 0) (st.tops.getD j 0)).2 (turnOf (st.sides.getD i 0) (st.sides.getD j 0)), st.odds⟩, _, _, true, rfl, hT.same s1, by simp; omega, g2, g3, fun H' u T' => k H' (fun c o e nc => u c o (s1 _ _ e) nc) T'⟩
theorem scBack : FnScope ["self", "thing"] ["self", "thing"] (defScope sBack) := ⟨rfl, rfl, rfl, by decide +kernel, rfl, by decide +kernel, by decide +kernel⟩
theorem ok_Back {f : Addr} {fd : FuncData} (F : Fun K "back" "Takes.back" sBack f fd) (T : Txt K mg C I N J B)
    {gWithin : Addr} {fWithin : FuncData} (kWithin : PySem.W.keepIn K (.ref gWithin) = true) (bWithin : Binds K fWithin ["thing", "low", "high"] []) (hWithin : mg "is_within" = some (.ref gWithin)) (GWithin : FnOk P w K mg base CX0 2 gWithin fWithin ["thing", "low", "high"] spWithin)
    {gJoins : Addr} {fJoins : FuncData} (bJoins : Binds K fJoins ["self"] []) (hJoins : Meth K C "joins" gJoins) (GJoins : FnOk P w K mg base CX0 2 gJoins fJoins ["self"] (spJoins C)) :
    FnOk P w K mg base CX0 3 f fd ["self", "thing"] (spBack C) := by
  refine F.ok scBack (fun vs H Q E h => ?_) (fun cdv A outer s H vs Q E hr h => ?_)
  · obtain ⟨_, _, _, _, rfl, _⟩ := h; rfl
  · obtain ⟨x, S, sts, kk, rfl, hT, hk, k⟩ := h
    refine ⟨_, pss_cons (ps_if (pt_not (pt_val (pe_call GWithin hr rfl hWithin kWithin bWithin .nil pass0 (pa_cons (pv 1) (pa_cons pe_int (pa_cons (pe_meth0 (pv 0) T.cl hJoins GJoins hr bJoins .nil pass0) pa_nil)))))) (pss_one ps_never) pss_nil)
      (pss_one (ps_fld (pv 0) (pe_slice sl_list (pe_fld (pv 0) rfl) po_none (po_some (pe_op op_add (pv 1) pe_int))) rfl)), ?_⟩
    obtain ⟨⟨dx, e1⟩, ⟨rs, e2, e3⟩, l⟩ := id hT
    have rl := e3.len
    refine ⟨_, rfl, _, rfl, x, dx, _, rfl, e1, flds_no S (by decide +kernel), x, S, sts, rfl, hT, _, _, _, rfl, by omega, by omega, true, rfl, iteF ?_⟩
    dsimp only [tNext]
    refine ⟨_, rfl, x, C, dx, _, _, rfl, e1, T.cl, T.nS, flds_at S, _, rfl, _, _, rfl, rfl, _, rfl, S, _, rfl, SqL.of e2, fun p hp => ?_⟩
    have cut : cutV (rs.map V.ref) none (some ((kk : Int) + 1)) = (rs.take (kk + 1)).map V.ref := by
      unfold cutV
      simp only [HT.sIx, List.drop_zero, Nat.sub_zero]
      rw [if_neg (by omega), List.map_take, show min ((kk : Int) + 1).toNat (rs.map V.ref).length = kk + 1 by simp; omega]
    rw [cut]
    have s1 := same_new (o := .lst ((rs.take (kk + 1)).map V.ref)) hp
    have p1 := upd_same (H := H) (a := p) (o := .lst ((rs.take (kk + 1)).map V.ref))
    generalize upd H p (.lst ((rs.take (kk + 1)).map V.ref)) = H1 at s1 p1
    have x1 := s1 _ _ e1
    refine ⟨_, rfl, x, C, dx, _, rfl, x1, T.cl, T.nS, (show 1 < 1000 by decide), ?_⟩
    have tup : TupS H (upd H1 x (.ins C dx (flds p))) := fun c xs e => by rw [upd_ne (ne_of (s1 _ _ e) x1 (by intro z; cases z))]; exact s1 _ _ e
    rw [flds_put]
    exact k p _ hp (fun c o e nc => by rw [upd_ne nc]; exact s1 _ _ e) ⟨⟨dx, upd_same⟩, ⟨rs.take (kk + 1), by rw [upd_ne (ne_of p1 x1 (by intro z; cases z))]; exact p1, (e3.take _).tup tup⟩, by rw [List.length_take]; omega⟩
end
end K19
set_option maxHeartbeats 2000000
namespace K19
open PySem L2 Wk
def kinds : List String := ["NoneType", "bool", "int", "str", "tuple", "list", "dict"]
def isInt : V → Bool
  | .int _ => true
  | _ => false
def inside (v : V) (lo hi : Int) : Bool := match v with
  | .int i => decide (lo ≤ i) && decide (i ≤ hi)
  | _ => false
def Thing (K : PySem.W.Frag) (H : Hp) (v : V) : Prop := ∃ c, TyOf K H v (.type c) ∧ c ∈ kinds
def spWholeT (K : PySem.W.Frag) : Sp := fun vs H Q _ => ∃ v : V, vs = [v] ∧ Thing K H v ∧ Q (.bl (isInt v)) H
def spWithinT (K : PySem.W.Frag) : Sp := fun vs H Q _ => ∃ (v : V) (lo hi : Int), vs = [v, .int lo, .int hi] ∧ Thing K H v ∧ Q (.bl (inside v lo hi)) H
structure XcAt (N : Addr) (H : Hp) (e : Addr) (v : V) : Prop where
  ex : ∃ d, H e = some (.ext (ExcO e N (some d))) ∧ H d = some (.ext (XdO d [("thing", v)]))
def spNInit (N : Addr) : Sp := fun vs H Q _ => ∃ (e : Addr) (v : V) (fs : Array Value), vs = [.ref e, v] ∧ H e = some (.ext (ExcV e N none fs)) ∧ ∀ (d : Addr) (H' : Hp), d ≠ e → (∀ b o, H b = some o → b ≠ e → H' b = some o) → H' e = some (.ext (ExcV e N (some d) fs)) → H' d = some (.ext (XdO d [("thing", v)])) → Q .non H'
def spBackX (K : PySem.W.Frag) (C N : Addr) : Sp := fun vs H Q E => ∃ (x S : Addr) (sts : List S3) (v : V), vs = [.ref x, v] ∧ TkAt C H x S sts ∧ Thing K H v ∧ inside v 0 ((sts.length : Int) - 1) = false ∧ ∀ (e : Addr) (H' : Hp), Same H H' → XcAt N H' e v → E (.ref N) (some e) H'
section
variable {P : Program} {w : World} {K : PySem.W.Frag} {mg : Str → Option Value} {base : Heap} {C I N J B : Addr}
theorem ok_WholeT {f : Addr} {fd : FuncData} (F : Fun K "is_whole" "is_whole" sWhole f fd) (T : Txt K mg C I N J B) : FnOk P w K mg base CX0 1 f fd ["thing"] (spWholeT K) := by
  refine F.ok scWhole (fun vs H Q E h => ?_) (fun cdv A outer s H vs Q E hr h => ?_)
  · obtain ⟨_, rfl, _⟩ := h; rfl
  · obtain ⟨v, rfl, ⟨c, ty, hc⟩, k⟩ := h
    refine ⟨_, pss_one (ps_ret (pe_and (pe_callB call_isi (by rfl) T.isinstance (by decide +kernel) (pa_cons (pv 0) (pa_cons (pe_ty (T := "int") (by rfl) T.int (by decide +kernel)) pa_nil))) (pe_one (pe_not (pe_callB call_isi (by rfl) T.isinstance (by decide +kernel) (pa_cons (pv 0) (pa_cons (pe_ty (T := "bool") (by rfl) T.bool (by decide +kernel)) pa_nil))))))), ?_⟩
    cases ty with
    | non => exact ⟨_, rfl, _, _, "int", false, rfl, .non, rfl, _, rfl, iteF k⟩
    | bl y => exact ⟨_, rfl, _, _, "int", true, rfl, .bl y, rfl, _, rfl, iteT ⟨_, rfl, _, _, "bool", true, rfl, .bl y, rfl, _, rfl, k⟩⟩
    | int i => exact ⟨_, rfl, _, _, "int", true, rfl, .int i, rfl, _, rfl, iteT ⟨_, rfl, _, _, "bool", false, rfl, .int i, rfl, _, rfl, k⟩⟩
    | str y => exact ⟨_, rfl, _, _, "int", false, rfl, .str y, rfl, _, rfl, iteF k⟩
    | flt y => exact absurd hc (by decide)
    | lst e => exact ⟨_, rfl, _, _, "int", false, rfl, .lst e, rfl, _, rfl, iteF k⟩
    | frz e => exact ⟨_, rfl, _, _, "int", false, rfl, .frz e, rfl, _, rfl, iteF k⟩
    | tup e => exact ⟨_, rfl, _, _, "int", false, rfl, .tup e, rfl, _, rfl, iteF k⟩
    | dK e => exact ⟨_, rfl, _, _, "int", false, rfl, .dK e, rfl, _, rfl, iteF k⟩
    | dT e => exact ⟨_, rfl, _, _, "int", false, rfl, .dT e, rfl, _, rfl, iteF k⟩
theorem ok_WithinT {f : Addr} {fd : FuncData} (F : Fun K "is_within" "is_within" sWithin f fd) (T : Txt K mg C I N J B)
    {gWhole : Addr} {fWhole : FuncData} (kWhole : PySem.W.keepIn K (.ref gWhole) = true) (bWhole : Binds K fWhole ["thing"] []) (hWhole : mg "is_whole" = some (.ref gWhole)) (GWhole : FnOk P w K mg base CX0 1 gWhole fWhole ["thing"] (spWholeT K)) :
    FnOk P w K mg base CX0 2 f fd ["thing", "low", "high"] (spWithinT K) := by
  refine F.ok scWithin (fun vs H Q E h => ?_) (fun cdv A outer s H vs Q E hr h => ?_)
  · obtain ⟨_, _, _, rfl, _⟩ := h; rfl
  · obtain ⟨v, lo, hi, rfl, ht, k⟩ := h
    refine ⟨_, pss_one (ps_ret (pe_and (pe_call GWhole hr rfl hWhole kWhole bWhole .nil pass0 (pa_cons (pv 0) pa_nil)) (pe_one (pe_chain op_le op_le (pv 1) (pv 0) (pv 2))))), ?_⟩
    refine ⟨_, rfl, v, rfl, ht, _, rfl, ?_⟩
    cases v with
    | int i =>
      refine iteT ⟨_, rfl, _, rfl, _, _, rfl, rfl, _, rfl, ?_⟩
      have k : Q (.bl (decide (lo ≤ i) && decide (i ≤ hi))) H := k
      by_cases g : lo ≤ i
      · rw [decide_eq_true g] at k ⊢
        exact iteT ⟨_, rfl, _, _, rfl, rfl, k⟩
      · rw [decide_eq_false g] at k ⊢
        exact iteF k
    | _ => exact iteF k
theorem scNInit : FnScope ["self", "thing"] ["self", "thing"] (defScope sNInit) := ⟨rfl, rfl, rfl, by decide +kernel, rfl, by decide +kernel, by decide +kernel⟩
theorem ok_NInit {f : Addr} {fd : FuncData} (F : Fun K "__init__" "NoMark.__init__" sNInit f fd) (T : Txt K mg C I N J B) : FnOk P w K mg base CX0 1 f fd ["self", "thing"] (spNInit N) := by
  refine F.ok scNInit (fun vs H Q E h => ?_) (fun cdv A outer s H vs Q E hr h => ?_)
  · obtain ⟨_, _, _, rfl, _⟩ := h; rfl
  · obtain ⟨e, v, fs, rfl, he, k⟩ := h
    refine ⟨_, pss_one (ps_xf (pv 0) (pv 1)), ?_⟩
    refine ⟨_, rfl, _, rfl, e, N, _, fs, rfl, he, T.xN, T.nT, fun d hd hne => ?_⟩
    refine k d _ hne (fun b o hb hbe => ?_) (by rw [upd_ne hne.symm, upd_same]) upd_same
    have nd : b ≠ d := ne_of_none hb hd
    rw [upd_ne nd, upd_ne hbe, upd_ne nd]; exact hb
theorem ok_BackX {f : Addr} {fd : FuncData} (F : Fun K "back" "Takes.back" sBack f fd) (T : Txt K mg C I N J B)
    {gWithin : Addr} {fWithin : FuncData} (kWithin : PySem.W.keepIn K (.ref gWithin) = true) (bWithin : Binds K fWithin ["thing", "low", "high"] []) (hWithin : mg "is_within" = some (.ref gWithin)) (GWithin : FnOk P w K mg base CX0 2 gWithin fWithin ["thing", "low", "high"] (spWithinT K))
    {gJoins : Addr} {fJoins : FuncData} (bJoins : Binds K fJoins ["self"] []) (hJoins : Meth K C "joins" gJoins) (GJoins : FnOk P w K mg base CX0 2 gJoins fJoins ["self"] (spJoins C))
    {fNInit : FuncData} (bNInit : Binds K fNInit ["self", "thing"] []) (GNInit : FnOk P w K mg base CX0 1 J fNInit ["self", "thing"] (spNInit N)) :
    FnOk P w K mg base (CXU P w) 3 f fd ["self", "thing"] (spBackX K C N) := by
  refine F.okX scBack (fun vs H Q E h => ?_) (fun cdv A outer s H vs Q E hr h => ?_)
  · obtain ⟨_, _, _, _, rfl, _⟩ := h; rfl
  · obtain ⟨x, S, sts, v, rfl, hT, ht, hin, k⟩ := h
    refine ⟨_, psxs_cons (psx_if (pt_not (pt_val (pe_call GWithin hr rfl hWithin kWithin bWithin .nil pass0 (pa_cons (pv 1) (pa_cons pe_int (pa_cons (pe_meth0 (pv 0) T.cl hJoins GJoins hr bJoins .nil pass0) pa_nil)))))) (psxs_one (psx_raise T.xN T.iN T.fN GNInit hr rfl T.mgN bNInit (pa_cons (pv 1) pa_nil))) psxs_nil) (psxs_of pss_never), ?_⟩
    obtain ⟨⟨dx, e1⟩, _, _⟩ := id hT
    refine ⟨_, rfl, _, rfl, x, dx, _, rfl, e1, flds_no S (by decide +kernel), x, S, sts, rfl, hT, v, _, _, rfl, ht, ?_⟩
    refine ⟨_, rfl, ?_⟩
    rw [hin]
    refine iteT ⟨_, rfl, (show 1 ≤ 1000 by decide), fun ex tt hex => ?_⟩
    refine ⟨ex, v, _, rfl, upd_same, fun d H' ned hk he hd => ⟨rfl, some d, he, ?_⟩⟩
    refine k ex _ (fun b o hb => ?_) ⟨d, upd_same, by rw [upd_ne ned]; exact hd⟩
    have nb : b ≠ ex := ne_of_none hb hex
    rw [upd_ne nb]
    exact hk b o (by rw [upd_ne nb]; exact hb) nb
end
end K19
set_option maxHeartbeats 1000000
namespace K19
open PySem L2 Wk
def DeckAt (H : Hp) (d : Addr) (b : Nat) : Prop := ∃ x S k : Int, H d = some (.lst [.int x, .int S, .int k]) ∧ 0 ≤ k ∧ k + b ≤ 2 ^ 32
theorem DeckAt.mono {H : Hp} {d : Addr} {b b' : Nat} (h : DeckAt H d b) (l : b' ≤ b) : DeckAt H d b' := by
  obtain ⟨x, S, k, h1, h2, h3⟩ := h
  exact ⟨x, S, k, h1, h2, by omega⟩
def But (d : Addr) (H H' : Hp) : Prop := ∀ b o, H b = some o → b ≠ d → H' b = some o
theorem But.trans {d : Addr} {H H1 H2 : Hp} (h : But d H H1) (h' : But d H1 H2) : But d H H2 := fun b o e n => h' b o (h b o e n) n
theorem But.of {d : Addr} {H H' : Hp} (s : Same H H') : But d H H' := fun b o e _ => s b o e
theorem DeckAt.same {H H' : Hp} {d : Addr} {n : Nat} (h : DeckAt H d n) (s : Same H H') : DeckAt H' d n := by
  obtain ⟨x, S, k, h1, r⟩ := h
  exact ⟨x, S, k, s _ _ h1, r⟩
theorem DeckAt.ne {H : Hp} {d b : Addr} {n : Nat} (h : DeckAt H d n) (e : H b = none) : b ≠ d := by
  obtain ⟨_, _, _, h1, _⟩ := h
  exact (ne_of_none h1 e).symm
theorem DeckAt.upd {H : Hp} {d b : Addr} {o : HO} {m : Nat} (h : DeckAt H d m) (n : b ≠ d) : DeckAt (upd H b o) d m := by
  obtain ⟨x, S, k, h1, r⟩ := h
  exact ⟨x, S, k, by rw [upd_ne n.symm]; exact h1, r⟩
theorem But.none {d : Addr} {H H' : Hp} {b : Addr} {n : Nat} (h : But d H H') (w : DeckAt H' d n) (hb : H' b = none) : H b = none := by
  cases e : H b with
  | none => rfl
  | some o => rw [h b o e (w.ne hb)] at hb; cases hb
def spCell (K : PySem.W.Frag) : Sp := fun vs H Q _ => ∃ (s : Addr) (ns : List Int) (k : Nat), vs = [.ref s, .int (k : Int)] ∧ SqL K H s (ns.map V.int) ∧ ∀ v, Q (.int v) H
def spOpened : Sp := fun vs H Q _ => ∃ v : Int, vs = [.int v] ∧ ∀ d H', Same H H' → H d = none → DeckAt H' d 100000 → Q (.ref d) H'
def spDraw : Sp := fun vs H Q _ => ∃ (d : Addr) (m : Int) (b : Nat), vs = [.ref d, .int m] ∧ DeckAt H d (b + 1) ∧ 0 < m ∧ m < 1073741824 ∧ ∀ (v : Int) (H' : Hp), 0 ≤ v → v < m → But d H H' → DeckAt H' d b → Q (.int v) H'
def spDrawW : Sp := fun vs H Q _ => ∃ (d : Addr) (m : Int) (b : Nat), vs = [.ref d, .int m] ∧ DeckAt H d (b + 1) ∧ 0 < m ∧ m < 2 ^ 200 ∧ ∀ (v : Int) (H' : Hp), 0 ≤ v → v < m → But d H H' → DeckAt H' d b → Q (.int v) H'
def spRare : Sp := fun vs H Q _ => ∃ (d : Addr) (x y : Int) (b : Nat), vs = [.ref d, .int x, .int y] ∧ DeckAt H d (b + 1) ∧ ∀ (v : Int) (H' : Hp), v = x ∨ v = y → But d H H' → DeckAt H' d b → Q (.int v) H'
def spTwo : Sp := fun vs H Q _ => ∃ (d : Addr) (N b : Nat), vs = [.ref d, .int (N : Int)] ∧ DeckAt H d (b + 2) ∧ 2 ≤ N ∧ N ≤ 60 ∧ ∀ (p q : Nat) (r : Addr) (H' : Hp), But d H H' → DeckAt H' d b → p < N → q < N → p ≠ q → H' r = some (.tup [.int (p : Int), .int (q : Int)]) → Q (.ref r) H'
section
variable {P : Program} {w : World} {K : PySem.W.Frag} {mg : Str → Option Value} {base : Heap} {C I N J B : Addr}
theorem scCell : FnScope ["_law_script", "_law_k"] ["_law_script", "_law_k"] (defScope sCell) := ⟨rfl, rfl, rfl, by decide +kernel, rfl, by decide +kernel, by decide +kernel⟩
theorem ok_Cell {f : Addr} {fd : FuncData} (F : Fun K "_law_cell_at" "_law_cell_at" sCell f fd) (T : Txt K mg C I N J B) :
    FnOk P w K mg base CX0 1 f fd ["_law_script", "_law_k"] (spCell K) := by
  refine F.ok scCell (fun vs H Q E h => ?_) (fun cdv A outer s H vs Q E hr h => ?_)
  · obtain ⟨_, _, _, rfl, _⟩ := h; rfl
  · obtain ⟨s, ns, k0, rfl, hS, k⟩ := h
    refine ⟨_, pss_cons (ps_if (pt_cmpR op_lt (pv 1) (pe_callB call_len_seq (by rfl) T.len PySem.boot_len (pa_cons (pv 0) pa_nil)) (nomark _)) (pss_one (ps_ret (pe_ix ix_list (pv 0) (pv 1) (fun _ _ => rfl)))) pss_nil)
      (pss_one (ps_ret (pe_op op_add (pe_op op_mul pe_int (pv 1)) pe_int))), ?_⟩
    refine ⟨_, rfl, _, rfl, s, _, rfl, .inl hS, _, _, rfl, rfl, _, rfl, ite2 (fun g => ?_) fun g => ?_⟩
    · rw [List.length_map] at g
      have g := of_decide_eq_true g
      exact ⟨_, rfl, _, rfl, s, _, _, .int (ns[k0]'(by omega)), rfl, rfl, hS, atI_nat (by rw [List.getElem?_map, List.getElem?_eq_getElem (by omega)]; rfl), k _⟩
    · dsimp only [tNext]
      exact ⟨_, rfl, _, _, rfl, rfl, .inl ⟨by decide, by decide⟩, _, _, rfl, rfl, k _⟩
theorem scOpened : FnScope ["_law_cell"] ["_law_cell"] (defScope sOpened) := ⟨rfl, rfl, rfl, by decide +kernel, rfl, by decide +kernel, by decide +kernel⟩
theorem ok_Opened {f : Addr} {fd : FuncData} (F : Fun K "_law_opened" "_law_opened" sOpened f fd) (T : Txt K mg C I N J B) :
    FnOk P w K mg base CX0 1 f fd ["_law_cell"] spOpened := by
  refine F.ok scOpened (fun vs H Q E h => ?_) (fun cdv A outer s H vs Q E hr h => ?_)
  · obtain ⟨_, rfl, _⟩ := h; rfl
  · obtain ⟨v, rfl, k⟩ := h
    refine ⟨_, pss_one (ps_ret (pe_lst (pa_cons (pe_ix ix_list (pe_lst (pa_cons pe_int (pa_cons (pv 0) pa_nil))) (pe_callTy call_int1 (by rfl) T.int (by decide +kernel) (pa_cons (pe_cmpR op_ge (pv 0) (pe_op op_pow pe_int pe_int) (nomark _)) pa_nil)) (fun _ _ => rfl)) (pa_cons (pe_op op_mod (pv 0) pe_int) (pa_cons pe_int pa_nil))))), ?_⟩
    refine ⟨_, rfl, small (by simp), fun q hq => ?_⟩
    have sq := same_new (o := .lst [.int 0, .int v]) hq
    have q1 := upd_same (H := H) (a := q) (o := .lst [.int 0, .int v])
    generalize upd H q (.lst [.int 0, .int v]) = H1 at sq q1
    refine ⟨_, rfl, _, _, rfl, rfl, ⟨by decide, by decide, by decide⟩, _, _, rfl, rfl, .inr ⟨_, rfl, ?_⟩⟩
    obtain ⟨x, an⟩ : ∃ x : Int, atI [V.int 0, .int v] (if decide ((10 : Int) ^ (18 : Int).toNat ≤ v) = true then 1 else 0) = some (.int x) := by
      split
      · exact ⟨v, rfl⟩
      · exact ⟨0, rfl⟩
    refine ⟨q, _, _, .int x, rfl, rfl, SqL.of q1, an, _, rfl, _, _, rfl, rfl, (by show (0 : Int) < 2147483629; decide), small (by simp), fun d hd => k d _ (sq.trans (same_new hd)) (none_of sq hd) ⟨_, _, _, upd_same, by decide, by decide⟩⟩
theorem scDraw : FnScope ["_law_deck", "_law_most", "_law_got", "_law_number"] ["_law_deck", "_law_most"] (defScope sDraw) := ⟨rfl, rfl, rfl, by decide +kernel, rfl, by decide +kernel, by decide +kernel⟩
theorem ok_Draw {f : Addr} {fd : FuncData} (F : Fun K "_law_draw" "_law_draw" sDraw f fd) (T : Txt K mg C I N J B) :
    FnOk P w K mg base CX0 1 f fd ["_law_deck", "_law_most"] spDraw := by
  refine F.ok scDraw (fun vs H Q E h => ?_) (fun cdv A outer s H vs Q E hr h => ?_)
  · obtain ⟨_, _, _, rfl, _⟩ := h; rfl
  · obtain ⟨d, m, b, rfl, ⟨x, S, k0, hd, k00, kb⟩, m0, m1, k⟩ := h
    refine ⟨_, pss_cons (ps_if (pt_cmpR op_gt (pe_ix ix_list (pv 0) pe_int (fun _ _ => rfl)) pe_int (nomark _)) (pss_cons (ps_set (i := 2) scDraw.nd rfl (Or.inl rfl) (pe_op op_mod (pe_ix ix_list (pv 0) pe_int (fun _ _ => rfl)) (pv 1)))
      (pss_cons (ps_asg (pe_op op_fdiv (pe_ix ix_list (pv 0) pe_int (fun _ _ => rfl)) (pv 1)) (pg_sub (pv 0) (pe_int) set_list))
      (pss_one (ps_ret (pv 2))))) pss_nil)
      (pss_cons (ps_asg (pe_op op_add (pe_ix ix_list (pv 0) pe_int (fun _ _ => rfl)) pe_int) (pg_sub (pv 0) (pe_int) set_list))
      (pss_cons (ps_set (i := 3) scDraw.nd rfl (Or.inl rfl) (pe_op op_mod (pe_op op_mul (pe_op op_add (pe_ix ix_list (pv 0) pe_int (fun _ _ => rfl)) (pe_op op_mul (pe_op op_mul pe_int (pe_ix ix_list (pv 0) pe_int (fun _ _ => rfl))) (pe_ix ix_list (pv 0) pe_int (fun _ _ => rfl)))) pe_int) pe_int))
      (pss_cons (ps_set (i := 3) scDraw.nd rfl (Or.inl rfl) (pe_op op_mod (pe_op op_add (pe_op op_add (pe_op op_mul (pv 3) (pv 3)) (pe_op op_mul pe_int (pv 3))) pe_int) pe_int))
      (pss_one (ps_ret (pe_op op_mod (pe_op op_fdiv (pe_op op_mod (pe_op op_mul (pv 3) pe_int) pe_int) pe_int) (pv 1))))))), ?_⟩
    refine ⟨_, rfl, d, _, 0, _, rfl, rfl, SqL.of hd, atI_nat (j := 0) rfl, _, _, rfl, rfl, _, rfl, ite2 (fun g => ?_) fun g => ?_⟩
    · refine ⟨_, rfl, d, _, 0, _, rfl, rfl, SqL.of hd, atI_nat (j := 0) rfl, _, rfl, _, _, rfl, rfl, m0, ?_⟩
      refine ⟨_, rfl, d, _, 0, _, rfl, rfl, SqL.of hd, atI_nat (j := 0) rfl, _, rfl, _, _, rfl, rfl, ⟨m0, by omega⟩, _, rfl, d, _, 0, 0, rfl, rfl, hd, rfl, ?_⟩
      exact ⟨_, rfl, k _ _ (Int.emod_nonneg _ (by omega)) (Int.emod_lt_of_pos _ m0) (fun c o e n => by rw [upd_ne n]; exact e) ⟨_, S, k0, upd_same, k00, by omega⟩⟩
    · dsimp only [tNext]
      refine ⟨_, rfl, d, _, 2, _, rfl, rfl, SqL.of hd, atI_nat (j := 2) rfl, _, _, rfl, rfl, _, rfl, d, _, 2, 2, rfl, rfl, hd, rfl, ?_⟩
      have h1 : upd H d (.lst (([.int x, .int S, .int k0] : List V).set 2 (.int (k0 + 1)))) d = some (.lst [.int x, .int S, .int (k0 + 1)]) := upd_same
      have b1 : But d H (upd H d (.lst (([.int x, .int S, .int k0] : List V).set 2 (.int (k0 + 1))))) := fun c o e n => by rw [upd_ne n]; exact e
      generalize hH1 : upd H d _ = H1
      rw [hH1] at h1 b1
      clear hH1
      refine ⟨_, rfl, d, _, 1, _, rfl, rfl, SqL.of h1, atI_nat (j := 1) rfl, _, rfl, d, _, 2, _, rfl, rfl, SqL.of h1, atI_nat (j := 2) rfl, _, _, rfl, rfl, .inl ⟨by decide, by decide⟩, _, rfl, d, _, 2, _, rfl, rfl, SqL.of h1, atI_nat (j := 2) rfl, _, _, rfl, rfl, .inr ⟨by omega, by omega⟩, _, _, rfl, rfl, _, _, rfl, rfl, .inr ⟨by decide, by decide⟩, _, _, rfl, rfl, (by show (0 : Int) < 2147483647; decide), ?_⟩
      dsimp only
      have y0 := Int.emod_nonneg ((S + 7919 * (k0 + 1) * (k0 + 1)) * 48271) (show (2147483647 : Int) ≠ 0 by decide)
      have y1 := Int.emod_lt_of_pos ((S + 7919 * (k0 + 1) * (k0 + 1)) * 48271) (show (0 : Int) < 2147483647 by decide)
      generalize (S + 7919 * (k0 + 1) * (k0 + 1)) * 48271 % 2147483647 = z2 at y0 y1
      refine ⟨_, rfl, _, rfl, _, _, rfl, rfl, .inl ⟨by omega, by omega⟩, _, rfl, _, _, rfl, rfl, .inl ⟨by decide, by decide⟩, _, _, rfl, rfl, _, _, rfl, rfl, _, _, rfl, rfl, (by show (0 : Int) < 2147483587; decide), ?_⟩
      dsimp only
      generalize (z2 * z2 + 69621 * z2 + 17) % 2147483587 = z3
      refine ⟨_, rfl, _, _, rfl, rfl, .inr ⟨by decide, by decide⟩, _, _, rfl, rfl, (by show (0 : Int) < 2147483629; decide), _, _, rfl, rfl, ⟨by decide, by decide⟩, _, rfl, _, _, rfl, rfl, m0, ?_⟩
      exact k _ _ (Int.emod_nonneg _ (by omega)) (Int.emod_lt_of_pos _ m0) b1 ⟨_, _, _, h1, by omega, by omega⟩
theorem ok_DrawW {f : Addr} {fd : FuncData} (F : Fun K "_law_draw" "_law_draw" sDraw f fd) (T : Txt K mg C I N J B) :
    FnOk P w K mg base CX0 1 f fd ["_law_deck", "_law_most"] spDrawW := by
  refine F.ok scDraw (fun vs H Q E h => ?_) (fun cdv A outer s H vs Q E hr h => ?_)
  · obtain ⟨_, _, _, rfl, _⟩ := h; rfl
  · obtain ⟨d, m, b, rfl, ⟨x, S, k0, hd, k00, kb⟩, m0, m1, k⟩ := h
    refine ⟨_, pss_cons (ps_if (pt_cmpR op_gt (pe_ix ix_list (pv 0) pe_int (fun _ _ => rfl)) pe_int (nomark _)) (pss_cons (ps_set (i := 2) scDraw.nd rfl (Or.inl rfl) (pe_op op_mod (pe_ix ix_list (pv 0) pe_int (fun _ _ => rfl)) (pv 1)))
      (pss_cons (ps_asg (pe_op op_fdivW (pe_ix ix_list (pv 0) pe_int (fun _ _ => rfl)) (pv 1)) (pg_sub (pv 0) (pe_int) set_list))
      (pss_one (ps_ret (pv 2))))) pss_nil)
      (pss_cons (ps_asg (pe_op op_add (pe_ix ix_list (pv 0) pe_int (fun _ _ => rfl)) pe_int) (pg_sub (pv 0) (pe_int) set_list))
      (pss_cons (ps_set (i := 3) scDraw.nd rfl (Or.inl rfl) (pe_op op_mod (pe_op op_mul (pe_op op_add (pe_ix ix_list (pv 0) pe_int (fun _ _ => rfl)) (pe_op op_mul (pe_op op_mul pe_int (pe_ix ix_list (pv 0) pe_int (fun _ _ => rfl))) (pe_ix ix_list (pv 0) pe_int (fun _ _ => rfl)))) pe_int) pe_int))
      (pss_cons (ps_set (i := 3) scDraw.nd rfl (Or.inl rfl) (pe_op op_mod (pe_op op_add (pe_op op_add (pe_op op_mul (pv 3) (pv 3)) (pe_op op_mul pe_int (pv 3))) pe_int) pe_int))
      (pss_one (ps_ret (pe_op op_mod (pe_op op_fdiv (pe_op op_mod (pe_op op_mul (pv 3) pe_int) pe_int) pe_int) (pv 1))))))), ?_⟩
    refine ⟨_, rfl, d, _, 0, _, rfl, rfl, SqL.of hd, atI_nat (j := 0) rfl, _, _, rfl, rfl, _, rfl, ite2 (fun g => ?_) fun g => ?_⟩
    · refine ⟨_, rfl, d, _, 0, _, rfl, rfl, SqL.of hd, atI_nat (j := 0) rfl, _, rfl, _, _, rfl, rfl, m0, ?_⟩
      refine ⟨_, rfl, d, _, 0, _, rfl, rfl, SqL.of hd, atI_nat (j := 0) rfl, _, rfl, _, _, rfl, rfl, ⟨m0, m1⟩, _, rfl, d, _, 0, 0, rfl, rfl, hd, rfl, ?_⟩
      exact ⟨_, rfl, k _ _ (Int.emod_nonneg _ (by omega)) (Int.emod_lt_of_pos _ m0) (fun c o e n => by rw [upd_ne n]; exact e) ⟨_, S, k0, upd_same, k00, by omega⟩⟩
    · dsimp only [tNext]
      refine ⟨_, rfl, d, _, 2, _, rfl, rfl, SqL.of hd, atI_nat (j := 2) rfl, _, _, rfl, rfl, _, rfl, d, _, 2, 2, rfl, rfl, hd, rfl, ?_⟩
      have h1 : upd H d (.lst (([.int x, .int S, .int k0] : List V).set 2 (.int (k0 + 1)))) d = some (.lst [.int x, .int S, .int (k0 + 1)]) := upd_same
      have b1 : But d H (upd H d (.lst (([.int x, .int S, .int k0] : List V).set 2 (.int (k0 + 1))))) := fun c o e n => by rw [upd_ne n]; exact e
      generalize hH1 : upd H d _ = H1
      rw [hH1] at h1 b1
      clear hH1
      refine ⟨_, rfl, d, _, 1, _, rfl, rfl, SqL.of h1, atI_nat (j := 1) rfl, _, rfl, d, _, 2, _, rfl, rfl, SqL.of h1, atI_nat (j := 2) rfl, _, _, rfl, rfl, .inl ⟨by decide, by decide⟩, _, rfl, d, _, 2, _, rfl, rfl, SqL.of h1, atI_nat (j := 2) rfl, _, _, rfl, rfl, .inr ⟨by omega, by omega⟩, _, _, rfl, rfl, _, _, rfl, rfl, .inr ⟨by decide, by decide⟩, _, _, rfl, rfl, (by show (0 : Int) < 2147483647; decide), ?_⟩
      dsimp only
      have y0 := Int.emod_nonneg ((S + 7919 * (k0 + 1) * (k0 + 1)) * 48271) (show (2147483647 : Int) ≠ 0 by decide)
      have y1 := Int.emod_lt_of_pos ((S + 7919 * (k0 + 1) * (k0 + 1)) * 48271) (show (0 : Int) < 2147483647 by decide)
      generalize (S + 7919 * (k0 + 1) * (k0 + 1)) * 48271 % 2147483647 = z2 at y0 y1
      refine ⟨_, rfl, _, rfl, _, _, rfl, rfl, .inl ⟨by omega, by omega⟩, _, rfl, _, _, rfl, rfl, .inl ⟨by decide, by decide⟩, _, _, rfl, rfl, _, _, rfl, rfl, _, _, rfl, rfl, (by show (0 : Int) < 2147483587; decide), ?_⟩
      dsimp only
      generalize (z2 * z2 + 69621 * z2 + 17) % 2147483587 = z3
      refine ⟨_, rfl, _, _, rfl, rfl, .inr ⟨by decide, by decide⟩, _, _, rfl, rfl, (by show (0 : Int) < 2147483629; decide), _, _, rfl, rfl, ⟨by decide, by decide⟩, _, rfl, _, _, rfl, rfl, m0, ?_⟩
      exact k _ _ (Int.emod_nonneg _ (by omega)) (Int.emod_lt_of_pos _ m0) b1 ⟨_, _, _, h1, by omega, by omega⟩
theorem scRare : FnScope ["_law_deck", "_law_often", "_law_great"] ["_law_deck", "_law_often", "_law_great"] (defScope sRare) := ⟨rfl, rfl, rfl, by decide +kernel, rfl, by decide +kernel, by decide +kernel⟩
theorem ok_Rare {f : Addr} {fd : FuncData} (F : Fun K "_law_rare" "_law_rare" sRare f fd) (T : Txt K mg C I N J B)
    {gDraw : Addr} {fDraw : FuncData} (kDraw : PySem.W.keepIn K (.ref gDraw) = true) (bDraw : Binds K fDraw ["_law_deck", "_law_most"] []) (hDraw : mg "_law_draw" = some (.ref gDraw)) (GDraw : FnOk P w K mg base CX0 1 gDraw fDraw ["_law_deck", "_law_most"] spDraw) :
    FnOk P w K mg base CX0 2 f fd ["_law_deck", "_law_often", "_law_great"] spRare := by
  refine F.ok scRare (fun vs H Q E h => ?_) (fun cdv A outer s H vs Q E hr h => ?_)
  · obtain ⟨_, _, _, _, rfl, _⟩ := h; rfl
  · obtain ⟨d, x, y, b, rfl, hD, k⟩ := h
    refine ⟨_, pss_one (ps_ret (pe_ix ix_list (pe_lst (pa_cons (pv 1) (pa_cons (pv 2) pa_nil))) (pe_callTy call_int1 (by rfl) T.int (by decide +kernel) (pa_cons (pe_cmpR op_eq (pe_call GDraw hr rfl hDraw kDraw bDraw .nil pass0 (pa_cons (pv 0) (pa_cons pe_int pa_nil))) pe_int (nomark _)) pa_nil)) (fun _ _ => rfl))), ?_⟩
    refine ⟨_, rfl, _, rfl, small (by simp), fun q hq => ?_⟩
    have sq := same_new (o := .lst [.int x, .int y]) hq
    have q1 := upd_same (H := H) (a := q) (o := .lst [.int x, .int y])
    have nq := hD.ne hq
    have D1 := hD.same sq
    generalize upd H q (.lst [.int x, .int y]) = H1 at sq q1 D1
    refine ⟨_, rfl, d, 8, b, rfl, D1, by decide, by decide, fun v H2 _ _ b2 D2 => ⟨rfl, .inr ⟨_, rfl, ?_⟩⟩⟩
    obtain ⟨z, an, hz⟩ : ∃ z : Int, atI [V.int x, .int y] (if decide (V.int v = V.int 5) = true then 1 else 0) = some (.int z) ∧ (z = x ∨ z = y) := by
      split
      · exact ⟨y, rfl, .inr rfl⟩
      · exact ⟨x, rfl, .inl rfl⟩
    exact ⟨q, _, _, .int z, rfl, rfl, SqL.of (b2 _ _ q1 nq), an, k z H2 hz ((But.of sq).trans b2) D2⟩
theorem scTwo : FnScope ["_law_deck", "_law_many", "_law_one"] ["_law_deck", "_law_many"] (defScope sTwo) := ⟨rfl, rfl, rfl, by decide +kernel, rfl, by decide +kernel, by decide +kernel⟩
theorem ok_Two {f : Addr} {fd : FuncData} (F : Fun K "_law_two_of" "_law_two_of" sTwo f fd) (T : Txt K mg C I N J B)
    {gDraw : Addr} {fDraw : FuncData} (kDraw : PySem.W.keepIn K (.ref gDraw) = true) (bDraw : Binds K fDraw ["_law_deck", "_law_most"] []) (hDraw : mg "_law_draw" = some (.ref gDraw)) (GDraw : FnOk P w K mg base CX0 1 gDraw fDraw ["_law_deck", "_law_most"] spDraw) :
    FnOk P w K mg base CX0 2 f fd ["_law_deck", "_law_many"] spTwo := by
  refine F.ok scTwo (fun vs H Q E h => ?_) (fun cdv A outer s H vs Q E hr h => ?_)
  · obtain ⟨_, _, _, rfl, _⟩ := h; rfl
  · obtain ⟨d, N, b, rfl, hD, N2, N60, k⟩ := h
    refine ⟨_, pss_cons (ps_set (i := 2) scTwo.nd rfl (Or.inl rfl) (pe_call GDraw hr rfl hDraw kDraw bDraw .nil pass0 (pa_cons (pv 0) (pa_cons (pv 1) pa_nil))))
      (pss_one (ps_ret (pe_tup (pa_cons (pv 2) (pa_cons (pe_op op_mod (pe_op op_add (pe_op op_add (pv 2) pe_int) (pe_call GDraw hr rfl hDraw kDraw bDraw .nil pass0 (pa_cons (pv 0) (pa_cons (pe_op op_sub (pv 1) pe_int) pa_nil)))) (pv 1)) pa_nil))))), ?_⟩
    refine ⟨_, rfl, _, rfl, d, (N : Int), b + 1, rfl, hD, by omega, by omega, fun p H1 p0 p1 b1 D1 => ?_⟩
    obtain ⟨p, rfl⟩ := nat_of p0
    refine ⟨_, rfl, _, rfl, _, _, rfl, rfl, _, rfl, _, rfl, _, _, rfl, rfl, d, _, b, rfl, D1, by omega, by omega, fun x H2 x0 x1 b2 D2 => ⟨_, _, rfl, rfl, _, rfl, _, _, rfl, rfl, (by show (0 : Int) < N; omega), small (by simp), fun r hr' => ?_⟩⟩
    obtain ⟨x, rfl⟩ := nat_of x0
    have om := mod_ne (N := N) (a := p) (v := x) (by omega) (by omega)
    have oe : ((p : Int) + 1 + (x : Int)) % (N : Int) = (((p + 1 + x) % N : Nat) : Int) := by rw [← mod_int]; simp
    refine k p ((p + 1 + x) % N) r _ ((b1.trans b2).trans (But.of (same_new hr'))) (D2.upd (D2.ne hr')) (by omega) om.2 (Ne.symm om.1) ?_
    rw [upd_same, ← oe]
end
end K19
set_option maxHeartbeats 2000000
namespace K19
open PySem L2 Wk
def runS (n : Nat) (ps : List (Nat × Nat)) : S3 := ps.foldl (fun st p => (joinS st p.1 p.2).1) (start3 n)
def stsOf (n : Nat) (ps : List (Nat × Nat)) : List S3 := (List.range (ps.length + 1)).map fun k => runS n (ps.take k)
theorem runS_snoc (n : Nat) (ps : List (Nat × Nat)) (p : Nat × Nat) : runS n (ps ++ [p]) = (joinS (runS n ps) p.1 p.2).1 := by
  unfold runS; rw [List.foldl_append]; rfl
theorem stsOf_len (n : Nat) (ps : List (Nat × Nat)) : (stsOf n ps).length = ps.length + 1 := by unfold stsOf; rw [List.length_map, List.length_range]
theorem stsOf_last (n : Nat) (ps : List (Nat × Nat)) : stsOf n ps = (List.range ps.length).map (fun k => runS n (ps.take k)) ++ [runS n ps] := by
  unfold stsOf; rw [List.range_succ, List.map_append]; simp
theorem stsOf_snoc (n : Nat) (ps : List (Nat × Nat)) (p : Nat × Nat) : stsOf n (ps ++ [p]) = stsOf n ps ++ [(joinS (runS n ps) p.1 p.2).1] := by
  rw [stsOf_last, runS_snoc, List.length_append]
  congr 1
  unfold stsOf
  refine List.map_congr_left fun k hk => ?_
  have := List.mem_range.mp hk
  rw [List.take_append_of_le_length (by simp at this; omega)]
theorem stsOf_take (n : Nat) (ps : List (Nat × Nat)) (k : Nat) (h : k ≤ ps.length) : (stsOf n ps).take (k + 1) = stsOf n (ps.take k) := by
  unfold stsOf
  rw [List.map_take.symm, List.take_range, List.length_take, Nat.min_eq_left h, Nat.min_eq_left (by omega)]
  refine List.map_congr_left fun j hj => ?_
  have := List.mem_range.mp hj
  rw [List.take_take, Nat.min_eq_left (by omega)]
theorem joinS_eq {st : S3} {i j : Nat} (c : st.tops.getD i 0 = st.tops.getD j 0) : (joinS st i j).1 = ⟨st.tops, st.sides, st.odds + turnOf (st.sides.getD i 0) (st.sides.getD j 0)⟩ := by
  unfold joinS; simp only; rw [if_pos c]
theorem joinS_ne {st : S3} {i j : Nat} (c : ¬ st.tops.getD i 0 = st.tops.getD j 0) : (joinS st i j).1 = ⟨newTops st.tops (kt st.tops (st.tops.getD i 0) (st.tops.getD j 0)).1 (kt st.tops (st.tops.getD i 0) (st.tops.getD j 0)).2, newSides st.tops st.sides (kt st.tops (st.tops.getD i 0) (st.tops.getD j 0)).2 (turnOf (st.sides.getD i 0) (st.sides.getD j 0)), st.odds⟩ := by
  unfold joinS; simp only; rw [if_neg c]
theorem Ok.join {n i j : Nat} {st : S3} (h : Ok n st) : Ok n (joinS st i j).1 := by
  by_cases c : st.tops.getD i 0 = st.tops.getD j 0
  · rw [joinS_eq c]; exact ⟨h.t, h.s, h.n1, h.n2⟩
  · rw [joinS_ne c]; exact ⟨by simp [newTops, h.t], by simp [newSides, h.t, h.s], h.n1, h.n2⟩
theorem ok_run {n : Nat} (h1 : 1 ≤ n) (h2 : n ≤ 24) (ps : List (Nat × Nat)) : Ok n (runS n ps) := by
  have : ∀ (ps : List (Nat × Nat)) (st : S3), Ok n st → Ok n (ps.foldl (fun st p => (joinS st p.1 p.2).1) st) := by
    intro ps
    induction ps with
    | nil => exact fun _ h => h
    | cons p r ih => exact fun st h => ih _ h.join
  exact this ps _ ⟨by simp [start3, rints], by simp [start3], h1, h2⟩
theorem Eqs.alls {K : PySem.W.Frag} {H : Hp} {n : Nat} {a c : Addr} {xs ys : List V} (hh : (SqT K H a xs ∧ SqT K H c ys) ∨ (SqL K H a xs ∧ SqL K H c ys)) (hl : xs.length = ys.length) (h : ∀ (j : Nat) p q, xs[j]? = some p → ys[j]? = some q → Eqs K H n p q true) : Eqs K H (n + 1) (.ref a) (.ref c) true :=
  .inr (.inl ⟨a, c, xs, ys, fun _ => true, rfl, rfl, hh, h, by simp [hl]⟩)
theorem Eqs.flatT {K : PySem.W.Frag} {H : Hp} {n : Nat} {x : V} (h : Flt x x = true) : Eqs K H n x x true := by
  have := Eqs.flat (K := K) (H := H) (n := n) h
  rwa [decide_eq_true rfl] at this
theorem Eqs.intsT {K : PySem.W.Frag} {H : Hp} {n : Nat} {a c : Addr} {xs : List V} (h1 : H a = some (.tup xs)) (h2 : H c = some (.tup xs)) (h : ∀ x ∈ xs, ∃ i, x = .int i) : Eqs K H (n + 1) (.ref a) (.ref c) true := by
  refine Eqs.alls (.inl ⟨SqT.of h1, SqT.of h2⟩) rfl fun j p q hp hq => ?_
  rw [hp] at hq; cases hq
  obtain ⟨i, rfl⟩ := h p (List.mem_of_getElem? hp)
  exact Eqs.flatT rfl
theorem map_ints {ns : List Int} : ∀ x ∈ ns.map V.int, ∃ i, x = V.int i := fun x hx => by
  obtain ⟨i, _, rfl⟩ := List.mem_map.mp hx
  exact ⟨i, rfl⟩
theorem StAt.eqs {K : PySem.W.Frag} {H : Hp} {n : Nat} {a c : Addr} {st : S3} (h1 : StAt H a st) (h2 : StAt H c st) : Eqs K H (n + 2) (.ref a) (.ref c) true := by
  obtain ⟨a1, a2, x1, x2, x3⟩ := h1
  obtain ⟨c1, c2, y1, y2, y3⟩ := h2
  have := Eqs.three (K := K) (n := n + 1) (SqT.of x1) (SqT.of y1) (Eqs.intsT x2 y2 map_ints) (Eqs.intsT x3 y3 map_ints) (Eqs.flatT (x := .int st.odds) rfl)
  exact this
theorem TupS.of {H H' : Hp} {c : Addr} {ys : List V} (k : ∀ b o, H b = some o → b ≠ c → H' b = some o) (hc : H c = some (.lst ys)) : TupS H H' := fun b xs e => k b _ e fun z => by rw [z, hc] at e; cases e
def rowL (st : S3) (i : Nat) : List V := [.int (st.tops.getD i 0), .int (st.sides.getD i 0), .int (st.tops.count (st.tops.getD i 0) : Nat)]
def RowsAt (H : Hp) (st : S3) (qs : List Addr) : Prop := ∀ (i : Nat) q, qs[i]? = some q → H q = some (.tup (rowL st i))
def TdAt (H : Hp) (r : Addr) (n : Nat) (st : S3) (j : Nat) : Prop := ∃ (t : Addr) (qs : List Addr), H r = some (.lst ([.ref t, .int (partsN st.tops : Nat), .int st.odds, .int (j : Int)] ++ qs.map V.ref)) ∧ StAt H t st ∧ qs.length = n ∧ RowsAt H st qs
theorem RowsAt.tup {H H' : Hp} {st : S3} {qs : List Addr} (h : RowsAt H st qs) (t : TupS H H') : RowsAt H' st qs := fun i q e => t _ _ (h i q e)
theorem TdAt.keep {H H' : Hp} {r : Addr} {n j : Nat} {st : S3} (h : TdAt H r n st j) (t : TupS H H') (k : ∀ o, H r = some o → H' r = some o) : TdAt H' r n st j := by
  obtain ⟨a, qs, h1, h2, h3, h4⟩ := h
  exact ⟨a, qs, k _ h1, h2.tup t, h3, h4.tup t⟩
theorem TdAt.same {H H' : Hp} {r : Addr} {n j : Nat} {st : S3} (h : TdAt H r n st j) (s : Same H H') : TdAt H' r n st j := h.keep (tupS_same s) fun o e => s _ _ e
theorem TdAt.eqs {K : PySem.W.Frag} {H : Hp} {m n j : Nat} {a c : Addr} {st : S3} (h1 : TdAt H a n st j) (h2 : TdAt H c n st j) : Eqs K H (m + 3) (.ref a) (.ref c) true := by
  obtain ⟨a1, qs, x1, x2, x3, x4⟩ := h1
  obtain ⟨c1, ps, y1, y2, y3, y4⟩ := h2
  refine Eqs.alls (.inr ⟨SqL.of x1, SqL.of y1⟩) (by simp [x3, y3]) fun i p q hp hq => ?_
  match i, hp, hq with
  | 0, hp, hq => cases hp; cases hq; exact x2.eqs y2
  | 1, hp, hq => cases hp; cases hq; exact Eqs.flatT rfl
  | 2, hp, hq => cases hp; cases hq; exact Eqs.flatT rfl
  | 3, hp, hq => cases hp; cases hq; exact Eqs.flatT rfl
  | i + 4, hp, hq =>
    have hp : (qs.map V.ref)[i]? = some p := hp
    have hq : (ps.map V.ref)[i]? = some q := hq
    rw [List.getElem?_map] at hp hq
    cases e1 : qs[i]? with
    | none => rw [e1] at hp; cases hp
    | some q1 =>
      cases e2 : ps[i]? with
      | none => rw [e2] at hq; cases hq
      | some q2 =>
        rw [e1] at hp; rw [e2] at hq
        cases hp; cases hq
        exact Eqs.intsT (x4 i q1 e1) (y4 i q2 e2) fun x hx => by
          simp only [rowL, List.mem_cons, List.not_mem_nil, or_false] at hx
          rcases hx with rfl | rfl | rfl <;> exact ⟨_, rfl⟩
theorem RowsAt.snoc {H : Hp} {st : S3} {qs : List Addr} {r : Addr} (h : RowsAt H st qs) (a : H r = some (.tup (rowL st qs.length))) : RowsAt H st (qs ++ [r]) := fun k q e => by
  by_cases hk : k < qs.length
  · rw [List.getElem?_append_left hk] at e; exact h k q e
  · rw [List.getElem?_append_right (by omega)] at e
    have hk2 : k = qs.length := by
      have := (List.getElem?_eq_some_iff.mp e).1
      simp at this; omega
    subst hk2
    simp at e; subst e; exact a
def spTold (C : Addr) : Sp := fun vs H Q _ => ∃ (x S : Addr) (pre : List S3) (st : S3) (n : Nat), vs = [.ref x, .int (n : Int)] ∧ TkAt C H x S (pre ++ [st]) ∧ Ok n st ∧ ∀ (r : Addr) (H' : Hp), Same H H' → H r = none → TdAt H' r n st pre.length → Q (.ref r) H'
section
variable {P : Program} {w : World} {K : PySem.W.Frag} {mg : Str → Option Value} {base : Heap} {C I N J B : Addr}
theorem scTold : FnScope ["_law_takes", "_law_many", "_law_told", "_law_k"] ["_law_takes", "_law_many"] (defScope sTold) := ⟨rfl, rfl, rfl, by decide +kernel, rfl, by decide +kernel, by decide +kernel⟩
theorem ok_Told {f : Addr} {fd : FuncData} (F : Fun K "_law_as_told" "_law_as_told" sTold f fd) (T : Txt K mg C I N J B)
    {gShown : Addr} {fShown : FuncData} (bShown : Binds K fShown ["self"] []) (hShown : Meth K C "shown" gShown) (GShown : FnOk P w K mg base CX0 3 gShown fShown ["self"] (spShown C))
    {gParts : Addr} {fParts : FuncData} (bParts : Binds K fParts ["self"] []) (hParts : Meth K C "parts" gParts) (GParts : FnOk P w K mg base CX0 3 gParts fParts ["self"] (spParts C))
    {gOdd : Addr} {fOdd : FuncData} (bOdd : Binds K fOdd ["self"] []) (hOdd : Meth K C "odd" gOdd) (GOdd : FnOk P w K mg base CX0 3 gOdd fOdd ["self"] (spOdd C))
    {gJoins : Addr} {fJoins : FuncData} (bJoins : Binds K fJoins ["self"] []) (hJoins : Meth K C "joins" gJoins) (GJoins : FnOk P w K mg base CX0 3 gJoins fJoins ["self"] (spJoins C))
    {gTop : Addr} {fTop : FuncData} (bTop : Binds K fTop ["self", "place"] []) (hTop : Meth K C "top" gTop) (GTop : FnOk P w K mg base CX0 3 gTop fTop ["self", "place"] (spTop C))
    {gSide : Addr} {fSide : FuncData} (bSide : Binds K fSide ["self", "place"] []) (hSide : Meth K C "side" gSide) (GSide : FnOk P w K mg base CX0 3 gSide fSide ["self", "place"] (spSide C))
    {gSize : Addr} {fSize : FuncData} (bSize : Binds K fSize ["self", "place"] []) (hSize : Meth K C "size" gSize) (GSize : FnOk P w K mg base CX0 3 gSize fSize ["self", "place"] (spSize C)) :
    FnOk P w K mg base CX0 4 f fd ["_law_takes", "_law_many"] (spTold C) := by
  refine F.ok scTold (fun vs H Q E h => ?_) (fun cdv A outer s H vs Q E hr h => ?_)
  · obtain ⟨_, _, _, _, _, rfl, _⟩ := h; rfl
  · obtain ⟨x, S, pre, st, n, rfl, hT, ok, k⟩ := h
    refine ⟨_, pss_cons (ps_set (i := 2) scTold.nd rfl (Or.inl rfl) (pe_lst (pa_cons (pe_meth0 (pv 0) T.cl hShown GShown hr bShown .nil pass0) (pa_cons (pe_meth0 (pv 0) T.cl hParts GParts hr bParts .nil pass0) (pa_cons (pe_meth0 (pv 0) T.cl hOdd GOdd hr bOdd .nil pass0) (pa_cons (pe_meth0 (pv 0) T.cl hJoins GJoins hr bJoins .nil pass0) pa_nil))))))
      (pss_cons (ps_for PassesOwn.never rfl (pi_range1 rfl T.range (pa_cons (pv 1) pa_nil)) (pg_name (i := 3) scTold.nd rfl (Or.inl rfl)) (pss_one (ps_expr (pe_bm PySem.F.plainAttrs_list PySem.F.slot_list_append PySem.F.type_list_append mt_append (pv 2) (pa_cons (pe_tup (pa_cons (pe_meth (pv 0) T.cl hTop GTop hr bTop .nil pass0 (pa_cons (pv 3) pa_nil)) (pa_cons (pe_meth (pv 0) T.cl hSide GSide hr bSide .nil pass0 (pa_cons (pv 3) pa_nil)) (pa_cons (pe_meth (pv 0) T.cl hSize GSize hr bSize .nil pass0 (pa_cons (pv 3) pa_nil)) pa_nil)))) pa_nil)))))
      (pss_one (ps_ret (pv 2)))), ?_⟩
    obtain ⟨⟨dx, e1⟩, _, _⟩ := id hT
    have n2 := ok.n2
    refine ⟨_, rfl, x, dx, _, rfl, e1, flds_no S (by decide +kernel), x, S, pre, st, rfl, hT, fun r hr' => ?_⟩
    refine ⟨_, rfl, x, dx, _, rfl, e1, flds_no S (by decide +kernel), x, S, pre, st, n, rfl, hT, ok, fun H1 s1 => ?_⟩
    have hT1 := hT.same s1
    obtain ⟨⟨dx1, e11⟩, _, _⟩ := id hT1
    refine ⟨_, rfl, x, dx1, _, rfl, e11, flds_no S (by decide +kernel), x, S, pre, st, rfl, hT1, ?_⟩
    refine ⟨_, rfl, x, dx1, _, rfl, e11, flds_no S (by decide +kernel), x, S, _, rfl, hT1, ?_⟩
    refine ⟨small (by simp), fun q hq => ?_⟩
    have ej : (((pre ++ [st]).length : Int) - 1) = (pre.length : Int) := by simp
    rw [ej]
    have s2 := same_new (o := .lst [.ref r, .int (partsN st.tops : Nat), .int st.odds, .int (pre.length : Int)]) hq
    have q2 := upd_same (H := H1) (a := q) (o := .lst [.ref r, .int (partsN st.tops : Nat), .int st.odds, .int (pre.length : Int)])
    generalize upd H1 q (.lst [.ref r, .int (partsN st.tops : Nat), .int st.odds, .int (pre.length : Int)]) = H2 at s2 q2
    have hq0 := none_of s1 hq
    refine ⟨_, rfl, (n : Int), rfl, by omega, by omega, for_range (lo := 0) (n := n) (fun j σ H3 => ∃ (u : Option V) (qs : List Addr), σ = [some (.ref x), some (.int (n : Int)), some (.ref q), u] ∧ Same H H3 ∧ H3 q = some (.lst ([.ref r, .int (partsN st.tops : Nat), .int st.odds, .int (pre.length : Int)] ++ qs.map V.ref)) ∧ qs.length = j ∧ RowsAt H3 st qs) ⟨none, [], rfl, s1.trans s2, q2, rfl, fun i q e => by simp at e⟩ ?_ ?_⟩
    · rintro j σ H3 hj ⟨u, qs, rfl, s3, q3, hl, hR⟩
      have hT3 := hT.same s3
      obtain ⟨⟨dx3, e13⟩, _, _⟩ := id hT3
      refine ⟨_, rfl, .inl ⟨rfl, _, SqL.of q3⟩, ?_⟩
      refine ⟨_, rfl, x, dx3, _, rfl, e13, flds_no S (by decide +kernel), _, rfl, x, S, pre, st, n, j, by simp, hT3, ok, hj, ?_⟩
      refine ⟨_, rfl, x, dx3, _, rfl, e13, flds_no S (by decide +kernel), _, rfl, x, S, pre, st, n, j, by simp, hT3, ok, hj, ?_⟩
      refine ⟨_, rfl, x, dx3, _, rfl, e13, flds_no S (by decide +kernel), _, rfl, x, S, pre, st, n, j, by simp, hT3, ok, hj, ?_⟩
      refine ⟨small (by simp), fun z hz => ?_⟩
      have s4 := same_new (o := .tup (rowL st j)) hz
      have z4 := upd_same (H := H3) (a := z) (o := .tup (rowL st j))
      have nz : z ≠ q := (ne_of_none q3 hz).symm
      have fold : upd H3 z (.tup [.int (st.tops.getD j 0), .int (st.sides.getD j 0), .int (st.tops.count (st.tops.getD j 0) : Nat)]) = upd H3 z (.tup (rowL st j)) := rfl
      rw [fold]
      generalize upd H3 z (.tup (rowL st j)) = H4 at s4 z4
      have q4 := s4 _ _ q3
      refine ⟨q, _, _, rfl, rfl, q4, small1000 (by simp; omega), ?_⟩
      have t5 : TupS H4 (upd H4 q (.lst ([.ref r, .int (partsN st.tops : Nat), .int st.odds, .int (pre.length : Int)] ++ qs.map V.ref ++ [.ref z]))) := TupS.of (fun b o e ne => by rw [upd_ne ne]; exact e) q4
      refine ⟨_, qs ++ [z], rfl, fun b o e => ?_, by rw [upd_same]; simp, by simp [hl], ?_⟩
      · rw [upd_ne (ne_of_none e hq0)]; exact s4 _ _ (s3 _ _ e)
      · exact ((hR.tup (tupS_same s4)).snoc (by rw [hl]; exact z4)).tup t5
    rintro σ H3 ⟨u, qs, rfl, s3, q3, hl, hR⟩
    exact ⟨_, rfl, k q H3 s3 hq0 ⟨r, qs, q3, hr'.tup (tupS_same s3), hl, hR⟩⟩
end
end K19
set_option maxHeartbeats 2000000
namespace K19
open PySem L2 Wk
open Rp
theorem mem_cutV {xs : List V} {lo hi : Option Int} {v : V} (h : v ∈ cutV xs lo hi) : v ∈ xs := by
  unfold cutV at h
  exact List.mem_of_mem_drop (List.mem_of_mem_take h)
theorem RepF.thing {K : PySem.W.Frag} {H : Hp} {f : Bool} {v : V} {dt : PyData} (h : RepF H f v dt) : Thing K H v := by
  cases h with
  | non => exact ⟨_, .non, by decide⟩
  | bl b => exact ⟨_, .bl b, by decide⟩
  | int i => exact ⟨_, .int i, by decide⟩
  | str x => exact ⟨_, .str x, by decide⟩
  | tup e _ => exact ⟨_, .tup e, by decide⟩
  | lst e _ => exact ⟨_, .lst e, by decide⟩
  | dct e => exact ⟨_, .dK e, by decide⟩
  | dc1 e => exact ⟨_, .dK e, by decide⟩
structure OddT (H : Hp) (L : Nat) (v : V) : Prop where
  no : inside v 0 (L : Int) = false
  rp : ∃ f dt, RepF H f v dt ∧ Fine 5000 5 dt
theorem OddT.same {H H' : Hp} {L : Nat} {v : V} (h : OddT H L v) (s : Same H H') : OddT H' L v := by
  obtain ⟨h1, f, dt, h2, h3⟩ := h
  exact ⟨h1, f, dt, h2.same s, h3⟩
theorem OddT.int {H : Hp} {L : Nat} {i : Int} (h : i < 0 ∨ (L : Int) < i) (h1 : i.natAbs < 10 ^ 45) : OddT H L (.int i) := by
  refine ⟨?_, false, _, .int i, (Fine.int h1).mono (by decide) (by decide)⟩
  show (decide (0 ≤ i) && decide (i ≤ (L : Int))) = false
  rcases h with h | h
  · rw [decide_eq_false (by omega)]; rfl
  · rw [decide_eq_false (show ¬ i ≤ (L : Int) by omega), Bool.and_false]
def spOdds (K : PySem.W.Frag) : Sp := fun vs H Q _ => ∃ (d : Addr) (L b : Nat), vs = [.ref d, .int (L : Int)] ∧ DeckAt H d (b + 3) ∧ L ≤ 200 ∧ ∀ (r : Addr) (xs : List V) (H' : Hp), But d H H' → DeckAt H' d b → H' r = some (.lst xs) → (∀ v ∈ xs, OddT H' L v) → Q (.ref r) H'
def spRefused (K : PySem.W.Frag) (C : Addr) : Sp := fun vs H Q _ => ∃ (x S : Addr) (sts : List S3) (v : V) (L : Nat), vs = [.ref x, v] ∧ TkAt C H x S sts ∧ sts.length = L + 1 ∧ OddT H L v ∧ ∀ H', Same H H' → Q (.bl true) H'
theorem Eqs.bools {K : PySem.W.Frag} {H : Hp} {a c : Addr} {n : Nat} {bs : List Bool} (h1 : H a = some (.lst (bs.map V.bl))) (h2 : H c = some (.lst (bs.map V.bl))) : Eqs K H (n + 1) (.ref a) (.ref c) true := by
  refine Eqs.alls (.inr ⟨SqL.of h1, SqL.of h2⟩) rfl fun j p q hp hq => ?_
  rw [hp] at hq; cases hq
  rw [List.getElem?_map] at hp
  cases e : bs[j]? with
  | none => rw [e] at hp; cases hp
  | some b => rw [e] at hp; cases hp; exact Eqs.flatT rfl
section
variable {P : Program} {w : World} {K : PySem.W.Frag} {mg : Str → Option Value} {base : Heap} {C I N J B : Addr}
theorem scRefused : FnScope ["_law_takes", "_law_thing", "_law_told", "_law_kept", "e"] ["_law_takes", "_law_thing"] (defScope sRefused) := ⟨rfl, rfl, rfl, by decide +kernel, rfl, by decide +kernel, by decide +kernel⟩
theorem ok_Refused {f : Addr} {fd : FuncData} (F : Fun K "_law_refused" "_law_refused" sRefused f fd) (T : Txt K mg C I N J B)
    {gBack : Addr} {fBack : FuncData} (bBack : Binds K fBack ["self", "thing"] []) (hBack : Meth K C "back" gBack) (GBack : FnOk P w K mg base (CXU P w) 4 gBack fBack ["self", "thing"] (spBackX K C N)) :
    FnOk P w K mg base CX0 5 f fd ["_law_takes", "_law_thing"] (spRefused K C) := by
  refine F.ok scRefused (fun vs H Q E h => ?_) (fun cdv A outer s H vs Q E hr h => ?_)
  · obtain ⟨_, _, _, _, _, rfl, _⟩ := h; rfl
  · obtain ⟨x, S, sts, v, L, rfl, hT, hl, hO, k⟩ := h
    obtain ⟨d1, d2, d3, d4, m1, m2, m3, m4, hkit⟩ := T.oth
    refine ⟨_, pss_cons (ps_set (i := 2) scRefused.nd rfl (Or.inl rfl) (pe_lst pa_nil))
      (pss_cons (ps_set (i := 3) scRefused.nd rfl (Or.inl rfl) (pe_callB (call_reprF hr.units hr.gd) (by rfl) T.repr (by decide +kernel) (pa_cons (pv 1) pa_nil)))
      (pss_cons (ps_tryAs (i := 4) (fun _ _ z => z) rfl rfl (psxs_one (psx_expr (pex_meth (pv 0) T.cl hBack GBack hr bBack (pa_cons (pv 1) pa_nil)))) T.xB (by rfl) T.mgB scRefused.nd rfl rfl (fun ev => pss_cons (ps_set (i := 2) scRefused.nd rfl (Or.inl rfl) (pe_lst (pa_cons (pe_callB (r := rIsX K) (call_isX) (by rfl) T.isinstance (by decide +kernel) (pa_cons (pv 4) (pa_cons (pe_glob (v := .ref N) (by rfl) T.mgN rfl) pa_nil))) (pa_cons (pe_callB (r := rIsX K) (call_isX) (by rfl) T.isinstance (by decide +kernel) (pa_cons (pv 4) (pa_cons (pe_ty (T := "ValueError") (by rfl) T.ValueError (by decide +kernel)) pa_nil))) pa_nil))))
        (pss_cons (ps_expr (pe_bmK (K := K) rfl PySem.F.plainAttrs_list PySem.F.slot_list_append PySem.F.type_list_append mt_append (pv 2) (pa_cons (pe_callB (r := rIsT K) (call_isT) (by rfl) T.isinstance (by decide +kernel) (pa_cons (pv 4) (pa_cons (pe_tup (pa_cons (pe_glob (v := .ref d1) (by rfl) m1 rfl) (pa_cons (pe_glob (v := .ref d2) (by rfl) m2 rfl) (pa_cons (pe_glob (v := .ref d3) (by rfl) m3 rfl) (pa_cons (pe_glob (v := .ref d4) (by rfl) m4 rfl) pa_nil))))) pa_nil))) pa_nil)))
        (pss_one (ps_if (pt_cmpR (r := rEqs K) (op_eqs hr.units) (pv 2) (pe_lst (pa_cons pe_bl (pa_cons pe_bl (pa_cons pe_bl pa_nil)))) (nomark _)) (pss_one (ps_expr (pe_bmK (K := K) rfl PySem.F.plainAttrs_list PySem.F.slot_list_append PySem.F.type_list_append mt_append (pv 2) (pa_cons (pe_and (pe_cmpR op_eq (pe_callB (call_reprF hr.units hr.gd) (by rfl) T.repr (by decide +kernel) (pa_cons (pe_xfK (K := K) rfl (pv 4)) pa_nil)) (pv 3) (nomark _)) (pe_one (pe_cmpR op_eq (pe_callB (call_reprF hr.units hr.gd) (by rfl) T.repr (by decide +kernel) (pa_cons (pv 1) pa_nil)) (pv 3) (nomark _)))) pa_nil)))) pss_nil)))))
      (pss_one (ps_ret (pe_cmpR (op_eqs hr.units) (pv 2) (pe_lst (pa_cons pe_bl (pa_cons pe_bl (pa_cons pe_bl (pa_cons pe_bl pa_nil))))) (nomark _)))))), ?_⟩
    obtain ⟨hno, rf, dt, rp, fi⟩ := hO
    have z1 := fi.sh
    have z2 : dt.depth ≤ 20 := Nat.le_trans fi.dp (by decide)
    have z3 : dt.shown.length ≤ sizeLine := Nat.le_trans fi.ln (by rw [sizeLine_eq]; decide)
    refine ⟨small (by simp), fun q hq => ?_⟩
    have s1 := same_new (o := .lst []) hq
    generalize upd H q (.lst []) = H1 at s1
    have rp1 := rp.same s1
    have hT1 := hT.same s1
    obtain ⟨⟨dx, e1⟩, _, _⟩ := id hT1
    refine ⟨_, rfl, v, dt, rf, rfl, rp1, z1, z2, z3, ?_⟩
    refine ⟨_, rfl, x, dx, _, rfl, e1, flds_no S (by decide +kernel), _, rfl, x, S, sts, v, rfl, hT1, RepF.thing rp1, by rw [hl]; simpa using hno, fun e H2 s2 X2 => ?_⟩
    obtain ⟨d, he, hd⟩ := X2
    refine ⟨N, e, _, some d, rfl, rfl, T.xN.toXAt, by simp, he, ?_⟩
    have hdd : ∀ {H' : Hp}, Same H2 H' → ∀ d', some d = some d' → ∃ o, H' d' = some o := fun s d' z => by cases z; exact ⟨_, s _ _ hd⟩
    have hde := hdd (same_refl H2)
    refine ⟨_, rfl, e, N, _, some d, .ref N, .ref N, true, rfl, he, hde, T.xN.toXAt, T.xg, T.xi, .own N, kit_self, ?_⟩
    refine ⟨_, rfl, e, N, _, some d, .ty "ValueError", .type "ValueError", true, rfl, he, hde, T.xN.toXAt, T.xg, T.xi, .ty _, kit_val T.xN.toXAt, small (by simp), fun q2 hq2 => ?_⟩
    have s3 := same_new (o := .lst [.bl true, .bl true]) hq2
    have q3 := upd_same (H := H2) (a := q2) (o := .lst [.bl true, .bl true])
    generalize upd H2 q2 (.lst [.bl true, .bl true]) = H3 at s3 q3
    refine ⟨_, rfl, .inl ⟨rfl, _, SqL.of q3⟩, _, rfl, small (by simp), fun tp htp => ?_⟩
    have s4 := same_new (o := .tup [.ref d1, .ref d2, .ref d3, .ref d4]) htp
    have t4 := upd_same (H := H3) (a := tp) (o := .tup [.ref d1, .ref d2, .ref d3, .ref d4])
    generalize upd H3 tp (.tup [.ref d1, .ref d2, .ref d3, .ref d4]) = H4 at s4 t4
    have s24 := s3.trans s4
    refine ⟨e, N, tp, _, some d, [d1, d2, d3, d4], false, rfl, s24 _ _ he, hdd s24, T.xN.toXAt, T.xg, T.xi, t4, hkit, ?_⟩
    have q4 := s4 _ _ q3
    refine ⟨q2, _, _, rfl, rfl, q4, small1000 (by simp), ?_⟩
    have q5 : upd H4 q2 (.lst ([.bl true, .bl true] ++ [.bl false])) q2 = some (.lst ([true, true, false].map V.bl)) := upd_same
    have s5 : Same H2 (upd H4 q2 (.lst ([.bl true, .bl true] ++ [.bl false]))) := fun b o h => by rw [upd_ne (ne_of_none h hq2)]; exact s24 _ _ h
    generalize upd H4 q2 (.lst ([.bl true, .bl true] ++ [.bl false])) = H5 at q5 s5
    refine ⟨_, rfl, small (by simp), fun l hl2 => ?_⟩
    have s6 := same_new (o := .lst ([true, true, false].map V.bl)) hl2
    have l6 := upd_same (H := H5) (a := l) (o := .lst ([true, true, false].map V.bl))
    change REqsP _ _ _ (upd H5 l (.lst ([true, true, false].map V.bl))) _
    generalize upd H5 l (.lst ([true, true, false].map V.bl)) = H6 at s6 l6
    have s26 := s5.trans s6
    have q6 := s6 _ _ q5
    refine ⟨0, true, q2, l, rfl, rfl, by decide, Eqs.bools q6 l6, _, rfl, iteT ?_⟩
    refine ⟨_, rfl, .inl ⟨rfl, _, SqL.of q6⟩, ?_⟩
    have s06 : Same H1 H6 := s2.trans s26
    refine ⟨_, rfl, e, N, d, _, _, v, rfl, s26 _ _ he, s26 _ _ hd, T.xN.toXAt, T.xg, T.nT, rfl, v, dt, rf, rfl, rp1.same s06, z1, z2, z3, _, rfl, rfl, _, rfl, ite2 (fun _ => ?_) fun g => absurd g (by simp)⟩
    refine ⟨_, rfl, v, dt, rf, rfl, rp1.same s06, z1, z2, z3, _, rfl, rfl, ?_⟩
    refine ⟨q2, _, _, rfl, rfl, q6, small1000 (by simp), ?_⟩
    rw [show decide (V.str dt.shown = V.str dt.shown) = true by simp]
    have q7 : upd H6 q2 (.lst ([true, true, false].map V.bl ++ [.bl true])) q2 = some (.lst ([true, true, false, true].map V.bl)) := upd_same
    have s7 : Same H2 (upd H6 q2 (.lst ([true, true, false].map V.bl ++ [.bl true]))) := fun b o h => by rw [upd_ne (ne_of_none h hq2)]; exact s26 _ _ h
    generalize upd H6 q2 (.lst ([true, true, false].map V.bl ++ [.bl true])) = H7 at q7 s7
    refine ⟨_, rfl, small (by simp), fun l2 hl3 => ?_⟩
    have s8 := same_new (o := .lst ([true, true, false, true].map V.bl)) hl3
    have l8 := upd_same (H := H7) (a := l2) (o := .lst ([true, true, false, true].map V.bl))
    change REqsP _ _ _ (upd H7 l2 (.lst ([true, true, false, true].map V.bl))) _
    generalize upd H7 l2 (.lst ([true, true, false, true].map V.bl)) = H8 at s8 l8
    exact ⟨0, true, q2, l2, rfl, rfl, by decide, Eqs.bools (s8 _ _ q7) l8, k H8 (((s1.trans s2).trans s7).trans s8)⟩
end
end K19
namespace L2
open PySem
theorem st_L {es rest : List Expr} {pos : Pos} {env : Env} : starEach (.List es pos :: rest) env = (false, eval (.List es pos) env) :: starEach rest env := rfl
theorem st_T {es rest : List Expr} {b} {pos : Pos} {env : Env} : starEach (.Tuple es b pos :: rest) env = (false, eval (.Tuple es b pos) env) :: starEach rest env := rfl
theorem st_D {ks vs} {rest : List Expr} {pos : Pos} {env : Env} : starEach (.Dict ks vs pos :: rest) env = (false, eval (.Dict ks vs pos) env) :: starEach rest env := rfl
theorem st_C {c j} {rest : List Expr} {pos : Pos} {env : Env} : starEach (.Constant c j pos :: rest) env = (false, eval (.Constant c j pos) env) :: starEach rest env := rfl
theorem st_N {x} {rest : List Expr} {pos : Pos} {env : Env} : starEach (.Name x pos :: rest) env = (false, eval (.Name x pos) env) :: starEach rest env := rfl
theorem st_K {f as ks} {rest : List Expr} {pos : Pos} {env : Env} : starEach (.Call f as ks pos :: rest) env = (false, eval (.Call f as ks pos) env) :: starEach rest env := rfl
theorem st_B {l o r} {rest : List Expr} {pos : Pos} {env : Env} : starEach (.BinOp l o r pos :: rest) env = (false, eval (.BinOp l o r pos) env) :: starEach rest env := rfl
theorem st_U {o r} {rest : List Expr} {pos : Pos} {env : Env} : starEach (.UnaryOp o r pos :: rest) env = (false, eval (.UnaryOp o r pos) env) :: starEach rest env := rfl
end L2
namespace L2
open PySem
structure PEw (X : Cx) (e : Expr) (t : TE) : Prop where
  out : PE X e t
structure PAw (X : Cx) (es : List Expr) (t : TA) : Prop where
  out : PA X es t
section
variable {X : Cx} {e a b : Expr} {es : List Expr} {te ta tb : TE} {t : TA} {pos : Pos} {op : Operator} {r : R2}
theorem w_of (h : PE X e te) : PEw X e te := ⟨h⟩
theorem w_nil : PAw X [] tNil := ⟨pa_nil⟩
theorem w_cons (h : PEw X e te) (g : PAw X es t) (hs : starEach (e :: es) X.env = (false, eval e X.env) :: starEach es X.env) : PAw X (e :: es) (tCons te t) := ⟨pa_cons h.out g.out hs⟩
theorem w_lst (h : PAw X es t) : PEw X (.List es pos) (tLst t) := ⟨pe_lst h.out⟩
theorem w_tup {k} (h : PAw X es t) : PEw X (.Tuple es k pos) (tTup t) := ⟨pe_tup h.out⟩
theorem w_op (ho : OpR X (binaryOp op) r) (ha : PEw X a ta) (hb : PEw X b tb) : PEw X (.BinOp a op b pos) (tOp r ta tb) := ⟨pe_op ho ha.out hb.out⟩
end
end L2
set_option maxHeartbeats 8000000
namespace K19
open PySem L2 Wk
open Rp
section
variable {P : Program} {w : World} {K : PySem.W.Frag} {mg : Str → Option Value} {base : Heap} {C I N J B : Addr}
theorem scOdds : FnScope ["_law_deck", "_law_laid", "_law_far", "_law_near", "_law_things", "_law_turn"] ["_law_deck", "_law_laid"] (defScope sOdds) := ⟨rfl, rfl, rfl, by decide +kernel, rfl, by decide +kernel, by decide +kernel⟩
theorem ok_Odds {f : Addr} {fd : FuncData} (F : Fun K "_law_odd_things" "_law_odd_things" sOdds f fd) (T : Txt K mg C I N J B)
    {gDraw : Addr} {fDraw : FuncData} (kDraw : PySem.W.keepIn K (.ref gDraw) = true) (bDraw : Binds K fDraw ["_law_deck", "_law_most"] []) (hDraw : mg "_law_draw" = some (.ref gDraw)) (GDraw : FnOk P w K mg base CX0 1 gDraw fDraw ["_law_deck", "_law_most"] spDraw) (GDrawW : FnOk P w K mg base CX0 1 gDraw fDraw ["_law_deck", "_law_most"] spDrawW) :
    FnOk P w K mg base CX0 2 f fd ["_law_deck", "_law_laid"] (spOdds K) := by
  refine F.ok scOdds (fun vs H Q E h => ?_) (fun cdv A outer s H vs Q E hr h => ?_)
  · obtain ⟨_, _, _, rfl, _⟩ := h; rfl
  · obtain ⟨d, L, b, rfl, hD, L200, k⟩ := h
    refine ⟨_, pss_cons (ps_set (i := 2) scOdds.nd rfl (Or.inl rfl) (pe_op op_add pe_int (pe_call GDrawW hr rfl hDraw kDraw bDraw .nil pass0 (pa_cons (pv 0) (pa_cons (pe_op op_pow pe_int pe_int) pa_nil)))))
      (pss_cons (ps_set (i := 3) scOdds.nd rfl (Or.inl rfl) (pe_op op_add pe_int (pe_call GDraw hr rfl hDraw kDraw bDraw .nil pass0 (pa_cons (pv 0) (pa_cons pe_int pa_nil)))))
      (pss_cons (ps_set (i := 4) scOdds.nd rfl (Or.inl rfl) (pe_lst (pa_cons (pe_un un_neg pe_int) (pa_cons (pe_op op_sub pe_int (pv 3)) (pa_cons (pe_op op_sub pe_int (pv 2)) (pa_cons (pe_op op_add (pv 1) pe_int) (pa_cons (pe_op op_add (pv 1) (pv 3)) (pa_cons (pe_op op_add (pv 1) (pv 2)) pa_nil))))))))
      (pss_cons (ps_set (i := 4) scOdds.nd rfl (Or.inl rfl) (pe_op op_cat (pv 4) (pe_lst (pa_cons pe_bl (pa_cons pe_bl (pa_cons pe_non (pa_cons pe_str (pa_cons pe_str (pa_cons (pe_callTy call_strI (by rfl) T.str (by decide +kernel) (pa_cons (pv 1) pa_nil st_N)) (pa_cons pe_str (pa_cons (pe_tup pa_nil) (pa_cons (pe_tup (pa_cons (pv 1) pa_nil st_N)) pa_nil st_T) st_T) st_C) st_K) st_C) st_C) st_C) st_C) st_C))))
      (pss_cons (ps_set (i := 4) scOdds.nd rfl (Or.inl rfl) (w_op op_cat (w_of (pv 4)) (w_lst (w_cons (w_lst w_nil) (w_cons (w_lst (w_cons (w_of pe_int) w_nil st_C)) (w_cons (w_of pe_dnewK) (w_cons (w_of (pe_disp (pps_cons pe_str (pv 1) pps_nil) rfl rfl (by simp) (by simp))) (w_cons (w_tup (w_cons (w_of pe_int) (w_cons (w_tup (w_cons (w_of (pv 1)) (w_cons (w_lst (w_cons (w_of pe_non) w_nil st_C)) w_nil st_L) st_N)) w_nil st_T) st_C)) (w_cons (w_lst (w_cons (w_of pe_bl) w_nil st_C)) w_nil st_L) st_T) st_D) st_D) st_L) st_L))).out)
      (pss_cons (ps_set (i := 5) scOdds.nd rfl (Or.inl rfl) (pe_call GDraw hr rfl hDraw kDraw bDraw .nil pass0 (pa_cons (pv 0) (pa_cons (pe_callB call_len_seq (by rfl) T.len PySem.boot_len (pa_cons (pv 4) pa_nil)) pa_nil))))
      (pss_one (ps_ret (pe_op op_cat (pe_slice sl_list (pv 4) (po_some (pv 5)) po_none) (pe_slice sl_list (pv 4) po_none (po_some (pv 5))))))))))), ?_⟩
    refine ⟨_, rfl, _, _, rfl, rfl, ⟨by decide, by decide, by decide⟩, d, _, _, rfl, hD, (by show (0 : Int) < 10 ^ 39; decide +kernel), (by show (10 : Int) ^ 39 < 2 ^ 200; decide +kernel), fun v1 H1 v10 v11 b1 D1 => ⟨_, _, rfl, rfl, ?_⟩⟩
    have v11 : v1 < 10 ^ 39 := v11
    refine ⟨_, rfl, d, 60, _, rfl, D1, by decide, by decide, fun v2 H2 v20 v21 b2 D2 => ⟨_, _, rfl, rfl, ?_⟩⟩
    dsimp only
    generalize hfar : 1 + v1 = far
    generalize hnear : 2 + v2 = near
    refine ⟨_, rfl, _, rfl, _, _, rfl, rfl, _, rfl, _, _, rfl, rfl, _, rfl, _, _, rfl, rfl, _, rfl, _, rfl, _, _, rfl, rfl, _, rfl, _, rfl, _, _, rfl, rfl, small (by simp), fun qa hqa => ?_⟩
    dsimp only
    have s3 := same_new (o := .lst [.int (-1), .int (0 - near), .int (0 - far), .int ((L : Int) + 1), .int ((L : Int) + near), .int ((L : Int) + far)]) hqa
    have xqa := upd_same (H := H2) (a := qa) (o := .lst [.int (-1), .int (0 - near), .int (0 - far), .int ((L : Int) + 1), .int ((L : Int) + near), .int ((L : Int) + far)])
    have nqa := D2.ne hqa
    generalize upd H2 qa (.lst [.int (-1), .int (0 - near), .int (0 - far), .int ((L : Int) + 1), .int ((L : Int) + near), .int ((L : Int) + far)]) = H3 at s3 xqa
    have D3 := D2.same s3
    refine ⟨_, rfl, _, rfl, (L : Int), rfl, int_log (Nat.lt_of_le_of_lt (show (L : Int).natAbs ≤ 200 by omega) (by decide)), small (by simp), fun ta hta => ?_⟩
    have s4 := same_new (o := .tup []) hta
    have xta := upd_same (H := H3) (a := ta) (o := .tup [])
    have nta := D3.ne hta
    generalize upd H3 ta (.tup []) = H4 at s4 xta
    have D4 := D3.same s4
    refine ⟨_, rfl, small (by simp), fun tb htb => ?_⟩
    have s5 := same_new (o := .tup [.int (L : Int)]) htb
    have xtb := upd_same (H := H4) (a := tb) (o := .tup [.int (L : Int)])
    have ntb := D4.ne htb
    generalize upd H4 tb (.tup [.int (L : Int)]) = H5 at s5 xtb
    have D5 := D4.same s5
    refine ⟨small (by simp), fun qb hqb => ?_⟩
    have s6 := same_new (o := .lst [.bl true, .bl false, .non, .str "", .str "0", .str (toString (L : Int) : String), .str "a", .ref ta, .ref tb]) hqb
    have xqb := upd_same (H := H5) (a := qb) (o := .lst [.bl true, .bl false, .non, .str "", .str "0", .str (toString (L : Int) : String), .str "a", .ref ta, .ref tb])
    have nqb := D5.ne hqb
    generalize upd H5 qb (.lst [.bl true, .bl false, .non, .str "", .str "0", .str (toString (L : Int) : String), .str "a", .ref ta, .ref tb]) = H6 at s6 xqb
    have D6 := D5.same s6
    refine ⟨qa, qb, _, _, rfl, rfl, (s6 _ _ (s5 _ _ (s4 _ _ xqa))), xqb, small (by simp), fun qc hqc => ?_⟩
    have s7 := same_new (o := .lst ([.int (-1), .int (0 - near), .int (0 - far), .int ((L : Int) + 1), .int ((L : Int) + near), .int ((L : Int) + far)] ++ [.bl true, .bl false, .non, .str "", .str "0", .str (toString (L : Int) : String), .str "a", .ref ta, .ref tb])) hqc
    have xqc := upd_same (H := H6) (a := qc) (o := .lst ([.int (-1), .int (0 - near), .int (0 - far), .int ((L : Int) + 1), .int ((L : Int) + near), .int ((L : Int) + far)] ++ [.bl true, .bl false, .non, .str "", .str "0", .str (toString (L : Int) : String), .str "a", .ref ta, .ref tb]))
    have nqc := D6.ne hqc
    generalize upd H6 qc (.lst ([.int (-1), .int (0 - near), .int (0 - far), .int ((L : Int) + 1), .int ((L : Int) + near), .int ((L : Int) + far)] ++ [.bl true, .bl false, .non, .str "", .str "0", .str (toString (L : Int) : String), .str "a", .ref ta, .ref tb])) = H7 at s7 xqc
    have D7 := D6.same s7
    refine ⟨_, rfl, small (by simp), fun la hla => ?_⟩
    have s8 := same_new (o := .lst []) hla
    have xla := upd_same (H := H7) (a := la) (o := .lst [])
    have nla := D7.ne hla
    generalize upd H7 la (.lst []) = H8 at s8 xla
    have D8 := D7.same s8
    refine ⟨small (by simp), fun lb hlb => ?_⟩
    have s9 := same_new (o := .lst [.int 0]) hlb
    have xlb := upd_same (H := H8) (a := lb) (o := .lst [.int 0])
    have nlb := D8.ne hlb
    generalize upd H8 lb (.lst [.int 0]) = H9 at s9 xlb
    have D9 := D8.same s9
    refine fun za hza => ?_
    have s10 := same_new (o := .dK []) hza
    have xza := upd_same (H := H9) (a := za) (o := .dK [])
    have nza := D9.ne hza
    generalize upd H9 za (.dK []) = H10 at s10 xza
    have D10 := D9.same s10
    refine fun zb hzb => ?_
    refine ⟨_, rfl, upd_same, [(.inr "a", .int (L : Int))], rfl, by simp, ?_⟩
    have ezb : upd (upd H10 zb (.dK [])) zb (.dK (mergeK [] [(Sum.inr "a", V.int (L : Int))])) = upd H10 zb (.dK [(.inr "a", .int (L : Int))]) := by rw [upd_upd]; rfl
    rw [ezb]
    have s11 := same_new (o := .dK [(.inr "a", .int (L : Int))]) hzb
    have xzb := upd_same (H := H10) (a := zb) (o := .dK [(.inr "a", .int (L : Int))])
    have nzb := D10.ne hzb
    generalize upd H10 zb (.dK [(.inr "a", .int (L : Int))]) = H11 at s11 xzb
    have D11 := D10.same s11
    refine ⟨_, rfl, small (by simp), fun lc hlc => ?_⟩
    have s12 := same_new (o := .lst [.non]) hlc
    have xlc := upd_same (H := H11) (a := lc) (o := .lst [.non])
    have nlc := D11.ne hlc
    generalize upd H11 lc (.lst [.non]) = H12 at s12 xlc
    have D12 := D11.same s12
    refine ⟨small (by simp), fun tc htc => ?_⟩
    have s13 := same_new (o := .tup [.int (L : Int), .ref lc]) htc
    have xtc := upd_same (H := H12) (a := tc) (o := .tup [.int (L : Int), .ref lc])
    have ntc := D12.ne htc
    generalize upd H12 tc (.tup [.int (L : Int), .ref lc]) = H13 at s13 xtc
    have D13 := D12.same s13
    refine ⟨small (by simp), fun td htd => ?_⟩
    have s14 := same_new (o := .tup [.int 0, .ref tc]) htd
    have xtd := upd_same (H := H13) (a := td) (o := .tup [.int 0, .ref tc])
    have ntd := D13.ne htd
    generalize upd H13 td (.tup [.int 0, .ref tc]) = H14 at s14 xtd
    have D14 := D13.same s14
    refine ⟨small (by simp), fun ld hld => ?_⟩
    have s15 := same_new (o := .lst [.bl true]) hld
    have xld := upd_same (H := H14) (a := ld) (o := .lst [.bl true])
    have nld := D14.ne hld
    generalize upd H14 ld (.lst [.bl true]) = H15 at s15 xld
    have D15 := D14.same s15
    refine ⟨small (by simp), fun qd hqd => ?_⟩
    have s16 := same_new (o := .lst [.ref la, .ref lb, .ref za, .ref zb, .ref td, .ref ld]) hqd
    have xqd := upd_same (H := H15) (a := qd) (o := .lst [.ref la, .ref lb, .ref za, .ref zb, .ref td, .ref ld])
    have nqd := D15.ne hqd
    generalize upd H15 qd (.lst [.ref la, .ref lb, .ref za, .ref zb, .ref td, .ref ld]) = H16 at s16 xqd
    have D16 := D15.same s16
    refine ⟨qc, qd, _, _, rfl, rfl, (s16 _ _ (s15 _ _ (s14 _ _ (s13 _ _ (s12 _ _ (s11 _ _ (s10 _ _ (s9 _ _ (s8 _ _ xqc))))))))), xqd, small (by simp), fun qe hqe => ?_⟩
    have s17 := same_new (o := .lst ([.int (-1), .int (0 - near), .int (0 - far), .int ((L : Int) + 1), .int ((L : Int) + near), .int ((L : Int) + far)] ++ [.bl true, .bl false, .non, .str "", .str "0", .str (toString (L : Int) : String), .str "a", .ref ta, .ref tb] ++ [.ref la, .ref lb, .ref za, .ref zb, .ref td, .ref ld])) hqe
    have xqe := upd_same (H := H16) (a := qe) (o := .lst ([.int (-1), .int (0 - near), .int (0 - far), .int ((L : Int) + 1), .int ((L : Int) + near), .int ((L : Int) + far)] ++ [.bl true, .bl false, .non, .str "", .str "0", .str (toString (L : Int) : String), .str "a", .ref ta, .ref tb] ++ [.ref la, .ref lb, .ref za, .ref zb, .ref td, .ref ld]))
    have nqe := D16.ne hqe
    generalize upd H16 qe (.lst ([.int (-1), .int (0 - near), .int (0 - far), .int ((L : Int) + 1), .int ((L : Int) + near), .int ((L : Int) + far)] ++ [.bl true, .bl false, .non, .str "", .str "0", .str (toString (L : Int) : String), .str "a", .ref ta, .ref tb] ++ [.ref la, .ref lb, .ref za, .ref zb, .ref td, .ref ld])) = H17 at s17 xqe
    have D17 := D16.same s17
    have S2 : Same H2 H17 := ((((((((((((((s3.trans s4).trans s5).trans s6).trans s7).trans s8).trans s9).trans s10).trans s11).trans s12).trans s13).trans s14).trans s15).trans s16).trans s17)
    refine ⟨_, rfl, _, rfl, qe, _, rfl, .inl (SqL.of xqe), d, 21, _, rfl, D17, by decide, by decide, fun v3 H3' v30 v31 b3 D3' => ?_⟩
    have yta := b3 _ _ (s17 _ _ (s16 _ _ (s15 _ _ (s14 _ _ (s13 _ _ (s12 _ _ (s11 _ _ (s10 _ _ (s9 _ _ (s8 _ _ (s7 _ _ (s6 _ _ (s5 _ _ xta))))))))))))) nta
    have ytb := b3 _ _ (s17 _ _ (s16 _ _ (s15 _ _ (s14 _ _ (s13 _ _ (s12 _ _ (s11 _ _ (s10 _ _ (s9 _ _ (s8 _ _ (s7 _ _ (s6 _ _ xtb)))))))))))) ntb
    have yla := b3 _ _ (s17 _ _ (s16 _ _ (s15 _ _ (s14 _ _ (s13 _ _ (s12 _ _ (s11 _ _ (s10 _ _ (s9 _ _ xla))))))))) nla
    have ylb := b3 _ _ (s17 _ _ (s16 _ _ (s15 _ _ (s14 _ _ (s13 _ _ (s12 _ _ (s11 _ _ (s10 _ _ xlb)))))))) nlb
    have yza := b3 _ _ (s17 _ _ (s16 _ _ (s15 _ _ (s14 _ _ (s13 _ _ (s12 _ _ (s11 _ _ xza))))))) nza
    have yzb := b3 _ _ (s17 _ _ (s16 _ _ (s15 _ _ (s14 _ _ (s13 _ _ (s12 _ _ xzb)))))) nzb
    have ylc := b3 _ _ (s17 _ _ (s16 _ _ (s15 _ _ (s14 _ _ (s13 _ _ xlc))))) nlc
    have ytc := b3 _ _ (s17 _ _ (s16 _ _ (s15 _ _ (s14 _ _ xtc)))) ntc
    have ytd := b3 _ _ (s17 _ _ (s16 _ _ (s15 _ _ xtd))) ntd
    have yld := b3 _ _ (s17 _ _ (s16 _ _ xld)) nld
    have yqe := b3 _ _ xqe nqe
    refine ⟨_, rfl, _, rfl, _, rfl, qe, _, rfl, SqL.of yqe, fun ra hra => ?_⟩
    have u1 := same_new (o := .lst (cutV ([.int (-1), .int (0 - near), .int (0 - far), .int ((L : Int) + 1), .int ((L : Int) + near), .int ((L : Int) + far)] ++ [.bl true, .bl false, .non, .str "", .str "0", .str (toString (L : Int) : String), .str "a", .ref ta, .ref tb] ++ [.ref la, .ref lb, .ref za, .ref zb, .ref td, .ref ld]) (some v3) none)) hra
    have xra := upd_same (H := H3') (a := ra) (o := .lst (cutV ([.int (-1), .int (0 - near), .int (0 - far), .int ((L : Int) + 1), .int ((L : Int) + near), .int ((L : Int) + far)] ++ [.bl true, .bl false, .non, .str "", .str "0", .str (toString (L : Int) : String), .str "a", .ref ta, .ref tb] ++ [.ref la, .ref lb, .ref za, .ref zb, .ref td, .ref ld]) (some v3) none))
    generalize upd H3' ra (.lst (cutV ([.int (-1), .int (0 - near), .int (0 - far), .int ((L : Int) + 1), .int ((L : Int) + near), .int ((L : Int) + far)] ++ [.bl true, .bl false, .non, .str "", .str "0", .str (toString (L : Int) : String), .str "a", .ref ta, .ref tb] ++ [.ref la, .ref lb, .ref za, .ref zb, .ref td, .ref ld]) (some v3) none)) = H4' at u1 xra
    refine ⟨_, rfl, _, rfl, _, rfl, qe, _, rfl, SqL.of (u1 _ _ yqe), fun rb hrb => ?_⟩
    have u2 := same_new (o := .lst (cutV ([.int (-1), .int (0 - near), .int (0 - far), .int ((L : Int) + 1), .int ((L : Int) + near), .int ((L : Int) + far)] ++ [.bl true, .bl false, .non, .str "", .str "0", .str (toString (L : Int) : String), .str "a", .ref ta, .ref tb] ++ [.ref la, .ref lb, .ref za, .ref zb, .ref td, .ref ld]) none (some v3))) hrb
    have xrb := upd_same (H := H4') (a := rb) (o := .lst (cutV ([.int (-1), .int (0 - near), .int (0 - far), .int ((L : Int) + 1), .int ((L : Int) + near), .int ((L : Int) + far)] ++ [.bl true, .bl false, .non, .str "", .str "0", .str (toString (L : Int) : String), .str "a", .ref ta, .ref tb] ++ [.ref la, .ref lb, .ref za, .ref zb, .ref td, .ref ld]) none (some v3)))
    generalize upd H4' rb (.lst (cutV ([.int (-1), .int (0 - near), .int (0 - far), .int ((L : Int) + 1), .int ((L : Int) + near), .int ((L : Int) + far)] ++ [.bl true, .bl false, .non, .str "", .str "0", .str (toString (L : Int) : String), .str "a", .ref ta, .ref tb] ++ [.ref la, .ref lb, .ref za, .ref zb, .ref td, .ref ld]) none (some v3))) = H5' at u2 xrb
    have ln : ∀ lo hi, (cutV ([.int (-1), .int (0 - near), .int (0 - far), .int ((L : Int) + 1), .int ((L : Int) + near), .int ((L : Int) + far)] ++ [.bl true, .bl false, .non, .str "", .str "0", .str (toString (L : Int) : String), .str "a", .ref ta, .ref tb] ++ [.ref la, .ref lb, .ref za, .ref zb, .ref td, .ref ld]) lo hi).length ≤ 21 := fun lo hi => Nat.le_trans (cutV_length _ lo hi) (by simp)
    refine ⟨ra, rb, _, _, rfl, rfl, u2 _ _ xra, xrb, Nat.le_trans (Nat.add_le_add (ln (some v3) none) (ln none (some v3))) (by rw [sizeLine_eq]; decide), fun rc hrc => ?_⟩
    have u3 := same_new (o := .lst (cutV ([.int (-1), .int (0 - near), .int (0 - far), .int ((L : Int) + 1), .int ((L : Int) + near), .int ((L : Int) + far)] ++ [.bl true, .bl false, .non, .str "", .str "0", .str (toString (L : Int) : String), .str "a", .ref ta, .ref tb] ++ [.ref la, .ref lb, .ref za, .ref zb, .ref td, .ref ld]) (some v3) none ++ cutV ([.int (-1), .int (0 - near), .int (0 - far), .int ((L : Int) + 1), .int ((L : Int) + near), .int ((L : Int) + far)] ++ [.bl true, .bl false, .non, .str "", .str "0", .str (toString (L : Int) : String), .str "a", .ref ta, .ref tb] ++ [.ref la, .ref lb, .ref za, .ref zb, .ref td, .ref ld]) none (some v3))) hrc
    have xrc := upd_same (H := H5') (a := rc) (o := .lst (cutV ([.int (-1), .int (0 - near), .int (0 - far), .int ((L : Int) + 1), .int ((L : Int) + near), .int ((L : Int) + far)] ++ [.bl true, .bl false, .non, .str "", .str "0", .str (toString (L : Int) : String), .str "a", .ref ta, .ref tb] ++ [.ref la, .ref lb, .ref za, .ref zb, .ref td, .ref ld]) (some v3) none ++ cutV ([.int (-1), .int (0 - near), .int (0 - far), .int ((L : Int) + 1), .int ((L : Int) + near), .int ((L : Int) + far)] ++ [.bl true, .bl false, .non, .str "", .str "0", .str (toString (L : Int) : String), .str "a", .ref ta, .ref tb] ++ [.ref la, .ref lb, .ref za, .ref zb, .ref td, .ref ld]) none (some v3)))
    have U := (u1.trans u2).trans u3
    refine k rc _ _ ((((b1.trans b2).trans (But.of S2)).trans b3).trans (But.of U)) (D3'.same U) xrc fun v hv => ?_
    have hv : v ∈ ([.int (-1), .int (0 - near), .int (0 - far), .int ((L : Int) + 1), .int ((L : Int) + near), .int ((L : Int) + far)] ++ [.bl true, .bl false, .non, .str "", .str "0", .str (toString (L : Int) : String), .str "a", .ref ta, .ref tb] ++ [.ref la, .ref lb, .ref za, .ref zb, .ref td, .ref ld]) := by
      rcases List.mem_append.mp hv with hv | hv <;> exact mem_cutV hv
    refine OddT.same ?_ U
    clear xrc xra xrb u1 u2 u3 U k ln
    have hL : ((L : Int)).natAbs < 10 ^ 45 := Nat.lt_of_le_of_lt (show (L : Int).natAbs ≤ 200 by omega) (by decide)
    simp only [List.cons_append, List.nil_append, List.mem_cons, List.not_mem_nil, or_false] at hv
    rcases hv with rfl | rfl | rfl | rfl | rfl | rfl | rfl | rfl | rfl | rfl | rfl | rfl | rfl | rfl | rfl | rfl | rfl | rfl | rfl | rfl | rfl
    · exact OddT.int (by omega) (by decide)
    · exact OddT.int (by omega) (Nat.lt_of_le_of_lt (show (0 - near).natAbs ≤ 200 by omega) (by decide))
    · exact OddT.int (by omega) (Nat.lt_of_le_of_lt (show (0 - far).natAbs ≤ 10 ^ 39 by omega) (by decide +kernel))
    · exact OddT.int (by omega) (Nat.lt_of_le_of_lt (show ((L : Int) + 1).natAbs ≤ 300 by omega) (by decide))
    · exact OddT.int (by omega) (Nat.lt_of_le_of_lt (show ((L : Int) + near).natAbs ≤ 300 by omega) (by decide))
    · exact OddT.int (by omega) (Nat.lt_of_le_of_lt (show ((L : Int) + far).natAbs ≤ 10 ^ 39 + 300 by omega) (by decide +kernel))
    · exact ⟨rfl, false, _, .bl _, (Fine.bl _).mono (by decide) (by decide)⟩
    · exact ⟨rfl, false, _, .bl _, (Fine.bl _).mono (by decide) (by decide)⟩
    · exact ⟨rfl, false, _, .non, Fine.non.mono (by decide) (by decide)⟩
    · exact ⟨rfl, false, _, .str _, Fine.nil.mono (by decide) (by decide)⟩
    · exact ⟨rfl, false, _, .str _, ⟨rfl, by decide +kernel, by decide⟩⟩
    · exact ⟨rfl, false, _, .str _, (Fine.digits hL).mono (by decide) (by decide)⟩
    · exact ⟨rfl, false, _, .str _, ⟨rfl, by decide +kernel, by decide⟩⟩
    · exact ⟨rfl, false, _, .tup yta .nil, (Fine.tup (n := 46) (k := 0) (l := 1) (fun d hd => absurd hd (by simp)) (by simp)).mono (by decide) (by decide)⟩
    · exact ⟨rfl, false, _, .tup ytb (.cons (.int _) .nil), (Fine.tup (l := 1) (fun d hd => by rw [List.mem_singleton.mp hd]; exact Fine.int hL) (by simp)).mono (by decide) (by decide)⟩
    · exact ⟨rfl, false, _, .lst yla .nil, (Fine.lst (n := 46) (k := 0) (l := 1) (fun d hd => absurd hd (by simp)) (by simp)).mono (by decide) (by decide)⟩
    · exact ⟨rfl, false, _, .lst ylb (.cons (.int _) .nil), (Fine.lst (l := 1) (fun d hd => by rw [List.mem_singleton.mp hd]; exact Fine.int (by decide)) (by simp)).mono (by decide) (by decide)⟩
    · exact ⟨rfl, true, _, .dct yza, Fine.dct.mono (by decide) (by decide)⟩
    · exact ⟨rfl, true, _, .dc1 yzb, (Fine.dc1 hL).mono (by decide) (by decide)⟩
    · refine ⟨rfl, false, _, .tup ytd (.cons (.int _) (.cons (.tup ytc (.cons (.int _) (.cons (.lst ylc (.cons .non .nil)) .nil))) .nil)), ?_⟩
      have f1 : Fine 51 1 (.list [.none]) := (Fine.lst (l := 1) (fun d hd => by rw [List.mem_singleton.mp hd]; exact Fine.non) (by simp)).mono (by decide) (by decide)
      have f2 : Fine 120 2 (.tuple [.int (L : Int), .list [.none]]) := (Fine.tup (n := 51) (k := 1) (l := 2) (fun d hd => by
        simp only [List.mem_cons, List.not_mem_nil, or_false] at hd
        rcases hd with rfl | rfl
        · exact (Fine.int hL).mono (by decide) (by decide)
        · exact f1) (by simp)).mono (by decide) (by decide)
      exact (Fine.tup (n := 120) (k := 2) (l := 2) (fun d hd => by
        simp only [List.mem_cons, List.not_mem_nil, or_false] at hd
        rcases hd with rfl | rfl
        · exact (Fine.int (by decide)).mono (by decide) (by decide)
        · exact f2) (by simp)).mono (by decide) (by decide)
    · exact ⟨rfl, false, _, .lst yld (.cons (.bl _) .nil), (Fine.lst (l := 1) (fun d hd => by rw [List.mem_singleton.mp hd]; exact Fine.bl _) (by simp)).mono (by decide) (by decide)⟩
end
end K19
set_option maxHeartbeats 4000000
namespace K19
open PySem L2 Wk
open Rp
def spRight : Sp := fun vs H Q _ => ∃ (d : Addr), vs = [.ref d] ∧ DeckAt H d 100000 ∧ ∀ H', But d H H' → Q (.bl true) H'
def spLaw (K : PySem.W.Frag) : Sp := fun vs H Q _ => ∃ (s : Addr) (ns : List Int), vs = [.ref s] ∧ SqL K H s (ns.map V.int) ∧ ns.length ≤ 63 ∧ ∀ H', Q (.bl true) H'
theorem made_same {C : Addr} {H2 H3 : Hp} {x dx : Addr} (hx : H2 x = none) (hdx : H2 dx = none) (f3 : ∀ b o, (upd (upd H2 dx (.own x)) x (.ins C dx [])) b = some o → b ≠ x → H3 b = some o) : Same H2 H3 := fun b o e =>
  f3 b o (by rw [upd_ne (ne_of_none e hx), upd_ne (ne_of_none e hdx)]; exact e) (ne_of_none e hx)
theorem made_none {C : Addr} {H2 : Hp} {x dx S : Addr} (hx : H2 x = none) (hdx : H2 dx = none) (h : (upd (upd H2 dx (.own x)) x (.ins C dx [])) S = none) : H2 S = none := by
  cases e : H2 S with
  | none => rfl
  | some o => rw [upd_ne (ne_of_none e hx), upd_ne (ne_of_none e hdx), e] at h; cases h
theorem parts_start (n : Nat) : partsN (start3 (n : Int)).tops = n := by
  have el : (start3 (n : Int)).tops.length = n := by simp [start3, rints]
  unfold partsN
  rw [el, List.filter_eq_self.mpr, List.length_range]
  intro p hp
  have hp := List.mem_range.mp hp
  have e : (start3 (n : Int)).tops.getD p 0 = (p : Int) := by
    unfold start3 rints
    simp [List.getD, hp]
  rw [e]; simp
structure LS (C : Addr) (H0 H : Hp) (d x S : Addr) (n : Nat) (ps : List (Nat × Nat)) (b : Nat) : Prop where
  dk : DeckAt H d b
  tk : TkAt C H x S (stsOf n ps)
  n2 : 2 ≤ n
  n24 : n ≤ 24
  pl : ps.length ≤ 60
  dS : d ≠ S
  kp : But d H0 H
  fx : H0 x = none
  fS : H0 S = none
section
variable {C : Addr} {H0 H H' : Hp} {d x S c : Addr} {n b b' : Nat} {ps : List (Nat × Nat)}
theorem LS.ok (L : LS C H0 H d x S n ps b) : Ok n (runS n ps) := ok_run (by have := L.n2; omega) L.n24 ps
theorem LS.mono (L : LS C H0 H d x S n ps b) (h : b' ≤ b) : LS C H0 H d x S n ps b' := { L with dk := L.dk.mono h }
theorem LS.draw (L : LS C H0 H d x S n ps b) (k : But d H H') (D : DeckAt H' d b') : LS C H0 H' d x S n ps b' := by
  obtain ⟨_, _, _, h1, _⟩ := id L.dk
  have t := TupS.of k h1
  obtain ⟨⟨dx, e1⟩, ⟨rs, e2, e3⟩, l⟩ := L.tk
  exact ⟨D, ⟨⟨dx, k _ _ e1 fun z => by rw [z, h1] at e1; cases e1⟩, ⟨rs, k _ _ e2 L.dS.symm, e3.tup t⟩, l⟩, L.n2, L.n24, L.pl, L.dS, L.kp.trans k, L.fx, L.fS⟩
theorem LS.same (L : LS C H0 H d x S n ps b) (k : Same H H') : LS C H0 H' d x S n ps b := L.draw (But.of k) (L.dk.same k)
theorem LS.back {S' : Addr} {m : Nat} (L : LS C H0 H d x S n ps b) (hm : m ≤ ps.length) (hS : H S' = none) (k : ∀ b o, H b = some o → b ≠ x → H' b = some o) (T : TkAt C H' x S' ((stsOf n ps).take (m + 1))) : LS C H0 H' d x S' n (ps.take m) b := by
  obtain ⟨c1, c2, c3, h1, h2⟩ := id L.dk
  obtain ⟨⟨dx, e1⟩, _, _⟩ := id L.tk
  rw [stsOf_take n ps m hm] at T
  have nd : d ≠ x := fun z => by rw [z, e1] at h1; cases h1
  exact ⟨⟨c1, c2, c3, k _ _ h1 nd, h2⟩, T, L.n2, L.n24, by have := L.pl; simp; omega, ne_of_none h1 hS, fun c o e ne => k _ _ (L.kp _ _ e ne) (ne_of_none e L.fx), L.fx, L.kp.none L.dk hS⟩
end
def tTailR (C : Addr) : TS := fun D σ H => ∃ (H0 : Hp) (d x S : Addr) (n l : Nat) (ps : List (Nat × Nat)) (u4 u5 : Option V), σ = [some (.ref d), some (.int (n : Int)), some (.ref x), some (.int (l : Int)), u4, u5, none, none] ∧ ps.length = l ∧ LS C H0 H d x S n ps 70000 ∧ ∀ H', But d H0 H' → D.rt (.bl true) H'
section
variable {P : Program} {w : World} {K : PySem.W.Frag} {mg : Str → Option Value} {base : Heap} {C I N J B : Addr}
theorem scRight : FnScope ["_law_deck", "_law_many", "_law_takes", "_law_laid", "_law_turn", "_law_pair", "_law_due", "_law_thing"] ["_law_deck"] (defScope sRight) := ⟨rfl, rfl, rfl, by decide +kernel, rfl, by decide +kernel, by decide +kernel⟩
theorem ok_Right {f : Addr} {fd : FuncData} (F : Fun K "_law_right" "_law_right" sRight f fd) (T : Txt K mg C I N J B)
    {gDraw : Addr} {fDraw : FuncData} (kDraw : PySem.W.keepIn K (.ref gDraw) = true) (bDraw : Binds K fDraw ["_law_deck", "_law_most"] []) (hDraw : mg "_law_draw" = some (.ref gDraw)) (GDraw : FnOk P w K mg base CX0 5 gDraw fDraw ["_law_deck", "_law_most"] spDraw)
    {fInit : FuncData} (bInit : Binds K fInit ["self", "many"] []) (GInit : FnOk P w K mg base CX0 1 I fInit ["self", "many"] (spInit C))
    {gRare : Addr} {fRare : FuncData} (kRare : PySem.W.keepIn K (.ref gRare) = true) (bRare : Binds K fRare ["_law_deck", "_law_often", "_law_great"] []) (hRare : mg "_law_rare" = some (.ref gRare)) (GRare : FnOk P w K mg base CX0 5 gRare fRare ["_law_deck", "_law_often", "_law_great"] spRare)
    {gTwo : Addr} {fTwo : FuncData} (kTwo : PySem.W.keepIn K (.ref gTwo) = true) (bTwo : Binds K fTwo ["_law_deck", "_law_many"] []) (hTwo : mg "_law_two_of" = some (.ref gTwo)) (GTwo : FnOk P w K mg base CX0 5 gTwo fTwo ["_law_deck", "_law_many"] spTwo)
    {gJoin : Addr} {fJoin : FuncData} (bJoin : Binds K fJoin ["self", "one", "other"] []) (hJoin : Meth K C "join" gJoin) (GJoin : FnOk P w K mg base CX0 5 gJoin fJoin ["self", "one", "other"] (spJoin C))
    {gBack : Addr} {fBack : FuncData} (bBack : Binds K fBack ["self", "thing"] []) (hBack : Meth K C "back" gBack) (GBack : FnOk P w K mg base CX0 5 gBack fBack ["self", "thing"] (spBack C))
    {gTold : Addr} {fTold : FuncData} (kTold : PySem.W.keepIn K (.ref gTold) = true) (bTold : Binds K fTold ["_law_takes", "_law_many"] []) (hTold : mg "_law_as_told" = some (.ref gTold)) (GTold : FnOk P w K mg base CX0 5 gTold fTold ["_law_takes", "_law_many"] (spTold C))
    {gOdds : Addr} {fOdds : FuncData} (kOdds : PySem.W.keepIn K (.ref gOdds) = true) (bOdds : Binds K fOdds ["_law_deck", "_law_laid"] []) (hOdds : mg "_law_odd_things" = some (.ref gOdds)) (GOdds : FnOk P w K mg base CX0 5 gOdds fOdds ["_law_deck", "_law_laid"] (spOdds K))
    {gRefused : Addr} {fRefused : FuncData} (kRefused : PySem.W.keepIn K (.ref gRefused) = true) (bRefused : Binds K fRefused ["_law_takes", "_law_thing"] []) (hRefused : mg "_law_refused" = some (.ref gRefused)) (GRefused : FnOk P w K mg base CX0 5 gRefused fRefused ["_law_takes", "_law_thing"] (spRefused K C))
    {gJoins : Addr} {fJoins : FuncData} (bJoins : Binds K fJoins ["self"] []) (hJoins : Meth K C "joins" gJoins) (GJoins : FnOk P w K mg base CX0 5 gJoins fJoins ["self"] (spJoins C))
    {gParts : Addr} {fParts : FuncData} (bParts : Binds K fParts ["self"] []) (hParts : Meth K C "parts" gParts) (GParts : FnOk P w K mg base CX0 5 gParts fParts ["self"] (spParts C)) :
    FnOk P w K mg base CX0 6 f fd ["_law_deck"] spRight := by
  refine F.ok scRight (fun vs H Q E h => ?_) (fun cdv A outer s H vs Q E hr h => ?_)
  · obtain ⟨_, rfl, _⟩ := h; rfl
  · obtain ⟨d, rfl, hD, k⟩ := h
    refine ⟨_, pss_cons (ps_set (i := 1) scRight.nd rfl (Or.inl rfl) (pe_op op_add pe_int (pe_call GDraw hr rfl hDraw kDraw bDraw .nil pass0 (pa_cons (pv 0) (pa_cons pe_int pa_nil)))))
      (pss_cons (ps_set (i := 2) scRight.nd rfl (Or.inl rfl) (pe_make T.mkC GInit (hr.mono (by decide)) rfl T.mgC bInit .nil pass0 (pa_cons (pv 1) pa_nil)))
      (pss_cons (ps_set (i := 3) scRight.nd rfl (Or.inl rfl) pe_int)
      (pss_cons (ps_for PassesOwn.never rfl (pi_range1 rfl T.range (pa_cons (pe_call GRare hr rfl hRare kRare bRare .nil pass0 (pa_cons (pv 0) (pa_cons (pe_call GDraw hr rfl hDraw kDraw bDraw .nil pass0 (pa_cons (pv 0) (pa_cons pe_int pa_nil))) (pa_cons pe_int pa_nil)))) pa_nil)) (pg_name (i := 4) scRight.nd rfl (Or.inl rfl)) (pss_cons (ps_set (i := 5) scRight.nd rfl (Or.inl rfl) (pe_call GTwo hr rfl hTwo kTwo bTwo .nil pass0 (pa_cons (pv 0) (pa_cons (pv 1) pa_nil))))
      (pss_cons (ps_expr (pe_meth (pv 2) T.cl hJoin GJoin hr bJoin .nil pass0 (pa_cons (pe_ix ix_tup (pv 5) pe_int (fun _ _ => rfl)) (pa_cons (pe_ix ix_tup (pv 5) pe_int (fun _ _ => rfl)) pa_nil))))
      (pss_one (ps_set (i := 3) scRight.nd rfl (Or.inl rfl) (pe_op op_add (pv 3) pe_int))))))
      (pss_cons (ps_if (pt_cmpR op_eq (pe_call GDraw hr rfl hDraw kDraw bDraw .nil pass0 (pa_cons (pv 0) (pa_cons pe_int pa_nil))) pe_int (nomark _)) (pss_cons (ps_set (i := 3) scRight.nd rfl (Or.inl rfl) (pe_call GDraw hr rfl hDraw kDraw bDraw .nil pass0 (pa_cons (pv 0) (pa_cons (pe_op op_add (pv 3) pe_int) pa_nil))))
      (pss_one (ps_expr (pe_meth (pv 2) T.cl hBack GBack hr bBack .nil pass0 (pa_cons (pv 3) pa_nil))))) pss_nil)
      (PSs.imp' (t' := tTailR C) (pss_cons (ps_set (i := 6) scRight.nd rfl (Or.inl rfl) (pe_call GTold hr rfl hTold kTold bTold .nil pass0 (pa_cons (pv 2) (pa_cons (pv 1) pa_nil))))
      (pss_cons (ps_for PassesOwn.never rfl (pi_list (pe_call GOdds hr rfl hOdds kOdds bOdds .nil pass0 (pa_cons (pv 0) (pa_cons (pv 3) pa_nil)))) (pg_name (i := 7) scRight.nd rfl (Or.inl rfl)) (pss_one (ps_if (PW.pt (pw_or (pt_not (pt_val (pe_call GRefused hr rfl hRefused kRefused bRefused .nil pass0 (pa_cons (pv 2) (pa_cons (pv 7) pa_nil))))) (pw_or1 (pt_cmpR (op_nes hr.units) (pe_call GTold hr rfl hTold kTold bTold .nil pass0 (pa_cons (pv 2) (pa_cons (pv 1) pa_nil))) (pv 6) (nomark _))))) (pss_one (ps_ret pe_bl)) pss_nil)))
      (pss_cons (ps_if (PW.pt (pw_or (pt_cmpR op_notN (pe_meth (pv 2) T.cl hBack GBack hr bBack .nil pass0 (pa_cons (pv 3) pa_nil)) pe_non (nomark _)) (pw_or1 (pt_cmpR (op_nes hr.units) (pe_call GTold hr rfl hTold kTold bTold .nil pass0 (pa_cons (pv 2) (pa_cons (pv 1) pa_nil))) (pv 6) (nomark _))))) (pss_one (ps_ret pe_bl)) pss_nil)
      (pss_cons (ps_if (PW.pt (pw_or (pt_cmpR op_notN (pe_meth (pv 2) T.cl hBack GBack hr bBack .nil pass0 (pa_cons pe_int pa_nil)) pe_non (nomark _)) (pw_or (pt_cmpR op_ne (pe_meth0 (pv 2) T.cl hJoins GJoins hr bJoins .nil pass0) pe_int (nomark _)) (pw_or1 (pt_cmpR op_ne (pe_meth0 (pv 2) T.cl hParts GParts hr bParts .nil pass0) (pv 1) (nomark _)))))) (pss_one (ps_ret pe_bl)) pss_nil)
      (pss_one (ps_ret (pe_call GRefused hr rfl hRefused kRefused bRefused .nil pass0 (pa_cons (pv 2) (pa_cons pe_int pa_nil))))))))) ?tail))))), ?_⟩
    case tail =>
      clear k hD
      rintro D σ H ⟨H0, d, x, S, n, l, ps, u4, u5, rfl, hl, L, k⟩
      have T := L.tk
      rw [stsOf_last] at T
      refine ⟨_, rfl, _, rfl, x, S, _, _, n, rfl, T, L.ok, fun r H1 s1 hr0 A1 => ?_⟩
      rw [List.length_map, List.length_range] at A1
      have L1 := L.same s1
      obtain ⟨c1, c2, c3, h1, h2⟩ := id L.dk
      have rd : r ≠ d := (ne_of_none h1 hr0).symm
      have pl := L.pl
      refine ⟨_, rfl, _, rfl, d, l, 60000, rfl, L1.dk.mono (by omega), by omega, fun r2 xs H2 b2 D2 hr2 hO => ?_⟩
      have L2 := L1.draw b2 D2
      have A2 := A1.keep (TupS.of b2 (s1 _ _ h1)) (fun o e => b2 _ _ e rd)
      refine ⟨r2, rfl, ⟨_, SqL.of hr2⟩, for_list (K := K) (xs := xs) (fun i σ H3 => ∃ u7 : Option V, σ = [some (.ref d), some (.int (n : Int)), some (.ref x), some (.int (l : Int)), u4, u5, some (.ref r), u7] ∧ Same H2 H3) ⟨none, rfl, same_refl _⟩ (fun i σ H3 _ ⟨_, _, s⟩ => SqL.of (s _ _ hr2)) ?_ ?_⟩
      · rintro i v σ H3 hv ⟨u7, rfl, s3⟩
        have L3 := L2.same s3
        have T3 := L3.tk
        refine ⟨_, rfl, _, rfl, x, S, _, v, l, rfl, T3, by rw [stsOf_len]; omega, (hO v (List.mem_of_getElem? hv)).same s3, fun H4 s4 => ⟨true, rfl, iteF ?_⟩⟩
        have T4 := T3.same s4
        rw [stsOf_last] at T4
        refine ⟨_, rfl, _, rfl, x, S, _, _, n, rfl, T4, L.ok, fun r5 H5 s5 hr5 A5 => ?_⟩
        rw [List.length_map, List.length_range] at A5
        refine ⟨_, rfl, 2, true, r5, r, rfl, rfl, by decide, A5.eqs (((A2.same s3).same s4).same s5), _, rfl, iteF ?_⟩
        exact ⟨_, rfl, (s3.trans s4).trans s5⟩
      rintro σ H3 ⟨u7, rfl, s3⟩
      have L3 := L2.same s3
      have A3 := A2.same s3
      obtain ⟨⟨dx3, e3⟩, _, _⟩ := id L3.tk
      refine ⟨_, rfl, x, dx3, _, rfl, e3, flds_no S (by decide +kernel), _, rfl, x, S, _, l, rfl, L3.tk, by rw [stsOf_len]; omega, fun S' H4 hS' k4 T4 => ⟨rfl, _, rfl, iteF ?_⟩⟩
      have L4 := L3.back (by omega) hS' k4 T4
      rw [List.take_of_length_le (by omega)] at L4
      have A4 : TdAt H4 r n (runS n ps) ps.length := by
        refine A3.keep (fun b xs e => k4 _ _ e fun z => by rw [z, e3] at e; cases e) fun o e => k4 _ _ e fun z => ?_
        obtain ⟨_, _, q1, _⟩ := A3
        rw [z, e3] at q1; cases q1
      have T4' := L4.tk
      rw [stsOf_last] at T4'
      refine ⟨_, rfl, _, rfl, x, S', _, _, n, rfl, T4', L.ok, fun r5 H5 s5 hr5 A5 => ?_⟩
      rw [List.length_map, List.length_range] at A5
      refine ⟨_, rfl, 2, true, r5, r, rfl, rfl, by decide, A5.eqs (A4.same s5), _, rfl, iteF ?_⟩
      dsimp only [tNext]
      have L5 := L4.same s5
      obtain ⟨⟨dx5, e5⟩, _, _⟩ := id L5.tk
      refine ⟨_, rfl, x, dx5, _, rfl, e5, flds_no S' (by decide +kernel), x, S', _, 0, rfl, L5.tk, by rw [stsOf_len]; omega, fun S6 H6 hS6 k6 T6 => ⟨rfl, _, rfl, iteF ?_⟩⟩
      have L6 := L5.back (Nat.zero_le _) hS6 k6 T6
      have T6 := L6.tk
      rw [List.take_zero] at T6 L6
      obtain ⟨⟨dx6, e6⟩, _, _⟩ := id T6
      refine ⟨_, rfl, x, dx6, _, rfl, e6, flds_no S6 (by decide +kernel), x, S6, _, rfl, T6, rfl, _, rfl, ite2 (fun g => absurd g (by simp [stsOf_len])) fun _ => ?_⟩
      refine ⟨_, rfl, x, dx6, _, rfl, e6, flds_no S6 (by decide +kernel), x, S6, [], start3 n, n, rfl, T6, ok_run (by have := L.n2; omega) L.n24 [], fun H7 s7 => ?_⟩
      rw [parts_start]
      refine ⟨_, rfl, rfl, _, rfl, ite2 (fun g => absurd g (by simp)) fun _ => ?_⟩
      dsimp only [tNext]
      exact ⟨_, rfl, x, S6, _, .int 1, 0, rfl, T6.same s7, rfl, OddT.int (.inr (by decide)) (by decide), fun H8 s8 => k H8 ((L6.kp.trans (But.of s7)).trans (But.of s8))⟩
    refine ⟨_, rfl, d, 8, 99999, rfl, hD, by decide, by decide, fun v H1 v0 v1 b1 D1 => ⟨_, _, rfl, rfl, ?_⟩⟩
    obtain ⟨n, hn⟩ : ∃ n : Nat, 2 + v = (n : Int) := ⟨(2 + v).toNat, by omega⟩
    dsimp only
    rw [hn]
    have n2 : 2 ≤ n := by omega
    have n24 : n ≤ 24 := by omega
    refine ⟨_, rfl, fun x dx hx hdx hxd => ⟨x, dx, n, rfl, upd_same, by omega, by omega, fun S H3 hS T3 f3 => ⟨rfl, ?_⟩⟩⟩
    have s3 := made_same hx hdx f3
    have S1 := made_none hx hdx hS
    have L0 : LS C H H3 d x S n [] 99999 := by
      obtain ⟨c1, c2, c3, h1, h2⟩ := id D1
      exact ⟨D1.same s3, T3, n2, n24, by simp, ne_of_none h1 S1, b1.trans (But.of s3), b1.none D1 hx, b1.none D1 S1⟩
    refine ⟨_, rfl, _, rfl, d, 8, 99998, rfl, L0.dk, by decide, by decide, fun w1 H4 w10 w11 b4 D4 => ?_⟩
    have L1 := L0.draw b4 D4
    refine ⟨d, w1, 30, 99997, rfl, D4, fun w2 H5 hw b5 D5 => ?_⟩
    have L2 := L1.draw b5 D5
    refine ⟨w2, rfl, by omega, by omega, for_range (lo := 0) (n := w2.toNat) (fun j σ H6 => ∃ (u4 u5 : Option V) (ps : List (Nat × Nat)), σ = [some (.ref d), some (.int (n : Int)), some (.ref x), some (.int (ps.length : Int)), u4, u5, none, none] ∧ ps.length = j ∧ LS C H H6 d x S n ps (90000 + 2 * (30 - j))) ⟨none, none, [], rfl, rfl, L2.mono (by omega)⟩ ?_ ?_⟩
    · rintro j σ H6 hj ⟨u4, u5, ps, rfl, hl, L3⟩
      have L3' : LS C H H6 d x S n ps (90000 + 2 * (30 - (j + 1)) + 2) := L3.mono (by omega)
      refine ⟨_, rfl, _, rfl, d, n, _, rfl, L3'.dk, n2, by omega, fun p q r H7 b7 D7 hp hq hpq hr7 => ?_⟩
      have L4 := L3'.draw b7 D7
      obtain ⟨⟨dx4, e1⟩, ⟨rs4, e2, _⟩, _⟩ := id L4.tk
      have T4 := L4.tk
      rw [stsOf_last] at T4
      refine ⟨_, rfl, x, dx4, _, rfl, e1, flds_no S (by decide +kernel), _, rfl, r, _, 0, _, rfl, rfl, SqT.of hr7, at0, _, rfl, r, _, 1, _, rfl, rfl, SqT.of hr7, at1, x, S, _, _, n, p, q, rfl, T4, by simp; omega, L4.ok, hp, hq, fun H8 k8 T8 => ?_⟩
      rw [← stsOf_last, ← stsOf_snoc n ps (p, q)] at T8
      obtain ⟨c1, c2, c3, h1, h2⟩ := id L4.dk
      refine ⟨_, rfl, _, _, rfl, rfl, ?_⟩
      refine ⟨some (.int (0 + (j : Int))), some (.ref r), ps ++ [(p, q)], by simp, by simp [hl], ⟨⟨c1, c2, c3, k8 _ _ h1 L4.dS, h2⟩, T8, n2, n24, by simp; omega, L4.dS, fun c o e ne => k8 _ _ (L4.kp _ _ e ne) (ne_of_none e L4.fS), L4.fx, L4.fS⟩⟩
    rintro σ H6 ⟨u4, u5, ps, rfl, hl, L3⟩
    have L3 : LS C H H6 d x S n ps 80002 := L3.mono (by omega)
    have pl := L3.pl
    refine ⟨_, rfl, d, 2, _, rfl, L3.dk, by decide, by decide, fun w3 H7 w30 w31 b7 D7 => ⟨rfl, _, rfl, ?_⟩⟩
    have L4 := L3.draw b7 D7
    refine ite2 (fun _ => ?_) fun _ => ?_
    · refine ⟨_, rfl, _, rfl, _, _, rfl, rfl, d, _, _, rfl, L4.dk, by omega, by omega, fun w4 H8 w40 w41 b8 D8 => ?_⟩
      have L5 := L4.draw b8 D8
      obtain ⟨m, rfl⟩ : ∃ m : Nat, w4 = (m : Int) := ⟨w4.toNat, by omega⟩
      obtain ⟨⟨dx5, e5⟩, _, _⟩ := id L5.tk
      refine ⟨_, rfl, x, dx5, _, rfl, e5, flds_no S (by decide +kernel), _, rfl, x, S, _, m, rfl, L5.tk, by rw [stsOf_len]; omega, fun S' H9 hS' k9 T9 => ?_⟩
      have L6 := L5.back (by omega) hS' k9 T9
      exact ⟨H, d, x, S', n, m, _, _, _, rfl, by simp; omega, L6.mono (by omega), k⟩
    · dsimp only [tNext]
      exact ⟨H, d, x, S, n, ps.length, ps, _, _, rfl, rfl, L4.mono (by omega), k⟩
end
end K19
set_option maxHeartbeats 2000000
namespace K19
open PySem L2 Wk
open Rp
section
variable {P : Program} {w : World} {K : PySem.W.Frag} {mg : Str → Option Value} {base : Heap} {C I N J B : Addr}
theorem scLaw : FnScope ["_law_script", "_law_k", "_law_made"] ["_law_script"] (defScope sLaw) := ⟨rfl, rfl, rfl, by decide +kernel, rfl, by decide +kernel, by decide +kernel⟩
theorem ok_Law {f : Addr} {fd : FuncData} (F : Fun K "law" "law" sLaw f fd) (T : Txt K mg C I N J B)
    {gRight : Addr} {fRight : FuncData} (kRight : PySem.W.keepIn K (.ref gRight) = true) (bRight : Binds K fRight ["_law_deck"] []) (hRight : mg "_law_right" = some (.ref gRight)) (GRight : FnOk P w K mg base CX0 6 gRight fRight ["_law_deck"] spRight)
    {gOpened : Addr} {fOpened : FuncData} (kOpened : PySem.W.keepIn K (.ref gOpened) = true) (bOpened : Binds K fOpened ["_law_cell"] []) (hOpened : mg "_law_opened" = some (.ref gOpened)) (GOpened : FnOk P w K mg base CX0 6 gOpened fOpened ["_law_cell"] spOpened)
    {gCell : Addr} {fCell : FuncData} (kCell : PySem.W.keepIn K (.ref gCell) = true) (bCell : Binds K fCell ["_law_script", "_law_k"] []) (hCell : mg "_law_cell_at" = some (.ref gCell)) (GCell : FnOk P w K mg base CX0 6 gCell fCell ["_law_script", "_law_k"] (spCell K))
    {fNInit : FuncData} (bNInit : Binds K fNInit ["self", "thing"] []) (GNInit : FnOk P w K mg base CX0 1 J fNInit ["self", "thing"] (spNInit N)) :
    FnOk P w K mg base CX0 7 f fd ["_law_script"] (spLaw K) := by
  refine F.ok scLaw (fun vs H Q E h => ?_) (fun cdv A outer s H vs Q E hr h => ?_)
  · obtain ⟨_, _, rfl, _⟩ := h; rfl
  · obtain ⟨s, ns, rfl, hS, hl, k⟩ := h
    refine ⟨_, pss_cons (ps_for PassesOwn.never rfl (pi_range1 rfl T.range (pa_cons (pe_callB (call_max2 rfl) (by rfl) T.max (by decide +kernel) (pa_cons pe_int (pa_cons (pe_callB (call_min2 rfl) (by rfl) T.min (by decide +kernel) (pa_cons pe_int (pa_cons (pe_callB call_len_seq (by rfl) T.len PySem.boot_len (pa_cons (pv 0) pa_nil)) pa_nil))) pa_nil))) pa_nil)) (pg_name (i := 1) scLaw.nd rfl (Or.inl rfl)) (pss_one (ps_if (pt_not (pt_val (pe_call GRight hr rfl hRight kRight bRight .nil pass0 (pa_cons (pe_call GOpened hr rfl hOpened kOpened bOpened .nil pass0 (pa_cons (pe_call GCell hr rfl hCell kCell bCell .nil pass0 (pa_cons (pv 0) (pa_cons (pv 1) pa_nil))) pa_nil)) pa_nil)))) (pss_one (ps_ret pe_bl)) pss_nil)))
      (pss_cons (ps_set (i := 2) scLaw.nd rfl (Or.inl rfl) (pe_mkX T.xN T.iN T.fN GNInit (hr.mono (by decide)) rfl T.mgN bNInit (pa_cons (pe_tup (pa_cons (pe_callB call_len_seq (by rfl) T.len PySem.boot_len (pa_cons (pv 0) pa_nil)) (pa_cons pe_str (pa_cons pe_non pa_nil)))) pa_nil)))
      (pss_one (ps_ret (pe_and (pe_cmpR (op_eqs hr.units) (pe_xf (pv 2)) (pe_tup (pa_cons (pe_callB call_len_seq (by rfl) T.len PySem.boot_len (pa_cons (pv 0) pa_nil)) (pa_cons pe_str (pa_cons pe_non pa_nil)))) (nomark _)) (pe_one (pe_callB call_isX (by rfl) T.isinstance (by decide +kernel) (pa_cons (pv 2) (pa_cons (pe_glob (v := .ref B) (by rfl) T.mgB rfl) pa_nil)))))))), ?_⟩
    refine ⟨_, rfl, s, _, rfl, .inl hS, _, _, rfl, _, _, rfl, _, rfl, by split <;> split <;> omega, by split <;> split <;> omega, for_range (lo := 0) (fun i σ H5 => ∃ (u1 : Option V), σ = [some (.ref s), u1, none] ∧ Same H H5) ⟨_, rfl, same_refl _⟩ ?_ ?_⟩
    rotate_left
    · rintro σ H5 ⟨u1, rfl, s5⟩
      have hS5 := sqL_same hS s5
      refine ⟨_, rfl, s, _, rfl, .inl hS5, small (by simp), fun tp htp => ?_⟩
      have s6 := same_new (o := .tup [.int ((ns.map V.int).length : Nat), .str "a", .non]) htp
      have t6 := upd_same (H := H5) (a := tp) (o := .tup [.int ((ns.map V.int).length : Nat), .str "a", .non])
      generalize upd H5 tp (.tup [.int ((ns.map V.int).length : Nat), .str "a", .non]) = H6 at s6 t6
      refine ⟨(show 1 ≤ 1000 by decide), fun ex tt hex => ?_⟩
      refine ⟨ex, .ref tp, _, rfl, upd_same, fun d H' ned hk he hd => ⟨rfl, some d, he, ?_⟩⟩
      have s7 : Same H6 (upd H' ex (.ext (ExcO ex N (some d)))) := fun b o hb => by
        have nb : b ≠ ex := ne_of_none hb hex
        rw [upd_ne nb]
        exact hk b o (by rw [upd_ne nb]; exact hb) nb
      have he7 := upd_same (H := H') (a := ex) (o := .ext (ExcO ex N (some d)))
      have hd7 : upd H' ex (.ext (ExcO ex N (some d))) d = some (.ext (XdO d [("thing", .ref tp)])) := by rw [upd_ne ned]; exact hd
      generalize upd H' ex (.ext (ExcO ex N (some d))) = H7 at s7 he7 hd7
      refine ⟨_, rfl, ex, N, d, _, _, .ref tp, rfl, he7, hd7, T.xN.toXAt, T.xg, T.nT, rfl, _, rfl, s, _, rfl, .inl (sqL_same hS5 (s6.trans s7)), small (by simp), fun tp2 htp2 => ?_⟩
      have s8 := same_new (o := .tup [.int ((ns.map V.int).length : Nat), .str "a", .non]) htp2
      have t8 := upd_same (H := H7) (a := tp2) (o := .tup [.int ((ns.map V.int).length : Nat), .str "a", .non])
      generalize upd H7 tp2 (.tup [.int ((ns.map V.int).length : Nat), .str "a", .non]) = H8 at s8 t8
      refine ⟨0, true, tp, tp2, rfl, rfl, by decide, Eqs.alls (.inl ⟨SqT.of (s8 _ _ (s7 _ _ t6)), SqT.of t8⟩) rfl fun j p q hp hq => ?_, _, rfl, iteT ?_⟩
      · match j, hp, hq with
        | 0, hp, hq => cases hp; cases hq; exact Eqs.flatT rfl
        | 1, hp, hq => cases hp; cases hq; exact Eqs.flatT rfl
        | 2, hp, hq => cases hp; cases hq; exact Eqs.flatT rfl
        | j + 3, hp, _ => simp at hp
      · refine ⟨_, rfl, ex, N, _, some d, .ref B, .ref B, true, rfl, s8 _ _ he7, fun d' z => by cases z; exact ⟨_, s8 _ _ hd7⟩, T.xN.toXAt, T.xg, T.xi, .own B, ?_, k _⟩
        show PySem.W.kitOne K (.ref N) (.ref B) = some true
        rw [kit_own T.xN.toXAt T.xB]
        simp
    rintro i σ H5 hi ⟨u1, rfl, s5⟩
    refine ⟨_, rfl, _, rfl, s, ns, i, by rw [Int.zero_add]; rfl, sqL_same hS s5, fun c => ⟨c, rfl, fun d H6 s6 dn D6 => ⟨d, rfl, D6, fun H7 b7 => ⟨true, rfl, iteF ⟨_, rfl, fun b o e => b7 b o (s6 b o (s5 b o e)) (ne_of_none (s5 _ _ e) dn)⟩⟩⟩⟩⟩
end
end K19
set_option maxHeartbeats 4000000
namespace K19
open PySem L2 Wk
theorem us1 {fd : FuncData} {ps : List Str} (hp : ps.length = 1) (h : ∀ a0 : Value, bindArgs fd ⟨[a0], []⟩ = pure (ps.zip [a0])) : ∀ us : List Value, us.length = ps.length → bindArgs fd ⟨us, []⟩ = pure (ps.zip us) := fun us hl => match us, hl.trans hp with | [a0], _ => h a0
theorem us2 {fd : FuncData} {ps : List Str} (hp : ps.length = 2) (h : ∀ a0 a1 : Value, bindArgs fd ⟨[a0, a1], []⟩ = pure (ps.zip [a0, a1])) : ∀ us : List Value, us.length = ps.length → bindArgs fd ⟨us, []⟩ = pure (ps.zip us) := fun us hl => match us, hl.trans hp with | [a0, a1], _ => h a0 a1
theorem us3 {fd : FuncData} {ps : List Str} (hp : ps.length = 3) (h : ∀ a0 a1 a2 : Value, bindArgs fd ⟨[a0, a1, a2], []⟩ = pure (ps.zip [a0, a1, a2])) : ∀ us : List Value, us.length = ps.length → bindArgs fd ⟨us, []⟩ = pure (ps.zip us) := fun us hl => match us, hl.trans hp with | [a0, a1, a2], _ => h a0 a1 a2
theorem us4 {fd : FuncData} {ps : List Str} (hp : ps.length = 4) (h : ∀ a0 a1 a2 a3 : Value, bindArgs fd ⟨[a0, a1, a2, a3], []⟩ = pure (ps.zip [a0, a1, a2, a3])) : ∀ us : List Value, us.length = ps.length → bindArgs fd ⟨us, []⟩ = pure (ps.zip us) := fun us hl => match us, hl.trans hp with | [a0, a1, a2, a3], _ => h a0 a1 a2 a3
theorem all_mk {l : PySem.W.OpenLaw} {w : World} {K : PySem.W.Frag} {h : Heap} {mg : Str → Option Value} {fa C N B d1 d2 d3 d4 f0 f1 f2 f3 f4 f5 f6 f7 f8 f9 f10 f11 f12 f13 f14 f15 f16 f17 f18 f19 f20 f21 f22 f23 f24 : Addr} (X : K.In h) (G : h.Ns mainGlobals mg) (hfa : mg "law" = some (.ref fa))
    {od0 an0 od1 an1 od2 an2 od3 an3 od4 an4 od5 an5 od6 an6 od7 an7 od8 an8 od9 an9 od10 an10 od11 an11 od12 an12 od13 an13 od14 an14 od15 an15 od16 an16 od17 an17 od18 an18 od19 an19 od20 an20 od21 an21 od22 an22 od23 an23 od24 an24 : Option Addr} {sl0 sl1 sl2 sl3 sl4 sl5 sl6 sl7 sl8 sl9 sl10 sl11 sl12 sl13 sl14 sl15 sl16 sl17 sl18 sl19 sl20 sl21 sl22 sl23 sl24 : Array (Option Value)} {oc0 kV0 dc0 pm0 cd0 ct0 oc1 kV1 dc1 pm1 cd1 ct1 oc2 kV2 dc2 pm2 cd2 ct2 oc3 kV3 dc3 pm3 cd3 ct3 oc4 kV4 dc4 pm4 cd4 ct4 oc5 kV5 dc5 pm5 cd5 ct5 oc6 kV6 dc6 pm6 cd6 ct6 oc7 kV7 dc7 pm7 cd7 ct7 oc8 kV8 dc8 pm8 cd8 ct8 oc9 kV9 dc9 pm9 cd9 ct9 oc10 kV10 dc10 pm10 cd10 ct10 oc11 kV11 dc11 pm11 cd11 ct11 oc12 kV12 dc12 pm12 cd12 ct12 oc13 kV13 dc13 pm13 cd13 ct13 oc14 kV14 dc14 pm14 cd14 ct14 oc15 kV15 dc15 pm15 cd15 ct15 oc16 kV16 dc16 pm16 cd16 ct16 oc17 kV17 dc17 pm17 cd17 ct17 oc18 kV18 dc18 pm18 cd18 ct18 oc19 kV19 dc19 pm19 cd19 ct19 oc20 kV20 dc20 pm20 cd20 ct20 oc21 kV21 dc21 pm21 cd21 ct21 oc22 kV22 dc22 pm22 cd22 ct22 oc23 kV23 dc23 pm23 cd23 ct23 oc24 kV24 dc24 pm24 cd24 ct24 : Value}
    {nm1 q1 : Str} {ns1 : Addr} {bs1 sub1 : List Value} {sn1 : List Str} {ab1 : Bool} {col1 : Option Bool} {dd1 : Option Addr} {ka1 kb1 kc1 kd1 ke1 : Option Value}
    {nm2 q2 : Str} {ns2 : Addr} {bs2 sub2 : List Value} {sn2 : List Str} {ab2 : Bool} {col2 : Option Bool} {dd2 : Option Addr} {ka2 kb2 kc2 kd2 ke2 : Option Value}
    {nm3 q3 : Str} {ns3 : Addr} {bs3 sub3 : List Value} {sn3 : List Str} {ab3 : Bool} {col3 : Option Bool} {dd3 : Option Addr} {ka3 kb3 kc3 kd3 ke3 : Option Value}
    {nm4 q4 : Str} {ns4 : Addr} {bs4 sub4 : List Value} {sn4 : List Str} {ab4 : Bool} {col4 : Option Bool} {dd4 : Option Addr} {ka4 kb4 kc4 kd4 ke4 : Option Value}
    {nmN qN : Str} {nsN : Addr} {bsN subN : List Value} {snN : List Str} {abN : Bool} {colN : Option Bool} {ddN : Option Addr} {kaN kbN kcN kdN keN : Option Value}
    {nmB qB : Str} {nsB : Addr} {bsB subB : List Value} {snB : List Str} {abB : Bool} {colB : Option Bool} {ddB : Option Addr} {kaB kbB kcB kdB keB : Option Value}
    (aC : PySem.W.nsIn K mainGlobals "Takes" = some (some (.ref C)))
    (aN : PySem.W.nsIn K mainGlobals "NoMark" = some (some (.ref N)))
    (aB : PySem.W.nsIn K mainGlobals "TieError" = some (some (.ref B)))
    (lN : K.lookup N = some (excClassObj nmN qN N nsN bsN [.ref B, .type "ValueError", .type "Exception", .type "BaseException", .type "object"] true snN subN abN colN ddN kaN kbN kcN kdN keN "ValueError.__new__"))
    (lB : K.lookup B = some (excClassObj nmB qB B nsB bsB [.type "ValueError", .type "Exception", .type "BaseException", .type "object"] true snB subB abB colB ddB kaB kbB kcB kdB keB "ValueError.__new__"))
    (saN : PySem.W.findIn K (.ref N) "__setattr__" = some (some (.builtin "object.__setattr__")))
    (kN : PySem.W.keepIn K (.ref N) = true)
    (nN : PySem.W.findIn K (.ref N) "thing" = some none)
    (a0 : PySem.W.nsIn K mainGlobals "is_whole" = some (some (.ref f0)))
    (l0 : K.lookup f0 = some ⟨oc0, od0, .func (PySem.W.fnOf "is_whole" "is_whole" (defArgs sWhole) (defBody sWhole) (defScope sWhole) .none kV0 dc0 pm0 an0 cd0 ct0), sl0⟩)
    (c0 : PySem.W.codeIn K cd0 "is_whole" = true)
    (k0 : PySem.W.keepIn K (.ref f0) = true)
    (a1 : PySem.W.nsIn K mainGlobals "is_within" = some (some (.ref f1)))
    (l1 : K.lookup f1 = some ⟨oc1, od1, .func (PySem.W.fnOf "is_within" "is_within" (defArgs sWithin) (defBody sWithin) (defScope sWithin) .none kV1 dc1 pm1 an1 cd1 ct1), sl1⟩)
    (c1 : PySem.W.codeIn K cd1 "is_within" = true)
    (k1 : PySem.W.keepIn K (.ref f1) = true)
    (a2 : PySem.W.nsIn K mainGlobals "stays" = some (some (.ref f2)))
    (l2 : K.lookup f2 = some ⟨oc2, od2, .func (PySem.W.fnOf "stays" "stays" (defArgs sStays) (defBody sStays) (defScope sStays) .none kV2 dc2 pm2 an2 cd2 ct2), sl2⟩)
    (c2 : PySem.W.codeIn K cd2 "stays" = true)
    (k2 : PySem.W.keepIn K (.ref f2) = true)
    (a3 : PySem.W.nsIn K mainGlobals "joined_parts" = some (some (.ref f3)))
    (l3 : K.lookup f3 = some ⟨oc3, od3, .func (PySem.W.fnOf "joined_parts" "joined_parts" (defArgs sJp) (defBody sJp) (defScope sJp) .none kV3 dc3 pm3 an3 cd3 ct3), sl3⟩)
    (c3 : PySem.W.codeIn K cd3 "joined_parts" = true)
    (k3 : PySem.W.keepIn K (.ref f3) = true)
    (a4 : PySem.W.findIn K (.ref N) "__init__" = some (some (.ref f4)))
    (i4 : PySem.W.isFn K (.ref f4) = true)
    (l4 : K.lookup f4 = some ⟨oc4, od4, .func (PySem.W.fnOf "__init__" "NoMark.__init__" (defArgs sNInit) (defBody sNInit) (defScope sNInit) .none kV4 dc4 pm4 an4 cd4 ct4), sl4⟩)
    (c4 : PySem.W.codeIn K cd4 "NoMark.__init__" = true)
    (k4 : PySem.W.keepIn K (.ref f4) = true)
    (a5 : PySem.W.findIn K (.ref C) "__init__" = some (some (.ref f5)))
    (i5 : PySem.W.isFn K (.ref f5) = true)
    (l5 : K.lookup f5 = some ⟨oc5, od5, .func (PySem.W.fnOf "__init__" "Takes.__init__" (defArgs sInit) (defBody sInit) (defScope sInit) .none kV5 dc5 pm5 an5 cd5 ct5), sl5⟩)
    (c5 : PySem.W.codeIn K cd5 "Takes.__init__" = true)
    (k5 : PySem.W.keepIn K (.ref f5) = true)
    (a6 : PySem.W.findIn K (.ref C) "shown" = some (some (.ref f6)))
    (i6 : PySem.W.isFn K (.ref f6) = true)
    (l6 : K.lookup f6 = some ⟨oc6, od6, .func (PySem.W.fnOf "shown" "Takes.shown" (defArgs sShown) (defBody sShown) (defScope sShown) .none kV6 dc6 pm6 an6 cd6 ct6), sl6⟩)
    (c6 : PySem.W.codeIn K cd6 "Takes.shown" = true)
    (k6 : PySem.W.keepIn K (.ref f6) = true)
    (a7 : PySem.W.findIn K (.ref C) "top" = some (some (.ref f7)))
    (i7 : PySem.W.isFn K (.ref f7) = true)
    (l7 : K.lookup f7 = some ⟨oc7, od7, .func (PySem.W.fnOf "top" "Takes.top" (defArgs sTop) (defBody sTop) (defScope sTop) .none kV7 dc7 pm7 an7 cd7 ct7), sl7⟩)
    (c7 : PySem.W.codeIn K cd7 "Takes.top" = true)
    (k7 : PySem.W.keepIn K (.ref f7) = true)
    (a8 : PySem.W.findIn K (.ref C) "side" = some (some (.ref f8)))
    (i8 : PySem.W.isFn K (.ref f8) = true)
    (l8 : K.lookup f8 = some ⟨oc8, od8, .func (PySem.W.fnOf "side" "Takes.side" (defArgs sSide) (defBody sSide) (defScope sSide) .none kV8 dc8 pm8 an8 cd8 ct8), sl8⟩)
    (c8 : PySem.W.codeIn K cd8 "Takes.side" = true)
    (k8 : PySem.W.keepIn K (.ref f8) = true)
    (a9 : PySem.W.findIn K (.ref C) "odd" = some (some (.ref f9)))
    (i9 : PySem.W.isFn K (.ref f9) = true)
    (l9 : K.lookup f9 = some ⟨oc9, od9, .func (PySem.W.fnOf "odd" "Takes.odd" (defArgs sOdd) (defBody sOdd) (defScope sOdd) .none kV9 dc9 pm9 an9 cd9 ct9), sl9⟩)
    (c9 : PySem.W.codeIn K cd9 "Takes.odd" = true)
    (k9 : PySem.W.keepIn K (.ref f9) = true)
    (a10 : PySem.W.findIn K (.ref C) "joins" = some (some (.ref f10)))
    (i10 : PySem.W.isFn K (.ref f10) = true)
    (l10 : K.lookup f10 = some ⟨oc10, od10, .func (PySem.W.fnOf "joins" "Takes.joins" (defArgs sJoins) (defBody sJoins) (defScope sJoins) .none kV10 dc10 pm10 an10 cd10 ct10), sl10⟩)
    (c10 : PySem.W.codeIn K cd10 "Takes.joins" = true)
    (k10 : PySem.W.keepIn K (.ref f10) = true)
    (a11 : PySem.W.findIn K (.ref C) "size" = some (some (.ref f11)))
    (i11 : PySem.W.isFn K (.ref f11) = true)
    (l11 : K.lookup f11 = some ⟨oc11, od11, .func (PySem.W.fnOf "size" "Takes.size" (defArgs sSize) (defBody sSize) (defScope sSize) .none kV11 dc11 pm11 an11 cd11 ct11), sl11⟩)
    (c11 : PySem.W.codeIn K cd11 "Takes.size" = true)
    (k11 : PySem.W.keepIn K (.ref f11) = true)
    (a12 : PySem.W.findIn K (.ref C) "parts" = some (some (.ref f12)))
    (i12 : PySem.W.isFn K (.ref f12) = true)
    (l12 : K.lookup f12 = some ⟨oc12, od12, .func (PySem.W.fnOf "parts" "Takes.parts" (defArgs sParts) (defBody sParts) (defScope sParts) .none kV12 dc12 pm12 an12 cd12 ct12), sl12⟩)
    (c12 : PySem.W.codeIn K cd12 "Takes.parts" = true)
    (k12 : PySem.W.keepIn K (.ref f12) = true)
    (a13 : PySem.W.findIn K (.ref C) "join" = some (some (.ref f13)))
    (i13 : PySem.W.isFn K (.ref f13) = true)
    (l13 : K.lookup f13 = some ⟨oc13, od13, .func (PySem.W.fnOf "join" "Takes.join" (defArgs sJoin) (defBody sJoin) (defScope sJoin) .none kV13 dc13 pm13 an13 cd13 ct13), sl13⟩)
    (c13 : PySem.W.codeIn K cd13 "Takes.join" = true)
    (k13 : PySem.W.keepIn K (.ref f13) = true)
    (a14 : PySem.W.findIn K (.ref C) "back" = some (some (.ref f14)))
    (i14 : PySem.W.isFn K (.ref f14) = true)
    (l14 : K.lookup f14 = some ⟨oc14, od14, .func (PySem.W.fnOf "back" "Takes.back" (defArgs sBack) (defBody sBack) (defScope sBack) .none kV14 dc14 pm14 an14 cd14 ct14), sl14⟩)
    (c14 : PySem.W.codeIn K cd14 "Takes.back" = true)
    (k14 : PySem.W.keepIn K (.ref f14) = true)
    (a15 : PySem.W.nsIn K mainGlobals "_law_cell_at" = some (some (.ref f15)))
    (l15 : K.lookup f15 = some ⟨oc15, od15, .func (PySem.W.fnOf "_law_cell_at" "_law_cell_at" (defArgs sCell) (defBody sCell) (defScope sCell) .none kV15 dc15 pm15 an15 cd15 ct15), sl15⟩)
    (c15 : PySem.W.codeIn K cd15 "_law_cell_at" = true)
    (k15 : PySem.W.keepIn K (.ref f15) = true)
    (a16 : PySem.W.nsIn K mainGlobals "_law_opened" = some (some (.ref f16)))
    (l16 : K.lookup f16 = some ⟨oc16, od16, .func (PySem.W.fnOf "_law_opened" "_law_opened" (defArgs sOpened) (defBody sOpened) (defScope sOpened) .none kV16 dc16 pm16 an16 cd16 ct16), sl16⟩)
    (c16 : PySem.W.codeIn K cd16 "_law_opened" = true)
    (k16 : PySem.W.keepIn K (.ref f16) = true)
    (a17 : PySem.W.nsIn K mainGlobals "_law_draw" = some (some (.ref f17)))
    (l17 : K.lookup f17 = some ⟨oc17, od17, .func (PySem.W.fnOf "_law_draw" "_law_draw" (defArgs sDraw) (defBody sDraw) (defScope sDraw) .none kV17 dc17 pm17 an17 cd17 ct17), sl17⟩)
    (c17 : PySem.W.codeIn K cd17 "_law_draw" = true)
    (k17 : PySem.W.keepIn K (.ref f17) = true)
    (a18 : PySem.W.nsIn K mainGlobals "_law_rare" = some (some (.ref f18)))
    (l18 : K.lookup f18 = some ⟨oc18, od18, .func (PySem.W.fnOf "_law_rare" "_law_rare" (defArgs sRare) (defBody sRare) (defScope sRare) .none kV18 dc18 pm18 an18 cd18 ct18), sl18⟩)
    (c18 : PySem.W.codeIn K cd18 "_law_rare" = true)
    (k18 : PySem.W.keepIn K (.ref f18) = true)
    (a19 : PySem.W.nsIn K mainGlobals "_law_two_of" = some (some (.ref f19)))
    (l19 : K.lookup f19 = some ⟨oc19, od19, .func (PySem.W.fnOf "_law_two_of" "_law_two_of" (defArgs sTwo) (defBody sTwo) (defScope sTwo) .none kV19 dc19 pm19 an19 cd19 ct19), sl19⟩)
    (c19 : PySem.W.codeIn K cd19 "_law_two_of" = true)
    (k19 : PySem.W.keepIn K (.ref f19) = true)
    (a20 : PySem.W.nsIn K mainGlobals "_law_refused" = some (some (.ref f20)))
    (l20 : K.lookup f20 = some ⟨oc20, od20, .func (PySem.W.fnOf "_law_refused" "_law_refused" (defArgs sRefused) (defBody sRefused) (defScope sRefused) .none kV20 dc20 pm20 an20 cd20 ct20), sl20⟩)
    (c20 : PySem.W.codeIn K cd20 "_law_refused" = true)
    (k20 : PySem.W.keepIn K (.ref f20) = true)
    (a21 : PySem.W.nsIn K mainGlobals "_law_odd_things" = some (some (.ref f21)))
    (l21 : K.lookup f21 = some ⟨oc21, od21, .func (PySem.W.fnOf "_law_odd_things" "_law_odd_things" (defArgs sOdds) (defBody sOdds) (defScope sOdds) .none kV21 dc21 pm21 an21 cd21 ct21), sl21⟩)
    (c21 : PySem.W.codeIn K cd21 "_law_odd_things" = true)
    (k21 : PySem.W.keepIn K (.ref f21) = true)
    (a22 : PySem.W.nsIn K mainGlobals "_law_as_told" = some (some (.ref f22)))
    (l22 : K.lookup f22 = some ⟨oc22, od22, .func (PySem.W.fnOf "_law_as_told" "_law_as_told" (defArgs sTold) (defBody sTold) (defScope sTold) .none kV22 dc22 pm22 an22 cd22 ct22), sl22⟩)
    (c22 : PySem.W.codeIn K cd22 "_law_as_told" = true)
    (k22 : PySem.W.keepIn K (.ref f22) = true)
    (a23 : PySem.W.nsIn K mainGlobals "_law_right" = some (some (.ref f23)))
    (l23 : K.lookup f23 = some ⟨oc23, od23, .func (PySem.W.fnOf "_law_right" "_law_right" (defArgs sRight) (defBody sRight) (defScope sRight) .none kV23 dc23 pm23 an23 cd23 ct23), sl23⟩)
    (c23 : PySem.W.codeIn K cd23 "_law_right" = true)
    (k23 : PySem.W.keepIn K (.ref f23) = true)
    (a24 : PySem.W.nsIn K mainGlobals "law" = some (some (.ref f24)))
    (l24 : K.lookup f24 = some ⟨oc24, od24, .func (PySem.W.fnOf "law" "law" (defArgs sLaw) (defBody sLaw) (defScope sLaw) .none kV24 dc24 pm24 an24 cd24 ct24), sl24⟩)
    (c24 : PySem.W.codeIn K cd24 "law" = true)
    (k24 : PySem.W.keepIn K (.ref f24) = true)
    (pg : PySem.W.plainGet K C Str.empty = true)
    (hd : PySem.W.hasDictIn K C = true)
    (po : PySem.W.plainOver K C = true)
    (sa : PySem.W.findIn K (.ref C) "__setattr__" = some (some (.builtin "object.__setattr__")))
    (mk : PySem.W.makesIn K C = true)
    (kc : PySem.W.keepIn K (.ref C) = true)
    (n0 : PySem.W.findIn K (.ref C) "states" = some none)
    (xga : PySem.W.findIn K (.ref N) "__getattribute__" = some (some (.builtin "BaseException.__getattribute__")))
    (xgn : PySem.W.findIn K (.ref N) "__getattr__" = some none)
    (xha : PySem.W.findIn K (.ref N) "__class__" = some (some (.builtin "object.__class__")))
    (xhn : PySem.W.specialIn K (.builtin "object.__class__") "__get__" = some (some (.builtin "getset_descriptor.__get__")))
    (xht : PySem.W.takesIn K (.builtin "object.__class__") = some true)
    (xd1 : PySem.W.nsIn K mainGlobals "NoDeed" = some (some (.ref d1)))
    (xd2 : PySem.W.nsIn K mainGlobals "NoHistory" = some (some (.ref d2)))
    (xd3 : PySem.W.nsIn K mainGlobals "NoRow" = some (some (.ref d3)))
    (xd4 : PySem.W.nsIn K mainGlobals "NoText" = some (some (.ref d4)))
    (xl1 : K.lookup d1 = some (excClassObj nm1 q1 d1 ns1 bs1 [.ref B, .type "ValueError", .type "Exception", .type "BaseException", .type "object"] true sn1 sub1 ab1 col1 dd1 ka1 kb1 kc1 kd1 ke1 "ValueError.__new__"))
    (xc1 : (Value.ref N :: Value.ref B :: vE).contains (.ref d1) = false)
    (xl2 : K.lookup d2 = some (excClassObj nm2 q2 d2 ns2 bs2 [.ref B, .type "ValueError", .type "Exception", .type "BaseException", .type "object"] true sn2 sub2 ab2 col2 dd2 ka2 kb2 kc2 kd2 ke2 "ValueError.__new__"))
    (xc2 : (Value.ref N :: Value.ref B :: vE).contains (.ref d2) = false)
    (xl3 : K.lookup d3 = some (excClassObj nm3 q3 d3 ns3 bs3 [.ref B, .type "ValueError", .type "Exception", .type "BaseException", .type "object"] true sn3 sub3 ab3 col3 dd3 ka3 kb3 kc3 kd3 ke3 "ValueError.__new__"))
    (xc3 : (Value.ref N :: Value.ref B :: vE).contains (.ref d3) = false)
    (xl4 : K.lookup d4 = some (excClassObj nm4 q4 d4 ns4 bs4 [.ref B, .type "ValueError", .type "Exception", .type "BaseException", .type "object"] true sn4 sub4 ab4 col4 dd4 ka4 kb4 kc4 kd4 ke4 "ValueError.__new__"))
    (xc4 : (Value.ref N :: Value.ref B :: vE).contains (.ref d4) = false)
    (z0 : PySem.W.nsIn K mainGlobals "isinstance" = some none)
    (z1 : PySem.W.nsIn K mainGlobals "int" = some none)
    (z2 : PySem.W.nsIn K mainGlobals "bool" = some none)
    (z3 : PySem.W.nsIn K mainGlobals "tuple" = some none)
    (z4 : PySem.W.nsIn K mainGlobals "len" = some none)
    (z5 : PySem.W.nsIn K mainGlobals "range" = some none)
    (z6 : PySem.W.nsIn K mainGlobals "str" = some none)
    (z7 : PySem.W.nsIn K mainGlobals "max" = some none)
    (z8 : PySem.W.nsIn K mainGlobals "min" = some none)
    (z9 : PySem.W.nsIn K mainGlobals "zip" = some none)
    (z10 : PySem.W.nsIn K mainGlobals "enumerate" = some none)
    (z11 : PySem.W.nsIn K mainGlobals "repr" = some none)
    (z12 : PySem.W.nsIn K mainGlobals "ValueError" = some none) :
    ∃ fd : FuncData, (∀ (s : Shared) (v : Value), BindsTo s fd ⟨[v], []⟩ [("_law_script", v)]) ∧ ∀ base : Heap, K.In base → base.Ns mainGlobals mg → FnOk l.prog w K mg base CX0 7 fa fd ["_law_script"] (spLaw K) := by
  have e := hfa.symm.trans (PySem.W.mg_of X G a24)
  cases e
  have xB : XAt K B vE := ⟨⟨_, _, _, _, _, _, _, _, _, _, _, _, _, _, lB⟩, .base⟩
  have xN : XCls K N (.ref B :: vE) := ⟨⟨⟨_, _, _, _, _, _, _, _, _, _, _, _, _, _, lN⟩, .own .base⟩, saN, kN⟩
  have k1_ : PySem.W.kitOne K (.ref N) (.ref d1) = some false := by
    rw [kit_own xN.toXAt (show XAt K d1 (.ref B :: vE) from ⟨⟨_, _, _, _, _, _, _, _, _, _, _, _, _, _, xl1⟩, .own .base⟩), xc1]
  have k2_ : PySem.W.kitOne K (.ref N) (.ref d2) = some false := by
    rw [kit_own xN.toXAt (show XAt K d2 (.ref B :: vE) from ⟨⟨_, _, _, _, _, _, _, _, _, _, _, _, _, _, xl2⟩, .own .base⟩), xc2]
  have k3_ : PySem.W.kitOne K (.ref N) (.ref d3) = some false := by
    rw [kit_own xN.toXAt (show XAt K d3 (.ref B :: vE) from ⟨⟨_, _, _, _, _, _, _, _, _, _, _, _, _, _, xl3⟩, .own .base⟩), xc3]
  have k4_ : PySem.W.kitOne K (.ref N) (.ref d4) = some false := by
    rw [kit_own xN.toXAt (show XAt K d4 (.ref B :: vE) from ⟨⟨_, _, _, _, _, _, _, _, _, _, _, _, _, _, xl4⟩, .own .base⟩), xc4]
  have hkit : PySem.W.kitAny K (.ref N) [.ref d1, .ref d2, .ref d3, .ref d4] = some false := by
    unfold PySem.W.kitAny
    simp [k1_, k2_, k3_, k4_, PySem.W.kitAny]
  have T : Txt K mg C f5 N f4 B := ⟨⟨pg, hd, po, sa⟩, n0, ⟨mk, a5, i5, kc⟩, PySem.W.mg_of X G aC, xN, xB, nN, a4, i4, PySem.W.mg_of X G aN, PySem.W.mg_of X G aB, ⟨xga, xgn⟩, ⟨xha, xhn, xht⟩, ⟨d1, d2, d3, d4, PySem.W.mg_of X G xd1, PySem.W.mg_of X G xd2, PySem.W.mg_of X G xd3, PySem.W.mg_of X G xd4, hkit⟩, PySem.W.mg_none_of X G z0, PySem.W.mg_none_of X G z1, PySem.W.mg_none_of X G z2, PySem.W.mg_none_of X G z3, PySem.W.mg_none_of X G z4, PySem.W.mg_none_of X G z5, PySem.W.mg_none_of X G z6, PySem.W.mg_none_of X G z7, PySem.W.mg_none_of X G z8, PySem.W.mg_none_of X G z9, PySem.W.mg_none_of X G z10, PySem.W.mg_none_of X G z11, PySem.W.mg_none_of X G z12⟩
  have F0 := fun_mk (st := sWhole) l0 c0 k0
  have b0 := F0.binds (ps := ["thing"]) fun _ _ _ _ _ _ => us1 rfl fun _ => rfl
  have m0 := PySem.W.mg_of X G a0
  have F1 := fun_mk (st := sWithin) l1 c1 k1
  have b1 := F1.binds (ps := ["thing", "low", "high"]) fun _ _ _ _ _ _ => us3 rfl fun _ _ _ => rfl
  have m1 := PySem.W.mg_of X G a1
  have F2 := fun_mk (st := sStays) l2 c2 k2
  have b2 := F2.binds (ps := ["tops", "one", "other"]) fun _ _ _ _ _ _ => us3 rfl fun _ _ _ => rfl
  have m2 := PySem.W.mg_of X G a2
  have F3 := fun_mk (st := sJp) l3 c3 k3
  have b3 := F3.binds (ps := ["tops", "sides", "one", "other"]) fun _ _ _ _ _ _ => us4 rfl fun _ _ _ _ => rfl
  have m3 := PySem.W.mg_of X G a3
  have F4 := fun_mk (st := sNInit) l4 c4 k4
  have b4 := F4.binds (ps := ["self", "thing"]) fun _ _ _ _ _ _ => us2 rfl fun _ _ => rfl
  have F5 := fun_mk (st := sInit) l5 c5 k5
  have b5 := F5.binds (ps := ["self", "many"]) fun _ _ _ _ _ _ => us2 rfl fun _ _ => rfl
  have F6 := fun_mk (st := sShown) l6 c6 k6
  have b6 := F6.binds (ps := ["self"]) fun _ _ _ _ _ _ => us1 rfl fun _ => rfl
  have F7 := fun_mk (st := sTop) l7 c7 k7
  have b7 := F7.binds (ps := ["self", "place"]) fun _ _ _ _ _ _ => us2 rfl fun _ _ => rfl
  have F8 := fun_mk (st := sSide) l8 c8 k8
  have b8 := F8.binds (ps := ["self", "place"]) fun _ _ _ _ _ _ => us2 rfl fun _ _ => rfl
  have F9 := fun_mk (st := sOdd) l9 c9 k9
  have b9 := F9.binds (ps := ["self"]) fun _ _ _ _ _ _ => us1 rfl fun _ => rfl
  have F10 := fun_mk (st := sJoins) l10 c10 k10
  have b10 := F10.binds (ps := ["self"]) fun _ _ _ _ _ _ => us1 rfl fun _ => rfl
  have F11 := fun_mk (st := sSize) l11 c11 k11
  have b11 := F11.binds (ps := ["self", "place"]) fun _ _ _ _ _ _ => us2 rfl fun _ _ => rfl
  have F12 := fun_mk (st := sParts) l12 c12 k12
  have b12 := F12.binds (ps := ["self"]) fun _ _ _ _ _ _ => us1 rfl fun _ => rfl
  have F13 := fun_mk (st := sJoin) l13 c13 k13
  have b13 := F13.binds (ps := ["self", "one", "other"]) fun _ _ _ _ _ _ => us3 rfl fun _ _ _ => rfl
  have F14 := fun_mk (st := sBack) l14 c14 k14
  have b14 := F14.binds (ps := ["self", "thing"]) fun _ _ _ _ _ _ => us2 rfl fun _ _ => rfl
  have F15 := fun_mk (st := sCell) l15 c15 k15
  have b15 := F15.binds (ps := ["_law_script", "_law_k"]) fun _ _ _ _ _ _ => us2 rfl fun _ _ => rfl
  have m15 := PySem.W.mg_of X G a15
  have F16 := fun_mk (st := sOpened) l16 c16 k16
  have b16 := F16.binds (ps := ["_law_cell"]) fun _ _ _ _ _ _ => us1 rfl fun _ => rfl
  have m16 := PySem.W.mg_of X G a16
  have F17 := fun_mk (st := sDraw) l17 c17 k17
  have b17 := F17.binds (ps := ["_law_deck", "_law_most"]) fun _ _ _ _ _ _ => us2 rfl fun _ _ => rfl
  have m17 := PySem.W.mg_of X G a17
  have F18 := fun_mk (st := sRare) l18 c18 k18
  have b18 := F18.binds (ps := ["_law_deck", "_law_often", "_law_great"]) fun _ _ _ _ _ _ => us3 rfl fun _ _ _ => rfl
  have m18 := PySem.W.mg_of X G a18
  have F19 := fun_mk (st := sTwo) l19 c19 k19
  have b19 := F19.binds (ps := ["_law_deck", "_law_many"]) fun _ _ _ _ _ _ => us2 rfl fun _ _ => rfl
  have m19 := PySem.W.mg_of X G a19
  have F20 := fun_mk (st := sRefused) l20 c20 k20
  have b20 := F20.binds (ps := ["_law_takes", "_law_thing"]) fun _ _ _ _ _ _ => us2 rfl fun _ _ => rfl
  have m20 := PySem.W.mg_of X G a20
  have F21 := fun_mk (st := sOdds) l21 c21 k21
  have b21 := F21.binds (ps := ["_law_deck", "_law_laid"]) fun _ _ _ _ _ _ => us2 rfl fun _ _ => rfl
  have m21 := PySem.W.mg_of X G a21
  have F22 := fun_mk (st := sTold) l22 c22 k22
  have b22 := F22.binds (ps := ["_law_takes", "_law_many"]) fun _ _ _ _ _ _ => us2 rfl fun _ _ => rfl
  have m22 := PySem.W.mg_of X G a22
  have F23 := fun_mk (st := sRight) l23 c23 k23
  have b23 := F23.binds (ps := ["_law_deck"]) fun _ _ _ _ _ _ => us1 rfl fun _ => rfl
  have m23 := PySem.W.mg_of X G a23
  have F24 := fun_mk (st := sLaw) l24 c24 k24
  have b24 := F24.binds (ps := ["_law_script"]) fun _ _ _ _ _ _ => us1 rfl fun _ => rfl
  have m24 := PySem.W.mg_of X G a24
  refine ⟨PySem.W.fnOf "law" "law" (defArgs sLaw) (defBody sLaw) (defScope sLaw) .none kV24 dc24 pm24 an24 cd24 ct24, fun s v => .of_eq rfl, fun base _ _ => ?_⟩
  have Q_is_whole : FnOk l.prog w K mg base CX0 1 f0 _ ["thing"] spWhole := ok_Whole F0 T 
  have QwT : FnOk l.prog w K mg base CX0 1 f0 _ ["thing"] (spWholeT K) := ok_WholeT F0 T 
  have Q_is_within : FnOk l.prog w K mg base CX0 2 f1 _ ["thing", "low", "high"] spWithin := ok_Within F1 T k0 b0 m0 (Q_is_whole.mono (by decide))
  have QiT : FnOk l.prog w K mg base CX0 2 f1 _ ["thing", "low", "high"] (spWithinT K) := ok_WithinT F1 T k0 b0 m0 (QwT.mono (by decide))
  have Q_stays : FnOk l.prog w K mg base CX0 1 f2 _ ["tops", "one", "other"] (spStays K) := ok_Stays F2 T 
  have Q_joined_parts : FnOk l.prog w K mg base CX0 2 f3 _ ["tops", "sides", "one", "other"] (spJp K) := ok_Jp F3 T k2 b2 m2 (Q_stays.mono (by decide))
  have Q_NoMark___init__ : FnOk l.prog w K mg base CX0 1 f4 _ ["self", "thing"] (spNInit N) := ok_NInit F4 T 
  have Q_Takes___init__ : FnOk l.prog w K mg base CX0 1 f5 _ ["self", "many"] (spInit C) := ok_Init F5 T 
  have Q_Takes_shown : FnOk l.prog w K mg base CX0 1 f6 _ ["self"] (spShown C) := ok_Shown F6 T 
  have Q_Takes_top : FnOk l.prog w K mg base CX0 2 f7 _ ["self", "place"] (spTop C) := ok_Top F7 T b6 ⟨a6, i6, k6⟩ (Q_Takes_shown.mono (by decide))
  have Q_Takes_side : FnOk l.prog w K mg base CX0 2 f8 _ ["self", "place"] (spSide C) := ok_Side F8 T b6 ⟨a6, i6, k6⟩ (Q_Takes_shown.mono (by decide))
  have Q_Takes_odd : FnOk l.prog w K mg base CX0 2 f9 _ ["self"] (spOdd C) := ok_Odd F9 T b6 ⟨a6, i6, k6⟩ (Q_Takes_shown.mono (by decide))
  have Q_Takes_joins : FnOk l.prog w K mg base CX0 1 f10 _ ["self"] (spJoins C) := ok_Joins F10 T 
  have Q_Takes_size : FnOk l.prog w K mg base CX0 3 f11 _ ["self", "place"] (spSize C) := ok_Size F11 T b6 ⟨a6, i6, k6⟩ (Q_Takes_shown.mono (by decide)) b7 ⟨a7, i7, k7⟩ (Q_Takes_top.mono (by decide))
  have Q_Takes_parts : FnOk l.prog w K mg base CX0 2 f12 _ ["self"] (spParts C) := ok_Parts F12 T b6 ⟨a6, i6, k6⟩ (Q_Takes_shown.mono (by decide))
  have Q_Takes_join : FnOk l.prog w K mg base CX0 3 f13 _ ["self", "one", "other"] (spJoin C) := ok_Join F13 T b6 ⟨a6, i6, k6⟩ (Q_Takes_shown.mono (by decide)) k3 b3 m3 (Q_joined_parts.mono (by decide))
  have Q_Takes_back : FnOk l.prog w K mg base CX0 3 f14 _ ["self", "thing"] (spBack C) := ok_Back F14 T k1 b1 m1 (Q_is_within.mono (by decide)) b10 ⟨a10, i10, k10⟩ (Q_Takes_joins.mono (by decide))
  have QbX : FnOk l.prog w K mg base (CXU l.prog w) 3 f14 _ ["self", "thing"] (spBackX K C N) := ok_BackX F14 T k1 b1 m1 (QiT.mono (by decide)) b10 ⟨a10, i10, k10⟩ (Q_Takes_joins.mono (by decide)) b4 Q_NoMark___init__
  have Q__law_cell_at : FnOk l.prog w K mg base CX0 1 f15 _ ["_law_script", "_law_k"] (spCell K) := ok_Cell F15 T 
  have Q__law_opened : FnOk l.prog w K mg base CX0 1 f16 _ ["_law_cell"] spOpened := ok_Opened F16 T 
  have Q__law_draw : FnOk l.prog w K mg base CX0 1 f17 _ ["_law_deck", "_law_most"] spDraw := ok_Draw F17 T 
  have QdW : FnOk l.prog w K mg base CX0 1 f17 _ ["_law_deck", "_law_most"] spDrawW := ok_DrawW F17 T 
  have Q__law_rare : FnOk l.prog w K mg base CX0 2 f18 _ ["_law_deck", "_law_often", "_law_great"] spRare := ok_Rare F18 T k17 b17 m17 (Q__law_draw.mono (by decide))
  have Q__law_two_of : FnOk l.prog w K mg base CX0 2 f19 _ ["_law_deck", "_law_many"] spTwo := ok_Two F19 T k17 b17 m17 (Q__law_draw.mono (by decide))
  have Q__law_refused : FnOk l.prog w K mg base CX0 5 f20 _ ["_law_takes", "_law_thing"] (spRefused K C) := ok_Refused F20 T b14 ⟨a14, i14, k14⟩ (QbX.mono (by decide))
  have Q__law_odd_things : FnOk l.prog w K mg base CX0 2 f21 _ ["_law_deck", "_law_laid"] (spOdds K) := ok_Odds F21 T k17 b17 m17 (Q__law_draw.mono (by decide)) QdW
  have Q__law_as_told : FnOk l.prog w K mg base CX0 4 f22 _ ["_law_takes", "_law_many"] (spTold C) := ok_Told F22 T b6 ⟨a6, i6, k6⟩ (Q_Takes_shown.mono (by decide)) b12 ⟨a12, i12, k12⟩ (Q_Takes_parts.mono (by decide)) b9 ⟨a9, i9, k9⟩ (Q_Takes_odd.mono (by decide)) b10 ⟨a10, i10, k10⟩ (Q_Takes_joins.mono (by decide)) b7 ⟨a7, i7, k7⟩ (Q_Takes_top.mono (by decide)) b8 ⟨a8, i8, k8⟩ (Q_Takes_side.mono (by decide)) b11 ⟨a11, i11, k11⟩ (Q_Takes_size.mono (by decide))
  have Q__law_right : FnOk l.prog w K mg base CX0 6 f23 _ ["_law_deck"] spRight := ok_Right F23 T k17 b17 m17 (Q__law_draw.mono (by decide)) b5 Q_Takes___init__ k18 b18 m18 (Q__law_rare.mono (by decide)) k19 b19 m19 (Q__law_two_of.mono (by decide)) b13 ⟨a13, i13, k13⟩ (Q_Takes_join.mono (by decide)) b14 ⟨a14, i14, k14⟩ (Q_Takes_back.mono (by decide)) k22 b22 m22 (Q__law_as_told.mono (by decide)) k21 b21 m21 (Q__law_odd_things.mono (by decide)) k20 b20 m20 (Q__law_refused.mono (by decide)) b10 ⟨a10, i10, k10⟩ (Q_Takes_joins.mono (by decide)) b12 ⟨a12, i12, k12⟩ (Q_Takes_parts.mono (by decide))
  exact ok_Law F24 T k23 b23 m23 (Q__law_right.mono (by decide)) k16 b16 m16 (Q__law_opened.mono (by decide)) k15 b15 m15 (Q__law_cell_at.mono (by decide)) b4 Q_NoMark___init__
theorem walk {l : PySem.W.OpenLaw} {q : Program} {loose : List Str} {XP : (Str → Option Value) → Heap → Prop} {YP : World → Heap → Prop} {d : DefRec} {K : Params → PySem.W.Frag} (hn : l.most = some 63) (hdf : d.params.defaults = [])
    (hY : ∀ (w : World) (h : Heap), YP w h → (K w.params).In h)
    (F : ∀ (w : World) (mg : Str → Option Value) (fa : Addr) (h : Heap), (K w.params).In h → h.Ns mainGlobals mg → mg d.name = some (.ref fa) →
      ∃ fd : FuncData, (∀ (s : Shared) (u : Value), BindsTo s fd ⟨[u], []⟩ [("_law_script", u)]) ∧ ∀ base : Heap, (K w.params).In base → base.Ns mainGlobals mg → FnOk l.prog w (K w.params) mg base CX0 7 fa fd ["_law_script"] (spLaw (K w.params))) :
    PySem.W.WalkO q loose XP YP l.row.toRowW d [] (fun f vs => PySem.call f vs) :=
  L2.walk_of (n := 63) (k := 7) (x := "_law_script") (CX := fun _ => CX0) (sp := fun w => spLaw (K w.params)) hn (by decide) hdf ⟨rfl, by decide, by decide, rfl⟩ hY F (fun _ _ a ns hl _ hS => ⟨a, ns, rfl, hS, hl, fun _ => rfl⟩) fun _ _ _ _ _ z => z
end K19
open PySem PySem.W PyProof.Rows
set_option maxRecDepth 100000 in
set_option maxHeartbeats 0 in
theorem PySem.Challenge.cw_joinedever_k19_marks_refused_holds : PySem.Challenge.rw_joinedever_k19_marks_refused.Holds := by
  w_on; o_law; k_head; (case hw => w_witness2)
  k_fill
  refine K19.walk (l := PySem.Challenge.rw_joinedever_k19_marks_refused) rfl rfl (fun w h Y => PySem.W.kIn_of Y) ?F
  case F =>
    intro w mg fa h KX G hmg
    refine' K19.all_mk KX G hmg ?aC ?aN ?aB ?lN ?lB ?saN ?kN ?nN ?a0 ?l0 ?c0 ?k0 ?a1 ?l1 ?c1 ?k1 ?a2 ?l2 ?c2 ?k2 ?a3 ?l3 ?c3 ?k3 ?a4 ?i4 ?l4 ?c4 ?k4 ?a5 ?i5 ?l5 ?c5 ?k5 ?a6 ?i6 ?l6 ?c6 ?k6 ?a7 ?i7 ?l7 ?c7 ?k7 ?a8 ?i8 ?l8 ?c8 ?k8 ?a9 ?i9 ?l9 ?c9 ?k9 ?a10 ?i10 ?l10 ?c10 ?k10 ?a11 ?i11 ?l11 ?c11 ?k11 ?a12 ?i12 ?l12 ?c12 ?k12 ?a13 ?i13 ?l13 ?c13 ?k13 ?a14 ?i14 ?l14 ?c14 ?k14 ?a15 ?l15 ?c15 ?k15 ?a16 ?l16 ?c16 ?k16 ?a17 ?l17 ?c17 ?k17 ?a18 ?l18 ?c18 ?k18 ?a19 ?l19 ?c19 ?k19 ?a20 ?l20 ?c20 ?k20 ?a21 ?l21 ?c21 ?k21 ?a22 ?l22 ?c22 ?k22 ?a23 ?l23 ?c23 ?k23 ?a24 ?l24 ?c24 ?k24 ?pg ?hd ?po ?sa ?mk ?kc ?n0 ?xga ?xgn ?xha ?xhn ?xht ?xd1 ?xd2 ?xd3 ?xd4 ?xl1 ?xc1 ?xl2 ?xc2 ?xl3 ?xc3 ?xl4 ?xc4 ?z0 ?z1 ?z2 ?z3 ?z4 ?z5 ?z6 ?z7 ?z8 ?z9 ?z10 ?z11 ?z12
    (case aC => k_is)
    (case aN => k_is)
    (case aB => k_is)
    (case lN => k_is)
    (case lB => k_is)
    (case saN => k_is)
    (case kN => k_is)
    (case nN => k_is)
    (case a0 => k_is)
    (case l0 => k_is)
    (case c0 => k_is)
    (case k0 => k_is)
    (case a1 => k_is)
    (case l1 => k_is)
    (case c1 => k_is)
    (case k1 => k_is)
    (case a2 => k_is)
    (case l2 => k_is)
    (case c2 => k_is)
    (case k2 => k_is)
    (case a3 => k_is)
    (case l3 => k_is)
    (case c3 => k_is)
    (case k3 => k_is)
    (case a4 => k_is)
    (case i4 => k_is)
    (case l4 => k_is)
    (case c4 => k_is)
    (case k4 => k_is)
    (case a5 => k_is)
    (case i5 => k_is)
    (case l5 => k_is)
    (case c5 => k_is)
    (case k5 => k_is)
    (case a6 => k_is)
    (case i6 => k_is)
    (case l6 => k_is)
    (case c6 => k_is)
    (case k6 => k_is)
    (case a7 => k_is)
    (case i7 => k_is)
    (case l7 => k_is)
    (case c7 => k_is)
    (case k7 => k_is)
    (case a8 => k_is)
    (case i8 => k_is)
    (case l8 => k_is)
    (case c8 => k_is)
    (case k8 => k_is)
    (case a9 => k_is)
    (case i9 => k_is)
    (case l9 => k_is)
    (case c9 => k_is)
    (case k9 => k_is)
    (case a10 => k_is)
    (case i10 => k_is)
    (case l10 => k_is)
    (case c10 => k_is)
    (case k10 => k_is)
    (case a11 => k_is)
    (case i11 => k_is)
    (case l11 => k_is)
    (case c11 => k_is)
    (case k11 => k_is)
    (case a12 => k_is)
    (case i12 => k_is)
    (case l12 => k_is)
    (case c12 => k_is)
    (case k12 => k_is)
    (case a13 => k_is)
    (case i13 => k_is)
    (case l13 => k_is)
    (case c13 => k_is)
    (case k13 => k_is)
    (case a14 => k_is)
    (case i14 => k_is)
    (case l14 => k_is)
    (case c14 => k_is)
    (case k14 => k_is)
    (case a15 => k_is)
    (case l15 => k_is)
    (case c15 => k_is)
    (case k15 => k_is)
    (case a16 => k_is)
    (case l16 => k_is)
    (case c16 => k_is)
    (case k16 => k_is)
    (case a17 => k_is)
    (case l17 => k_is)
    (case c17 => k_is)
    (case k17 => k_is)
    (case a18 => k_is)
    (case l18 => k_is)
    (case c18 => k_is)
    (case k18 => k_is)
    (case a19 => k_is)
    (case l19 => k_is)
    (case c19 => k_is)
    (case k19 => k_is)
    (case a20 => k_is)
    (case l20 => k_is)
    (case c20 => k_is)
    (case k20 => k_is)
    (case a21 => k_is)
    (case l21 => k_is)
    (case c21 => k_is)
    (case k21 => k_is)
    (case a22 => k_is)
    (case l22 => k_is)
    (case c22 => k_is)
    (case k22 => k_is)
    (case a23 => k_is)
    (case l23 => k_is)
    (case c23 => k_is)
    (case k23 => k_is)
    (case a24 => k_is)
    (case l24 => k_is)
    (case c24 => k_is)
    (case k24 => k_is)
    (case pg => k_is)
    (case hd => k_is)
    (case po => k_is)
    (case sa => k_is)
    (case mk => k_is)
    (case kc => k_is)
    (case n0 => k_is)
    (case xga => k_is)
    (case xgn => k_is)
    (case xha => k_is)
    (case xhn => k_is)
    (case xht => k_is)
    (case xd1 => k_is)
    (case xd2 => k_is)
    (case xd3 => k_is)
    (case xd4 => k_is)
    (case xl1 => k_is)
    (case xc1 => decide +kernel)
    (case xl2 => k_is)
    (case xc2 => decide +kernel)
    (case xl3 => k_is)
    (case xc3 => decide +kernel)
    (case xl4 => k_is)
    (case xc4 => decide +kernel)
    (case z0 => k_is)
    (case z1 => k_is)
    (case z2 => k_is)
    (case z3 => k_is)
    (case z4 => k_is)
    (case z5 => k_is)
    (case z6 => k_is)
    (case z7 => k_is)
    (case z8 => k_is)
    (case z9 => k_is)
    (case z10 => k_is)
    (case z11 => k_is)
    (case z12 => k_is)
