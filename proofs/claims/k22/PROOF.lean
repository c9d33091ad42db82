import PyProof.Rows.All
import Wide.All
import OpenK.AllK
import Wide.FinOn
import Lean
import PyProof.EqAt
import PyProof.EqKinds
import PyProof.TupleCall
import PySem.Challenge.RW_joinedever_k22_whole_takes_of_stands
import PyProof.Draws
import PyProof.ZipIter
import PyProof.TupleIter
import PyProof.ListRange
import PyProof.CollectWalk
import KE.KSortTup
import KE.KDictSum
import PyProof.Rows.Range3
import KE.KEqDict
import KE.KRevIter
import PyProof.EnumStmt
set_option Elab.async false
set_option linter.all false
set_option maxRecDepth 100000
namespace L2
open PySem PySem.Spec PyProof.Rows
abbrev Key := Sum Int Str
def keyIs : Key → Value → Bool
  | .inl k, v => Value.isInt k v
  | .inr x, v => Value.isStrOf x v
def keyH (w : World) : Key → Int
  | .inl k => hashInt k
  | .inr x => hashStr w x
theorem keyIs_shape : ∀ {k : Key} {v : Value}, keyIs k v = true → (∃ i t, k = Sum.inl i ∧ v = Value.int i t) ∨ (∃ x t, k = Sum.inr x ∧ v = Value.str x t)
  | .inl i, v, h => by
    obtain ⟨t, e⟩ := Value.isInt_shape (k := i) (v := v) h
    exact .inl ⟨i, t, rfl, e⟩
  | .inr x, v, h => by
    obtain ⟨t, e⟩ := Value.isStrOf_shape (x := x) (v := v) h
    exact .inr ⟨x, t, rfl, e⟩
theorem keyIs_int (i : Int) (t : Tok) : keyIs (.inl i) (.int i t) = true := by simp [keyIs, Value.isInt]
theorem keyIs_str (x : Str) (t : Tok) : keyIs (.inr x) (.str x t) = true := by simp [keyIs, Value.isStrOf]
theorem key_ll (a b : Int) : decide ((Sum.inl a : Key) = Sum.inl b) = (a == b) := by
  by_cases e : a = b
  · subst e; simp
  · have h : ¬ (Sum.inl a : Key) = Sum.inl b := fun q => e (Sum.inl.inj q)
    rw [decide_eq_false h]
    exact (beq_eq_false_iff_ne.mpr e).symm
theorem key_rr (a b : Str) : decide ((Sum.inr a : Key) = Sum.inr b) = decide (a = b) := by
  by_cases e : a = b
  · subst e; simp
  · have h : ¬ (Sum.inr a : Key) = Sum.inr b := fun q => e (Sum.inr.inj q)
    rw [decide_eq_false h, decide_eq_false e]
theorem key_lr (a : Int) (b : Str) : decide ((Sum.inl a : Key) = Sum.inr b) = false := decide_eq_false (fun q => nomatch q)
theorem key_rl (a : Str) (b : Int) : decide ((Sum.inr a : Key) = Sum.inl b) = false := decide_eq_false (fun q => nomatch q)
def mixKind (prog : Program) (w : World) : PySem.KeyKind prog w Key where
  is := keyIs
  hash := keyH w
  inj := fun v a b ha hb => by
    rcases keyIs_shape ha with ⟨i, t, rfl, rfl⟩ | ⟨x, t, rfl, rfl⟩
    · rcases keyIs_shape hb with ⟨j, u, rfl, e⟩ | ⟨y, u, rfl, e⟩
      · injection e with e1 _; rw [e1]
      · exact nomatch e
    · rcases keyIs_shape hb with ⟨j, u, rfl, e⟩ | ⟨y, u, rfl, e⟩
      · exact nomatch e
      · injection e with e1 _; rw [e1]
  byValue := fun k v h => by
    rcases keyIs_shape h with ⟨i, t, rfl, rfl⟩ | ⟨x, t, rfl, rfl⟩ <;> rfl
  pyHash := fun hv h => by
    rcases keyIs_shape hv with ⟨i, t, rfl, rfl⟩ | ⟨x, t, rfl, rfl⟩
    · exact wpAny_pyHash_int h
    · exact wpAny_pyHash_str h
  eqBool := fun hu hv h => by
    rcases keyIs_shape hu with ⟨i, t, rfl, rfl⟩ | ⟨x, t, rfl, rfl⟩
    · rcases keyIs_shape hv with ⟨j, u, rfl, rfl⟩ | ⟨y, u, rfl, rfl⟩
      · rw [key_ll] at h; exact wpAny_eqBool_int h
      · rw [key_lr] at h; exact SeqAt.EqAt.int_str i t y u _ _ _ _ h
    · rcases keyIs_shape hv with ⟨j, u, rfl, rfl⟩ | ⟨y, u, rfl, rfl⟩
      · rw [key_rl] at h; exact SeqAt.EqAt.str_int x t j u _ _ _ _ h
      · rw [key_rr] at h; exact wpAny_eqBool_str h
  «strs» := fun k x t v h => by
    rcases keyIs_shape h with ⟨i, u, rfl, e⟩ | ⟨y, u, rfl, e⟩
    · exact nomatch e
    · injection e with e1 _
      subst e1
      cases v <;> rfl
theorem mixKind_int (prog : Program) (w : World) (i : Int) (t : Tok) : (mixKind prog w).is (.inl i) (.int i t) = true := keyIs_int i t
theorem mixKind_str (prog : Program) (w : World) (x : Str) (t : Tok) : (mixKind prog w).is (.inr x) (.str x t) = true := keyIs_str x t
end L2
namespace L2
open PySem PySem.Spec PyProof.Rows
inductive V where
  | non | bl (b : Bool) | int (i : Int) | str (x : Str) | byt (b : Array UInt8) | flt (b : UInt64) | ref (a : Addr) | ty (n : String)
  deriving DecidableEq
def RelV : V → Value → Prop
  | .non, u => u = Value.none
  | .bl b, u => u = Value.bool b
  | .int i, u => ∃ t, u = Value.int i t
  | .str x, u => ∃ t, u = Value.str x t
  | .byt b, u => ∃ t, u = Value.bytes b t
  | .flt b, u => ∃ t, u = Value.float b t
  | .ref a, u => u = Value.ref a
  | .ty n, u => u = Value.type n
abbrev Vals : List V → List Value → Prop := Paired RelV
theorem Vals.length {xs : List V} {us : List Value} (r : Vals xs us) : xs.length = us.length := Paired.length r
theorem Vals.get : ∀ {xs : List V} {us : List Value} {i : Nat} {x : V}, Vals xs us → xs[i]? = some x → ∃ u, us[i]? = some u ∧ RelV x u
  | _, _, _, _, .nil, e => by simp at e
  | _, _, 0, _, .cons r _, e => by simp at e; subst e; exact ⟨_, rfl, r⟩
  | _, _, i + 1, x, .cons _ t, e => by
    obtain ⟨u, h1, h2⟩ := Vals.get (i := i) (x := x) t (by simpa using e)
    exact ⟨u, by simpa using h1, h2⟩
theorem Vals.set {x : V} {u : Value} (r : RelV x u) : ∀ {xs : List V} {us : List Value} (i : Nat), Vals xs us → Vals (xs.set i x) (us.set i u)
  | _, _, _, .nil => .nil
  | _, _, 0, .cons _ t => .cons r t
  | _, _, i + 1, .cons q t => .cons q (Vals.set r i t)
theorem Vals.append : ∀ {xs ys : List V} {us ws : List Value}, Vals xs us → Vals ys ws → Vals (xs ++ ys) (us ++ ws)
  | _, _, _, _, .nil, s => s
  | _, _, _, _, .cons r t, s => .cons r (Vals.append t s)
theorem Vals.take : ∀ {xs : List V} {us : List Value} (n : Nat), Vals xs us → Vals (xs.take n) (us.take n)
  | _, _, 0, _ => .nil
  | _, _, _ + 1, .nil => .nil
  | _, _, n + 1, .cons r t => .cons r (Vals.take n t)
theorem Vals.drop : ∀ {xs : List V} {us : List Value} (n : Nat), Vals xs us → Vals (xs.drop n) (us.drop n)
  | _, _, 0, r => r
  | _, _, _ + 1, .nil => .nil
  | _, _, n + 1, .cons _ t => Vals.drop n t
def RelO : Option V → Option Value → Prop
  | some v, some u => RelV v u
  | none, none => True
  | _, _ => False
def KV {κ : Type} : List (κ × V) → List (κ × Value) → Prop := Paired fun (p : κ × V) (q : κ × Value) => p.1 = q.1 ∧ RelV p.2 q.2
def kV : Key → V
  | .inl i => .int i
  | .inr x => .str x
inductive HO where
  | lst (xs : List V)
  | tup (xs : List V)
  | dK (kvs : List (Key × V)) | dT (kvs : List (List Key × V))
  | set (S : Int → Bool) (n : Nat)
  | ins (C dx : Addr) (fs : List (Str × V))
  | own (x : Addr)
  | xd (fs : List (Str × V))
  | met (f x : Addr)
  | rng (lo hi : Int)
  | frz (o : Obj) (u : HO)
  | tbl (ps : Array Value)
  | ext (φ : Heap → Prop)
abbrev Hp := Addr → Option HO
def upd (H : Hp) (a : Addr) (o : HO) : Hp := fun b => if b = a then some o else H b
theorem upd_same {H : Hp} {a : Addr} {o : HO} : upd H a o a = some o := by unfold upd; rw [if_pos rfl]
theorem upd_ne {H : Hp} {a b : Addr} {o : HO} (h : b ≠ a) : upd H a o b = H b := by unfold upd; rw [if_neg h]
theorem upd_upd {H : Hp} {a : Addr} {o u : HO} : upd (upd H a o) a u = upd H a u := by
  funext b; unfold upd; split <;> rfl
theorem ne_of {H : Hp} {a b : Addr} {o u : HO} (h : H a = some o) (h' : H b = some u) (d : o ≠ u) : a ≠ b := by
  intro e; subst e; rw [h] at h'; exact d (Option.some.inj h')
theorem ne_of_none {H : Hp} {a b : Addr} {o : HO} (h : H a = some o) (h' : H b = none) : a ≠ b := by
  intro e; subst e; rw [h] at h'; cases h'
def IsTupN (h : Heap) (a : Addr) (items : Array Value) : Prop := ∃ o, h.get? a = some o ∧ o.cls = .type "tuple" ∧ o.dict = none ∧ ∃ n, o.data = .seq items n
theorem IsTupN.new (h : Heap) (items : Array Value) : IsTupN (h.push { cls := .type "tuple", data := .seq items }) h.objs.size items := ⟨_, Heap.get?_push_size _ rfl, rfl, rfl, _, rfl⟩
theorem IsTupN.tup {h : Heap} {a : Addr} {items : Array Value} (x : IsTupN h a items) : IsTup h a items := let ⟨o, e, c, _, n, d⟩ := x; ⟨o, e, c, n, d⟩
section
variable (P : Program) (w : World)
def ObjOk (H : Hp) (h : Heap) (a : Addr) : HO → Prop
  | .lst xs => xs.length ≤ sizeLine ∧ ∃ (its : List Value) (n : Nat), Vals xs its ∧ h.get? a = some { cls := .type "list", data := .seq its.toArray n }
  | .tup xs => xs.length ≤ sizeLine ∧ ∃ its : List Value, Vals xs its ∧ IsTupN h a its.toArray
  | .dK kvs => kvs.length ≤ sizeLine ∧ (a == sysModules) = false ∧ ∃ vs, KV kvs vs ∧ h.DictOf (mixKind P w) a vs
  | .dT kvs => kvs.length ≤ sizeLine ∧ (a == sysModules) = false ∧ ∃ xs : List (List Key × Addr × Value),
      Paired (fun (p : List Key × V) (q : List Key × Addr × Value) => p.1 = q.1 ∧ H q.2.1 = some (.tup (p.1.map kV)) ∧ RelV p.2 q.2.2) kvs xs ∧
      ∃ o es ep, h.get? a = some o ∧ o.ExactDict ∧ o.data = .dict es ep ∧ es.toList = xs.map (entryOfKey (tupleKind (mixKind P w))) ∧ (xs.map (·.1)).Nodup
  | .set S n => h.SetOf (intKind P w) a S n
  | .ins C dx fs => H dx = some (.own a) ∧ fs.length ≤ 1000 ∧ dx ≠ a ∧ h.get? a = some (PySem.W.instObj C dx) ∧
      ∃ mA, h.Ns1 dx mA ∧ (∀ f, RelO (fs.lookup f) (mA f)) ∧ PySem.Within mA (fs.map (·.1))
  | .own _ => ∃ o, h.get? a = some o
  | .xd fs => ∃ mA, h.Ns1 a mA ∧ ∀ f, RelO (fs.lookup f) (mA f)
  | .rng lo hi => ∃ t u v, h.get? a = some { cls := .type "range", data := .fields #[.int lo t, .int hi u, .int 1 v] }
  | .frz o u => h.get? a = some o ∧ ObjOk H h a u
  | .tbl ps => h.get? a = some { cls := .none, data := .fields ps }
  | .met f x => h.get? a = some (PySem.W.methodObj (.ref f) (.ref x))
  | .ext φ => φ h ∧ (∃ o, h.get? a = some o) ∧ ∀ h1 h2 : Heap, φ h1 → (∀ o, h1.get? a = some o → h2.get? a = some o) → φ h2
def HOk (H : Hp) (h : Heap) : Prop := ∀ a o, H a = some o → ObjOk P w H h a o
end
section
variable {P : Program} {w : World} {H H' : Hp} {h h' : Heap} {a : Addr} {o : HO}
theorem ObjOk.lt (x : ObjOk P w H h a o) : a < h.objs.size := by
  cases o with
  | lst xs => obtain ⟨_, _, _, _, e⟩ := x; exact Heap.lt_size e
  | tup xs => obtain ⟨_, _, _, p⟩ := x; exact p.tup.lt
  | dK kvs => obtain ⟨_, _, _, _, o, _, _, e, _⟩ := x; exact Heap.lt_size e
  | dT kvs => obtain ⟨_, _, _, _, o, _, _, e, _⟩ := x; exact Heap.lt_size e
  | set S n => obtain ⟨o, _, _, _, e, _⟩ := x; exact Heap.lt_size e
  | ins C dx fs => obtain ⟨_, _, _, e, _⟩ := x; exact Heap.lt_size e
  | own y => obtain ⟨_, e⟩ := x; exact Heap.lt_size e
  | xd fs => obtain ⟨_, ⟨_, _, _, e, _⟩, _⟩ := x; exact Heap.lt_size e
  | rng lo hi => obtain ⟨_, _, _, e⟩ := x; exact Heap.lt_size e
  | frz ob u => obtain ⟨e, _⟩ := x; exact Heap.lt_size e
  | tbl ps => exact Heap.lt_size (show h.get? a = some _ from x)
  | met f y => exact Heap.lt_size (show h.get? a = some _ from x)
  | ext φ => obtain ⟨_, ⟨_, e⟩, _⟩ := x; exact Heap.lt_size e
theorem Paired.mapP {α β : Type} {F G : α → β → Prop} : ∀ {l₁ : List α} {l₂ : List β}, Paired F l₁ l₂ → (∀ a b, F a b → G a b) → Paired G l₁ l₂
  | _, _, .nil, _ => .nil
  | _, _, .cons r t, f => .cons (f _ _ r) (Paired.mapP t f)
theorem ObjOk.stay (x : ObjOk P w H h a o) (k : ∀ b u, (b = a ∨ H b = some (.own a)) → h.get? b = some u → h'.get? b = some u)
    (ho : ∀ b, H b = some (.own a) → H' b = some (.own a)) (ht : ∀ b xs, H b = some (.tup xs) → H' b = some (.tup xs)) : ObjOk P w H' h' a o := by
  induction o with
  | lst xs => obtain ⟨z, its, n, r, e⟩ := x; exact ⟨z, its, n, r, k _ _ (.inl rfl) e⟩
  | tup xs => obtain ⟨z, its, r, ob, e, c⟩ := x; exact ⟨z, its, r, ob, k _ _ (.inl rfl) e, c⟩
  | dK kvs => obtain ⟨z, y, vs, r, ob, es, ep, e, c⟩ := x; exact ⟨z, y, vs, r, ob, es, ep, k _ _ (.inl rfl) e, c⟩
  | dT kvs =>
    obtain ⟨z, y, xs, r, ob, es, ep, e, c⟩ := x
    exact ⟨z, y, xs, Paired.mapP r fun p q z => ⟨z.1, ht _ _ z.2.1, z.2.2⟩, ob, es, ep, k _ _ (.inl rfl) e, c⟩
  | set S n => obtain ⟨ob, es, ep, t, e, c⟩ := x; exact ⟨ob, es, ep, t, k _ _ (.inl rfl) e, c⟩
  | ins C dx fs =>
    obtain ⟨d, z, ne, e, mA, ⟨od, es, ep, e2, c⟩, r⟩ := x
    exact ⟨ho _ d, z, ne, k _ _ (.inl rfl) e, mA, ⟨od, es, ep, k _ _ (.inr d) e2, c⟩, r⟩
  | own y => obtain ⟨ob, e⟩ := x; exact ⟨ob, k _ _ (.inl rfl) e⟩
  | xd fs => obtain ⟨mA, ⟨od, es, ep, e, c⟩, r⟩ := x; exact ⟨mA, ⟨od, es, ep, k _ _ (.inl rfl) e, c⟩, r⟩
  | rng lo hi => obtain ⟨t, u, v, e⟩ := x; exact ⟨t, u, v, k _ _ (.inl rfl) e⟩
  | frz ob u ih => obtain ⟨e, q⟩ := x; exact ⟨k _ _ (.inl rfl) e, ih q⟩
  | tbl ps =>
    have e : h.get? a = some { cls := .none, data := .fields ps } := x
    show h'.get? a = some { cls := .none, data := .fields ps }
    exact k a _ (.inl rfl) e
  | met f y =>
    have e : h.get? a = some (PySem.W.methodObj (.ref f) (.ref y)) := x
    show h'.get? a = some (PySem.W.methodObj (.ref f) (.ref y))
    exact k a _ (.inl rfl) e
  | ext φ => obtain ⟨p, ⟨o, e⟩, st⟩ := x; exact ⟨st _ _ p fun o q => k _ _ (.inl rfl) q, ⟨o, k _ _ (.inl rfl) e⟩, st⟩
theorem HOk.lt (x : HOk P w H h) (e : H a = some o) : a < h.objs.size := (x a o e).lt
theorem HOk.fresh (x : HOk P w H h) (e : h.objs.size ≤ a) : H a = none := by
  cases q : H a with
  | none => rfl
  | some u => exact absurd (Nat.lt_of_lt_of_le (x.lt q) e) (Nat.lt_irrefl _)
theorem HOk.kept (x : HOk P w H h) (k : ∀ b u, h.get? b = some u → h'.get? b = some u) : HOk P w H h' := fun a o e =>
  (x a o e).stay (fun b u _ q => k b u q) (fun _ q => q) fun _ _ q => q
theorem HOk.laid (x : HOk P w H h) (k : ∀ b u, h.get? b = some u → h'.get? b = some u) (hp : h.objs.size ≤ a) (new : ObjOk P w (upd H a o) h' a o) : HOk P w (upd H a o) h' := fun b u e => by
  have hn := x.fresh hp
  by_cases hb : b = a
  · subst hb; rw [upd_same] at e; cases e; exact new
  · rw [upd_ne hb] at e
    exact (x b u e).stay (fun c v _ q => k c v q) (fun c q => by rw [upd_ne (ne_of_none q hn)]; exact q) fun c xs q => by rw [upd_ne (ne_of_none q hn)]; exact q
end
def Rd (H : Hp) (a : Addr) (u : HO) : Prop := H a = some u ∨ ∃ o, H a = some (.frz o u)
theorem Rd.ok {P : Program} {w : World} {H : Hp} {h : Heap} {a : Addr} {u : HO} (r : Rd H a u) (x : HOk P w H h) : ObjOk P w H h a u := by
  rcases r with r | ⟨o, r⟩
  · exact x a u r
  · obtain ⟨_, q⟩ := x a _ r
    exact q
def Mut : Option HO → Prop
  | some (.lst _) => True
  | some (.dK _) => True
  | some (.dT _) => True
  | some (.set _ _) => True
  | some (.ins _ _ _) => True
  | some (.ext _) => True
  | _ => False
section
variable {P : Program} {w : World} {H : Hp} {h h' : Heap} {x e : Addr} {o' : HO}
theorem HOk.write (ok : HOk P w H h) (mu : Mut (H x)) (he : e = x ∨ H e = some (.own x)) (k : ∀ b u, b ≠ e → h.get? b = some u → h'.get? b = some u) (heo : ∃ u, h'.get? e = some u)
    (new : ObjOk P w (upd H x o') h' x o') : HOk P w (upd H x o') h' := fun b u q => by
  have nown : ∀ c y, H c = some (.own y) → c ≠ x := fun c y r z => by subst z; rw [r] at mu; exact mu
  have ntup : ∀ c xs, H c = some (.tup xs) → c ≠ x := fun c xs r z => by subst z; rw [r] at mu; exact mu
  by_cases hb : b = x
  · subst hb; rw [upd_same] at q; cases q; exact new
  · rw [upd_ne hb] at q
    by_cases hbe : b = e
    · have q' : H b = some (.own x) := by
        rcases he with z | z
        · exact absurd (hbe.trans z) hb
        · rw [hbe]; exact z
      rw [q] at q'; cases q'
      obtain ⟨v, hv⟩ := heo
      exact ⟨v, by rw [hbe]; exact hv⟩
    · refine (ok b u q).stay (fun c v hc r => k c v ?_ r) (fun c r => by rw [upd_ne (nown c b r)]; exact r) fun c xs r => by rw [upd_ne (ntup c xs r)]; exact r
      rcases hc with rfl | hc
      · exact hbe
      · rintro rfl
        rcases he with z | z
        · exact nown c b hc z
        · rw [hc] at z; cases z; exact hb rfl
end
structure Un (fs ex : List Addr) (H H' : Hp) (h h' : Heap) : Prop where
  keep : ∀ b o, h.get? b = some o → H b = none → b ∉ fs → b ∉ ex → h'.get? b = some o
  slot : ∀ b o, h.get? b = some o → H b = none → b ∈ fs → b ∉ ex → ∃ sl, h'.get? b = some { o with slots := sl }
  free : ∀ b o, h.get? b = some o → H b = none → b ∉ ex → H' b = none
  there : ∀ b o, h.get? b = some o → b ∉ ex → ∃ o', h'.get? b = some o'
  tups : ∀ b xs, H b = some (.tup xs) → H' b = some (.tup xs)
  frzs : ∀ b o u, H b = some (.frz o u) → H' b = some (.frz o u)
  tbls : ∀ b ps, H b = some (.tbl ps) → ∃ more, H' b = some (.tbl (ps ++ more))
section
variable {fs fs' ex ex' : List Addr} {H H1 H2 : Hp} {h h1 h2 h' : Heap} {a x e : Addr} {o : HO}
theorem Un.any (u : Un fs ex H H1 h h1) {b : Addr} {ob : Obj} (q : h.get? b = some ob) (n : H b = none) (hx : b ∉ ex) : ∃ sl, h1.get? b = some { ob with slots := sl } := by
  by_cases hb : b ∈ fs
  · exact u.slot b ob q n hb hx
  · exact ⟨ob.slots, u.keep b ob q n hb hx⟩
theorem Un.kept (k : ∀ b u, h.get? b = some u → h'.get? b = some u) : Un fs ex H H h h' :=
  ⟨fun b ob q _ _ _ => k b ob q, fun b ob q _ _ _ => ⟨ob.slots, k b ob q⟩, fun _ _ _ n _ => n, fun b ob q _ => ⟨ob, k b ob q⟩, fun _ _ q => q, fun _ _ _ q => q, fun _ ps q => ⟨#[], by rw [q]; simp⟩⟩
theorem Un.refl : Un fs ex H H h h := Un.kept fun _ _ q => q
theorem Un.laid (k : ∀ b u, h.get? b = some u → h'.get? b = some u) (hp : h.objs.size ≤ a) (hn : H a = none) : Un fs ex H (upd H a o) h h' where
  keep := fun b u q _ _ _ => k b u q
  slot := fun b u q _ _ _ => ⟨u.slots, k b u q⟩
  free := fun b u q n _ => by rw [upd_ne (Nat.ne_of_lt (Nat.lt_of_lt_of_le (Heap.lt_size q) hp))]; exact n
  there := fun b u q _ => ⟨u, k b u q⟩
  tups := fun b xs q => by rw [upd_ne (ne_of_none q hn)]; exact q
  frzs := fun b u xs q => by rw [upd_ne (ne_of_none q hn)]; exact q
  tbls := fun b ps q => ⟨#[], by rw [upd_ne (ne_of_none q hn), q]; simp⟩
theorem Un.write (mu : Mut (H x)) (he : e = x ∨ H e = some (.own x)) (k : ∀ b u, b ≠ e → h.get? b = some u → h'.get? b = some u) (heo : ∃ u, h'.get? e = some u) : Un fs ex H (upd H x o) h h' := by
  have hx : ∀ b, H b = none → b ≠ x := fun b n z => by subst z; rw [n] at mu; exact mu
  have hb : ∀ b, H b = none → b ≠ e := fun b n z => by
    subst z
    rcases he with r | r
    · exact hx b n r
    · rw [n] at r; cases r
  have hm : ∀ b u, H b = some u → ¬ Mut (some u) → b ≠ x := fun b u q nm z => by subst z; rw [q] at mu; exact nm mu
  refine ⟨fun b u q n _ _ => k b u (hb b n) q, fun b u q n _ _ => ⟨u.slots, k b u (hb b n) q⟩, fun b u q n _ => by rw [upd_ne (hx b n)]; exact n, fun b u q _ => ?_,
    fun b xs q => by rw [upd_ne (hm b _ q fun z => z)]; exact q, fun b u xs q => by rw [upd_ne (hm b _ q fun z => z)]; exact q, fun b ps q => ⟨#[], by rw [upd_ne (hm b _ q fun z => z), q]; simp⟩⟩
  by_cases hbe : b = e
  · subst hbe; exact heo
  · exact ⟨u, k b u hbe q⟩
end
def trk (h : Heap) (H : Hp) : List Addr := (List.range h.objs.size).filter fun a => (H a).isSome
def hidT (h : Heap) (H : Hp) : Heap := PySem.W.hideAll h (trk h H)
theorem hidT_size (h : Heap) (H : Hp) : (hidT h H).objs.size = h.objs.size := PySem.W.hideAll_size _ _
theorem hidT_get {h : Heap} {H : Hp} {b : Addr} {o : Obj} (e : h.get? b = some o) (n : H b = none) : (hidT h H).get? b = some o :=
  PySem.W.hideAll_get _ e fun hm => by
    have q : (H b).isSome = true := (List.mem_filter.mp hm).2
    rw [n] at q; simp at q
theorem of_hidT {h : Heap} {H : Hp} {b : Addr} {o : Obj} (e : (hidT h H).get? b = some o) : h.get? b = some o ∧ H b = none := by
  have e' : h.get? b = some o := PySem.W.of_hideAll (trk h H) e
  refine ⟨e', ?_⟩
  cases q : H b with
  | none => rfl
  | some x =>
    have hm : b ∈ trk h H := List.mem_filter.mpr ⟨List.mem_range.mpr (Heap.lt_size e'), by simp [q]⟩
    have z : (hidT h H).get? b = none := PySem.W.hideAll_none (trk h H) hm
    rw [z] at e; cases e
end L2
namespace L2
open PySem PySem.Spec PyProof.Rows
structure Mod (K : PySem.W.Frag) (mg : Str → Option Value) (base : Heap) : Prop where
  kin : K.In base
  glob : base.Ns mainGlobals mg
  blt : ∃ mb, base.Ns builtinsNs mb ∧ ∀ x : Str, x ≠ "__name__" → mb x = bootBuiltins x
  nolimit : base.NoLimit
structure Cx where
  prog : Program
  w : World
  K : PySem.W.Frag
  mg : Str → Option Value
  base : Heap
  A : Around
  N : List Str
  s₀ : Shared
  H₀ : Hp
  env : Env
  outer : List Env
  stack : List Env
  ex : List Addr
  fn : Str → Bool
  calm : Bool
  pn : List (Addr × Obj)
  xe : Value → Shared → Prop
def frs (l : List Env) : List Addr := l.filterMap (·.frame)
abbrev Cx.fs (X : Cx) : List Addr := frs X.outer
def Vis (sc : Scope) (x : Str) : Prop := sc.names.lookup x = some .local ∨ sc.names.lookup x = some .cell ∨ sc.names.lookup x = some .free
def Loc (sc : Scope) (x : Str) : Prop := sc.names.lookup x = some .local ∨ sc.names.lookup x = some .cell
def Look (env : Env) (h : Heap) (m : Str → Option Value) (x : Str) (u : Value) : Prop :=
  (env.kindOf x = some .local ∧ m x = some u) ∨ ((env.kindOf x = some .cell ∨ env.kindOf x = some .free) ∧ ∃ c, env.cells.lookup x = some c ∧ h.IsCell c (some u))
structure Cx.Ok (X : Cx) : Prop where
  mod : Mod X.K X.mg X.base
  kind : X.env.scope.kind = .function
  glob : X.env.globals = mainGlobals
  blt : X.env.builtins = builtinsNs
  above : X.s₀.heap.objs.size ≤ X.env.locals
  inj : ∀ x y c, X.env.cells.lookup x = some c → X.env.cells.lookup y = some c → x = y
  has : ∀ x, (X.env.kindOf x = some .cell ∨ X.env.kindOf x = some .free) → ∃ c, X.env.cells.lookup x = some c
  cab : ∀ x c, X.fn x = true → X.env.cells.lookup x = some c → X.s₀.heap.objs.size ≤ c
  hd : X.calm = true → X.A.handled = none
  frames : X.A.frames = some X.stack
  stk : X.stack = X.outer ∨ (X.stack = X.env :: X.outer ∧ X.env.frame = some X.env.locals)
  exf : ∀ b ∈ X.ex, b ≠ X.env.locals ∧ ∀ x c, X.env.cells.lookup x = some c → c ≠ b
  bs : ∀ b o, X.base.get? b = some o → X.s₀.heap.get? b = some o ∧ X.H₀ b = none
  bsz : X.base.objs.size ≤ X.s₀.heap.objs.size
  noex : ∀ b o, X.base.get? b = some o → b ∉ X.ex
  exfs : ∀ b ∈ X.ex, b ∉ X.fs
  funs : X.s₀.heap.FunFrames X.base X.outer
  frf : ∀ b ∈ X.fs, X.H₀ b = none
structure Inv (X : Cx) (pins : List (Addr × Obj)) (σ : List (Option V)) (H : Hp) (s : Shared) : Prop where
  ok : X.Ok
  os : s.os = X.s₀.os
  bare : AllBare s.gens
  base : Un X.fs X.ex X.H₀ H X.s₀.heap s.heap
  loc : ∃ m, s.heap.Ns X.env.locals m ∧ ∀ (i : Nat) (x : Str) (v : V), X.N[i]? = some x → σ[i]? = some (some v) → Vis X.env.scope x → ∃ u, RelV v u ∧ Look X.env s.heap m x u
  cell : ∀ x c, X.env.cells.lookup x = some c → ∃ v, s.heap.IsCell c v
  free : H X.env.locals = none
  freeC : ∀ x c, X.env.cells.lookup x = some c → H c = none
  pin : ∀ p ∈ X.pn ++ pins, s.heap.get? p.1 = some p.2 ∧ H p.1 = none ∧ p.1 ≠ X.env.locals ∧ p.1 ∉ X.fs ∧ ∀ v, p.2.data ≠ .cell v
  hok : HOk X.prog X.w H s.heap
  len : σ.length = X.N.length
section
variable {X : Cx} {pins : List (Addr × Obj)} {σ : List (Option V)} {H H' : Hp} {s : Shared} {h' : Heap}
theorem Cx.Ok.nofr (ok : X.Ok) {b : Addr} {o : Obj} (e : X.base.get? b = some o) : b ∉ X.fs := fun hb => by
  have := (ok.funs.mem hb).1
  rw [e] at this; cases this
theorem Inv.bs (I : Inv X pins σ H s) : ∀ b o, X.base.get? b = some o → s.heap.get? b = some o ∧ H b = none := fun b o e =>
  ⟨I.base.keep b o (I.ok.bs b o e).1 (I.ok.bs b o e).2 (I.ok.nofr e) (I.ok.noex b o e), I.base.free b o (I.ok.bs b o e).1 (I.ok.bs b o e).2 (I.ok.noex b o e)⟩
theorem Inv.bk (I : Inv X pins σ H s) : ∀ b o, X.base.get? b = some o → s.heap.get? b = some o := fun b o e => (I.bs b o e).1
theorem Inv.mod (I : Inv X pins σ H s) : Mod X.K X.mg X.base := I.ok.mod
theorem Inv.kIn (I : Inv X pins σ H s) : X.K.In s.heap := I.ok.mod.kin.keeps I.bk
theorem Inv.lt (I : Inv X pins σ H s) : X.env.locals < s.heap.objs.size := let ⟨_, hn, _⟩ := I.loc; hn.lt
theorem Inv.sz (I : Inv X pins σ H s) : X.s₀.heap.objs.size ≤ s.heap.objs.size := Nat.le_trans I.ok.above (Nat.le_of_lt I.lt)
theorem Inv.nofs (I : Inv X pins σ H s) {a : Addr} (h : s.heap.objs.size ≤ a) : a ∉ X.fs := fun hb => by
  obtain ⟨_, o, ho, _⟩ := I.ok.funs.mem hb
  exact absurd (Nat.lt_of_lt_of_le (Heap.lt_size ho) (Nat.le_trans I.sz h)) (Nat.lt_irrefl _)
theorem Inv.cne (I : Inv X pins σ H s) : ∀ x c, X.env.cells.lookup x = some c → c ≠ X.env.locals := fun x c e z => by
  obtain ⟨v, o, ho, hd⟩ := I.cell x c e
  obtain ⟨m, ⟨o', es, ep, ho', hd', _⟩, _⟩ := I.loc
  rw [z, ho'] at ho; cases ho; rw [hd'] at hd; cases hd
theorem Inv.funs (I : Inv X pins σ H s) : s.heap.FunFrames X.base X.outer := by
  have all : ∀ (l : List Env), (∀ b ∈ frs l, b ∈ X.fs) → X.s₀.heap.FunFrames X.base l → s.heap.FunFrames X.base l := by
    intro l
    induction l with
    | nil => intro _ _; trivial
    | cons env r ih =>
      intro hs hl
      obtain ⟨hk, ⟨L, o, hf, hn, ho, hd⟩, hr⟩ := hl
      have hL : L ∈ X.fs := hs L (by unfold frs; rw [List.filterMap_cons, hf]; exact List.mem_cons_self)
      obtain ⟨sl, e⟩ := I.base.slot L o ho (I.ok.frf L hL) hL fun z => I.ok.exfs L z hL
      exact ⟨hk, ⟨L, _, hf, hn, e, hd⟩, ih (fun b hb => hs b (by unfold frs; rw [List.filterMap_cons, hf]; exact List.mem_cons_of_mem _ hb)) hr⟩
  exact all X.outer (fun _ hb => hb) I.ok.funs
theorem Inv.stack (I : Inv X pins σ H s) : s.heap.FunFrames X.base X.stack := by
  rcases I.ok.stk with e | ⟨e, hf⟩
  · rw [e]; exact I.funs
  · rw [e]
    obtain ⟨m, hn, _⟩ := I.loc
    refine .cons (by rw [I.ok.kind]; decide) hf hn ?_ I.funs
    exact Heap.get?_none_of_le (Nat.le_trans I.ok.bsz I.ok.above)
theorem Inv.stkSub (I : Inv X pins σ H s) : ∀ b ∈ frs X.stack, b ∈ X.env.locals :: X.fs := fun b hb => by
  rcases I.ok.stk with e | ⟨e, hf⟩
  · rw [e] at hb; exact List.mem_cons_of_mem _ hb
  · rw [e] at hb
    unfold frs at hb
    rw [List.filterMap_cons, hf] at hb
    exact hb
theorem Inv.stkFree (I : Inv X pins σ H s) : ∀ b ∈ frs X.stack, H b = none := fun b hb => by
  rcases List.mem_cons.mp (I.stkSub b hb) with e | hb
  · rw [e]; exact I.free
  · obtain ⟨_, o, ho, _⟩ := I.ok.funs.mem hb
    exact I.base.free b o ho (I.ok.frf b hb) fun z => I.ok.exfs b z hb
theorem Inv.step {g' : Array GenState} {t' : Nat} {d' : Drawn} {ch : List Addr} (I : Inv X pins σ H s)
    (hch : ∀ b ∈ ch, (b ∈ X.ex ∨ X.s₀.heap.objs.size ≤ b) ∧ b ≠ X.env.locals ∧ (∀ x c, X.env.cells.lookup x = some c → c ≠ b) ∧ ∀ p ∈ X.pn ++ pins, p.1 ≠ b)
    (keep : ∀ b o, b ≠ X.env.locals → b ∉ X.fs → b ∉ ch → s.heap.get? b = some o → H b = none → h'.get? b = some o)
    (slot : ∀ b o, b ≠ X.env.locals → b ∈ X.fs → b ∉ ch → s.heap.get? b = some o → H b = none → ∃ sl, h'.get? b = some { o with slots := sl }) (free : ∀ b o, b ∉ ch → s.heap.get? b = some o → H b = none → H' b = none)
    (there : ∀ b o, b ∉ ch → s.heap.get? b = some o → ∃ o', h'.get? b = some o')
    (tups : ∀ b xs, H b = some (.tup xs) → H' b = some (.tup xs)) (frzs : ∀ b o u, H b = some (.frz o u) → H' b = some (.frz o u)) (tbls : ∀ b ps, H b = some (.tbl ps) → ∃ more, H' b = some (.tbl (ps ++ more)))
    (ns : ∀ m, s.heap.Ns X.env.locals m → h'.Ns X.env.locals m) (hok : HOk X.prog X.w H' h') (hg : AllBare g') :
    Inv X pins σ H' { s with heap := h', gens := g', drawn := d', toks := t' } := by
  have neL : ∀ b o, X.s₀.heap.get? b = some o → b ≠ X.env.locals := fun b o e => Nat.ne_of_lt (Nat.lt_of_lt_of_le (Heap.lt_size e) I.ok.above)
  have neC : ∀ b o, X.s₀.heap.get? b = some o → b ∉ X.ex → b ∉ ch := fun b o e hx hb => by
    rcases (hch b hb).1 with z | z
    · exact hx z
    · exact absurd (Nat.lt_of_lt_of_le (Heap.lt_size e) z) (Nat.lt_irrefl _)
  have cellK : ∀ x c, X.env.cells.lookup x = some c → ∀ v, s.heap.IsCell c v → h'.IsCell c v := fun x c e v ⟨o, ho, hd⟩ => by
    have nch : c ∉ ch := fun z => (hch c z).2.2.1 x c e rfl
    by_cases hc : c ∈ X.fs
    · obtain ⟨sl, q⟩ := slot c o (I.cne x c e) hc nch ho (I.freeC x c e)
      exact ⟨_, q, hd⟩
    · exact ⟨o, keep c o (I.cne x c e) hc nch ho (I.freeC x c e), hd⟩
  refine ⟨I.ok, I.os, hg, ⟨fun b o e n hb hx => ?_, fun b o e n hb hx => ?_, fun b o e n hx => ?_, fun b o e hx => ?_, fun b xs e => tups b xs (I.base.tups b xs e), fun b o xs e => frzs b o xs (I.base.frzs b o xs e), fun b ps e => ?_⟩, ?_, fun x c e => ?_, ?_, fun x c e => ?_, fun p hp => ?_, hok, I.len⟩
  · exact keep b o (neL b o e) hb (neC b o e hx) (I.base.keep b o e n hb hx) (I.base.free b o e n hx)
  · obtain ⟨sl, e1⟩ := I.base.slot b o e n hb hx
    obtain ⟨sl', e2⟩ := slot b _ (neL b o e) hb (neC b o e hx) e1 (I.base.free b o e n hx)
    exact ⟨sl', e2⟩
  · obtain ⟨o', e1⟩ := I.base.there b o e hx
    exact free b o' (neC b o e hx) e1 (I.base.free b o e n hx)
  · obtain ⟨o', e1⟩ := I.base.there b o e hx
    exact there b o' (neC b o e hx) e1
  · obtain ⟨m1, e1⟩ := I.base.tbls b ps e
    obtain ⟨m2, e2⟩ := tbls b _ e1
    exact ⟨m1 ++ m2, by rw [e2, Array.append_assoc]⟩
  · obtain ⟨m, hn, hl⟩ := I.loc
    refine ⟨m, ns m hn, fun i x v e1 e2 e3 => ?_⟩
    obtain ⟨u, r, l⟩ := hl i x v e1 e2 e3
    refine ⟨u, r, ?_⟩
    rcases l with l | ⟨k, c, e, z⟩
    · exact .inl l
    · exact .inr ⟨k, c, e, cellK x c e _ z⟩
  · obtain ⟨v, z⟩ := I.cell x c e
    exact ⟨v, cellK x c e v z⟩
  · obtain ⟨m, ⟨o, _, _, ho, _⟩, _⟩ := I.loc
    exact free _ o (fun z => (hch _ z).2.1 rfl) ho I.free
  · obtain ⟨v, o, ho, hd⟩ := I.cell x c e
    exact free c o (fun z => (hch c z).2.2.1 x c e rfl) ho (I.freeC x c e)
  · obtain ⟨e, n, ne, nf, d⟩ := I.pin p hp
    have nch : p.1 ∉ ch := fun z => (hch p.1 z).2.2.2 p hp rfl
    exact ⟨keep p.1 p.2 ne nf nch e n, free p.1 p.2 nch e n, ne, nf, d⟩
theorem Inv.un {t' : Nat} (I : Inv X pins σ H s) (u : Un X.fs [] H H' s.heap h') (hok : HOk X.prog X.w H' h') : Inv X pins σ H' { s with heap := h', toks := t' } := by
  obtain ⟨m, ⟨o, es, ep, ho, r⟩, _⟩ := id I.loc
  obtain ⟨sl, hL⟩ := u.any ho I.free (by simp)
  exact I.step (g' := s.gens) (d' := s.drawn) (ch := []) (fun _ z => nomatch z) (fun b o _ hb _ e n => u.keep b o e n hb (by simp)) (fun b o _ hb _ e n => u.slot b o e n hb (by simp)) (fun b o _ e n => u.free b o e n (by simp)) (fun b o _ e => u.there b o e (by simp)) u.tups u.frzs u.tbls (fun m' hm => by
    obtain ⟨o', es', ep', ho', r'⟩ := hm
    rw [ho] at ho'; cases ho'
    exact ⟨_, es', ep', hL, r'⟩) hok I.bare
theorem Inv.call {g' : Array GenState} {t' : Nat} {d' : Drawn} {ch : List Addr} (I : Inv X pins σ H s) (u : Un (frs X.stack) ch H H' s.heap h') (hok : HOk X.prog X.w H' h') (hg : AllBare g')
    (hch : ∀ b ∈ ch, (b ∈ X.ex ∨ X.s₀.heap.objs.size ≤ b) ∧ b ≠ X.env.locals ∧ (∀ x c, X.env.cells.lookup x = some c → c ≠ b) ∧ ∀ p ∈ X.pn ++ pins, p.1 ≠ b) :
    Inv X pins σ H' { s with heap := h', gens := g', drawn := d', toks := t' } := by
  obtain ⟨m, ⟨o, es, ep, ho, r⟩, _⟩ := id I.loc
  obtain ⟨sl, hL⟩ := u.any ho I.free fun z => (hch _ z).2.1 rfl
  exact I.step (ch := ch) hch (fun b o hL hb hc e n => u.keep b o e n (fun z => (List.mem_cons.mp (I.stkSub b z)).elim hL hb) hc) (fun b o _ _ hc e n => u.any e n hc) (fun b o hc e n => u.free b o e n hc) (fun b o hc e => u.there b o e hc) u.tups u.frzs u.tbls (fun m' hm => by
    obtain ⟨o', es', ep', ho', r'⟩ := hm
    rw [ho] at ho'; cases ho'
    exact ⟨_, es', ep', hL, r'⟩) hok hg
theorem Inv.turned {t' : Nat} {it : Addr} (I : Inv X pins σ H s) (k : ∀ b o, b ≠ it → s.heap.get? b = some o → h'.get? b = some o) (hn : H it = none) (hL : it ≠ X.env.locals)
    (h1 : it ∈ X.ex ∨ X.s₀.heap.objs.size ≤ it) (h2 : ∀ x c, X.env.cells.lookup x = some c → c ≠ it) (h3 : ∀ p ∈ X.pn ++ pins, p.1 ≠ it) : Inv X pins σ H { s with heap := h', toks := t' } := by
  have nit : ∀ b u, H b = some u → b ≠ it := fun b u e z => by rw [z, hn] at e; cases e
  refine I.step (g' := s.gens) (d' := s.drawn) (ch := [it]) (fun b hb => ?_) (fun b o _ _ hc e _ => k b o (fun z => hc (by simp [z])) e) (fun b o _ _ hc e _ => ⟨o.slots, k b o (fun z => hc (by simp [z])) e⟩) (fun _ _ _ _ n => n)
    (fun b o hc e => ⟨o, k b o (fun z => hc (by simp [z])) e⟩) (fun _ _ e => e) (fun _ _ _ e => e) (fun b ps e => ⟨#[], by rw [e]; simp⟩) (fun m hm => ?_) (fun b u e => ?_) I.bare
  · have e : b = it := by simpa using hb
    subst e
    exact ⟨h1, hL, h2, h3⟩
  · obtain ⟨o, es, ep, ho, r⟩ := hm
    exact ⟨o, es, ep, k _ o (Ne.symm hL) ho, r⟩
  · refine (I.hok b u e).stay (fun c v hc q => k c v ?_ q) (fun _ q => q) fun _ _ q => q
    rcases hc with z | z
    · rw [z]; exact nit b u e
    · exact nit c _ z
theorem Inv.tok (I : Inv X pins σ H s) (t : Nat) : Inv X pins σ H { s with toks := t } := I.un (h' := s.heap) (t' := t) Un.refl I.hok
theorem Inv.kept {t' : Nat} (I : Inv X pins σ H s) (k : ∀ b u, s.heap.get? b = some u → h'.get? b = some u) : Inv X pins σ H { s with heap := h', toks := t' } := I.un (Un.kept k) (I.hok.kept k)
theorem Inv.laid {a : Addr} {o : HO} {t' : Nat} (I : Inv X pins σ H s) (k : ∀ b u, s.heap.get? b = some u → h'.get? b = some u) (hp : s.heap.objs.size ≤ a) (new : ObjOk X.prog X.w (upd H a o) h' a o) :
    Inv X pins σ (upd H a o) { s with heap := h', toks := t' } := I.un (Un.laid k hp (I.hok.fresh hp)) (I.hok.laid k hp new)
theorem Inv.write {x e : Addr} {o : HO} {t' : Nat} (I : Inv X pins σ H s) (mu : Mut (H x)) (he : e = x ∨ H e = some (.own x)) (k : ∀ b u, b ≠ e → s.heap.get? b = some u → h'.get? b = some u) (heo : ∃ u, h'.get? e = some u)
    (new : ObjOk X.prog X.w (upd H x o) h' x o) : Inv X pins σ (upd H x o) { s with heap := h', toks := t' } := I.un (Un.write mu he k heo) (I.hok.write mu he k heo new)
theorem Inv.pins_of {pins' : List (Addr × Obj)} (I : Inv X pins σ H s) (h : ∀ p ∈ pins', s.heap.get? p.1 = some p.2 ∧ H p.1 = none ∧ p.1 ≠ X.env.locals ∧ p.1 ∉ X.fs ∧ ∀ v, p.2.data ≠ .cell v) : Inv X pins' σ H s :=
  ⟨I.ok, I.os, I.bare, I.base, I.loc, I.cell, I.free, I.freeC, fun p hp => (List.mem_append.mp hp).elim (fun z => I.pin p (List.mem_append_left _ z)) (h p), I.hok, I.len⟩
theorem nodup_ix {N : List Str} (hN : N.Nodup) {i j : Nat} {x : Str} (a : N[i]? = some x) (b : N[j]? = some x) : i = j := by
  obtain ⟨h1, e1⟩ := List.getElem?_eq_some_iff.mp a
  obtain ⟨h2, e2⟩ := List.getElem?_eq_some_iff.mp b
  exact (List.getElem_inj hN).mp (e1.trans e2.symm)
theorem store_ok2 {M : Model} {A : Around} {E : Value → Shared → Prop} {i : Nat} {x : Str} {v : V} {u : Value} {Q : Unit → Shared → Prop} (I : Inv X pins σ H s) (hN : X.N.Nodup) (hi : X.N[i]? = some x) (hx : Loc X.env.scope x) (r : RelV v u)
    (h : ∀ s', Inv X pins (σ.set i (some v)) H s' → (∃ a, Heap.SameBut a s.heap s'.heap ∧ (a = X.env.locals ∨ X.env.cells.lookup x = some a)) → Q () s') (hf : X.fn x = true ∨ X.env.scope.names.lookup x = some .local := by first | exact .inl rfl | exact .inr rfl | assumption) : wpAny M A (storeName X.env x u) Q E s := by
  obtain ⟨m, hn, hl⟩ := id I.loc
  have hcls : (X.env.scope.kind == .class || (X.env.scope.kind == .module && X.env.locals != X.env.globals)) = false := by rw [I.ok.kind]; rfl
  have hiσ : i < σ.length := by rw [I.len]; exact (List.getElem?_eq_some_iff.mp hi).1
  have cne := I.cne
  have tracked : ∀ {a : Addr} {h' : Heap}, (∃ o, s.heap.get? a = some o ∧ H a = none) → Heap.SameBut a s.heap h' → HOk X.prog X.w H h' := fun {a h'} ha hs b ob e => by
    obtain ⟨_, _, hfree⟩ := ha
    refine (I.hok b ob e).stay (fun c w' hc q => (hs.2 c ?_).trans q) (fun _ q => q) fun _ _ q => q
    rintro rfl
    rcases hc with rfl | hc
    · rw [hfree] at e; cases e
    · rw [hfree] at hc; cases hc
  rcases hx with hk | hk
  · refine wpAny_storeName_local hk hn (fun h' hn' hs => ?_) hcls
    obtain ⟨oL, _, _, hoL, _⟩ := id hn
    refine h _ ⟨I.ok, I.os, I.bare, ⟨fun b o e n hb hx => ?_, fun b o e n hb hx => ?_, I.base.free, fun b o e hx => ?_, I.base.tups, I.base.frzs, I.base.tbls⟩, ⟨_, hn', fun j y v' e1 e2 e3 => ?_⟩, fun y c e => ?_, I.free, I.freeC, fun p hp => ?_, tracked ⟨oL, hoL, I.free⟩ hs, by simpa using I.len⟩ ⟨_, hs, .inl rfl⟩
    · exact (hs.2 b (Nat.ne_of_lt (Nat.lt_of_lt_of_le (Heap.lt_size e) I.ok.above))).trans (I.base.keep b o e n hb hx)
    · obtain ⟨sl, e1⟩ := I.base.slot b o e n hb hx
      exact ⟨sl, (hs.2 b (Nat.ne_of_lt (Nat.lt_of_lt_of_le (Heap.lt_size e) I.ok.above))).trans e1⟩
    · obtain ⟨o', e1⟩ := I.base.there b o e hx
      exact ⟨o', (hs.2 b (Nat.ne_of_lt (Nat.lt_of_lt_of_le (Heap.lt_size e) I.ok.above))).trans e1⟩
    · by_cases hj : j = i
      · subst hj
        rw [hi] at e1; cases e1
        rw [List.getElem?_set_self hiσ] at e2
        cases e2
        exact ⟨u, r, .inl ⟨hk, by simp⟩⟩
      · rw [List.getElem?_set_ne (Ne.symm hj)] at e2
        obtain ⟨u', r', q⟩ := hl j y v' e1 e2 e3
        refine ⟨u', r', ?_⟩
        rcases q with ⟨k, e⟩ | ⟨k, c, e, z⟩
        · refine .inl ⟨k, ?_⟩
          have : y ≠ x := fun e => hj (nodup_ix hN e1 (e ▸ hi))
          simp [this, e]
        · exact .inr ⟨k, c, e, z.sameBut hs (cne y c e)⟩
    · obtain ⟨w', z⟩ := I.cell y c e
      exact ⟨w', z.sameBut hs (cne y c e)⟩
    · obtain ⟨e, n, ne, nf, d⟩ := I.pin p hp
      exact ⟨(hs.2 p.1 ne).trans e, n, ne, nf, d⟩
  · have hfn : X.fn x = true := by
      rcases hf with z | z
      · exact z
      · rw [z] at hk; cases hk
    obtain ⟨c, hc⟩ := I.ok.has x (.inl hk)
    obtain ⟨w', z⟩ := I.cell x c hc
    refine wpAny_storeName_cell I.ok.kind hk hc z (fun h' hc' hs => ?_)
    obtain ⟨oc, hoc, hocd⟩ := id z
    refine h { s with heap := h' } ⟨I.ok, I.os, I.bare, ⟨fun b o e n hb hx => ?_, fun b o e n hb hx => ?_, I.base.free, fun b o e hx => ?_, I.base.tups, I.base.frzs, I.base.tbls⟩, ⟨m, hn.sameBut hs (Ne.symm (cne x c hc)), fun j y v' e1 e2 e3 => ?_⟩, fun y c' e => ?_, I.free, I.freeC, fun p hp => ?_, tracked ⟨oc, hoc, I.freeC x c hc⟩ hs, by simpa using I.len⟩ ⟨c, hs, .inr hc⟩
    · exact (hs.2 b (Nat.ne_of_lt (Nat.lt_of_lt_of_le (Heap.lt_size e) (I.ok.cab x c hfn hc)))).trans (I.base.keep b o e n hb hx)
    · obtain ⟨sl, e1⟩ := I.base.slot b o e n hb hx
      exact ⟨sl, (hs.2 b (Nat.ne_of_lt (Nat.lt_of_lt_of_le (Heap.lt_size e) (I.ok.cab x c hfn hc)))).trans e1⟩
    · obtain ⟨o', e1⟩ := I.base.there b o e hx
      exact ⟨o', (hs.2 b (Nat.ne_of_lt (Nat.lt_of_lt_of_le (Heap.lt_size e) (I.ok.cab x c hfn hc)))).trans e1⟩
    · by_cases hj : j = i
      · subst hj
        rw [hi] at e1; cases e1
        rw [List.getElem?_set_self hiσ] at e2
        cases e2
        exact ⟨u, r, .inr ⟨.inl hk, c, hc, hc'⟩⟩
      · rw [List.getElem?_set_ne (Ne.symm hj)] at e2
        obtain ⟨u', r', q⟩ := hl j y v' e1 e2 e3
        refine ⟨u', r', ?_⟩
        rcases q with q | ⟨k, c', e, z'⟩
        · exact .inl q
        · refine .inr ⟨k, c', e, z'.sameBut hs ?_⟩
          rintro rfl
          exact hj (nodup_ix hN e1 (I.ok.inj _ _ _ e hc ▸ hi))
    · by_cases hcc : c' = c
      · subst hcc; exact ⟨_, hc'⟩
      · obtain ⟨w2, z2⟩ := I.cell y c' e
        exact ⟨w2, z2.sameBut hs hcc⟩
    · obtain ⟨e, n, ne, nf, d⟩ := I.pin p hp
      refine ⟨(hs.2 p.1 ?_).trans e, n, ne, nf, d⟩
      intro q
      rw [q, hoc] at e
      have q' : oc = p.2 := Option.some.inj e
      exact d w' (by rw [← q']; exact hocd)
theorem store_ok {M : Model} {A : Around} {E : Value → Shared → Prop} {i : Nat} {x : Str} {v : V} {u : Value} {Q : Unit → Shared → Prop} (I : Inv X pins σ H s) (hN : X.N.Nodup) (hi : X.N[i]? = some x) (hx : Loc X.env.scope x) (r : RelV v u)
    (h : ∀ s', Inv X pins (σ.set i (some v)) H s' → Q () s') (hf : X.fn x = true ∨ X.env.scope.names.lookup x = some .local := by first | exact .inl rfl | exact .inr rfl | assumption) : wpAny M A (storeName X.env x u) Q E s :=
  store_ok2 I hN hi hx r (fun s' I' _ => h s' I') hf
theorem Inv.call' {s' : Shared} {ch : List Addr} (I : Inv X pins σ H s) (ho : s'.os = s.os) (u : Un (frs X.stack) ch H H' s.heap s'.heap) (hok : HOk X.prog X.w H' s'.heap) (hg : AllBare s'.gens)
    (hch : ∀ b ∈ ch, (b ∈ X.ex ∨ X.s₀.heap.objs.size ≤ b) ∧ b ≠ X.env.locals ∧ (∀ x c, X.env.cells.lookup x = some c → c ≠ b) ∧ ∀ p ∈ X.pn ++ pins, p.1 ≠ b) : Inv X pins σ H' s' := by
  obtain ⟨h', g', d', t', o'⟩ := s'
  have e : o' = s.os := ho
  subst e
  exact I.call (g' := g') (t' := t') (d' := d') u hok hg hch
end
abbrev XK := Value → Option Addr → Hp → Prop
abbrev St := List (Option V)
abbrev VK := V → Hp → Prop
abbrev TE := St → Hp → VK → Prop
abbrev TT := St → Hp → (Bool → Hp → Prop) → Prop
abbrev TA := St → Hp → (List V → Hp → Prop) → Prop
structure Ends where
  nx : St → Hp → Prop
  rt : VK
  bk : St → Hp → Prop := fun _ _ => False
  ct : St → Hp → Prop := fun _ _ => False
abbrev TS := Ends → St → Hp → Prop
def EP (X : Cx) (pins : List (Addr × Obj)) (σ : St) (Q : VK) (u : Value) (s' : Shared) : Prop := ∃ v H', Inv X pins σ H' s' ∧ RelV v u ∧ Q v H'
def TP (X : Cx) (pins : List (Addr × Obj)) (σ : St) (Q : Bool → Hp → Prop) (b : Bool) (s' : Shared) : Prop := ∃ H', Inv X pins σ H' s' ∧ Q b H'
def AP (X : Cx) (pins : List (Addr × Obj)) (σ : St) (Q : List V → Hp → Prop) (us : List Value) (s' : Shared) : Prop := ∃ vs H', Inv X pins σ H' s' ∧ Vals vs us ∧ Q vs H'
def SP (X : Cx) (pins : List (Addr × Obj)) (D : Ends) (f : Flow) (s' : Shared) : Prop :=
  match f with
  | .next => ∃ σ' H', Inv X pins σ' H' s' ∧ D.nx σ' H'
  | .brk => ∃ σ' H', Inv X pins σ' H' s' ∧ D.bk σ' H'
  | .cont => ∃ σ' H', Inv X pins σ' H' s' ∧ D.ct σ' H'
  | .ret u => ∃ v σ' H', Inv X pins σ' H' s' ∧ RelV v u ∧ D.rt v H'
def PE (X : Cx) (e : Expr) (t : TE) : Prop :=
  ∀ (pins : List (Addr × Obj)) (s : Shared) (σ : St) (H : Hp) (Q : VK), Inv X pins σ H s → t σ H Q → wpAny (model X.prog X.w) X.A (eval e X.env) (EP X pins σ Q) X.xe s
def PT (X : Cx) (e : Expr) (t : TT) : Prop :=
  ∀ (pins : List (Addr × Obj)) (s : Shared) (σ : St) (H : Hp) (Q : Bool → Hp → Prop), Inv X pins σ H s → t σ H Q → wpAny (model X.prog X.w) X.A (isTrue e X.env (eval e X.env)) (TP X pins σ Q) X.xe s
def PW (X : Cx) (e : Expr) (t : TT) : Prop :=
  ∀ (whole : Sem Value) (pins : List (Addr × Obj)) (s : Shared) (σ : St) (H : Hp) (Q : Bool → Hp → Prop), Inv X pins σ H s → t σ H Q → wpAny (model X.prog X.w) X.A (isTrue e X.env whole) (TP X pins σ Q) X.xe s
theorem PW.pt {X : Cx} {e : Expr} {t : TT} (h : PW X e t) : PT X e t := h _
def PA (X : Cx) (es : List Expr) (t : TA) : Prop :=
  ∀ (pos : Pos) (pins : List (Addr × Obj)) (s : Shared) (σ : St) (H : Hp) (Q : List V → Hp → Prop), Inv X pins σ H s → t σ H Q → wpAny (model X.prog X.w) X.A (spliced (backTo pos (starEach es X.env))) (AP X pins σ Q) X.xe s
def PS (X : Cx) (st : Stmt) (t : TS) : Prop :=
  ∀ (pins : List (Addr × Obj)) (s : Shared) (σ : St) (H : Hp) (D : Ends), Inv X pins σ H s → t D σ H → wpAny (model X.prog X.w) X.A (exec st X.env) (SP X pins D) X.xe s
def PSs (X : Cx) (st : List Stmt) (t : TS) : Prop :=
  ∀ (pins : List (Addr × Obj)) (s : Shared) (σ : St) (H : Hp) (D : Ends), Inv X pins σ H s → t D σ H → wpAny (model X.prog X.w) X.A (execs st X.env) (SP X pins D) X.xe s
theorem thn {α : Type} {t : Sem α} {Q Q' : α → Shared → Prop} {M : Model} {A : Around} {E : Value → Shared → Prop} {s : Shared} (h : wpAny M A t Q E s) (hQ : ∀ a s, Q a s → Q' a s) : wpAny M A t Q' E s := wpAny_mono h hQ fun _ _ x => x
end L2
namespace L2
open PySem PySem.Spec PyProof.Rows
section
variable {X : Cx}
inductive TVarP (i : Nat) (σ : St) (H : Hp) (Q : VK) : Prop
  | mk (v : _) : (σ[i]? = some (some v)) → (Q v H) → TVarP i σ H Q
def tVar (i : Nat) : TE := fun σ H Q => TVarP i σ H Q
def tC (v : V) : TE := fun _ H Q => Q v H
theorem pe_var {i : Nat} {x : Str} {pos : Pos} (hN : X.N[i]? = some x) (hv : Vis X.env.scope x) (hd : (x == ("__debug__" : Str)) = false := by decide) (hcd : (x == ("__classdict__" : Str)) = false := by decide) : PE X (.Name x pos) (tVar i) := by
  intro pins s σ H Q I h
  obtain ⟨v, e, h⟩ := h
  obtain ⟨m, hn, hl⟩ := I.loc
  obtain ⟨u, r, l⟩ := hl i x v hN e hv
  have fin : EP X pins σ Q u s := ⟨v, H, I, r, h⟩
  rcases l with ⟨hk, hm⟩ | ⟨hk, c, hc, hcell⟩
  · exact wpAny_Name (wpAny_loadName_local I.ok.kind hk hn hm fin) hd
  · rcases hk with hk | hk
    · exact wpAny_Name (wpAny_loadName_cell I.ok.kind hk hc hcell fin) hd
    · exact wpAny_Name (wpAny_loadName_free I.ok.kind hk hc hcell fin hcd) hd
theorem pe_int {i j pos} : PE X (.Constant (.int i) j pos) (tC (.int i)) := fun _ _ _ H _ I h => wpAny_Constant_int ⟨.int i, H, I.tok _, ⟨_, rfl⟩, h⟩
theorem pe_bl {b j pos} : PE X (.Constant (.bool b) j pos) (tC (.bl b)) := fun _ _ _ H _ I h => Constant_bool ⟨.bl b, H, I, rfl, h⟩
theorem pe_non {j pos} : PE X (.Constant .none j pos) (tC .non) := fun _ _ _ H _ I h => Constant_none ⟨.non, H, I, rfl, h⟩
theorem pe_str {x j pos} : PE X (.Constant (.str x) j pos) (tC (.str x)) := fun _ _ _ H _ I h => Calls.Constant_str ⟨.str x, H, I.tok _, ⟨_, rfl⟩, h⟩
def Gl (X : Cx) (x : Str) : Prop := X.env.kindOf x = some .globalImplicit
theorem ld_glob {E : Value → Shared → Prop} {pins : List (Addr × Obj)} {s : Shared} {σ : St} {H : Hp} {x : Str} {u : Value} {pos : Pos} {Q : Value → Shared → Prop} (I : Inv X pins σ H s) (hg : Gl X x) (hm : X.mg x = some u) (h : Q u s)
    (hd : (x == ("__debug__" : Str)) = false := by decide) : wpAny (model X.prog X.w) X.A (eval (.Name x pos) X.env) Q E s :=
  Calls.Name_function_global I.ok.kind hg (Calls.loadGlobal_global (by rw [I.ok.glob]; exact I.mod.glob.keeps I.bk) hm h) hd
theorem ld_blt {E : Value → Shared → Prop} {pins : List (Addr × Obj)} {s : Shared} {σ : St} {H : Hp} {x : Str} {u : Value} {pos : Pos} {Q : Value → Shared → Prop} (I : Inv X pins σ H s) (hg : Gl X x) (hm : X.mg x = none) (hv : bootBuiltins x = some u) (h : Q u s)
    (hn : x ≠ "__name__" := by decide) (hd : (x == ("__debug__" : Str)) = false := by decide) : wpAny (model X.prog X.w) X.A (eval (.Name x pos) X.env) Q E s := by
  obtain ⟨mb, h1, h2⟩ := I.mod.blt
  exact Calls.Name_function_global I.ok.kind hg (Calls.loadGlobal_builtin (by rw [I.ok.glob]; exact I.mod.glob.keeps I.bk) hm (by rw [I.ok.blt]; exact h1.keeps I.bk) ((h2 x hn).trans hv) h) hd
variable {a b : Expr} {ta tb : TE} {pos : Pos}
def PC (X : Cx) (op : CmpOp) (a b : Expr) (t : TE) : Prop :=
  ∀ (pins : List (Addr × Obj)) (s : Shared) (σ : St) (H : Hp) (Q : VK), Inv X pins σ H s → t σ H Q →
    wpAny (model X.prog X.w) X.A (eval a X.env) (fun v s₁ => wpAny (model X.prog X.w) X.A (eval b X.env) (fun u s₂ => wpAny (model X.prog X.w) X.A (compareOp op v u) (EP X pins σ Q) X.xe s₂) X.xe s₁) X.xe s
inductive BlP (x : V) (H : Hp) (Q : Bool → Hp → Prop) : Prop
  | mk (c : Bool) : (x = .bl c) → (Q c H) → BlP x H Q
def tB (t : TE) : TT := fun σ H Q => t σ H fun x H1 => BlP x H1 Q
theorem pt_cmp {op : CmpOp} {t : TE} (h : PC X op a b t) (h1 : behindInMarks op b = false := by first | exact nobehind _ (by decide) (by decide) | rfl) : PT X (.Compare a [op] [b] pos) (tB t) := by
  intro pins s σ H Q I hw
  refine wpAny_isTrue_Compare1 (thn (h pins s σ H _ I hw) fun v s1 h1 => thn h1 fun u s2 h2 => thn h2 fun c s3 ⟨x, H1, I1, r1, q1⟩ => ?_) h1
  obtain ⟨d, rfl, q⟩ := q1
  cases r1
  exact wpAny_truthy_bool ⟨H1, I1, q⟩
theorem pt_val {e : Expr} {t : TE} (h : PE X e t) (he : ∀ whole, isTrue e X.env whole = (do let v ← whole; standAt e.pos; holding [v] (truthy v)) := by intro _; rfl) : PT X e (tB t) := by
  intro pins s σ H Q I hw
  refine isTrue_plain (thn (h pins s σ H _ I hw) fun v s1 ⟨x, H1, I1, r1, q1⟩ => ?_) (he _)
  obtain ⟨d, rfl, q⟩ := q1
  cases r1
  exact wpAny_truthy_bool ⟨H1, I1, q⟩
variable {tA tB' : TT} {rest : List Expr}
def tOr (t u : TT) : TT := fun σ H Q => t σ H fun c H1 => if c = true then Q true H1 else u σ H1 Q
def tNot (t : TT) : TT := fun σ H Q => t σ H fun c H1 => Q (!c) H1
theorem pw_or1 (ha : PT X a tA) : PW X (.BoolOp .Or [a] pos) tA := by
  intro wh pins s σ H Q I h
  refine isTrue_or (thn (ha pins s σ H Q I h) fun c s1 e => ?_)
  cases c with
  | false => exact isTrue_or_nil e
  | true => exact e
theorem pw_or (ha : PT X a tA) (hb : PW X (.BoolOp .Or (b :: rest) pos) tB') : PW X (.BoolOp .Or (a :: b :: rest) pos) (tOr tA tB') := by
  intro wh pins s σ H Q I h
  refine isTrue_or (thn (ha pins s σ H _ I h) fun c s1 ⟨H1, I1, q1⟩ => ?_)
  cases c with
  | true => exact ⟨H1, I1, q1⟩
  | false => exact hb wh pins s1 σ H1 Q I1 q1
theorem pt_not (ha : PT X a tA) : PT X (.UnaryOp .Not a pos) (tNot tA) := by
  intro pins s σ H Q I h
  exact isTrue_not (ha pins s σ H (fun c H1 => Q (!c) H1) I h)
def tAndV (ta tb : TE) : TE := fun σ H Q => ta σ H fun x H1 => ∃ c, x = .bl c ∧ if c = true then tb σ H1 Q else Q (.bl false) H1
def tOrV (ta tb : TE) : TE := fun σ H Q => ta σ H fun x H1 => ∃ c, x = .bl c ∧ if c = true then Q (.bl true) H1 else tb σ H1 Q
def tNotV (ta : TE) : TE := fun σ H Q => ta σ H fun x H1 => ∃ c, x = .bl c ∧ Q (.bl (!c)) H1
theorem pe_one {op} {t : TE} (h : PE X a t) : PE X (.BoolOp op [a] pos) t := fun pins s σ H Q I hw => BoolOp_one (h pins s σ H Q I hw)
theorem pe_and (ha : PE X a ta) (hb : PE X (.BoolOp .And (b :: rest) pos) tb) : PE X (.BoolOp .And (a :: b :: rest) pos) (tAndV ta tb) := by
  intro pins s σ H Q I h
  refine BoolOp_and (thn (ha pins s σ H _ I h) fun v s1 ⟨x, H1, I1, r1, q1⟩ => ?_)
  obtain ⟨c, rfl, q1⟩ := q1
  cases r1
  refine wpAny_truthy_bool ?_
  cases c with
  | true => exact hb pins s1 σ H1 Q I1 q1
  | false => exact ⟨.bl false, H1, I1, rfl, q1⟩
theorem pe_or (ha : PE X a ta) (hb : PE X (.BoolOp .Or (b :: rest) pos) tb) : PE X (.BoolOp .Or (a :: b :: rest) pos) (tOrV ta tb) := by
  intro pins s σ H Q I h
  refine BoolOp_or (thn (ha pins s σ H _ I h) fun v s1 ⟨x, H1, I1, r1, q1⟩ => ?_)
  obtain ⟨c, rfl, q1⟩ := q1
  cases r1
  refine wpAny_truthy_bool ?_
  cases c with
  | false => exact hb pins s1 σ H1 Q I1 q1
  | true => exact ⟨.bl true, H1, I1, rfl, q1⟩
theorem pe_not (ha : PE X a ta) : PE X (.UnaryOp .Not a pos) (tNotV ta) := by
  intro pins s σ H Q I h
  refine UnaryOp_ (thn (ha pins s σ H _ I h) fun v s1 ⟨x, H1, I1, r1, q1⟩ => ?_)
  obtain ⟨c, rfl, q1⟩ := q1
  cases r1
  exact not_of (wpAny_truthy_bool ⟨.bl (!c), H1, I1, rfl, q1⟩)
def tIf (t : TT) (ta tb : TE) : TE := fun σ H Q => t σ H fun c H1 => if c = true then ta σ H1 Q else tb σ H1 Q
theorem pe_ifExp {c : Expr} (hc : PT X c tA) (ha : PE X a ta) (hb : PE X b tb) : PE X (.IfExp c a b pos) (tIf tA ta tb) := by
  intro pins s σ H Q I h
  refine wpAny_IfExp (thn (hc pins s σ H _ I h) fun d s1 ⟨H1, I1, q1⟩ => ?_)
  cases d with
  | true => exact ha pins s1 σ H1 Q I1 q1
  | false => exact hb pins s1 σ H1 Q I1 q1
end
end L2
namespace L2
open PySem PySem.Spec PyProof.Rows
def SqL (K : PySem.W.Frag) (H : Hp) (a : Addr) (xs : List V) : Prop :=
  Rd H a (.lst xs) ∨
    ∃ (o : Obj) (its : Array Value) (n : Nat), K.lookup a = some o ∧ o.cls = .type "list" ∧ o.dict = none ∧ o.data = .seq its n ∧ its.size ≤ sizeLine ∧ Vals xs its.toList
def SqT (K : PySem.W.Frag) (H : Hp) (a : Addr) (xs : List V) : Prop :=
  Rd H a (.tup xs) ∨
    ∃ (o : Obj) (its : Array Value) (n : Nat), K.lookup a = some o ∧ o.cls = .type "tuple" ∧ o.data = .seq its n ∧ its.size ≤ sizeLine ∧ Vals xs its.toList
def absV : Value → Option V
  | .none => some .non
  | .bool b => some (.bl b)
  | .int i _ => some (.int i)
  | .str x _ => some (.str x)
  | .bytes b _ => some (.byt b)
  | .float b _ => some (.flt b)
  | .ref a => some (.ref a)
  | .type n => some (.ty n)
  | _ => none
theorem RelV.abs {x : V} {u : Value} (r : RelV x u) : absV u = some x := by
  cases x with
  | non => cases r; rfl
  | bl _ => cases r; rfl
  | int _ => obtain ⟨t, rfl⟩ := r; rfl
  | str _ => obtain ⟨t, rfl⟩ := r; rfl
  | byt _ => obtain ⟨t, rfl⟩ := r; rfl
  | flt _ => obtain ⟨t, rfl⟩ := r; rfl
  | ref _ => cases r; rfl
  | ty _ => cases r; rfl
theorem RelV.inj {x y : V} {u : Value} (r : RelV x u) (q : RelV y u) : x = y := Option.some.inj (r.abs.symm.trans q.abs)
theorem Vals.inj : ∀ {xs ys : List V} {us : List Value}, Vals xs us → Vals ys us → xs = ys
  | _, _, _, .nil, .nil => rfl
  | _, _, _, .cons r t, .cons r' t' => by rw [r.inj r', Vals.inj t t']
section
variable {X : Cx} {pins : List (Addr × Obj)} {σ : St} {H : Hp} {s : Shared} {a : Addr} {xs ys : List V}
theorem SqL.of {K : PySem.W.Frag} (h : H a = some (.lst xs)) : SqL K H a xs := .inl (.inl h)
theorem SqT.of {K : PySem.W.Frag} (h : H a = some (.tup xs)) : SqT K H a xs := .inl (.inl h)
theorem Inv.list (I : Inv X pins σ H s) (h : SqL X.K H a xs) : ∃ its : List Value, Vals xs its ∧ PlainL s.heap a its.toArray ∧ xs.length ≤ sizeLine := by
  rcases h with h | ⟨o, its, n, hk, hc, hd, hs, hz, r⟩
  · obtain ⟨z, its, n, r, e⟩ := h.ok I.hok
    exact ⟨its, r, ⟨_, n, e, rfl, rfl, rfl⟩, z⟩
  · refine ⟨its.toList, r, ⟨o, n, I.kIn a o hk, hc, hd, by simpa using hs⟩, ?_⟩
    have e := r.length
    simp only [Array.length_toList] at e
    omega
theorem Inv.tuple (I : Inv X pins σ H s) (h : SqT X.K H a xs) : ∃ its : List Value, Vals xs its ∧ IsTup s.heap a its.toArray ∧ xs.length ≤ sizeLine := by
  rcases h with h | ⟨o, its, n, hk, hc, hs, hz, r⟩
  · obtain ⟨z, its, r, p⟩ := h.ok I.hok
    exact ⟨its, r, p.tup, z⟩
  · refine ⟨its.toList, r, ⟨o, I.kIn a o hk, hc, n, by simpa using hs⟩, ?_⟩
    have e := r.length
    simp only [Array.length_toList] at e
    omega
theorem Inv.list_inj (I : Inv X pins σ H s) (h : SqL X.K H a xs) (h' : SqL X.K H a ys) : xs = ys := by
  obtain ⟨its, r, ⟨o, n, e, _, _, d⟩, _⟩ := I.list h
  obtain ⟨its', r', ⟨o', n', e', _, _, d'⟩, _⟩ := I.list h'
  rw [e] at e'; cases e'
  rw [d] at d'
  injection d' with d1 _
  have : its = its' := by simpa using congrArg Array.toList d1
  subst this
  exact r.inj r'
theorem Inv.tuple_inj (I : Inv X pins σ H s) (h : SqT X.K H a xs) (h' : SqT X.K H a ys) : xs = ys := by
  obtain ⟨its, r, ⟨o, e, _, n, d⟩, _⟩ := I.tuple h
  obtain ⟨its', r', ⟨o', e', _, n', d'⟩, _⟩ := I.tuple h'
  rw [e] at e'; cases e'
  rw [d] at d'
  injection d' with d1 _
  have : its = its' := by simpa using congrArg Array.toList d1
  subst this
  exact r.inj r'
end
abbrev Cx.wish (X : Cx) (E : Value → Shared → Prop) : Cx := { X with xe := E }
abbrev Cx.nox (X : Cx) : Cx := X.wish fun _ _ => False
theorem Cx.Ok.wish {X : Cx} (ok : X.Ok) (E : Value → Shared → Prop) : (X.wish E).Ok :=
  ⟨ok.mod, ok.kind, ok.glob, ok.blt, ok.above, ok.inj, ok.has, ok.cab, ok.hd, ok.frames, ok.stk, ok.exf, ok.bs, ok.bsz, ok.noex, ok.exfs, ok.funs, ok.frf⟩
theorem Cx.Ok.unwish {X : Cx} {E : Value → Shared → Prop} (ok : (X.wish E).Ok) : X.Ok :=
  ⟨ok.mod, ok.kind, ok.glob, ok.blt, ok.above, ok.inj, ok.has, ok.cab, ok.hd, ok.frames, ok.stk, ok.exf, ok.bs, ok.bsz, ok.noex, ok.exfs, ok.funs, ok.frf⟩
section
variable {X : Cx} {pins : List (Addr × Obj)} {σ : St} {H : Hp} {s : Shared} {E : Value → Shared → Prop}
theorem Inv.wish (I : Inv X pins σ H s) (E : Value → Shared → Prop) : Inv (X.wish E) pins σ H s := ⟨I.ok.wish E, I.os, I.bare, I.base, I.loc, I.cell, I.free, I.freeC, I.pin, I.hok, I.len⟩
theorem Inv.unwish (I : Inv (X.wish E) pins σ H s) : Inv X pins σ H s := ⟨I.ok.unwish, I.os, I.bare, I.base, I.loc, I.cell, I.free, I.freeC, I.pin, I.hok, I.len⟩
theorem SP.unwish {D : Ends} {f : Flow} {s' : Shared} (h : SP (X.wish E) pins D f s') : SP X pins D f s' := by
  cases f with
  | next => obtain ⟨σ', H', I, q⟩ := h; exact ⟨σ', H', I.unwish, q⟩
  | brk => obtain ⟨σ', H', I, q⟩ := h; exact ⟨σ', H', I.unwish, q⟩
  | cont => obtain ⟨σ', H', I, q⟩ := h; exact ⟨σ', H', I.unwish, q⟩
  | ret u => obtain ⟨v, σ', H', I, r, q⟩ := h; exact ⟨v, σ', H', I.unwish, r, q⟩
theorem PSs.nox {st : List Stmt} {t : TS} (h : PSs X.nox st t) : PSs X st t := fun pins s σ H D I hw =>
  wpAny_mono (h pins s σ H D (I.wish _) hw) (fun _ _ q => q.unwish) fun _ _ z => False.elim z
end
section
variable {X : Cx} {st : Stmt} {rest : List Stmt} {t u : TS} {e : Expr} {te : TE} {pos : Pos}
def tNext : TS := fun D σ H => D.nx σ H
def tSeq (t u : TS) : TS := fun D σ H => t { D with nx := u D } σ H
theorem pss_nil : PSs X [] tNext := fun _ _ σ H _ I h => wpAny_execs_nil ⟨σ, H, I, h⟩
theorem pss_cons (h1 : PS X st t) (h2 : PSs X rest u) : PSs X (st :: rest) (tSeq t u) := by
  intro pins s σ H D I h
  refine wpAny_execs_cons (thn (h1 pins s σ H { D with nx := u D } I h) fun f s1 q => ?_)
  cases f with
  | next =>
    obtain ⟨σ', H', I', q⟩ := q
    exact h2 pins s1 σ' H' D I' q
  | ret v => exact q
  | brk => exact q
  | cont => exact q
theorem pss_one (h1 : PS X st t) : PSs X [st] t := by
  intro pins s σ H D I h
  refine wpAny_execs_cons (thn (h1 pins s σ H D I h) fun f s1 q => ?_)
  cases f with
  | next => exact wpAny_execs_nil q
  | ret v => exact q
  | brk => exact q
  | cont => exact q
theorem Inv.quiet {pins : List (Addr × Obj)} {σ : St} {H : Hp} {s : Shared} (I : Inv X pins σ H s) : interactive X.env = false := by simp [interactive, I.ok.kind]
def tDrop (te : TE) : TS := fun D σ H => te σ H fun _ H1 => D.nx σ H1
theorem ps_expr (he : PE X e te) (hs : swapsWith e none pos.line X.env = pure false := by rfl) : PS X (.Expr e pos) (tDrop te) := by
  intro pins s σ H D I h
  exact wpAny_Expr_any (thn (he pins s σ H _ I h) fun v s1 ⟨x, H1, I1, r1, q1⟩ => ⟨σ, H1, I1, q1⟩) I.quiet hs
def tRet (te : TE) : TS := fun D σ H => te σ H D.rt
theorem ps_ret (he : PE X e te) : PS X (.Return (some e) pos) (tRet te) := by
  intro pins s σ H D I h
  exact wpAny_Return_some (thn (he pins s σ H _ I h) fun v s1 ⟨x, H1, I1, r1, q1⟩ => ⟨x, σ, H1, I1, r1, q1⟩)
def tIfS (c : TT) (t u : TS) : TS := fun D σ H => c σ H fun b H1 => if b = true then t D σ H1 else u D σ H1
theorem ps_if {c : Expr} {a b : List Stmt} {tc : TT} (hc : PT X c tc) (ha : PSs X a t) (hb : PSs X b u) : PS X (.If c a b pos) (tIfS tc t u) := by
  intro pins s σ H D I h
  refine wpAny_If (thn (hc pins s σ H _ I h) fun d s1 ⟨H1, I1, q1⟩ => ?_)
  cases d with
  | true => exact ha pins s1 σ H1 D I1 q1
  | false => exact hb pins s1 σ H1 D I1 q1
def tNever : TS := fun _ _ _ => False
theorem ps_never : PS X st tNever := fun _ _ _ _ _ _ h => h.elim
end
abbrev TG := V → St → Hp → (St → Hp → Prop) → Prop
abbrev TGs := List V → St → Hp → (St → Hp → Prop) → Prop
def PG (X : Cx) (target : Expr) (t : TG) : Prop :=
  ∀ (pins : List (Addr × Obj)) (s : Shared) (σ : St) (H : Hp) (v : V) (u : Value) (Q : St → Hp → Prop), Inv X pins σ H s → RelV v u → t v σ H Q →
    wpAny (model X.prog X.w) X.A (assign target X.env u) (fun _ s' => ∃ σ' H', Inv X pins σ' H' s' ∧ Q σ' H') X.xe s
def PGs (X : Cx) (ts : List Expr) (t : TGs) : Prop :=
  ∀ (pins : List (Addr × Obj)) (s : Shared) (σ : St) (H : Hp) (vs : List V) (us : List Value) (Q : St → Hp → Prop), Inv X pins σ H s → Vals vs us → t vs σ H Q →
    wpAny (model X.prog X.w) X.A (assignInOrder ((assignEach ts X.env).map (·.2)) us) (fun _ s' => ∃ σ' H', Inv X pins σ' H' s' ∧ Q σ' H') X.xe s
abbrev TSet := V → V → V → Hp → (Hp → Prop) → Prop
def PSet (X : Cx) (t : TSet) : Prop :=
  ∀ (pins : List (Addr × Obj)) (s : Shared) (σ : St) (H : Hp) (o i v : V) (ov iv u : Value) (Q : Hp → Prop), Inv X pins σ H s → RelV o ov → RelV i iv → RelV v u → t o i v H Q →
    wpAny (model X.prog X.w) X.A (setItem ov iv u) (fun _ s' => ∃ H', Inv X pins σ H' s' ∧ Q H') X.xe s
abbrev TIp := V → V → Hp → VK → Prop
def PIp (X : Cx) (op : Operator) (t : TIp) : Prop :=
  ∀ (pins : List (Addr × Obj)) (s : Shared) (σ : St) (H : Hp) (x y : V) (v u : Value) (Q : VK), Inv X pins σ H s → RelV x v → RelV y u → t x y H Q →
    wpAny (model X.prog X.w) X.A (inplaceOp op v u) (EP X pins σ Q) X.xe s
section
variable {X : Cx} {pos : Pos}
def gName (i : Nat) : TG := fun v σ H Q => Q (σ.set i (some v)) H
theorem pg_name {i : Nat} {x : Str} (hN : X.N.Nodup) (hi : X.N[i]? = some x) (hx : Loc X.env.scope x) (hf : X.fn x = true ∨ X.env.scope.names.lookup x = some .local := by first | exact .inl rfl | exact .inr rfl | assumption) : PG X (.Name x pos) (gName i) := by
  intro pins s σ H v u Q I r h
  exact wpAny_assign_Name (store_ok I hN hi hx r (fun s' I' => ⟨_, H, I', h⟩) hf)
def gNil : TGs := fun vs σ H Q => vs = [] ∧ Q σ H
def gCons (t : TG) (u : TGs) : TGs := fun vs σ H Q => ∃ v r, vs = v :: r ∧ t v σ H fun σ' H' => u r σ' H' Q
theorem pgs_nil : PGs X [] gNil := by
  intro pins s σ H vs us Q I r h
  obtain ⟨e, h⟩ := h
  subst e
  cases r
  exact assignInOrder_nil ⟨σ, H, I, h⟩
theorem pgs_cons {e : Expr} {es : List Expr} {t : TG} {u : TGs} (h1 : PG X e t) (h2 : PGs X es u)
    (hs : (assignEach (e :: es) X.env).map (·.2) = assign e X.env :: (assignEach es X.env).map (·.2) := by rfl) : PGs X (e :: es) (gCons t u) := by
  intro pins s σ H vs us Q I r h
  obtain ⟨v, vr, e1, h⟩ := h
  subst e1
  cases r with
  | cons r rr =>
    rw [hs]
    refine assignInOrder_cons (thn (h1 pins s σ H _ _ _ I r h) fun _ s1 ⟨σ1, H1, I1, q1⟩ => ?_)
    exact h2 pins s1 σ1 H1 _ _ Q I1 rr q1
def gTup (K : PySem.W.Frag) (n : Nat) (t : TGs) : TG := fun v σ H Q => ∃ a xs, v = .ref a ∧ SqT K H a xs ∧ xs.length = n ∧ t xs σ H Q
theorem pg_tup {es : List Expr} {k : Nat} {t : TGs} {n : Nat} (hc : X.calm = true) (h : PGs X es t)
    (hn : (assignEach es X.env).length = n := by rfl) (hst : (assignEach es X.env).findIdx? (·.1) = none := by rfl) : PG X (.Tuple es k pos) (gTup X.K n t) := by
  intro pins s σ H v u Q I r hw
  obtain ⟨a, xs, e1, hq, hl, hw⟩ := hw
  subst e1
  cases r
  obtain ⟨its, rv, ht, hz⟩ := I.tuple hq
  refine assign_Tuple_tuple (I.ok.hd hc) ht (by simp [hn, ← hl, rv.length]) hst fun h' hx => ?_
  have I1 : Inv X pins σ H { s with heap := h' } := I.kept (t' := s.toks) fun b o e => hx b o (Nat.ne_of_lt (Heap.lt_size e)) e
  exact h pins _ σ H xs _ Q I1 (by simpa using rv) hw
def gSub (to ti : TE) (t : TSet) : TG := fun v σ H Q => to σ H fun o H1 => ti σ H1 fun i H2 => t o i v H2 fun H3 => Q σ H3
theorem pg_sub {o i : Expr} {to ti : TE} {t : TSet} (ho : PE X o to) (hi : PE X i ti) (hs : PSet X t)
    (ha : ∀ v, assign (.Subscript o i pos) X.env v = (do
      let ov ← holding [v] (eval o X.env)
      let iv ← holding [v, ov] (eval i X.env)
      standAt pos
      holding [v, ov, iv] (setItem ov iv v)
      release [v, ov, iv] []) := by intro _; rfl) : PG X (.Subscript o i pos) (gSub to ti t) := by
  intro pins s σ H v u Q I r h
  rw [ha]
  refine wpAny_bind (wpAny_holding (thn (ho pins s σ H _ I h) fun ov s1 ⟨x, H1, I1, r1, q1⟩ => ?_))
  refine wpAny_bind (wpAny_holding (thn (hi pins s1 σ H1 _ I1 q1) fun iv s2 ⟨y, H2, I2, r2, q2⟩ => ?_))
  refine wpAny_bind (wpAny_standAt (wpAny_bind (wpAny_holding (thn (hs pins s2 σ H2 x y v ov iv u _ I2 r1 r2 r q2) fun _ s3 ⟨H3, I3, q3⟩ => ?_))))
  exact wpAny_release ⟨σ, H3, I3, q3⟩
def tAsg (te : TE) (g : TG) : TS := fun D σ H => te σ H fun x H1 => g x σ H1 D.nx
theorem ps_asg {tg e : Expr} {te : TE} {g : TG} (he : PE X e te) (hg : PG X tg g) (hs : swapsWithSole [tg] e pos.line X.env = pure false := by rfl) (hw : swappedStores [tg] e X.env = pure none := by rfl)
    (h1 : (assignEach [tg] X.env).map (·.2) = [assign tg X.env] := by rfl) : PS X (.Assign [tg] e pos) (tAsg te g) := by
  intro pins s σ H D I h
  refine wpAny_Assign_stores (thn (he pins s σ H _ I h) fun v s1 ⟨x, H1, I1, r1, q1⟩ => ?_) hs hw
  rw [h1]
  exact thn (hg pins s1 σ H1 x v _ I1 r1 q1) fun _ s2 q => q
theorem ps_set {i : Nat} {x : Str} {e : Expr} {te : TE} {pos' : Pos} (hN : X.N.Nodup) (hi : X.N[i]? = some x) (hx : Loc X.env.scope x) (he : PE X e te) (hs : swapsWith e (some (.Name x pos')) pos.line X.env = pure false := by rfl) (hf : X.fn x = true ∨ X.env.scope.names.lookup x = some .local := by first | exact .inl rfl | exact .inr rfl | assumption) :
    PS X (.Assign [.Name x pos'] e pos) (tAsg te (gName i)) := by
  intro pins s σ H D I h
  refine wpAny_Assign_Name (thn (he pins s σ H _ I h) fun v s1 ⟨y, H1, I1, r1, q1⟩ => ?_) hs
  exact store_ok I1 hN hi hx r1 (fun s2 I2 => ⟨_, H1, I2, q1⟩) hf
def tAug (i : Nat) (te : TE) (ti : TIp) : TS := fun D σ H => ∃ x, σ[i]? = some (some x) ∧ te σ H fun y H1 => ti x y H1 fun z H2 => D.nx (σ.set i (some z)) H2
theorem ps_aug {i : Nat} {x : Str} {e : Expr} {te : TE} {op : Operator} {ti : TIp} {pos' : Pos} (hN : X.N.Nodup) (hi : X.N[i]? = some x) (hx : Loc X.env.scope x) (he : PE X e te) (ho : PIp X op ti) (hf : X.fn x = true ∨ X.env.scope.names.lookup x = some .local := by first | exact .inl rfl | exact .inr rfl | assumption) :
    PS X (.AugAssign (.Name x pos') op e pos) (tAug i te ti) := by
  intro pins s σ H D I h
  obtain ⟨v, e1, h⟩ := h
  obtain ⟨m, hn, hl⟩ := I.loc
  have vis : Vis X.env.scope x := by rcases hx with k | k; exact .inl k; exact .inr (.inl k)
  obtain ⟨u, r, l⟩ := hl i x v hi e1 vis
  refine wpAny_AugAssign_Name ?_
  have go : wpAny (model X.prog X.w) X.A (eval e X.env) (fun w s₂ => wpAny (model X.prog X.w) X.A (inplaceOp op u w) (fun r s₃ => wpAny (model X.prog X.w) X.A (storeName X.env x r) (fun _ => SP X pins D .next) X.xe s₃) X.xe s₂) X.xe s := by
    refine thn (he pins s σ H _ I h) fun w s1 ⟨y, H1, I1, r1, q1⟩ => ?_
    refine thn (ho pins s1 σ H1 v y u w _ I1 r r1 q1) fun z s2 ⟨zv, H2, I2, r2, q2⟩ => ?_
    exact store_ok I2 hN hi hx r2 (fun s3 I3 => ⟨_, H2, I3, q2⟩) hf
  rcases l with ⟨hk, hm⟩ | ⟨hk, c, hc, hcell⟩
  · exact wpAny_loadName_local I.ok.kind hk hn hm go
  · rcases hk with hk | hk
    · exact wpAny_loadName_cell I.ok.kind hk hc hcell go
    · rcases hx with k | k
      · have : X.env.scope.names.lookup x = some .free := hk
        rw [k] at this; cases this
      · have : X.env.scope.names.lookup x = some .free := hk
        rw [k] at this; cases this
def ipI (f : Int → Int → Int) : TIp := fun x y H Q => ∃ i j, x = .int i ∧ y = .int j ∧ Q (.int (f i j)) H
theorem ip_add : PIp X .Add (ipI fun i j => i + j) := by
  intro pins s σ H x y v u Q I r1 r2 h
  obtain ⟨i, j, e1, e2, q⟩ := h
  subst e1; subst e2
  obtain ⟨t, rfl⟩ := r1
  obtain ⟨t', rfl⟩ := r2
  exact iadd_int ⟨.int _, H, I.tok _, ⟨_, rfl⟩, q⟩
end
section
variable {X : Cx} {pos : Pos}
def tWhile (c : TT) (tb : TS) : TS := fun D σ H => ∃ W : Nat → St → Hp → Prop, (∃ m, W m σ H) ∧ ∀ m σ H, W m σ H →
  c σ H fun b H1 => if b = true then ∃ N : St → Hp → Prop, (∀ σ' H', N σ' H' → ∃ m', m' < m ∧ W m' σ' H') ∧ tb { D with nx := N, ct := N, bk := D.nx } σ H1 else D.nx σ H1
theorem ps_while {c : Expr} {body : List Stmt} {tc : TT} {tb : TS} (hp : PassesOwn (model X.prog X.w) X.A X.env X.xe) (hc : PT X c tc) (hb : PSs X body tb) : PS X (.While c body [] pos) (tWhile tc tb) := by
  intro pins s σ H D I h
  obtain ⟨W, ⟨m0, w0⟩, turn⟩ := h
  refine wpAny_While (codeAny_whileLoop (fun n s' => ∃ σ' H', Inv X pins σ' H' s' ∧ W n σ' H') ?_ m0 ⟨σ, H, I, w0⟩)
  rintro n s1 ⟨σ1, H1, I1, w1⟩
  refine wpAny_passesOwn hp (thn (hc pins s1 σ1 H1 _ I1 (turn n σ1 H1 w1)) fun b s2 ⟨H2, I2, q2⟩ => ?_)
  cases b with
  | true =>
    obtain ⟨N, hN, q2⟩ := q2
    rw [if_pos rfl]
    refine wpAny_passesOwn hp (thn (hb pins s2 σ1 H2 _ I2 q2) fun f s3 q3 => ?_)
    cases f with
    | next =>
      obtain ⟨σ3, H3, I3, n3⟩ := q3
      obtain ⟨m', hm, w3⟩ := hN σ3 H3 n3
      exact ⟨m', hm, σ3, H3, I3, w3⟩
    | cont =>
      obtain ⟨σ3, H3, I3, n3⟩ := q3
      obtain ⟨m', hm, w3⟩ := hN σ3 H3 n3
      exact ⟨m', hm, σ3, H3, I3, w3⟩
    | brk => exact q3
    | ret v => exact q3
  | false =>
    rw [if_neg Bool.false_ne_true]
    exact wpAny_execs_nil ⟨σ1, H2, I2, q2⟩
end
structure It where
  go : Nat → Hp → Prop
  yld : Nat → Hp → V → Hp → Prop
  stop : Nat → Hp → Prop
def FpOk (X : Cx) (pins : List (Addr × Obj)) (H : Hp) (b : Addr) : Prop :=
  H b = none ∧ b ≠ X.env.locals ∧ b ∉ X.fs ∧ (b ∈ X.ex ∨ X.s₀.heap.objs.size ≤ b) ∧ (∀ x c, X.env.cells.lookup x = some c → c ≠ b) ∧ ∀ p ∈ X.pn ++ pins, p.1 ≠ b
theorem Inv.fpOk {X : Cx} {pins : List (Addr × Obj)} {σ : St} {H H' : Hp} {s : Shared} {b : Addr} (I : Inv X pins σ H s) (hb : s.heap.objs.size ≤ b) (hn : H' b = none) : FpOk X pins H' b := by
  refine ⟨hn, Nat.ne_of_gt (Nat.lt_of_lt_of_le I.lt hb), I.nofs hb, .inr (Nat.le_trans I.sz hb), fun x c e z => ?_, fun p hp z => ?_⟩
  · obtain ⟨v, q⟩ := I.cell x c e
    exact absurd (Nat.lt_of_lt_of_le q.lt (by rw [z]; exact hb)) (Nat.lt_irrefl _)
  · exact absurd (Nat.lt_of_lt_of_le (Heap.lt_size (I.pin p hp).1) (by rw [z]; exact hb)) (Nat.lt_irrefl _)
structure Turn (P : Program) (w : World) (K : PySem.W.Frag) (tg : Expr) (J : It) (fp : List Addr) (it : Addr) (tn : Nat → Heap → Prop) : Prop where
  mem : it ∈ fp
  obj : ∀ i h, tn i h → ∀ b ∈ fp, ∃ o, h.get? b = some o ∧ ∀ v, o.data ≠ .cell v
  keep : ∀ i h h', tn i h → (∀ b ∈ fp, ∀ o, h.get? b = some o → h'.get? b = some o) → tn i h'
  item : ∀ (X : Cx), X.prog = P → X.w = w → X.K = K → X.calm = true → ∀ (i : Nat) (pins : List (Addr × Obj)) (s : Shared) (σ : St) (H : Hp) (E : Value → Shared → Prop), Inv X pins σ H s → (∀ b ∈ fp, FpOk X pins H b) → tn i s.heap → J.go i H →
    wpAny (model P w) X.A (pyNext (.ref it)) (fun r s1 => ∃ u, r = some u ∧
      wpAny (model P w) X.A (letOwnedTupleGo tg (.ref it) u) (fun _ s2 => ∃ x H', Inv X pins σ H' s2 ∧ RelV x u ∧ J.yld i H x H' ∧ tn (i + 1) s2.heap ∧ ∀ b ∈ fp, H' b = none) E s1) E s
  done : ∀ (X : Cx), X.prog = P → X.w = w → X.K = K → X.calm = true → ∀ (i : Nat) (pins : List (Addr × Obj)) (s : Shared) (σ : St) (H : Hp) (E : Value → Shared → Prop), Inv X pins σ H s → (∀ b ∈ fp, FpOk X pins H b) → tn i s.heap → J.stop i H →
    wpAny (model P w) X.A (pyNext (.ref it)) (fun r s1 => r = none ∧ Inv X pins σ H s1) E s
  self : ∀ (A : Around) (i : Nat) (s : Shared) (Q : Value → Shared → Prop) (E : Value → Shared → Prop), tn i s.heap → Q (.ref it) s → wpAny (model P w) A (pyIter (.ref it)) Q E s
abbrev TI := St → Hp → (It → Hp → Prop) → Prop
def PIE (X : Cx) (pins : List (Addr × Obj)) (σ : St) (tg : Expr) (R : It → Hp → Prop) (itv : Value) (s2 : Shared) : Prop :=
  ∃ (it : Addr) (fp : List Addr) (tn : Nat → Heap → Prop) (J : It) (H' : Hp), itv = .ref it ∧ Inv X pins σ H' s2 ∧ Turn X.prog X.w X.K tg J fp it tn ∧ tn 0 s2.heap ∧ (∀ b ∈ fp, FpOk X pins H' b) ∧ R J H'
def PI (X : Cx) (tg iter : Expr) (wi : TI) : Prop :=
  ∀ (pins : List (Addr × Obj)) (s : Shared) (σ : St) (H : Hp) (R : It → Hp → Prop), Inv X pins σ H s → wi σ H R →
    wpAny (model X.prog X.w) X.A (eval iter X.env) (fun v s1 => wpAny (model X.prog X.w) X.A (pyIter v) (PIE X pins σ tg R) X.xe s1) X.xe s
theorem go_of {M : Model} {A : Around} {E : Value → Shared → Prop} {s : Shared} {tg : Expr} {it : Addr} {u : Value} {o : Obj} {n : String} {vs : Array Value} {Q : Unit → Shared → Prop} (ho : s.heap.get? it = some o) (hc : o.cls = .type n) (hd : o.data = .fields vs)
    (hn : ["enumerate", "zip", "dict_itemiterator", "dict_reverseitemiterator", "odict_iterator", "itertools.zip_longest", "itertools.pairwise"].contains n = false) (hQ : Q () s) : wpAny M A (letOwnedTupleGo tg (.ref it) u) Q E s := by
  unfold letOwnedTupleGo
  cases tg <;> first
    | exact wpAny_pure hQ
    | (cases u <;> first
        | exact wpAny_pure hQ
        | (refine wpAny_bind (wpAny_load ho ?_)
           rw [hc, hd]
           show wpAny M A (if (["enumerate", "zip", "dict_itemiterator", "dict_reverseitemiterator", "odict_iterator", "itertools.zip_longest", "itertools.pairwise"].contains n && vs[0]? == some (rawInt _)) = true then _ else _) Q E s
           rw [if_neg (by intro h; rw [hn, Bool.false_and] at h; cases h)]
           exact wpAny_pure hQ))
def Itl (K : PySem.W.Frag) (a : Addr) : It :=
  ⟨fun i H => ∃ xs x, SqL K H a xs ∧ xs[i]? = some x, fun i H x H' => H' = H ∧ ∀ xs, SqL K H a xs → xs[i]? = some x, fun i H => ∃ xs, SqL K H a xs ∧ xs.length ≤ i⟩
def Itt (K : PySem.W.Frag) (a : Addr) : It :=
  ⟨fun i H => ∃ xs x, SqT K H a xs ∧ xs[i]? = some x, fun i H x H' => H' = H ∧ ∀ xs, SqT K H a xs → xs[i]? = some x, fun i H => ∃ xs, SqT K H a xs ∧ xs.length ≤ i⟩
def Itr (lo : Int) (n : Nat) : It := ⟨fun i _ => i < n, fun i H x H' => H' = H ∧ x = .int (lo + i), fun i _ => n ≤ i⟩
theorem turn_list {P : Program} {w : World} {K : PySem.W.Frag} {tg : Expr} (a it : Addr) : Turn P w K tg (Itl K a) [it] it (fun i h => h.IsListIter it a i) where
  mem := by simp
  obj := fun i h st b hb => by
    have e : b = it := by simpa using hb
    subst e
    obtain ⟨o, e, c, d⟩ := st
    exact ⟨o, e, fun v z => by rw [d] at z; cases z⟩
  keep := fun i h h' st k => st.at fun o e => k it (by simp) o e
  item := by
    intro X hP hw hK hc i pins s σ H E I hf st hg
    subst hP hw hK
    obtain ⟨xs, x, hq, hx⟩ := hg
    obtain ⟨its, rv, p, hz⟩ := I.list hq
    obtain ⟨u, hu, ru⟩ := rv.get hx
    obtain ⟨f0, f1, f2, f3, f4, f5⟩ := hf it (by simp)
    refine wpAny_pyNext_list_item st p.isList (x := u) (by simpa using hu) fun h' st' sb => ?_
    have I1 : Inv X pins σ H { s with heap := h' } := I.turned (t' := s.toks) (fun b o hb e => (sb.2 b hb).trans e) f0 f1 f3 f4 f5
    obtain ⟨o, e, c, d⟩ := id st'
    exact ⟨u, rfl, go_of (s := { s with heap := h' }) e c d (by decide) ⟨x, H, I1, ru, ⟨rfl, fun ys hy => by rw [I.list_inj hy hq]; exact hx⟩, st', fun b hb => (hf b hb).1⟩⟩
  done := by
    intro X hP hw hK hc i pins s σ H E I hf st hg
    subst hP hw hK
    obtain ⟨xs, hq, hx⟩ := hg
    obtain ⟨its, rv, p, hz⟩ := I.list hq
    obtain ⟨f0, f1, f2, f3, f4, f5⟩ := hf it (by simp)
    have hl := rv.length
    exact wpAny_pyNext_list_end (I.ok.hd hc) st p.isList (by simp; omega) fun h' eb => ⟨rfl, I.turned (t' := s.toks) (fun b o hb e => eb b o hb e) f0 f1 f3 f4 f5⟩
  self := fun _ _ _ _ _ st h => wpAny_pyIter_listiter st h
theorem turn_tuple {P : Program} {w : World} {K : PySem.W.Frag} {tg : Expr} (a it : Addr) : Turn P w K tg (Itt K a) [it] it (fun i h => h.IsTupleIter it a i) where
  mem := by simp
  obj := fun i h st b hb => by
    have e : b = it := by simpa using hb
    subst e
    obtain ⟨o, e, c, d⟩ := st
    exact ⟨o, e, fun v z => by rw [d] at z; cases z⟩
  keep := fun i h h' st k => st.at fun o e => k it (by simp) o e
  item := by
    intro X hP hw hK hc i pins s σ H E I hf st hg
    subst hP hw hK
    obtain ⟨xs, x, hq, hx⟩ := hg
    obtain ⟨its, rv, p, hz⟩ := I.tuple hq
    obtain ⟨u, hu, ru⟩ := rv.get hx
    obtain ⟨f0, f1, f2, f3, f4, f5⟩ := hf it (by simp)
    refine wpAny_pyNext_tuple_item st (show s.heap.IsTuple a its.toArray from p) (x := u) (by simpa using hu) fun h' st' sb => ?_
    have I1 : Inv X pins σ H { s with heap := h' } := I.turned (t' := s.toks) (fun b o hb e => (sb.2 b hb).trans e) f0 f1 f3 f4 f5
    obtain ⟨o, e, c, d⟩ := id st'
    exact ⟨u, rfl, go_of (s := { s with heap := h' }) e c d (by decide) ⟨x, H, I1, ru, ⟨rfl, fun ys hy => by rw [I.tuple_inj hy hq]; exact hx⟩, st', fun b hb => (hf b hb).1⟩⟩
  done := by
    intro X hP hw hK hc i pins s σ H E I hf st hg
    subst hP hw hK
    obtain ⟨xs, hq, hx⟩ := hg
    obtain ⟨its, rv, p, hz⟩ := I.tuple hq
    obtain ⟨f0, f1, f2, f3, f4, f5⟩ := hf it (by simp)
    have hl := rv.length
    exact wpAny_pyNext_tuple_end (I.ok.hd hc) st (show s.heap.IsTuple a its.toArray from p) (by simp; omega) fun h' eb => ⟨rfl, I.turned (t' := s.toks) (fun b o hb e => eb b o hb e) f0 f1 f3 f4 f5⟩
  self := fun _ _ _ _ _ st h => wpAny_pyIter_tupleiter st h
theorem turn_range {P : Program} {w : World} {K : PySem.W.Frag} {tg : Expr} (it : Addr) (lo : Int) (n : Nat) : Turn P w K tg (Itr lo n) [it] it (fun i h => IsRangeIter h it (lo + (i : Nat) * 1) ((n : Int) - (i : Nat)) 1) where
  mem := by simp
  obj := fun i h st b hb => by
    have e : b = it := by simpa using hb
    subst e
    exact ⟨_, st, fun v z => by
      have z' : Data.fields _ = Data.cell v := z
      cases z'⟩
  keep := fun i h h' st k => k it (by simp) _ st
  item := by
    intro X hP hw hK hc i pins s σ H E I hf st hg
    subst hP hw hK
    obtain ⟨f0, f1, f2, f3, f4, f5⟩ := hf it (by simp)
    have W := Walks.range (prog := X.prog) (w := X.w) (I.ok.hd hc) it lo 1 n
    refine W.item i s _ _ hg st fun v h' tk hv st' kk => ?_
    obtain ⟨t, rfl⟩ := hv
    have I1 : Inv X pins σ H { s with heap := h', toks := tk } := I.turned (fun b o hb e => kk b o (by simpa using hb) e) f0 f1 f3 f4 f5
    refine ⟨_, rfl, go_of (s := { s with heap := h', toks := tk }) (n := "range_iterator") st' rfl rfl (by decide) ⟨.int (lo + i), H, I1, ⟨t, ?_⟩, ⟨rfl, rfl⟩, st', fun b hb => (hf b hb).1⟩⟩
    rw [Int.mul_one]
  done := by
    intro X hP hw hK hc i pins s σ H E I hf st hg
    subst hP hw hK
    obtain ⟨f0, f1, f2, f3, f4, f5⟩ := hf it (by simp)
    exact wpAny_pyNext_range_end (I.ok.hd hc) st (by have : n ≤ i := hg; omega) fun h' eb => ⟨rfl, I.turned (t' := s.toks) (fun b o hb e => eb b o hb e) f0 f1 f3 f4 f5⟩
  self := fun _ _ _ _ _ st h => wpAny_pyIter_rangeiter st h
end L2
namespace L2
open PySem PySem.Spec PyProof.Rows
section
variable {X : Cx} {tg : Expr}
def iList (K : PySem.W.Frag) (tl : TE) : TI := fun σ H R => tl σ H fun x H1 => ∃ a, x = .ref a ∧ (∃ xs, SqL K H1 a xs) ∧ R (Itl K a) H1
def iTup (K : PySem.W.Frag) (tl : TE) : TI := fun σ H R => tl σ H fun x H1 => ∃ a, x = .ref a ∧ (∃ xs, SqT K H1 a xs) ∧ R (Itt K a) H1
theorem pi_list {l : Expr} {tl : TE} (hl : PE X l tl) : PI X tg l (iList X.K tl) := by
  intro pins s σ H R I h
  refine thn (hl pins s σ H _ I h) fun v s1 ⟨x, H1, I1, r1, q1⟩ => ?_
  obtain ⟨a, e, ⟨xs, hq⟩, q⟩ := q1
  subst e
  cases r1
  obtain ⟨its, rv, p, hz⟩ := I1.list hq
  refine wpAny_pyIter_list p.isList ?_
  refine ⟨s1.heap.objs.size, [s1.heap.objs.size], _, _, H1, rfl, I1.kept (t' := s1.toks) fun b o e => Heap.get?_push_of_some _ e, turn_list a _, ⟨_, Heap.get?_push_size _ rfl, rfl, rfl⟩, fun b hb => ?_, q⟩
  have e : b = s1.heap.objs.size := by simpa using hb
  subst e
  exact I1.fpOk (Nat.le_refl _) (I1.hok.fresh (Nat.le_refl _))
theorem pi_tup {l : Expr} {tl : TE} (hl : PE X l tl) : PI X tg l (iTup X.K tl) := by
  intro pins s σ H R I h
  refine thn (hl pins s σ H _ I h) fun v s1 ⟨x, H1, I1, r1, q1⟩ => ?_
  obtain ⟨a, e, ⟨xs, hq⟩, q⟩ := q1
  subst e
  cases r1
  obtain ⟨its, rv, p, hz⟩ := I1.tuple hq
  refine wpAny_pyIter_tuple (show s1.heap.IsTuple a its.toArray from p) ?_
  refine ⟨s1.heap.objs.size, [s1.heap.objs.size], _, _, H1, rfl, I1.kept (t' := s1.toks) fun b o e => Heap.get?_push_of_some _ e, turn_tuple a _, ⟨_, Heap.get?_push_size _ rfl, rfl, rfl⟩, fun b hb => ?_, q⟩
  have e : b = s1.heap.objs.size := by simpa using hb
  subst e
  exact I1.fpOk (Nat.le_refl _) (I1.hok.fresh (Nat.le_refl _))
theorem range_it {pins : List (Addr × Obj)} {σ : St} {H : Hp} {s : Shared} {R : It → Hp → Prop} {E : Value → Shared → Prop} {lo hi : Int} {t u v : Tok} {tk : Nat} (I : Inv X pins σ H s) (h1 : -(2 ^ 62) ≤ lo) (h2 : lo < 2 ^ 62) (h3 : -(2 ^ 62) ≤ hi) (h4 : hi < 2 ^ 62)
    (q : R (Itr lo (hi - lo).toNat) H) : wpAny (model X.prog X.w) X.A (pyIter (.ref s.heap.objs.size)) (PIE X pins σ tg R) E { s with heap := s.heap.push { cls := .type "range", data := .fields #[.int lo t, .int hi u, .int 1 v] }, toks := tk } := by
  refine wpAny_pyIter_range (IsRange.new ..) (small_one h1 h2 h3 h4) ?_
  have I1 : Inv X pins σ H { s with heap := s.heap.push { cls := .type "range", data := .fields #[.int lo t, .int hi u, .int 1 v] }, toks := tk } := I.kept fun b o e => Heap.get?_push_of_some _ e
  refine ⟨(s.heap.push { cls := .type "range", data := .fields #[.int lo t, .int hi u, .int 1 v] }).objs.size, [(s.heap.push { cls := .type "range", data := .fields #[.int lo t, .int hi u, .int 1 v] }).objs.size], _, _, H, rfl,
    I1.kept (t' := tk) fun b o e => Heap.get?_push_of_some _ e, turn_range _ lo (hi - lo).toNat, ?_, fun b hb => ?_, q⟩
  · have e1 : lo + ((0 : Nat) : Int) * 1 = lo := by simp
    have e2 : (((hi - lo).toNat : Nat) : Int) - ((0 : Nat) : Int) = Builtin.Range.rangeSize lo hi 1 := by rw [rangeSize_one]; split <;> omega
    show IsRangeIter _ _ (lo + ((0 : Nat) : Int) * 1) ((((hi - lo).toNat : Nat) : Int) - ((0 : Nat) : Int)) 1
    rw [e1, e2]
    exact Heap.get?_push_size _ rfl
  · have e : b = (s.heap.push { cls := .type "range", data := .fields #[.int lo t, .int hi u, .int 1 v] }).objs.size := by simpa using hb
    subst e
    exact I1.fpOk (Nat.le_refl _) (I1.hok.fresh (Nat.le_refl _))
def iRng1 (ta : TA) : TI := fun σ H R => ta σ H fun vs H1 => ∃ j : Int, vs = [.int j] ∧ -(2 ^ 62) ≤ j ∧ j < 2 ^ 62 ∧ R (Itr 0 j.toNat) H1
theorem pi_range1 {a : Expr} {ta : TA} {p pos : Pos} (hg : Gl X "range") (hm : X.mg "range" = none) (ha : PA X [a] ta) (hs : starEach [a] X.env = [(false, eval a X.env)] := by rfl) : PI X tg (.Call (.Name "range" p) [a] [] pos) (iRng1 ta) := by
  intro pins s σ H R I h
  refine Call_ (ld_blt I hg hm boot_range (PyProof.Rows.callWith_type1 (thn (ha pos pins s σ H _ I h) fun us s1 ⟨vs, H1, I1, r1, q1⟩ => ?_) hs rfl))
  obtain ⟨j, e, q1, q2, q⟩ := q1
  subst e
  cases r1 with
  | cons r rr =>
    cases rr
    obtain ⟨t, rfl⟩ := r
    exact call_range_1 (range_it I1 (by decide) (by decide) q1 q2 (by simpa using q))
def tFor (wi : TI) (g : TG) (tb : TS) : TS := fun D σ H => wi σ H fun J H1 => ∃ W : Nat → Nat → St → Hp → Prop, (∃ m, W 0 m σ H1) ∧ ∀ i m σ H, W i m σ H →
  (J.stop i H ∧ D.nx σ H) ∨ (J.go i H ∧ ∃ N : St → Hp → Prop, (∀ σ' H', N σ' H' → ∃ m', m' < m ∧ W (i + 1) m' σ' H') ∧ ∀ x H', J.yld i H x H' → g x σ H' fun σ2 H2 => tb { D with nx := N, ct := N, bk := D.nx } σ2 H2)
def pinsAt (fp : List Addr) (h : Heap) : List (Addr × Obj) := fp.filterMap fun b => (h.get? b).map fun o => (b, o)
theorem mem_pinsAt {fp : List Addr} {h : Heap} {b : Addr} {o : Obj} (hb : b ∈ fp) (e : h.get? b = some o) : (b, o) ∈ pinsAt fp h := List.mem_filterMap.mpr ⟨b, hb, by rw [e]; rfl⟩
theorem of_pinsAt {fp : List Addr} {h : Heap} {p : Addr × Obj} (hp : p ∈ pinsAt fp h) : p.1 ∈ fp ∧ h.get? p.1 = some p.2 := by
  obtain ⟨b, hb, e⟩ := List.mem_filterMap.mp hp
  cases q : h.get? b with
  | none => rw [q] at e; cases e
  | some o =>
    rw [q] at e
    have e' : (b, o) = p := Option.some.inj e
    subst e'
    exact ⟨hb, q⟩
theorem Inv.pinned {pins : List (Addr × Obj)} {σ : St} {H : Hp} {s : Shared} {fp : List Addr} (I : Inv X pins σ H s) (hf : ∀ b ∈ fp, FpOk X pins H b) (ho : ∀ b ∈ fp, ∃ o, s.heap.get? b = some o ∧ ∀ v, o.data ≠ .cell v) : Inv X (pins ++ pinsAt fp s.heap) σ H s :=
  I.pins_of fun p hp => (List.mem_append.mp hp).elim (fun z => I.pin p (List.mem_append_right _ z)) fun z => by
    obtain ⟨hb, e⟩ := of_pinsAt z
    obtain ⟨f0, f1, f2, _⟩ := hf p.1 hb
    obtain ⟨o, e', d⟩ := ho p.1 hb
    rw [e] at e'; cases e'
    exact ⟨e, f0, f1, f2, d⟩
theorem Inv.unpinned {pins pl : List (Addr × Obj)} {σ : St} {H : Hp} {s : Shared} (I : Inv X (pins ++ pl) σ H s) : Inv X pins σ H s := I.pins_of fun p hp => I.pin p (List.mem_append_right _ (List.mem_append_left _ hp))
theorem ps_for {iter : Expr} {body : List Stmt} {wi : TI} {g : TG} {tb : TS} {pos : Pos} (hp : PassesOwn (model X.prog X.w) X.A X.env X.xe) (hc : X.calm = true) (hi : PI X tg iter wi) (hg : PG X tg g) (hb : PSs X body tb)
    (hs : ∀ x, foldedSetIterable iter X.env x = pure x := by intro _; rfl) : PS X (.For tg iter body [] pos) (tFor wi g tb) := by
  intro pins s σ H D I h
  refine wpAny_For (thn (hi pins s σ H _ I h) fun v s1 h1 => thn h1 fun itv s2 h2 => ?_) hs
  obtain ⟨it, fp, tn, J, H2, e, I2, T, st2, f2, W, ⟨m0, w0⟩, turn⟩ := h2
  subst e
  have stat : ∀ {H' : Hp}, (∀ b ∈ fp, H' b = none) → ∀ b ∈ fp, FpOk X pins H' b := fun hn b hb => ⟨hn b hb, (f2 b hb).2⟩
  refine codeAny_forLoop_any (fun n s' => ∃ i σ' H', Inv X pins σ' H' s' ∧ tn i s'.heap ∧ (∀ b ∈ fp, H' b = none) ∧ W i n σ' H') ?_ m0 ⟨0, σ, H2, I2, st2, fun b hb => (f2 b hb).1, w0⟩
  rintro n s3 ⟨i, σ3, H3, I3, st3, fr3, w3⟩
  rcases turn i n σ3 H3 w3 with ⟨stop, qn⟩ | ⟨go, N, hN, step⟩
  · refine wpAny_passesOwn hp (thn (T.done X rfl rfl rfl hc i pins s3 σ3 H3 X.xe I3 (stat fr3) st3 stop) fun r s4 ⟨hr, I4⟩ => ?_)
    subst hr
    exact wpAny_execs_nil ⟨σ3, H3, I4, qn⟩
  · refine wpAny_passesOwn hp (thn (T.item X rfl rfl rfl hc i pins s3 σ3 H3 X.xe I3 (stat fr3) st3 go) fun r s4 ⟨u, hr, h4⟩ => ?_)
    subst hr
    refine wpAny_passesOwn hp (thn h4 fun _ s5 ⟨x, H5, I5, r5, y5, st5, fr5⟩ => ?_)
    have I5' := I5.pinned (stat fr5) (T.obj _ _ st5)
    refine wpAny_passesOwn hp (thn (hg _ s5 σ3 H5 x u _ I5' r5 (step x H5 y5)) fun _ s6 ⟨σ6, H6, I6, q6⟩ => ?_)
    refine wpAny_passesOwn hp (thn (hb _ s6 σ6 H6 _ I6 q6) fun f s7 q7 => ?_)
    have again : ∀ {σ7 : St} {H7 : Hp}, Inv X (pins ++ pinsAt fp s5.heap) σ7 H7 s7 → N σ7 H7 → ∃ m, m < n ∧ ∃ i σ' H', Inv X pins σ' H' s7 ∧ tn i s7.heap ∧ (∀ b ∈ fp, H' b = none) ∧ W i m σ' H' := fun {σ7 H7} I7 n7 => by
      obtain ⟨m', hm, w7⟩ := hN σ7 H7 n7
      refine ⟨m', hm, i + 1, σ7, H7, I7.unpinned, T.keep _ _ _ st5 fun b hb o e => (I7.pin (b, o) (List.mem_append_right _ (List.mem_append_right _ (mem_pinsAt hb e)))).1, fun b hb => ?_, w7⟩
      obtain ⟨o, e, d⟩ := T.obj _ _ st5 b hb
      exact (I7.pin (b, o) (List.mem_append_right _ (List.mem_append_right _ (mem_pinsAt hb e)))).2.1
    cases f with
    | next => obtain ⟨σ7, H7, I7, n7⟩ := q7; exact again I7 n7
    | cont => obtain ⟨σ7, H7, I7, n7⟩ := q7; exact again I7 n7
    | brk => obtain ⟨σ7, H7, I7, q7⟩ := q7; exact ⟨σ7, H7, I7.unpinned, q7⟩
    | ret v => obtain ⟨x7, σ7, H7, I7, r7, q7⟩ := q7; exact ⟨x7, σ7, H7, I7.unpinned, r7, q7⟩
end
theorem for_list {K : PySem.W.Frag} {a : Addr} {xs : List V} {g : TG} {tb : TS} {D : Ends} {σ : St} {H : Hp} (Pv : Nat → St → Hp → Prop) (h0 : Pv 0 σ H) (hl : ∀ i σ H, i ≤ xs.length → Pv i σ H → SqL K H a xs)
    (hs : ∀ i x σ H, xs[i]? = some x → Pv i σ H → g x σ H fun σ2 H2 => tb { D with nx := Pv (i + 1), ct := Pv (i + 1), bk := D.nx } σ2 H2) (hd : ∀ σ H, Pv xs.length σ H → D.nx σ H) :
    ∃ W : Nat → Nat → St → Hp → Prop, (∃ m, W 0 m σ H) ∧ ∀ i m σ H, W i m σ H →
      ((Itl K a).stop i H ∧ D.nx σ H) ∨ ((Itl K a).go i H ∧ ∃ N : St → Hp → Prop, (∀ σ' H', N σ' H' → ∃ m', m' < m ∧ W (i + 1) m' σ' H') ∧ ∀ x H', (Itl K a).yld i H x H' → g x σ H' fun σ2 H2 => tb { D with nx := N, ct := N, bk := D.nx } σ2 H2) := by
  refine ⟨fun i m σ H => m = xs.length - i ∧ i ≤ xs.length ∧ Pv i σ H, ⟨xs.length, by simp, Nat.zero_le _, h0⟩, ?_⟩
  rintro i m σ H ⟨rfl, hi, p⟩
  have q := hl i σ H hi p
  by_cases hlt : i < xs.length
  · refine .inr ⟨⟨xs, xs[i], q, by simp [hlt]⟩, Pv (i + 1), fun σ' H' p' => ⟨xs.length - (i + 1), by omega, rfl, hlt, p'⟩, fun x H' y => ?_⟩
    obtain ⟨e, y⟩ := y
    subst e
    exact hs i x σ _ (y xs q) p
  · have e : i = xs.length := by omega
    subst e
    exact .inl ⟨⟨xs, q, Nat.le_refl _⟩, hd σ H p⟩
theorem for_tup {K : PySem.W.Frag} {a : Addr} {xs : List V} {g : TG} {tb : TS} {D : Ends} {σ : St} {H : Hp} (Pv : Nat → St → Hp → Prop) (h0 : Pv 0 σ H) (hl : ∀ i σ H, i ≤ xs.length → Pv i σ H → SqT K H a xs)
    (hs : ∀ i x σ H, xs[i]? = some x → Pv i σ H → g x σ H fun σ2 H2 => tb { D with nx := Pv (i + 1), ct := Pv (i + 1), bk := D.nx } σ2 H2) (hd : ∀ σ H, Pv xs.length σ H → D.nx σ H) :
    ∃ W : Nat → Nat → St → Hp → Prop, (∃ m, W 0 m σ H) ∧ ∀ i m σ H, W i m σ H →
      ((Itt K a).stop i H ∧ D.nx σ H) ∨ ((Itt K a).go i H ∧ ∃ N : St → Hp → Prop, (∀ σ' H', N σ' H' → ∃ m', m' < m ∧ W (i + 1) m' σ' H') ∧ ∀ x H', (Itt K a).yld i H x H' → g x σ H' fun σ2 H2 => tb { D with nx := N, ct := N, bk := D.nx } σ2 H2) := by
  refine ⟨fun i m σ H => m = xs.length - i ∧ i ≤ xs.length ∧ Pv i σ H, ⟨xs.length, by simp, Nat.zero_le _, h0⟩, ?_⟩
  rintro i m σ H ⟨rfl, hi, p⟩
  have q := hl i σ H hi p
  by_cases hlt : i < xs.length
  · refine .inr ⟨⟨xs, xs[i], q, by simp [hlt]⟩, Pv (i + 1), fun σ' H' p' => ⟨xs.length - (i + 1), by omega, rfl, hlt, p'⟩, fun x H' y => ?_⟩
    obtain ⟨e, y⟩ := y
    subst e
    exact hs i x σ _ (y xs q) p
  · have e : i = xs.length := by omega
    subst e
    exact .inl ⟨⟨xs, q, Nat.le_refl _⟩, hd σ H p⟩
theorem for_range {lo : Int} {n : Nat} {g : TG} {tb : TS} {D : Ends} {σ : St} {H : Hp} (Pv : Nat → St → Hp → Prop) (h0 : Pv 0 σ H)
    (hs : ∀ i σ H, i < n → Pv i σ H → g (.int (lo + i)) σ H fun σ2 H2 => tb { D with nx := Pv (i + 1), ct := Pv (i + 1), bk := D.nx } σ2 H2) (hd : ∀ σ H, Pv n σ H → D.nx σ H) :
    ∃ W : Nat → Nat → St → Hp → Prop, (∃ m, W 0 m σ H) ∧ ∀ i m σ H, W i m σ H →
      ((Itr lo n).stop i H ∧ D.nx σ H) ∨ ((Itr lo n).go i H ∧ ∃ N : St → Hp → Prop, (∀ σ' H', N σ' H' → ∃ m', m' < m ∧ W (i + 1) m' σ' H') ∧ ∀ x H', (Itr lo n).yld i H x H' → g x σ H' fun σ2 H2 => tb { D with nx := N, ct := N, bk := D.nx } σ2 H2) := by
  refine ⟨fun i m σ H => m = n - i ∧ i ≤ n ∧ Pv i σ H, ⟨n, by simp, Nat.zero_le _, h0⟩, ?_⟩
  rintro i m σ H ⟨rfl, hi, p⟩
  by_cases hlt : i < n
  · refine .inr ⟨hlt, Pv (i + 1), fun σ' H' p' => ⟨n - (i + 1), by omega, rfl, hlt, p'⟩, fun x H' y => ?_⟩
    obtain ⟨e, y⟩ := y
    subst e y
    exact hs i σ _ hlt p
  · have e : i = n := by omega
    subst e
    exact .inl ⟨Nat.le_refl _, hd σ H p⟩
end L2
namespace L2
open PySem PySem.Spec PyProof.Rows
abbrev R2 := V → V → Hp → VK → Prop
def OpR (X : Cx) (f : Value → Value → Sem Value) (r : R2) : Prop :=
  ∀ (pins : List (Addr × Obj)) (s : Shared) (σ : St) (H : Hp) (x y : V) (v u : Value) (Q : VK), Inv X pins σ H s → RelV x v → RelV y u → r x y H Q →
    wpAny (model X.prog X.w) X.A (f v u) (EP X pins σ Q) X.xe s
def UnR (X : Cx) (f : Value → Sem Value) (r : V → Hp → VK → Prop) : Prop :=
  ∀ (pins : List (Addr × Obj)) (s : Shared) (σ : St) (H : Hp) (x : V) (v : Value) (Q : VK), Inv X pins σ H s → RelV x v → r x H Q →
    wpAny (model X.prog X.w) X.A (f v) (EP X pins σ Q) X.xe s
def CallR (X : Cx) (f : Value) (r : List V → Hp → VK → Prop) : Prop :=
  ∀ (pins : List (Addr × Obj)) (s : Shared) (σ : St) (H : Hp) (xs : List V) (us : List Value) (Q : VK), Inv X pins σ H s → Vals xs us → r xs H Q →
    wpAny (model X.prog X.w) X.A (call f us) (EP X pins σ Q) X.xe s
def TruR (X : Cx) (r : V → Hp → (Bool → Hp → Prop) → Prop) : Prop :=
  ∀ (pins : List (Addr × Obj)) (s : Shared) (σ : St) (H : Hp) (x : V) (v : Value) (Q : Bool → Hp → Prop), Inv X pins σ H s → RelV x v → r x H Q →
    wpAny (model X.prog X.w) X.A (truthy v) (TP X pins σ Q) X.xe s
def tOp (r : R2) (ta tb : TE) : TE := fun σ H Q => ta σ H fun x H1 => tb σ H1 fun y H2 => r x y H2 Q
def tUn (r : V → Hp → VK → Prop) (ta : TE) : TE := fun σ H Q => ta σ H fun x H1 => r x H1 Q
inductive RIP (C : Int → Int → Prop) (g : Int → Int → V) (x : V) (y : V) (H : Hp) (Q : VK) : Prop
  | mk (i j : _) : (x = .int i) → (y = .int j) → (C i j) → (Q (g i j) H) → RIP C g x y H Q
def rI (C : Int → Int → Prop) (g : Int → Int → V) : R2 := fun x y H Q => RIP C g x y H Q
inductive RI0P (g : Int → Int → V) (x : V) (y : V) (H : Hp) (Q : VK) : Prop
  | mk (i j : _) : (x = .int i) → (y = .int j) → (Q (g i j) H) → RI0P g x y H Q
def rI0 (g : Int → Int → V) : R2 := fun x y H Q => RI0P g x y H Q
inductive RUP (g : Int → V) (x : V) (H : Hp) (Q : VK) : Prop
  | mk (i : _) : (x = .int i) → (Q (g i) H) → RUP g x H Q
def rU (g : Int → V) : V → Hp → VK → Prop := fun x H Q => RUP g x H Q
section
variable {X : Cx} {a b c : Expr} {ta tb tc : TE} {pos : Pos}
theorem binT (ha : PE X a ta) (hb : PE X b tb) {pins : List (Addr × Obj)} {s : Shared} {σ : St} {H : Hp} {R : V → V → Hp → Prop} (I : Inv X pins σ H s)
    (h : ta σ H fun x H1 => tb σ H1 fun y H2 => R x y H2) {Q : Value → Shared → Prop} {f : Value → Value → Sem Value}
    (hf : ∀ v u s2 x y H2, Inv X pins σ H2 s2 → RelV x v → RelV y u → R x y H2 → wpAny (model X.prog X.w) X.A (f v u) Q X.xe s2) :
    wpAny (model X.prog X.w) X.A (eval a X.env) (fun v s₁ => wpAny (model X.prog X.w) X.A (eval b X.env) (fun u s₂ => wpAny (model X.prog X.w) X.A (f v u) Q X.xe s₂) X.xe s₁) X.xe s := by
  refine thn (ha pins s σ H _ I h) fun v s1 ⟨x, H1, I1, r1, q1⟩ => ?_
  refine thn (hb pins s1 σ H1 _ I1 q1) fun u s2 ⟨y, H2, I2, r2, q2⟩ => ?_
  exact hf v u s2 x y H2 I2 r1 r2 q2
theorem pe_op {op : Operator} {r : R2} (ho : OpR X (binaryOp op) r) (ha : PE X a ta) (hb : PE X b tb) : PE X (.BinOp a op b pos) (tOp r ta tb) := by
  intro pins s σ H Q I h
  exact wpAny_BinOp (binT ha hb I h fun v u s2 x y H2 I2 rx ry q => ho pins s2 σ H2 x y v u Q I2 rx ry q)
theorem pe_un {op : UnaryOp} {r : V → Hp → VK → Prop} (ho : UnR X (unaryOp op) r) (ha : PE X a ta) : PE X (.UnaryOp op a pos) (tUn r ta) := by
  intro pins s σ H Q I h
  exact UnaryOp_ (thn (ha pins s σ H _ I h) fun v s1 ⟨x, H1, I1, r1, q1⟩ => ho pins s1 σ H1 x v Q I1 r1 q1)
theorem opI {f : Value → Value → Sem Value} {C : Int → Int → Prop} {g : Int → Int → Int}
    (rule : ∀ (i j : Int) (t u : Tok) (s : Shared) (Q : Value → Shared → Prop) (E : Value → Shared → Prop), C i j → Q (.int (g i j) s.toks) { s with toks := s.toks + 1 } → wpAny (model X.prog X.w) X.A (f (.int i t) (.int j u)) Q E s) :
    OpR X f (rI C fun i j => .int (g i j)) := by
  intro pins s σ H x y v u Q I rx ry h
  obtain ⟨i, j, rfl, rfl, hc, q⟩ := h
  obtain ⟨t, rfl⟩ := rx
  obtain ⟨t', rfl⟩ := ry
  exact rule i j t t' s _ _ hc ⟨.int (g i j), H, I.tok _, ⟨_, rfl⟩, q⟩
theorem opI0 {f : Value → Value → Sem Value} {g : Int → Int → Int}
    (rule : ∀ (i j : Int) (t u : Tok) (s : Shared) (Q : Value → Shared → Prop) (E : Value → Shared → Prop), Q (.int (g i j) s.toks) { s with toks := s.toks + 1 } → wpAny (model X.prog X.w) X.A (f (.int i t) (.int j u)) Q E s) :
    OpR X f (rI0 fun i j => .int (g i j)) := by
  intro pins s σ H x y v u Q I rx ry h
  obtain ⟨i, j, rfl, rfl, q⟩ := h
  obtain ⟨t, rfl⟩ := rx
  obtain ⟨t', rfl⟩ := ry
  exact rule i j t t' s _ _ ⟨.int (g i j), H, I.tok _, ⟨_, rfl⟩, q⟩
theorem opB0 {f : Value → Value → Sem Value} {g : Int → Int → Bool}
    (rule : ∀ (i j : Int) (t u : Tok) (s : Shared) (Q : Value → Shared → Prop) (E : Value → Shared → Prop), Q (.bool (g i j)) s → wpAny (model X.prog X.w) X.A (f (.int i t) (.int j u)) Q E s) :
    OpR X f (rI0 fun i j => .bl (g i j)) := by
  intro pins s σ H x y v u Q I rx ry h
  obtain ⟨i, j, rfl, rfl, q⟩ := h
  obtain ⟨t, rfl⟩ := rx
  obtain ⟨t', rfl⟩ := ry
  exact rule i j t t' s _ _ ⟨.bl (g i j), H, I, rfl, q⟩
def CDiv (i j : Int) : Prop := 0 < j ∧ j < 1073741824
def CPow (i j : Int) : Prop := 0 ≤ j ∧ j ≤ 1000000 ∧ i.natAbs < 2 ^ 64
def CMul (i j : Int) : Prop := (-(2 ^ 64) < i ∧ i < 2 ^ 64) ∨ (-(2 ^ 64) < j ∧ j < 2 ^ 64)
theorem CMul.ok {i j : Int} (h : CMul i j) : IntMulOk i j := by
  rcases h with ⟨h1, h2⟩ | ⟨h1, h2⟩
  · exact .of_left (intBits_le_64 h1 h2)
  · exact .of_right (intBits_le_64 h1 h2)
theorem op_add : OpR X (binaryOp .Add) (rI0 fun i j => .int (i + j)) := opI0 fun _ _ _ _ _ _ _ q => add_int q
theorem op_sub : OpR X (binaryOp .Sub) (rI0 fun i j => .int (i - j)) := opI0 fun _ _ _ _ _ _ _ q => sub_int q
theorem op_mul : OpR X (binaryOp .Mult) (rI CMul fun i j => .int (i * j)) := opI fun _ _ _ _ _ _ _ hc q => mul_int q hc.ok
theorem op_fdiv : OpR X (binaryOp .FloorDiv) (rI CDiv fun i j => .int (i / j)) := opI fun i j _ _ _ _ _ hc q => by
  have h1 : (0 : Int) < j := hc.1
  have h2 : j < 1073741824 := hc.2
  exact floordiv_int (by omega) (by rw [Int.fdiv_eq_ediv_of_nonneg i (by omega)]; exact q) (.inl (PyProof.noPylong_small (by omega)))
theorem op_mod : OpR X (binaryOp .Mod) (rI (fun _ j => 0 < j) fun i j => .int (i % j)) := opI fun i j _ _ _ _ _ hc q => by
  have h1 : (0 : Int) < j := hc
  exact mod_int' (by omega) (by rw [Int.fmod_eq_emod_of_nonneg i (by omega)]; exact q)
theorem op_pow : OpR X (binaryOp .Pow) (rI CPow fun i j => .int (i ^ j.toNat)) := opI fun _ _ _ _ _ _ _ hc q => pow_int_small hc.1 hc.2.1 hc.2.2 q
theorem op_xor : OpR X (binaryOp .BitXor) (rI0 fun i j => .int (Builtin.bitXor i j)) := opI0 fun _ _ _ _ _ _ _ q => xor_int q
theorem unI {f : Value → Sem Value} {g : Int → Int}
    (rule : ∀ (i : Int) (t : Tok) (s : Shared) (Q : Value → Shared → Prop) (E : Value → Shared → Prop), Q (.int (g i) s.toks) { s with toks := s.toks + 1 } → wpAny (model X.prog X.w) X.A (f (.int i t)) Q E s) :
    UnR X f (rU fun i => .int (g i)) := by
  intro pins s σ H x v Q I rx h
  obtain ⟨i, rfl, q⟩ := h
  obtain ⟨t, rfl⟩ := rx
  exact rule i t s _ _ ⟨.int (g i), H, I.tok _, ⟨_, rfl⟩, q⟩
theorem un_neg : UnR X (unaryOp .USub) (rU fun i => .int (-i)) := unI fun _ _ _ _ _ q => neg_int q
end
def scal : V → V → Bool
  | .non, .non => true | .non, .int _ => true | .int _, .non => true | .non, .bl _ => true | .bl _, .non => true | .non, .str _ => true | .str _, .non => true
  | .int _, .int _ => true | .bl _, .bl _ => true | .str _, .str _ => true | .byt _, .byt _ => true
  | .int _, .str _ => true | .str _, .int _ => true | .bl _, .str _ => true | .str _, .bl _ => true
  | _, _ => false
def rEq : R2 := fun x y H Q => scal x y = true ∧ Q (.bl (decide (x = y))) H
def rNe : R2 := fun x y H Q => scal x y = true ∧ Q (.bl (!decide (x = y))) H
theorem dec_int {i j : Int} : decide (V.int i = V.int j) = (i == j) := by
  rw [Bool.eq_iff_iff]
  simp
theorem dec_bl {i j : Bool} : decide (V.bl i = V.bl j) = (i == j) := by
  rw [Bool.eq_iff_iff]
  simp
theorem dec_str {i j : Str} : decide (V.str i = V.str j) = (i == j) := by
  rw [Bool.eq_iff_iff]
  simp
theorem dec_byt {i j : Array UInt8} : decide (V.byt i = V.byt j) = (i.toList == j.toList) := by
  rw [Bool.eq_iff_iff]
  cases i
  cases j
  simp
section
variable {X : Cx} {a b c : Expr} {ta tb tc : TE} {pos : Pos}
theorem fin_bl {pins : List (Addr × Obj)} {σ : St} {H : Hp} {s : Shared} {Q : VK} {k k' : Bool} (I : Inv X pins σ H s) (q : Q (.bl k) H) (e : k = k') : EP X pins σ Q (.bool k') s := by
  subst e
  exact ⟨.bl k, H, I, rfl, q⟩
theorem op_eq : OpR X (compareOp .Eq) rEq := by
  intro pins s σ H x y v u Q I rx ry h
  obtain ⟨hs, q⟩ := h
  cases x with
  | non =>
    cases rx
    cases y with
    | non => cases ry; exact PySem.EqNone.eq_none_none (fin_bl I q (by simp))
    | bl j => cases ry; exact PySem.EqNone.eq_none_bool (fin_bl I q (by simp))
    | int j => obtain ⟨t', rfl⟩ := ry; exact PySem.EqNone.eq_none_int (fin_bl I q (by simp))
    | str j => obtain ⟨t', rfl⟩ := ry; exact PySem.EqNone.eq_none_str (fin_bl I q (by simp))
    | _ => exact absurd (show false = true from hs) Bool.false_ne_true
  | bl i =>
    cases rx
    cases y with
    | non => cases ry; exact PySem.EqNone.eq_bool_none (fin_bl I q (by simp))
    | bl j => cases ry; exact eq_bool (fin_bl I q dec_bl)
    | str j => obtain ⟨t', rfl⟩ := ry; exact PySem.EqMixed.eq_bool_str (fin_bl I q (by simp))
    | _ => exact absurd (show false = true from hs) Bool.false_ne_true
  | int i =>
    obtain ⟨t, rfl⟩ := rx
    cases y with
    | non => cases ry; exact PySem.EqNone.eq_int_none (fin_bl I q (by simp))
    | int j => obtain ⟨t', rfl⟩ := ry; exact eq_int (fin_bl I q dec_int)
    | str j => obtain ⟨t', rfl⟩ := ry; exact PySem.EqMixed.eq_int_str (fin_bl I q (by simp))
    | _ => exact absurd (show false = true from hs) Bool.false_ne_true
  | str i =>
    obtain ⟨t, rfl⟩ := rx
    cases y with
    | non => cases ry; exact PySem.EqNone.eq_str_none (fin_bl I q (by simp))
    | bl j => cases ry; exact PySem.EqMixed.eq_str_bool (fin_bl I q (by simp))
    | int j => obtain ⟨t', rfl⟩ := ry; exact PySem.EqMixed.eq_str_int (fin_bl I q (by simp))
    | str j => obtain ⟨t', rfl⟩ := ry; exact eq_str (fin_bl I q dec_str)
    | _ => exact absurd (show false = true from hs) Bool.false_ne_true
  | byt i =>
    obtain ⟨t, rfl⟩ := rx
    cases y with
    | byt j => obtain ⟨t', rfl⟩ := ry; exact PySem.W.eq_bytes (fin_bl I q dec_byt)
    | _ => exact absurd (show false = true from hs) Bool.false_ne_true
  | _ => cases y <;> exact absurd (show false = true from hs) Bool.false_ne_true
theorem op_ne : OpR X (compareOp .NotEq) rNe := by
  intro pins s σ H x y v u Q I rx ry h
  obtain ⟨hs, q⟩ := h
  cases x with
  | non =>
    cases rx
    cases y with
    | non => cases ry; exact PySem.EqNone.ne_none_none (fin_bl I q (by simp))
    | bl j => cases ry; exact PySem.EqNone.ne_none_bool (fin_bl I q (by simp))
    | int j => obtain ⟨t', rfl⟩ := ry; exact PySem.EqNone.ne_none_int (fin_bl I q (by simp))
    | str j => obtain ⟨t', rfl⟩ := ry; exact PySem.EqNone.ne_none_str (fin_bl I q (by simp))
    | _ => exact absurd (show false = true from hs) Bool.false_ne_true
  | bl i =>
    cases rx
    cases y with
    | non => cases ry; exact PySem.EqNone.ne_bool_none (fin_bl I q (by simp))
    | bl j => cases ry; exact ne_bool (fin_bl I q (congrArg not dec_bl))
    | str j => obtain ⟨t', rfl⟩ := ry; exact PySem.EqMixed.ne_bool_str (fin_bl I q (by simp))
    | _ => exact absurd (show false = true from hs) Bool.false_ne_true
  | int i =>
    obtain ⟨t, rfl⟩ := rx
    cases y with
    | non => cases ry; exact PySem.EqNone.ne_int_none (fin_bl I q (by simp))
    | int j => obtain ⟨t', rfl⟩ := ry; exact ne_int (fin_bl I q (congrArg not dec_int))
    | str j => obtain ⟨t', rfl⟩ := ry; exact PySem.EqMixed.ne_int_str (fin_bl I q (by simp))
    | _ => exact absurd (show false = true from hs) Bool.false_ne_true
  | str i =>
    obtain ⟨t, rfl⟩ := rx
    cases y with
    | non => cases ry; exact PySem.EqNone.ne_str_none (fin_bl I q (by simp))
    | bl j => cases ry; exact PySem.EqMixed.ne_str_bool (fin_bl I q (by simp))
    | int j => obtain ⟨t', rfl⟩ := ry; exact PySem.EqMixed.ne_str_int (fin_bl I q (by simp))
    | str j => obtain ⟨t', rfl⟩ := ry; exact ne_str (fin_bl I q (congrArg not dec_str))
    | _ => exact absurd (show false = true from hs) Bool.false_ne_true
  | byt i =>
    obtain ⟨t, rfl⟩ := rx
    cases y with
    | byt j => obtain ⟨t', rfl⟩ := ry; exact PySem.W.ne_bytes (fin_bl I q (congrArg not dec_byt))
    | _ => exact absurd (show false = true from hs) Bool.false_ne_true
  | _ => cases y <;> exact absurd (show false = true from hs) Bool.false_ne_true
theorem op_lt : OpR X (compareOp .Lt) (rI0 fun i j => .bl (decide (i < j))) := opB0 fun _ _ _ _ _ _ _ q => lt_int q
theorem op_le : OpR X (compareOp .LtE) (rI0 fun i j => .bl (decide (i ≤ j))) := opB0 fun _ _ _ _ _ _ _ q => le_int q
theorem op_gt : OpR X (compareOp .Gt) (rI0 fun i j => .bl (decide (j < i))) := opB0 fun _ _ _ _ _ _ _ q => gt_int q
theorem op_ge : OpR X (compareOp .GtE) (rI0 fun i j => .bl (decide (j ≤ i))) := opB0 fun _ _ _ _ _ _ _ q => ge_int q
theorem op_isN : OpR X (compareOp .Is) (fun x y H Q => y = .non ∧ Q (.bl (decide (x = .non))) H) := by
  intro pins s σ H x y v u Q I rx ry h
  obtain ⟨rfl, q⟩ := h
  cases ry
  refine is_none_gen (fin_bl I q ?_)
  cases x <;> first
    | (cases rx; rfl)
    | (obtain ⟨t, rfl⟩ := rx; rfl)
theorem op_notN : OpR X (compareOp .IsNot) (fun x y H Q => y = .non ∧ Q (.bl (!decide (x = .non))) H) := by
  intro pins s σ H x y v u Q I rx ry h
  obtain ⟨rfl, q⟩ := h
  cases ry
  refine isnot_none_gen (fin_bl I q ?_)
  cases x <;> first
    | (cases rx; rfl)
    | (obtain ⟨t, rfl⟩ := rx; rfl)
theorem nomark (b : Expr) {op : CmpOp} (h : op ≠ .In := by decide) (h2 : op ≠ .NotIn := by decide) : behindInMarks op b = false := by
  have e1 : (op == CmpOp.In) = false := by cases op <;> first | rfl | exact absurd rfl h
  have e2 : (op == CmpOp.NotIn) = false := by cases op <;> first | rfl | exact absurd rfl h2
  cases b <;> simp [behindInMarks, e1, e2]
theorem pe_cmpR {op : CmpOp} {r : R2} (ho : OpR X (compareOp op) r) (ha : PE X a ta) (hb : PE X b tb) (hm : behindInMarks op b = false) : PE X (.Compare a [op] [b] pos) (tOp r ta tb) := by
  intro pins s σ H Q I h
  exact wpAny_Compare1 (binT ha hb I h fun v u s2 x y H2 I2 rx ry q => ho pins s2 σ H2 x y v u Q I2 rx ry q) hm
def tTest (t : TE) : TT := fun σ H Q => t σ H fun x H' => BlP x H' Q
theorem pt_cmpR {op : CmpOp} {r : R2} (ho : OpR X (compareOp op) r) (ha : PE X a ta) (hb : PE X b tb) (hm : behindInMarks op b = false) : PT X (.Compare a [op] [b] pos) (tTest (tOp r ta tb)) := by
  intro pins s σ H Q I h
  refine wpAny_isTrue_Compare1 (thn (ha pins s σ H _ I h) fun v s1 ⟨x, H1, I1, r1, q1⟩ => thn (hb pins s1 σ H1 _ I1 q1) fun u s2 ⟨y, H2, I2, r2, q2⟩ =>
    thn (ho pins s2 σ H2 x y v u _ I2 r1 r2 q2) fun c s3 ⟨z, H3, I3, r3, k, e, q3⟩ => ?_) hm
  subst e
  cases r3
  exact wpAny_truthy_bool ⟨H3, I3, q3⟩
def tChain (r r' : R2) (ta tb tc : TE) : TE := fun σ H Q => ta σ H fun x H1 => tb σ H1 fun y H2 => r x y H2 fun z H3 => ∃ k, z = .bl k ∧
  (if k = true then tc σ H3 fun w' H4 => r' y w' H4 Q else Q (.bl false) H3)
theorem pe_chain {op op' : CmpOp} {r r' : R2} (ho : OpR X (compareOp op) r) (ho' : OpR X (compareOp op') r') (ha : PE X a ta) (hb : PE X b tb) (hc : PE X c tc)
    (hm : lastMarks [op, op'] [b, c] = false := by with_unfolding_all rfl) : PE X (.Compare a [op, op'] [b, c] pos) (tChain r r' ta tb tc) := by
  intro pins s σ H Q I h
  refine Compare_chain (thn (ha pins s σ H _ I h) fun v s1 ⟨x, H1, I1, r1, q1⟩ => chain_link (thn (hb pins s1 σ H1 _ I1 q1) fun u s2 ⟨y, H2, I2, r2, q2⟩ =>
    thn (ho pins s2 σ H2 x y v u _ I2 r1 r2 q2) fun d s3 ⟨z, H3, I3, r3, k, e, q3⟩ => ?_)) hm
  subst e
  cases r3
  refine wpAny_truthy_bool ?_
  cases k with
  | false => exact ite_ff ⟨.bl false, H3, I3, rfl, q3⟩
  | true => exact ite_tt (chain_last (thn (hc pins s3 σ H3 _ I3 q3) fun w' s4 ⟨z', H4, I4, r4, q4⟩ => ho' pins s4 σ H4 y z' u w' Q I4 r2 r4 q4))
def TruV (K : PySem.W.Frag) (x : V) (H : Hp) (k : Bool) : Prop :=
  match x with
  | .non => k = false
  | .bl b => k = b
  | .int i => k = (i != 0)
  | .str y => y.length ≤ sizeLine ∧ k = ((y.length : Int) != 0)
  | .byt y => y.size ≤ sizeLine ∧ k = ((y.size : Int) != 0)
  | .ref p => (∃ xs, SqL K H p xs ∧ k = !xs.isEmpty) ∨ (∃ xs, SqT K H p xs ∧ k = !xs.isEmpty) ∨ ∃ kvs, H p = some (.dK kvs) ∧ k = !kvs.isEmpty
  | _ => False
theorem isEmpty_kv {κ : Type} {kvs : List (κ × V)} {vs : List (κ × Value)} (r : KV kvs vs) : (!vs.isEmpty) = !kvs.isEmpty := by
  cases r <;> rfl
theorem isEmpty_of {xs : List V} {its : List Value} (r : Vals xs its) : (!its.toArray.isEmpty) = !xs.isEmpty := by
  cases r <;> simp
theorem line63 : (sizeLine : Nat) < 2 ^ 63 := by rw [sizeLine_eq]; decide
theorem tru_ok : TruR X (fun x H Q => ∃ k, TruV X.K x H k ∧ Q k H) := by
  intro pins s σ H x v Q I rx h
  obtain ⟨k, e, q⟩ := h
  have hl := line63
  have hs : sizeLine = 16777216 := sizeLine_eq
  cases x with
  | non =>
    cases rx
    have e' : k = false := e
    subst e'
    exact truthy_none ⟨H, I, q⟩
  | bl b =>
    cases rx
    have e' : k = b := e
    subst e'
    exact wpAny_truthy_bool ⟨H, I, q⟩
  | int i =>
    obtain ⟨t, rfl⟩ := rx
    have e' : k = (i != 0) := e
    subst e'
    exact PySem.P.truthy_int ⟨H, I, q⟩
  | str y =>
    obtain ⟨t, rfl⟩ := rx
    obtain ⟨hy, e'⟩ : y.length ≤ sizeLine ∧ k = ((y.length : Int) != 0) := e
    subst e'
    exact PySem.P.truthy_str (by omega) ⟨H, I.tok _, q⟩
  | byt y =>
    obtain ⟨t, rfl⟩ := rx
    obtain ⟨hy, e'⟩ : y.size ≤ sizeLine ∧ k = ((y.size : Int) != 0) := e
    subst e'
    exact PySem.W.truthy_bytes (by exact Nat.le_trans (by assumption) (by decide)) ⟨H, I.tok _, q⟩
  | ref p =>
    cases rx
    have e' : (∃ xs, SqL X.K H p xs ∧ k = !xs.isEmpty) ∨ (∃ xs, SqT X.K H p xs ∧ k = !xs.isEmpty) ∨ ∃ kvs, H p = some (.dK kvs) ∧ k = !kvs.isEmpty := e
    rcases e' with ⟨xs, hx, e'⟩ | ⟨xs, hx, e'⟩ | ⟨kvs, hx, e'⟩
    · subst e'
      obtain ⟨its, r, pl, hz⟩ := I.list hx
      have hlen := r.length
      exact wpAny_truthy_list pl.isList (by simp only [List.size_toArray]; omega) ⟨H, I.tok _, by rw [isEmpty_of r]; exact q⟩
    · subst e'
      obtain ⟨its, r, pl, hz⟩ := I.tuple hx
      have hlen := r.length
      exact truthy_tuple pl (by simp only [List.size_toArray]; omega) ⟨H, I.tok _, by rw [isEmpty_of r]; exact q⟩
    · subst e'
      obtain ⟨hz, hS, vs, r, m⟩ : kvs.length ≤ sizeLine ∧ (p == sysModules) = false ∧ ∃ vs, KV kvs vs ∧ s.heap.DictOf (mixKind X.prog X.w) p vs := I.hok p _ hx
      have hlen : kvs.length = vs.length := Paired.length r
      exact wpAny_truthy_dict hS m (by omega) ⟨H, I.tok _, by rw [isEmpty_kv r]; exact q⟩
  | _ => exact (show False from e).elim
theorem pt_truth (ha : PE X a ta) (he : ∀ whole, isTrue a X.env whole = (do let v ← whole; standAt a.pos; holding [v] (truthy v))) :
    PT X a (fun σ H Q => ta σ H fun x H' => ∃ k, TruV X.K x H' k ∧ Q k H') := by
  intro pins s σ H Q I h
  exact isTrue_plain (thn (ha pins s σ H _ I h) fun v s1 ⟨x, H1, I1, r1, q1⟩ => tru_ok pins s1 σ H1 x v Q I1 r1 q1) (he _)
theorem op_add_str : OpR X (binaryOp .Add) (fun x y H Q => ∃ i j, x = .str i ∧ y = .str j ∧ i.length + j.length ≤ sizeLine ∧ Q (.str (i ++ j)) H) := by
  intro pins s σ H x y v u Q I rx ry h
  obtain ⟨i, j, rfl, rfl, hz, q⟩ := h
  obtain ⟨t, rfl⟩ := rx
  obtain ⟨t', rfl⟩ := ry
  exact add_str (fun t' tk => ⟨.str (i ++ j), H, I.tok _, ⟨_, rfl⟩, q⟩) hz
theorem vals1 {x : V} {us : List Value} (r : Vals [x] us) : ∃ u, us = [u] ∧ RelV x u := by
  cases r with
  | cons r1 r2 => cases r2; exact ⟨_, rfl, r1⟩
theorem vals2 {x y : V} {us : List Value} (r : Vals [x, y] us) : ∃ u w', us = [u, w'] ∧ RelV x u ∧ RelV y w' := by
  cases r with
  | cons r1 r2 =>
    cases r2 with
    | cons r3 r4 => cases r4; exact ⟨_, _, rfl, r1, r3⟩
theorem call_max2 (hc : X.calm = true) : CallR X (.builtin "max") (fun xs H Q => ∃ i j, xs = [.int i, .int j] ∧ Q (.int (if j > i then j else i)) H) := by
  intro pins s σ H xs us Q I r h
  obtain ⟨i, j, rfl, q⟩ := h
  obtain ⟨u, w', rfl, ⟨t, rfl⟩, ⟨t', rfl⟩⟩ := vals2 r
  refine max_two_ints (I.ok.hd hc) fun h' tk k => ⟨_, H, I.kept k, ?_, q⟩
  by_cases hj : j > i
  · rw [if_pos hj, if_pos hj]; exact ⟨_, rfl⟩
  · rw [if_neg hj, if_neg hj]; exact ⟨_, rfl⟩
theorem call_min2 (hc : X.calm = true) : CallR X (.builtin "min") (fun xs H Q => ∃ i j, xs = [.int i, .int j] ∧ Q (.int (if j < i then j else i)) H) := by
  intro pins s σ H xs us Q I r h
  obtain ⟨i, j, rfl, q⟩ := h
  obtain ⟨u, w', rfl, ⟨t, rfl⟩, ⟨t', rfl⟩⟩ := vals2 r
  refine min_two_ints (I.ok.hd hc) fun h' tk k => ⟨_, H, I.kept k, ?_, q⟩
  by_cases hj : j < i
  · rw [if_pos hj, if_pos hj]; exact ⟨_, rfl⟩
  · rw [if_neg hj, if_neg hj]; exact ⟨_, rfl⟩
theorem call_int1 : CallR X (.type "int") (fun xs H Q => (∃ i, xs = [.int i] ∧ Q (.int i) H) ∨ ∃ k, xs = [.bl k] ∧ Q (.int (if k then 1 else 0)) H) := by
  intro pins s σ H xs us Q I r h
  rcases h with ⟨i, rfl, q⟩ | ⟨k, rfl, q⟩
  · obtain ⟨u, rfl, t, rfl⟩ := vals1 r
    exact call_int_int ⟨.int i, H, I, ⟨_, rfl⟩, q⟩
  · obtain ⟨u, rfl, r1⟩ := vals1 r
    cases r1
    exact call_int_bool ⟨.int (if k then 1 else 0), H, I.tok _, ⟨_, rfl⟩, q⟩
end
end L2
namespace L2
open PySem PySem.Spec PyProof.Rows
structure ObjM (h : Heap) (x dx C : Addr) (mA : Str → Option Value) : Prop where
  obj : h.get? x = some (PySem.W.instObj C dx)
  ns : h.Ns1 dx mA
  ne : dx ≠ x
theorem lookIn_ns {h : Heap} {dx : Addr} {mA : Str → Option Value} (n : h.Ns1 dx mA) : ∃ od, h.get? dx = some od ∧ ∀ name, PySem.W.lookIn name od = some (mA name) := by
  obtain ⟨o, es, ep, ho, hd, hk, _, hm⟩ := n
  refine ⟨o, ho, fun name => ?_⟩
  have e := hm name
  unfold nsFind findBy at e
  rw [← Array.find?_toList] at e
  unfold PySem.W.lookIn
  rw [hd]
  dsimp only
  split
  · rename_i y q
    rw [q] at e
    exact congrArg some e
  · rename_i q
    rw [q] at e
    have a : es.toList.any (·.refKey) = false := by
      rw [List.any_eq_false]
      intro y hy
      obtain ⟨z, t, hkey⟩ := hk y (Array.mem_toList_iff.mp hy)
      simp [DictEntry.refKey, hkey]
    have a' : ¬ es.toList.any (·.refKey) = true := by rw [a]; exact Bool.false_ne_true
    rw [if_neg a']
    exact congrArg some e
theorem ObjM.look {h : Heap} {x dx C : Addr} {mA : Str → Option Value} (I : ObjM h x dx C mA) : ∃ od, PySem.W.InstAt h x (PySem.W.instObj C dx) C (some od) ∧ ∀ name, PySem.W.lookIn name od = some (mA name) :=
  let ⟨od, ho, hl⟩ := lookIn_ns I.ns
  ⟨od, ⟨I.obj, rfl, rfl, ho⟩, hl⟩
section
variable {prog : Program} {w : World} {A : Around} {E : Value → Shared → Prop} {s : Shared} {K : PySem.W.Frag} {x dx C f : Addr} {mA : Str → Option Value} {name : Str} {v : Value}
theorem get_map {expr : Bool} {Q : Value → Shared → Prop} (X : K.In s.heap) (I : ObjM s.heap x dx C mA) (hg : PySem.W.plainGet K C name = true) (hh : PySem.W.hasDictIn K C = true)
    (ha : PySem.W.findIn K (.ref C) name = some none) (hv : mA name = some v) (hv' : PySem.W.handedIn v = true) (h : Q v { s with toks := s.toks + 1 }) :
    wpAny (model prog w) A (getAttr (.ref x) name expr) Q E s := by
  obtain ⟨od, J, hl⟩ := I.look
  exact PySem.W.get_value X J (PySem.W.plainGet_of hg).1 (PySem.W.findObj_own hh ha rfl (by rw [hl, hv])) hv' h
theorem get_meth {pl : Sem Bool} {Q : Value × List Value → Shared → Prop} (X : K.In s.heap) (I : ObjM s.heap x dx C mA) (hg : PySem.W.plainGet K C name = true)
    (hf : PySem.W.findIn K (.ref C) name = some (some (.ref f))) (ht : PySem.W.isFn K (.ref f) = true) (hv : mA name = none) (h : Q (.ref f, [.ref x]) s) :
    wpAny (model prog w) A (getMethod (.ref x) name pl) Q E s := by
  obtain ⟨od, J, hl⟩ := I.look
  exact PySem.W.method_fn X J (PySem.W.plainGet_of hg).1 (PySem.W.plainGet_of hg).2 hf (beq_iff_eq.mp ht) (by show (PySem.W.lookIn name od).map (·.isSome) = some false; rw [hl, hv]; rfl) h
theorem set_map {ns : List Str} {Q : Unit → Shared → Prop} (X : K.In s.heap) (I : ObjM s.heap x dx C mA)
    (hs : PySem.W.findIn K (.ref C) "__setattr__" = some (some (.builtin "object.__setattr__"))) (hp : PySem.W.plainOver K C = true) (ht : PySem.W.takerIn K C name = some none) (hh : PySem.W.hasDictIn K C = true)
    (hw : PySem.Within mA ns) (hsz : ns.length ≤ sizeLine)
    (h : ∀ h', ObjM h' x dx C (fun y => if y = name then some v else mA y) → Heap.SameBut dx s.heap h' → Q () { s with heap := h', toks := s.toks + 2 }) :
    wpAny (model prog w) A (setAttr (.ref x) name v) Q E s := by
  obtain ⟨od, J, hl⟩ := I.look
  refine PySem.W.set_plain X J hs (PySem.W.osa_open (s := { s with toks := s.toks + 1 }) (r := none) X J hp ht fun b => ?_)
  obtain ⟨cd, hc, hd'⟩ := PySem.W.any_some hh
  have hx : s.heap.get? x = some ⟨.ref C, some dx, .plain, #[]⟩ := I.obj
  refine wpAny_bind (wpAny_pure (wpAny_bind (wpAny_bind (wpAny_loadPart hx (wpAny_bind (PySem.W.Looks.here (s := { s with toks := s.toks + 1 }) (PySem.W.looks_clsIn X hc) ?_))))))
  rw [hd']
  refine wpAny_pure (a := some dx) (wpAny_bind (wpAny_pure (wpAny_bind ?_)))
  refine wpAny_nsSet1 (s := { s with toks := s.toks + 1 }) I.ns fun h' hn2 hs2 => ?_
  obtain ⟨oD, esD, epD, hoD, hdD, hcD⟩ := hn2.count (PySem.Within.cons name v hw)
  refine wpAny_bind (wpAny_lookBehind hoD (by rw [hdD]; exact pastItsLine_dict (Nat.le_trans hcD (by rw [List.length_cons]; exact Nat.lt_of_le_of_lt (by assumption) (by decide)))) ?_)
  exact wpAny_pure (h _ ⟨(hs2.2 _ (Ne.symm I.ne)).trans I.obj, hn2, I.ne⟩ hs2)
theorem make_map {R : Result → Shared → Prop} {vs : List Value} {kw : List (Str × Value)} (X : K.In s.heap) (hm : PySem.W.makesIn K C = true)
    (hi : PySem.W.findIn K (.ref C) "__init__" = some (some (.ref f))) (hf : PySem.W.typeIn K (.ref f) = some (.type "function"))
    (h : codeAny (model prog w) (A.under (.builtin "type.__call__" ⟨.ref C :: vs, kw⟩)) (.call (.ref f) ⟨.ref (s.heap.objs.size + 1) :: vs, kw⟩) (PySem.W.InitBack (s.heap.objs.size + 1) R)
      { s with heap := (s.heap.push PySem.W.emptyDict).push (PySem.W.instObj C s.heap.objs.size) }) :
    codeAny (model prog w) A (.call (.ref C) ⟨vs, kw⟩) R s := by
  obtain ⟨hh, g, d, t, os⟩ := s
  exact PySem.W.make_core (PySem.W.makes_of X hm) (PySem.W.looks_findIn X hi) (fun self => PySem.W.bind_fn X self hf) (.inl rfl) h
end
def putF (f : Str) (v : V) : List (Str × V) → List (Str × V)
  | [] => [(f, v)]
  | (g, x) :: r => if g = f then (g, v) :: r else (g, x) :: putF f v r
theorem lookup_putF (f g : Str) (v : V) : ∀ fs : List (Str × V), (putF f v fs).lookup g = if g = f then some v else fs.lookup g
  | [] => by
    show List.lookup g [(f, v)] = _
    by_cases h : g = f
    · have hb : (g == f) = true := beq_iff_eq.mpr h
      simp only [List.lookup, hb, if_pos h]
    · have hb : (g == f) = false := beq_eq_false_iff_ne.mpr h
      simp only [List.lookup, hb, if_neg h]
  | (k, x) :: r => by
    have ih := lookup_putF f g v r
    rw [show putF f v ((k, x) :: r) = (if k = f then (k, v) :: r else (k, x) :: putF f v r) from rfl]
    by_cases hk : k = f
    · rw [if_pos hk]
      by_cases h : g = k
      · have hb : (g == k) = true := beq_iff_eq.mpr h
        simp only [List.lookup, hb, if_pos (h.trans hk)]
      · have hb : (g == k) = false := beq_eq_false_iff_ne.mpr h
        simp only [List.lookup, hb, if_neg (fun e : g = f => h (e.trans hk.symm))]
    · rw [if_neg hk]
      by_cases h : g = k
      · have hb : (g == k) = true := beq_iff_eq.mpr h
        simp only [List.lookup, hb, if_neg (fun e : g = f => hk (h.symm.trans e))]
      · have hb : (g == k) = false := beq_eq_false_iff_ne.mpr h
        simp only [List.lookup, hb]
        exact ih
theorem keys_putF (f : Str) (v : V) : ∀ fs : List (Str × V), f ∈ (putF f v fs).map (·.1) ∧ ∀ g, g ∈ fs.map (·.1) → g ∈ (putF f v fs).map (·.1)
  | [] => ⟨by simp [putF], fun g h => by simp at h⟩
  | (k, x) :: r => by
    obtain ⟨i1, i2⟩ := keys_putF f v r
    rw [show putF f v ((k, x) :: r) = (if k = f then (k, v) :: r else (k, x) :: putF f v r) from rfl]
    by_cases hk : k = f
    · rw [if_pos hk]
      subst hk
      exact ⟨by simp, fun g h => by simpa using h⟩
    · rw [if_neg hk]
      refine ⟨?_, fun g h => ?_⟩
      · rw [List.map_cons]
        exact List.mem_cons_of_mem _ i1
      · rw [List.map_cons] at h ⊢
        rcases List.mem_cons.mp h with e | e
        · exact List.mem_cons.mpr (.inl e)
        · exact List.mem_cons_of_mem _ (i2 g e)
theorem length_putF (f : Str) (v : V) : ∀ fs : List (Str × V), (putF f v fs).length ≤ fs.length + 1
  | [] => by simp [putF]
  | (k, x) :: r => by
    have ih := length_putF f v r
    rw [show putF f v ((k, x) :: r) = (if k = f then (k, v) :: r else (k, x) :: putF f v r) from rfl]
    by_cases hk : k = f
    · rw [if_pos hk, List.length_cons, List.length_cons]; exact Nat.le_add_right _ _
    · rw [if_neg hk, List.length_cons, List.length_cons]; exact Nat.succ_le_succ (by assumption)
theorem RelO.some_of {v : V} {o : Option Value} (r : RelO (some v) o) : ∃ u, o = some u ∧ RelV v u := by
  cases o with
  | none => exact (show False from r).elim
  | some u => exact ⟨u, rfl, r⟩
theorem RelO.none_of {o : Option Value} (r : RelO none o) : o = none := by
  cases o with
  | none => rfl
  | some u => exact (show False from r).elim
theorem handed_of {v : V} {u : Value} (r : RelV v u) : PySem.W.handedIn u = true := by
  cases v with
  | non => cases (show u = Value.none from r); rfl
  | bl b => cases (show u = Value.bool b from r); rfl
  | int i => obtain ⟨t, e⟩ := (show ∃ t, u = Value.int i t from r); cases e; rfl
  | str x => obtain ⟨t, e⟩ := (show ∃ t, u = Value.str x t from r); cases e; rfl
  | byt b => obtain ⟨t, e⟩ := (show ∃ t, u = Value.bytes b t from r); cases e; rfl
  | flt b => obtain ⟨t, e⟩ := (show ∃ t, u = Value.float b t from r); cases e; rfl
  | ref a => cases (show u = Value.ref a from r); rfl
  | ty n => cases (show u = Value.type n from r); rfl
section
variable {P : Program} {w : World} {H H' : Hp} {h h' : Heap} {a C dx : Addr} {fs fs' : List (Str × V)}
theorem ins_get (hok : HOk P w H h) (e : H a = some (.ins C dx fs)) : ∃ mA, ObjM h a dx C mA ∧ (∀ f, RelO (fs.lookup f) (mA f)) ∧ PySem.Within mA (fs.map (·.1)) ∧ fs.length ≤ 1000 ∧ H dx = some (.own a) := by
  obtain ⟨d, z, ne, ob, mA, n, r, q⟩ := (show ObjOk P w H h a (.ins C dx fs) from hok a _ e)
  exact ⟨mA, ⟨ob, n, ne⟩, r, q, z, d⟩
end
structure Cls (K : PySem.W.Frag) (C : Addr) : Prop where
  pg : PySem.W.plainGet K C Str.empty = true
  hd : PySem.W.hasDictIn K C = true
  po : PySem.W.plainOver K C = true
  sa : PySem.W.findIn K (.ref C) "__setattr__" = some (some (.builtin "object.__setattr__"))
theorem Cls.get {K : PySem.W.Frag} {C : Addr} (c : Cls K C) (f : Str) : PySem.W.plainGet K C f = true := c.pg
def NoAttr (K : PySem.W.Frag) (C : Addr) (f : Str) : Prop := PySem.W.findIn K (.ref C) f = some none
theorem NoAttr.taker {K : PySem.W.Frag} {C : Addr} {f : Str} (n : NoAttr K C f) : PySem.W.takerIn K C f = some none := by
  unfold PySem.W.takerIn
  rw [show PySem.W.findIn K (.ref C) f = some none from n]
  rfl
structure Meth (K : PySem.W.Frag) (C : Addr) (m : Str) (f : Addr) : Prop where
  at_ : PySem.W.findIn K (.ref C) m = some (some (.ref f))
  fn : PySem.W.isFn K (.ref f) = true
  kp : PySem.W.keepIn K (.ref f) = true
section
variable {X : Cx} {pins : List (Addr × Obj)} {σ : St} {H : Hp} {s : Shared} {a C dx : Addr} {fs : List (Str × V)} {f : Str} {v : V} {A : Around} {E : Value → Shared → Prop}
theorem getattr_ok {b : Bool} {Q : Value → Shared → Prop} (I : Inv X pins σ H s) (e : H a = some (.ins C dx fs)) (c : Cls X.K C) (n : NoAttr X.K C f) (l : fs.lookup f = some v)
    (h : ∀ u s', Inv X pins σ H s' → RelV v u → Q u s') : wpAny (model X.prog X.w) A (getAttr (.ref a) f b) Q E s := by
  obtain ⟨mA, O, r, _, _, _⟩ := ins_get I.hok e
  obtain ⟨u, hu, ru⟩ := RelO.some_of (v := v) (o := mA f) (by rw [← l]; exact r f)
  exact get_map I.kIn O (c.get f) c.hd n hu (handed_of ru) (h u _ (I.tok _) ru)
theorem getmeth_ok {m : Str} {g : Addr} {pl : Sem Bool} {Q : Value × List Value → Shared → Prop} (I : Inv X pins σ H s) (e : H a = some (.ins C dx fs)) (c : Cls X.K C) (k : Meth X.K C m g) (l : fs.lookup m = none)
    (h : Q (.ref g, [.ref a]) s) : wpAny (model X.prog X.w) A (getMethod (.ref a) m pl) Q E s := by
  obtain ⟨mA, O, r, _, _, _⟩ := ins_get I.hok e
  have hn : mA m = none := RelO.none_of (by rw [← l]; exact r m)
  exact get_meth I.kIn O (c.get m) k.at_ k.fn hn h
theorem setattr_ok {y : V} {u : Value} {Q : Unit → Shared → Prop} (I : Inv X pins σ H s) (e : H a = some (.ins C dx fs)) (c : Cls X.K C) (n : NoAttr X.K C f) (hl : fs.length < 1000) (ry : RelV y u)
    (h : ∀ s', Inv X pins σ (upd H a (.ins C dx (putF f y fs))) s' → Q () s') : wpAny (model X.prog X.w) A (setAttr (.ref a) f u) Q E s := by
  obtain ⟨mA, O, r, wi, _, ho⟩ := ins_get I.hok e
  have hz : (fs.map (·.1)).length ≤ sizeLine := by rw [List.length_map, sizeLine_eq]; exact Nat.le_trans (by assumption) (by decide)
  refine set_map I.kIn O c.sa c.po n.taker c.hd wi hz fun h' O' sb => h _ ?_
  have hd : ∃ o, h'.get? dx = some o := let ⟨o, _, _, e', _⟩ := O'.ns; ⟨o, e'⟩
  refine I.write (x := a) (e := dx) (by rw [e]; exact True.intro) (.inr ho) (fun b q hb z => (sb.2 b hb).trans z) hd ?_
  refine ⟨by rw [upd_ne O.ne]; exact ho, ?_, O.ne, O'.obj, _, O'.ns, fun g => ?_, fun g hg => ?_⟩
  · have := length_putF f y fs; exact Nat.le_trans (by assumption) (by assumption)
  · show RelO ((putF f y fs).lookup g) (if g = f then some u else mA g)
    rw [lookup_putF]
    by_cases q : g = f
    · rw [if_pos q, if_pos q]; exact ry
    · rw [if_neg q, if_neg q]; exact r g
  · by_cases q : g = f
    · rw [q]; exact (keys_putF f y fs).1
    · refine (keys_putF f y fs).2 g (wi g fun z => hg ?_)
      show (if g = f then some u else mA g) = none
      rw [if_neg q]; exact z
theorem Inv.made (I : Inv X pins σ H s) : Inv X pins σ (upd (upd H s.heap.objs.size (.own (s.heap.objs.size + 1))) (s.heap.objs.size + 1) (.ins C s.heap.objs.size []))
    { s with heap := (s.heap.push PySem.W.emptyDict).push (PySem.W.instObj C s.heap.objs.size) } := by
  have e1 : (s.heap.push PySem.W.emptyDict).get? s.heap.objs.size = some PySem.W.emptyDict := Heap.get?_push_size s.heap rfl
  have e2 : ((s.heap.push PySem.W.emptyDict).push (PySem.W.instObj C s.heap.objs.size)).get? (s.heap.objs.size + 1) = some (PySem.W.instObj C s.heap.objs.size) := by
    have := Heap.get?_push_size (s.heap.push PySem.W.emptyDict) (o := PySem.W.instObj C s.heap.objs.size) rfl
    rwa [Heap.size_push] at this
  have e3 : (s.heap.push PySem.W.emptyDict).Ns s.heap.objs.size (fun _ => none) := ⟨PySem.W.emptyDict, #[], _, e1, rfl, (fun e he => absurd he (by simp)), fun _ => rfl⟩
  have I1 := I.laid (a := s.heap.objs.size) (o := .own (s.heap.objs.size + 1)) (h' := s.heap.push PySem.W.emptyDict) (t' := s.toks) (fun b u q => Heap.get?_push_of_some _ q) (Nat.le_refl _) ⟨_, e1⟩
  refine I1.laid (a := s.heap.objs.size + 1) (o := .ins C s.heap.objs.size []) (t' := s.toks) (fun b u q => Heap.get?_push_of_some _ q) (Nat.le_of_eq (Heap.size_push _ _)) ?_
  have ne : s.heap.objs.size ≠ s.heap.objs.size + 1 := Nat.ne_of_lt (Nat.lt_succ_self _)
  refine ⟨by rw [upd_ne ne, upd_same], Nat.zero_le _, ne, e2, fun _ => none, (Heap.Ns1.of_empty e3).at fun o q => Heap.get?_push_of_some _ q, fun _ => True.intro, fun y hy => absurd rfl hy⟩
theorem attr_of {prog : Program} {w : World} {env : Env} {e : Expr} {f : Str} {pos : Pos} {s : Shared} {Q : Value → Shared → Prop} (hb : attributeBase e f env (eval e env) = eval e env)
    (h : wpAny (model prog w) A (eval e env) (fun o s₁ => wpAny (model prog w) A (getAttr o f true) Q E s₁) E s) : wpAny (model prog w) A (eval (.Attribute e f pos) env) Q E s :=
  Attribute_any_ h (by rw [arm_eval_Attribute, hb])
end
def tFld (K : PySem.W.Frag) (ta : TE) (f : Str) : TE := fun σ H Q => ta σ H fun x H1 => ∃ a C dx fs v, x = .ref a ∧ H1 a = some (.ins C dx fs) ∧ Cls K C ∧ NoAttr K C f ∧ fs.lookup f = some v ∧ Q v H1
def sFld (K : PySem.W.Frag) (ta tv : TE) (f : Str) : TS := fun D σ H => tv σ H fun y H1 => ta σ H1 fun x H2 => ∃ a C dx fs, x = .ref a ∧ H2 a = some (.ins C dx fs) ∧ Cls K C ∧ NoAttr K C f ∧ fs.length < 1000 ∧
  D.nx σ (upd H2 a (.ins C dx (putF f y fs)))
section
variable {X : Cx} {o e value : Expr} {f : Str} {pos pos' tpos : Pos} {ta tv : TE}
theorem pe_fld (he : PE X e ta) (hb : attributeBase e f X.env (eval e X.env) = eval e X.env) : PE X (.Attribute e f pos) (tFld X.K ta f) := by
  intro pins s σ H Q I h
  refine attr_of hb (thn (he pins s σ H _ I h) fun u s1 ⟨x, H1, I1, rx, a, C, dx, fs, v, ex, ea, c, n, l, q⟩ => ?_)
  subst ex
  obtain rfl : u = Value.ref a := rx
  exact getattr_ok I1 ea c n l fun u' s2 I2 ru => ⟨v, H1, I2, ru, q⟩
theorem ps_fld (ha : PE X o ta) (hv : PE X value tv) (hs : swapsWith value (some (.Attribute o f pos')) pos.line X.env = pure false) : PS X (.Assign [.Attribute o f pos'] value pos) (sFld X.K ta tv f) := by
  intro pins s σ H D I h
  refine plainObj_wpAny_Assign_Attribute (thn (hv pins s σ H _ I h) fun u s1 ⟨y, H1, I1, ry, q⟩ => thn (ha pins s1 σ H1 _ I1 q) fun ov s2 ⟨x, H2, I2, rx, a, C, dx, fs, ex, ea, c, n, l, q2⟩ => ?_) hs
  subst ex
  obtain rfl : ov = Value.ref a := rx
  exact setattr_ok I2 ea c n l ry fun s3 I3 => ⟨σ, _, I3, q2⟩
end
section
variable {X : Cx} {pins : List (Addr × Obj)} {σ : St} {H : Hp} {s : Shared} {A : Around} {E : Value → Shared → Prop} {Q : Value → Shared → Prop} {c : Value} {b : Bool}
inductive TyOf (K : PySem.W.Frag) (H : Hp) : V → Value → Prop where
  | non : TyOf K H .non (.type "NoneType")
  | bl (x : Bool) : TyOf K H (.bl x) (.type "bool")
  | int (i : Int) : TyOf K H (.int i) (.type "int")
  | str (x : Str) : TyOf K H (.str x) (.type "str")
  | flt (x : UInt64) : TyOf K H (.flt x) (.type "float")
  | lst {a : Addr} {xs : List V} (e : H a = some (.lst xs)) : TyOf K H (.ref a) (.type "list")
  | frz {a : Addr} {o : Obj} {xs : List V} (e : H a = some (.frz o (.lst xs))) : TyOf K H (.ref a) (.type "list")
  | tup {a : Addr} {xs : List V} (e : H a = some (.tup xs)) : TyOf K H (.ref a) (.type "tuple")
  | dK {a : Addr} {kvs : List (Key × V)} (e : H a = some (.dK kvs)) : TyOf K H (.ref a) (.type "dict")
  | dT {a : Addr} {kvs : List (List Key × V)} (e : H a = some (.dT kvs)) : TyOf K H (.ref a) (.type "dict")
  | ins {a C dx : Addr} {fs : List (Str × V)} (e : H a = some (.ins C dx fs)) (cl : Cls K C) (ha : PySem.W.findIn K (.ref C) "__class__" = some (some (.builtin "object.__class__")))
      (hn : PySem.W.specialIn K (.builtin "object.__class__") "__get__" = some (some (.builtin "getset_descriptor.__get__"))) (htk : PySem.W.takesIn K (.builtin "object.__class__") = some true)
      (hm : PySem.W.mroIn K C (.type "object") = some true) : TyOf K H (.ref a) (.ref C)
theorem isinst_ok {x : V} {u t : Value} (I : Inv X pins σ H s) (rx : RelV x u) (ty : TyOf X.K H x t) (e : PySem.W.kitOne X.K t c = some b) (h : ∀ tk, Q (.bool b) { s with toks := tk }) :
    wpAny (model X.prog X.w) A (call (.builtin "isinstance") [u, c]) Q E s := by
  cases ty with
  | non => cases (show u = Value.none from rx); exact PySem.W.kia_one PySem.W.kitx_none I.kIn True.intro e (fun z => nomatch z) h
  | bl y => cases (show u = Value.bool y from rx); exact PySem.W.kia_one PySem.W.kitx_bool I.kIn True.intro e (fun z => nomatch z) h
  | int i => obtain ⟨t, q⟩ := (show ∃ t, u = Value.int i t from rx); cases q; exact PySem.W.kia_one PySem.W.kitx_int I.kIn True.intro e (fun z => nomatch z) h
  | str y => obtain ⟨t, q⟩ := (show ∃ t, u = Value.str y t from rx); cases q; exact PySem.W.kia_one PySem.W.kitx_str I.kIn True.intro e (fun z => nomatch z) h
  | flt y => obtain ⟨t, q⟩ := (show ∃ t, u = Value.float y t from rx); cases q; exact PySem.W.kia_one PySem.W.kitx_float I.kIn True.intro e (fun z => nomatch z) h
  | @lst a xs ea =>
    cases (show u = Value.ref a from rx)
    obtain ⟨_, _, n, _, h1⟩ := (show ObjOk X.prog X.w H s.heap a (.lst xs) from I.hok a _ ea)
    exact PySem.W.kia_one PySem.W.kitx_list I.kIn ⟨_, h1, rfl⟩ e (fun z => nomatch z) h
  | @frz a ob xs ea =>
    cases (show u = Value.ref a from rx)
    obtain ⟨_, _, _, n, _, h1⟩ := (show ObjOk X.prog X.w H s.heap a (.frz ob (.lst xs)) from I.hok a _ ea)
    exact PySem.W.kia_one PySem.W.kitx_list I.kIn ⟨_, h1, rfl⟩ e (fun z => nomatch z) h
  | @tup a xs ea =>
    cases (show u = Value.ref a from rx)
    obtain ⟨_, _, _, p⟩ := (show ObjOk X.prog X.w H s.heap a (.tup xs) from I.hok a _ ea)
    obtain ⟨o, h1, h2, _⟩ := p
    exact PySem.W.kia_one PySem.W.kitx_tuple I.kIn ⟨o, h1, h2⟩ e (fun z => nomatch z) h
  | @dK a kvs ea =>
    cases (show u = Value.ref a from rx)
    obtain ⟨_, _, vs, _, p⟩ := (show ObjOk X.prog X.w H s.heap a (.dK kvs) from I.hok a _ ea)
    obtain ⟨o, es, ep, h1, h2, _⟩ := p
    exact PySem.W.kia_one PySem.W.kitx_dict I.kIn ⟨o, h1, h2.1⟩ e (fun z => nomatch z) h
  | @dT a kvs ea =>
    cases (show u = Value.ref a from rx)
    obtain ⟨_, _, xs, _, o, es, ep, h1, h2, _⟩ := (show ObjOk X.prog X.w H s.heap a (.dT kvs) from I.hok a _ ea)
    exact PySem.W.kia_one PySem.W.kitx_dict I.kIn ⟨o, h1, h2.1⟩ e (fun z => nomatch z) h
  | @ins a C dx fs ea cl ha hn htk hm =>
    cases (show u = Value.ref a from rx)
    obtain ⟨mA, O, _⟩ := ins_get I.hok ea
    obtain ⟨od, J, _⟩ := O.look
    exact PySem.W.kia_one (PySem.W.kitx_own (cl.get _) cl.hd ha hn htk hm) I.kIn J e (fun z => nomatch z) h
end
end L2
namespace L2
open PySem PySem.Spec PyProof.Rows
structure Room (k : Nat) (A : Around) : Prop where
  hd : A.handled = none
  dp : A.depth + 3 * k + 5 < recursionLimit
  un : A.units + 16 * k + 200 < cLine
  gd : A.guards = some []
theorem Room.mono {j k : Nat} {A : Around} (r : Room k A) (h : j ≤ k) : Room j A := ⟨r.hd, by have := r.dp; omega, by have := r.un; omega, r.gd⟩
theorem Room.deeper {k : Nat} {A : Around} (r : Room (k + 1) A) (env : Env) : Room k (A.deeper env) :=
  ⟨r.hd, by have := r.dp; show A.depth + 1 + 3 * k + 5 < _; omega, by have := r.un; show A.units + 3 + 16 * k + 200 < _; omega, by show pushGuards [] A.guards = some []; rw [r.gd]; rfl⟩
theorem make_depth {A : Around} {C : Addr} {us : List Value} {kw : List (Str × Value)} : (A.under (.builtin "type.__call__" ⟨.ref C :: us, kw⟩)).depth = A.depth + 1 := by
  first | rfl | simp [Around.under, Code.weight, Code.isCreation, Code.isGuard, Code.isCaller, Code.frames, Code.isFrame, guardIds]
theorem make_units {A : Around} {C : Addr} {us : List Value} {kw : List (Str × Value)} : (A.under (.builtin "type.__call__" ⟨.ref C :: us, kw⟩)).units = A.units + 1 := by
  first | rfl | simp [Around.under, Code.cUnits, Code.frames, Code.isFrame]
theorem make_guards {A : Around} {C : Addr} {us : List Value} {kw : List (Str × Value)} : (A.under (.builtin "type.__call__" ⟨.ref C :: us, kw⟩)).guards = A.guards := by
  cases h : A.guards <;> simp [Around.under, Code.guards, Code.isGuard, guardIds, pushGuards, h]
theorem Room.make {k : Nat} {A : Around} (r : Room (k + 1) A) (C : Addr) (us : List Value) (kw : List (Str × Value)) : Room k (A.under (.builtin "type.__call__" ⟨.ref C :: us, kw⟩)) :=
  ⟨r.hd, by have := r.dp; rw [make_depth]; omega, by have := r.un; rw [make_units]; omega, by rw [make_guards]; exact r.gd⟩
theorem Room.depth {k : Nat} {A : Around} (r : Room k A) : A.depth < recursionLimit := by have := r.dp; omega
theorem Room.units {k : Nat} {A : Around} (r : Room k A) : A.units + 64 < cLine := by have := r.un; omega
def tNil : TA := fun _ H Q => Q [] H
def tCons (ta : TE) (tr : TA) : TA := fun σ H Q => ta σ H fun x H1 => tr σ H1 fun xs H2 => Q (x :: xs) H2
section
variable {X : Cx} {e : Expr} {es : List Expr} {te : TE} {t : TA} {pos : Pos}
theorem pa_nil : PA X [] tNil := fun _ _ _ _ H Q I h => Calls.spliced_nil ⟨[], H, I, .nil, h⟩
theorem pa_cons (ha : PE X e te) (hr : PA X es t) (hs : starEach (e :: es) X.env = (false, eval e X.env) :: starEach es X.env := by rfl) : PA X (e :: es) (tCons te t) := by
  intro pos pins s σ H Q I h
  rw [hs]
  show wpAny _ _ (spliced ((false, eval e X.env) :: backTo pos (starEach es X.env))) _ _ s
  refine Calls.spliced_cons (thn (ha pins s σ H _ I h) fun u s1 ⟨x, H1, I1, r1, q1⟩ => ?_)
  exact thn (hr pos pins s1 σ H1 _ I1 q1) fun us s2 ⟨xs, H2, I2, r2, q2⟩ => ⟨x :: xs, H2, I2, .cons r1 r2, q2⟩
def tTup (t : TA) : TE := fun σ H Q => t σ H fun xs H1 => xs.length ≤ sizeLine ∧ ∀ p, H1 p = none → Q (.ref p) (upd H1 p (.tup xs))
def tLst (t : TA) : TE := fun σ H Q => t σ H fun xs H1 => xs.length ≤ sizeLine ∧ ∀ p, H1 p = none → Q (.ref p) (upd H1 p (.lst xs))
theorem pe_tup {x1} (h : PA X es t) : PE X (.Tuple es x1 pos) (tTup t) := by
  intro pins s σ H Q I hq
  refine wpAny_Tuple_spliced (thn (h pos pins s σ H _ I hq) fun us s1 ⟨xs, H1, I1, r, z, q⟩ => ⟨by rw [← r.length]; exact z, ?_⟩)
  have hf : H1 s1.heap.objs.size = none := I1.hok.fresh (Nat.le_refl _)
  refine ⟨.ref s1.heap.objs.size, upd H1 s1.heap.objs.size (.tup xs), I1.laid (t' := s1.toks) (fun b u e => Heap.get?_push_of_some _ e) (Nat.le_refl _) ?_, rfl, q _ hf⟩
  exact ⟨z, us, r, IsTupN.new _ _⟩
theorem pe_lst (h : PA X es t) : PE X (.List es pos) (tLst t) := by
  intro pins s σ H Q I hq
  refine wpAny_List_spliced (thn (h pos pins s σ H _ I hq) fun us s1 ⟨xs, H1, I1, r, z, q⟩ => ⟨by rw [← r.length]; exact z, ?_⟩)
  have hf : H1 s1.heap.objs.size = none := I1.hok.fresh (Nat.le_refl _)
  refine ⟨.ref s1.heap.objs.size, upd H1 s1.heap.objs.size (.lst xs), I1.laid (t' := s1.toks) (fun b u e => Heap.get?_push_of_some _ e) (Nat.le_refl _) ?_, rfl, q _ hf⟩
  exact ⟨z, us, 0, r, Heap.get?_push_size _ rfl⟩
end
abbrev Sp := List V → Hp → VK → XK → Prop
abbrev CXT := List Env → Hp → Shared → XK → Value → Shared → Prop
structure Env0 (P : Program) (w : World) (K : PySem.W.Frag) (mg : Str → Option Value) (base : Heap) (A : Around) (outer : List Env) (s : Shared) (H : Hp) : Prop where
  frames : A.frames = some outer
  mod : Mod K mg base
  bs : ∀ b o, base.get? b = some o → s.heap.get? b = some o ∧ H b = none
  bsz : base.objs.size ≤ s.heap.objs.size
  funs : s.heap.FunFrames base outer
  frf : ∀ b ∈ frs outer, H b = none
  hok : HOk P w H s.heap
  bare : AllBare s.gens
def CE (outer : List Env) (P : Program) (w : World) (H : Hp) (s : Shared) (Q : VK) (u : Value) (s' : Shared) : Prop :=
  ∃ v H', s'.os = s.os ∧ AllBare s'.gens ∧ Un (frs outer) [] H H' s.heap s'.heap ∧ HOk P w H' s'.heap ∧ RelV v u ∧ Q v H'
def CR (CX : CXT) (outer : List Env) (P : Program) (w : World) (H : Hp) (s : Shared) (Q : VK) (E : XK) (r : Result) (s' : Shared) : Prop :=
  match r with
  | .ok (.ret u) => CE outer P w H s Q u s'
  | .ok _ => False
  | .error e => CX outer H s E e s'
structure FnOk (P : Program) (w : World) (K : PySem.W.Frag) (mg : Str → Option Value) (base : Heap) (CX : CXT) (k : Nat) (f : Addr) (fd : FuncData) (ps : List Str) (sp : Sp) : Prop where
  len : ∀ vs H Q E, sp vs H Q E → vs.length = ps.length
  run : ∀ (A : Around) (outer : List Env) (s : Shared) (H : Hp) (args : Args) (us : List Value) (vs : List V) (Q : VK) (E : XK), Room k A → Env0 P w K mg base A outer s H → BindsTo s fd args (ps.zip us) → Vals vs us → sp vs H Q E →
    codeAny (model P w) A (.call (.ref f) args) (CR CX outer P w H s Q E) s
theorem FnOk.mono {P : Program} {w : World} {K : PySem.W.Frag} {mg : Str → Option Value} {base : Heap} {CX : CXT} {j k : Nat} {f : Addr} {fd : FuncData} {ps : List Str} {sp : Sp} (F : FnOk P w K mg base CX j f fd ps sp) (h : j ≤ k) :
    FnOk P w K mg base CX k f fd ps sp := ⟨F.len, fun A outer s H args us vs Q E hr => F.run A outer s H args us vs Q E (hr.mono h)⟩
theorem Env0.make {P : Program} {w : World} {K : PySem.W.Frag} {mg : Str → Option Value} {base : Heap} {A : Around} {outer : List Env} {s : Shared} {H : Hp} (e : Env0 P w K mg base A outer s H) (C : Addr) (us : List Value) (kw : List (Str × Value)) :
    Env0 P w K mg base (A.under (.builtin "type.__call__" ⟨.ref C :: us, kw⟩)) outer s H := ⟨by first | exact e.frames | (simpa [Around.under, Code.envs, Code.isFrame, pushEnvs] using e.frames), e.mod, e.bs, e.bsz, e.funs, e.frf, e.hok, e.bare⟩
section
variable {X : Cx} {pins : List (Addr × Obj)} {σ : St} {H : Hp} {s s' : Shared}
theorem Inv.env0 (I : Inv X pins σ H s) : Env0 X.prog X.w X.K X.mg X.base X.A X.stack s H :=
  ⟨I.ok.frames, I.ok.mod, I.bs, Nat.le_trans I.ok.bsz I.sz, I.stack, I.stkFree, I.hok, I.bare⟩
theorem Inv.after {Q : VK} {u : Value} (I : Inv X pins σ H s) (h : CE X.stack X.prog X.w H s Q u s') : EP X pins σ Q u s' := by
  obtain ⟨v, H', os, bare, un, hok, r, q⟩ := h
  obtain ⟨hh, g, d, t, os'⟩ := s'
  obtain rfl : os' = s.os := os
  exact ⟨v, H', I.call (h' := hh) (g' := g) (d' := d) (t' := t) (ch := []) un hok bare (fun b z => absurd z (by simp)), r, q⟩
end
def tCall (sp : Sp) (dvs : List V) (E : XK) (t : TA) : TE := fun σ H Q => t σ H fun vs H1 => sp (vs ++ dvs) H1 Q E
def tMeth (C : Addr) (m : Str) (sp : Sp) (dvs : List V) (E : XK) (ta : TE) (t : TA) : TE := fun σ H Q => ta σ H fun x H1 => ∃ a dx fs, x = .ref a ∧ H1 a = some (.ins C dx fs) ∧ fs.lookup m = none ∧
  t σ H1 fun vs H2 => sp (x :: (vs ++ dvs)) H2 Q E
def tMake (C : Addr) (sp : Sp) (dvs : List V) (E : XK) (t : TA) : TE := fun σ H Q => t σ H fun vs H1 => ∀ x dx, H1 x = none → H1 dx = none → dx ≠ x →
  sp (.ref x :: (vs ++ dvs)) (upd (upd H1 dx (.own x)) x (.ins C dx [])) (fun v H2 => v = .non ∧ Q (.ref x) H2) E
def Binds (K : PySem.W.Frag) (fd : FuncData) (ps : List Str) (ds : List Value) : Prop :=
  ∀ (s : Shared) (us : List Value), K.In s.heap → (us ++ ds).length = ps.length → BindsTo s fd ⟨us, []⟩ (ps.zip (us ++ ds))
theorem Binds.all {K : PySem.W.Frag} {fd : FuncData} {ps : List Str} (h : ∀ us : List Value, us.length = ps.length → bindArgs fd ⟨us, []⟩ = pure (ps.zip us)) : Binds K fd ps [] := fun s us _ hl => by
  rw [List.append_nil] at hl ⊢
  exact .of_eq (h us hl)
def Passes (CX : CXT) (X : Cx) (E : XK) : Prop := ∀ (pins : List (Addr × Obj)) (σ : St) (H : Hp) (s : Shared) (e : Value) (s' : Shared), Inv X pins σ H s → CX X.stack H s E e s' → X.xe e s'
section
variable {X : Cx} {CX : CXT} {k : Nat} {f C : Addr} {fd : FuncData} {ps : List Str} {sp : Sp} {dvs : List V} {ds : List Value} {E : XK} {x m : Str} {p pos apos : Pos} {e o : Expr} {es : List Expr} {ta : TE} {t : TA}
theorem run_fn {pins : List (Addr × Obj)} {σ : St} {H : Hp} {s : Shared} {Q : VK} {us : List Value} {vs : List V} (F : FnOk X.prog X.w X.K X.mg X.base CX k f fd ps sp) (hr : Room k X.A) (hb : Binds X.K fd ps ds) (hd : Vals dvs ds) (hx : Passes CX X E)
    (I : Inv X pins σ H s) (r : Vals vs us) (h : sp (vs ++ dvs) H Q E) : wpAny (model X.prog X.w) X.A (call (.ref f) us) (EP X pins σ Q) X.xe s := by
  have r2 : Vals (vs ++ dvs) (us ++ ds) := r.append hd
  have hl : (us ++ ds).length = ps.length := by rw [← r2.length]; exact F.len _ _ _ _ h
  refine wpAny_call (codeAny_mono (F.run X.A X.stack s H ⟨us, []⟩ (us ++ ds) (vs ++ dvs) Q E hr I.env0 (hb s us I.kIn hl) r2 h) fun r s' hq => ?_)
  cases r with
  | error e => exact hx pins σ H s e s' I hq
  | ok fl =>
    cases fl with
    | ret u => exact I.after hq
    | next => exact False.elim hq
    | brk => exact False.elim hq
    | cont => exact False.elim hq
theorem pe_call (F : FnOk X.prog X.w X.K X.mg X.base CX k f fd ps sp) (hr : Room k X.A) (hg : Gl X x) (hm : X.mg x = some (.ref f)) (hk : PySem.W.keepIn X.K (.ref f) = true) (hb : Binds X.K fd ps ds) (hd : Vals dvs ds) (hx : Passes CX X E)
    (ha : PA X (e :: es) t) (hdb : (x == ("__debug__" : Str)) = false := by decide) (he : starEach (e :: es) X.env = (false, eval e X.env) :: starEach es X.env := by rfl) (hpl : (backTo pos (starEach es X.env)).any (·.1) = false := by rfl) :
    PE X (.Call (.Name x p) (e :: es) [] pos) (tCall sp dvs E t) := by
  intro pins s σ H Q I h
  refine wpAny_Call_Name_kw (ld_glob I hg hm ?_ hdb)
  refine PySem.W.callWith_K (h₀ := X.base) I.ok.mod.kin hk (thn (ha pos pins s σ H _ I h) fun us s1 ⟨vs, H1, I1, r, q⟩ => ⟨I1.kIn, ?_⟩) he hpl
  exact run_fn F hr hb hd hx I1 r q
theorem pe_meth {pl : Sem Bool} (he : PE X o ta) (c : Cls X.K C) (hm : Meth X.K C m f) (F : FnOk X.prog X.w X.K X.mg X.base CX k f fd ps sp) (hr : Room k X.A) (hb : Binds X.K fd ps ds) (hd : Vals dvs ds) (hx : Passes CX X E) (ha : PA X (e :: es) t)
    (hst : starEach (e :: es) X.env = (false, eval e X.env) :: starEach es X.env := by rfl) (hpl : (backTo pos (starEach es X.env)).any (·.1) = false := by rfl)
    (ht : eval (.Call (.Attribute o m apos) (e :: es) [] pos) X.env = (do
      let ov ← eval o X.env
      standAt apos.atName
      let (f, first) ← holding [ov] (getMethod ov m pl)
      callWith pos f first (backTo pos (starEach (e :: es) X.env)) (backToKw pos (keywordEach [] X.env))) := by rfl) :
    PE X (.Call (.Attribute o m apos) (e :: es) [] pos) (tMeth C m sp dvs E ta t) := by
  intro pins s σ H Q I h
  refine PySem.W.methodCall_KW (pl := pl) (thn (he pins s σ H _ I h) fun u s1 ⟨x, H1, I1, rx, a, dx, fs, ex, ea, l, q⟩ => ?_) ht
  subst ex
  obtain rfl : u = Value.ref a := rx
  refine getmeth_ok I1 ea c hm l ?_
  refine PySem.W.callWith_K (first := [.ref a]) (h₀ := X.base) I.ok.mod.kin hm.kp (thn (ha pos pins s1 σ H1 _ I1 q) fun us s2 ⟨vs, H2, I2, r, q2⟩ => ⟨I2.kIn, ?_⟩) hst hpl
  exact run_fn (us := .ref a :: us) (vs := .ref a :: vs) F hr hb hd hx I2 (.cons rfl r) q2
theorem pe_meth0 {pl : Sem Bool} (he : PE X o ta) (c : Cls X.K C) (hm : Meth X.K C m f) (F : FnOk X.prog X.w X.K X.mg X.base CX k f fd ps sp) (hr : Room k X.A) (hb : Binds X.K fd ps ds) (hd : Vals dvs ds) (hx : Passes CX X E)
    (ht : eval (.Call (.Attribute o m apos) [] [] pos) X.env = (do
      let ov ← eval o X.env
      standAt apos.atName
      let (f, first) ← holding [ov] (getMethod ov m pl)
      callWith pos f first (backTo pos (starEach [] X.env)) (backToKw pos (keywordEach [] X.env))) := by rfl) :
    PE X (.Call (.Attribute o m apos) [] [] pos) (tMeth C m sp dvs E ta tNil) := by
  intro pins s σ H Q I h
  refine PySem.W.methodCall_KW (pl := pl) (thn (he pins s σ H _ I h) fun u s1 ⟨x, H1, I1, rx, a, dx, fs, ex, ea, l, q⟩ => ?_) ht
  subst ex
  obtain rfl : u = Value.ref a := rx
  refine getmeth_ok I1 ea c hm l ?_
  exact PySem.W.callWith_K0 (first := [.ref a]) I1.kIn hm.kp (run_fn (us := [.ref a]) (vs := [.ref a]) F hr hb hd hx I1 (.cons rfl .nil) q)
structure Mk (K : PySem.W.Frag) (C f : Addr) : Prop where
  makes : PySem.W.makesIn K C = true
  init : PySem.W.findIn K (.ref C) "__init__" = some (some (.ref f))
  fn : PySem.W.isFn K (.ref f) = true
  kp : PySem.W.keepIn K (.ref C) = true
theorem run_make {pins : List (Addr × Obj)} {σ : St} {H : Hp} {s : Shared} {Q : VK} {us : List Value} {vs : List V} (M : Mk X.K C f) (F : FnOk X.prog X.w X.K X.mg X.base CX k f fd ps sp) (hr : Room (k + 1) X.A) (hb : Binds X.K fd ps ds) (hd : Vals dvs ds)
    (hx : Passes CX X E) (I : Inv X pins σ H s) (r : Vals vs us)
    (h : ∀ x dx, H x = none → H dx = none → dx ≠ x → sp (.ref x :: (vs ++ dvs)) (upd (upd H dx (.own x)) x (.ins C dx [])) (fun v H2 => v = .non ∧ Q (.ref x) H2) E) :
    wpAny (model X.prog X.w) X.A (call (.ref C) us) (EP X pins σ Q) X.xe s := by
  have hq := h (s.heap.objs.size + 1) s.heap.objs.size (I.hok.fresh (Nat.le_succ _)) (I.hok.fresh (Nat.le_refl _)) (Nat.ne_of_lt (Nat.lt_succ_self _))
  have I2 := Inv.made (C := C) I
  have r2 : Vals (V.ref (s.heap.objs.size + 1) :: (vs ++ dvs)) (Value.ref (s.heap.objs.size + 1) :: (us ++ ds)) := .cons rfl (r.append hd)
  have hl : (Value.ref (s.heap.objs.size + 1) :: us ++ ds).length = ps.length := by
    have e := r2.length
    rw [F.len _ _ _ _ hq] at e
    exact e.symm
  refine wpAny_call (make_map (f := f) I.kIn M.makes M.init (beq_iff_eq.mp M.fn) (codeAny_mono (F.run _ X.stack _ _ ⟨Value.ref (s.heap.objs.size + 1) :: us, []⟩ (Value.ref (s.heap.objs.size + 1) :: (us ++ ds)) _ _ E (hr.make C us [])
    (I2.env0.make C us []) (hb _ (Value.ref (s.heap.objs.size + 1) :: us) I2.kIn hl) r2 hq) fun r s' hq' => ?_))
  cases r with
  | error e => exact hx pins σ _ _ e s' I2 hq'
  | ok fl =>
    cases fl with
    | ret u =>
      obtain ⟨v, H', I3, rv, ev, q3⟩ := I2.after hq'
      subst ev
      exact ⟨rv, ⟨V.ref (s.heap.objs.size + 1), H', I3, rfl, q3⟩⟩
    | next => exact False.elim hq'
    | brk => exact False.elim hq'
    | cont => exact False.elim hq'
theorem pe_make (M : Mk X.K C f) (F : FnOk X.prog X.w X.K X.mg X.base CX k f fd ps sp) (hr : Room (k + 1) X.A) (hg : Gl X x) (hm : X.mg x = some (.ref C)) (hb : Binds X.K fd ps ds) (hd : Vals dvs ds) (hx : Passes CX X E)
    (ha : PA X (e :: es) t) (hdb : (x == ("__debug__" : Str)) = false := by decide) (he : starEach (e :: es) X.env = (false, eval e X.env) :: starEach es X.env := by rfl) (hpl : (backTo pos (starEach es X.env)).any (·.1) = false := by rfl) :
    PE X (.Call (.Name x p) (e :: es) [] pos) (tMake C sp dvs E t) := by
  intro pins s σ H Q I h
  refine wpAny_Call_Name_kw (ld_glob I hg hm ?_ hdb)
  refine PySem.W.callWith_K (h₀ := X.base) I.ok.mod.kin M.kp (thn (ha pos pins s σ H _ I h) fun us s1 ⟨vs, H1, I1, r, q⟩ => ⟨I1.kIn, ?_⟩) he hpl
  exact run_make M F hr hb hd hx I1 r q
end
section
variable {X : Cx} {CX : CXT} {k : Nat} {f C : Addr} {fd : FuncData} {ps ks : List Str} {sp : Sp} {E : XK} {x m : Str} {p pos apos kpos : Pos} {e o : Expr} {es : List Expr} {kws : List Keyword} {te ta : TE} {t tk : TA} {nm : Option Str}
variable {g : List Value → List Value → List Value} {gV : List V → List V → List V}
end
structure FnScope (N P : List Str) (sc : Scope) : Prop where
  kind : sc.kind = .function
  co : sc.isCoroutine = false
  gen : sc.isGenerator = false
  nd : N.Nodup
  pre : N.take P.length = P
  par : ∀ x ∈ P, sc.names.lookup x = some .local ∨ sc.names.lookup x = some .cell
  nofree : ∀ y ∈ sc.names, y.2 ≠ .free
theorem bindL_out {kindOf : Str → Option NameKind} {x : Str} : ∀ {binds : List (Str × Value)} {m : Str → Option Value}, (∀ v, (x, v) ∉ binds) → bindL kindOf binds m x = m x
  | [], _, _ => rfl
  | (n, v) :: r, m, h => by
    unfold bindL
    rw [bindL_out fun w hw => h w (List.mem_cons_of_mem _ hw)]
    split
    · have : x ≠ n := by rintro rfl; exact h v List.mem_cons_self
      simp [this]
    · rfl
theorem bindC_out {kindOf : Str → Option NameKind} {x : Str} : ∀ {binds : List (Str × Value)} {m : Str → Option Value}, (∀ v, (x, v) ∉ binds) → bindC kindOf binds m x = m x
  | [], _, _ => rfl
  | (n, v) :: r, m, h => by
    unfold bindC
    rw [bindC_out fun w hw => h w (List.mem_cons_of_mem _ hw)]
    split
    · rfl
    · have : x ≠ n := by rintro rfl; exact h v List.mem_cons_self
      simp [this]
theorem bindL_get {kindOf : Str → Option NameKind} {x : Str} {v : Value} : ∀ {P : List Str} {vs : List Value} {i : Nat} {m : Str → Option Value}, P.Nodup → P[i]? = some x → vs[i]? = some v → kindOf x = some .local →
    bindL kindOf (P.zip vs) m x = some v
  | [], _, _, _, _, h, _, _ => by simp at h
  | _ :: _, [], _, _, _, _, h, _ => by simp at h
  | p :: P, w :: vs, 0, m, nd, h1, h2, hk => by
    simp at h1 h2; subst h1; subst h2
    show bindL kindOf ((p, w) :: P.zip vs) m p = _
    unfold bindL
    rw [bindL_out fun v hv => (List.nodup_cons.mp nd).1 (List.of_mem_zip hv).1, if_pos hk]
    simp
  | p :: P, w :: vs, i + 1, m, nd, h1, h2, hk => by
    show bindL kindOf ((p, w) :: P.zip vs) m x = _
    unfold bindL
    exact bindL_get (i := i) (List.nodup_cons.mp nd).2 (by simpa using h1) (by simpa using h2) hk
theorem bindC_get {kindOf : Str → Option NameKind} {x : Str} {v : Value} : ∀ {P : List Str} {vs : List Value} {i : Nat} {m : Str → Option Value}, P.Nodup → P[i]? = some x → vs[i]? = some v → kindOf x ≠ some .local →
    bindC kindOf (P.zip vs) m x = some v
  | [], _, _, _, _, h, _, _ => by simp at h
  | _ :: _, [], _, _, _, _, h, _ => by simp at h
  | p :: P, w :: vs, 0, m, nd, h1, h2, hk => by
    simp at h1 h2; subst h1; subst h2
    show bindC kindOf ((p, w) :: P.zip vs) m p = _
    unfold bindC
    rw [bindC_out fun v hv => (List.nodup_cons.mp nd).1 (List.of_mem_zip hv).1, if_neg hk]
    simp
  | p :: P, w :: vs, i + 1, m, nd, h1, h2, hk => by
    show bindC kindOf ((p, w) :: P.zip vs) m x = _
    unfold bindC
    exact bindC_get (i := i) (List.nodup_cons.mp nd).2 (by simpa using h1) (by simpa using h2) hk
def start (N : List Str) (vs : List V) : St := vs.map some ++ List.replicate (N.length - vs.length) none
def cxOf (CX : CXT) (P : Program) (w : World) (K : PySem.W.Frag) (mg : Str → Option Value) (base : Heap) (N : List Str) (qual : Str) (scope : Scope) (f : Addr) (cd : Value) (A : Around) (outer : List Env) (s : Shared) (H : Hp) (E : XK) : Cx where
  prog := P
  w := w
  K := K
  mg := mg
  base := base
  A := A.deeper (envOfC qual scope s.heap.objs.size f cd)
  N := N
  s₀ := s
  H₀ := H
  env := envOfC qual scope s.heap.objs.size f cd
  outer := outer
  stack := envOfC qual scope s.heap.objs.size f cd :: outer
  ex := []
  calm := true
  fn := fun _ => true
  pn := []
  xe := fun e s' => wpAny (model P w) (A.deeper (envOfC qual scope s.heap.objs.size f cd)) (leaving (envOfC qual scope s.heap.objs.size f cd) e) (fun _ s'' => CX outer H s E e s'') (fun e' s'' => CX outer H s E e' s'') s'
theorem cell_has {sc : Scope} {n : Nat} {x : Str} (h : sc.names.lookup x = some .cell) : ∃ c, (cellsFrom n sc.names []).lookup x = some c := by
  have q := PySem.W.cellsFrom_some sc.names n [] (.inl h)
  exact Option.isSome_iff_exists.mp q
theorem inv_start {CX : CXT} {P : Program} {w : World} {K : PySem.W.Frag} {mg : Str → Option Value} {base : Heap} {N ps : List Str} {qual : Str} {scope : Scope} {f : Addr} {cd : Value} {A : Around} {outer : List Env} {s s1 : Shared} {H : Hp} {E : XK} {us : List Value} {vs : List V}
    (S : FnScope N ps scope) (hd : A.handled = none) (e0 : Env0 P w K mg base A outer s H) (hl : vs.length = ps.length) (r : Vals vs us)
    (x : InCallC s s.heap.objs.size (bindL (envOfC qual scope s.heap.objs.size f cd).kindOf (ps.zip us) fun _ => none) (cellsFrom (s.heap.objs.size + 1) scope.names []) (bindC (envOfC qual scope s.heap.objs.size f cd).kindOf (ps.zip us) fun _ => none) s1) :
    Inv (cxOf CX P w K mg base N qual scope f cd A outer s H E) [] (start N vs) H s1 := by
  have hpl : ps.length ≤ N.length := by have := congrArg List.length S.pre; rw [List.length_take] at this; omega
  obtain ⟨h1, tk, rfl, hk⟩ := x.done
  have noA : ∀ b : Addr, b ∉ (cxOf CX P w K mg base N qual scope f cd A outer s H E).ex := fun b z => absurd (show b ∈ ([] : List Addr) from z) (by simp)
  refine ⟨⟨e0.mod, S.kind, rfl, rfl, Nat.le_refl _, fun y z c h1 h2 => ?_, fun y hy => ?_, fun y c _ h => ?_, fun _ => hd, Around.frames_deeper e0.frames, .inr ⟨rfl, rfl⟩, fun b z => absurd z (noA b), e0.bs, e0.bsz, fun b _ _ => noA b, fun b z => absurd z (noA b), e0.funs, e0.frf⟩,
    rfl, e0.bare, Un.kept hk, ⟨_, x.toInCall.ns, fun i y v h1 h2 h3 => ?_⟩, fun y c h => ⟨_, x.cell y c h⟩, e0.hok.fresh (Nat.le_refl _), fun y c h => ?_, fun p hp => absurd (show p ∈ ([] : List (Addr × Obj)) from hp) (by simp), e0.hok.kept hk, ?_⟩
  · exact name_of_addr x.apart (PySem.mem_of_lookup h1) (PySem.mem_of_lookup h2)
  · have hy : scope.names.lookup y = some .cell ∨ scope.names.lookup y = some .free := hy
    rcases hy with hy | hy
    · exact cell_has hy
    · exact absurd rfl (S.nofree _ (PySem.mem_of_lookup hy))
  · exact Nat.le_of_lt (x.above y c (PySem.mem_of_lookup h))
  · have hi : i < vs.length := by
      unfold start at h2
      by_cases hi : i < vs.length
      · exact hi
      · rw [List.getElem?_append_right (by simpa using hi)] at h2
        rw [List.getElem?_replicate] at h2
        split at h2 <;> cases h2
    have ha : vs[i]? = some v := by
      unfold start at h2
      rw [List.getElem?_append_left (by simpa using hi), List.getElem?_map] at h2
      cases e : vs[i]? with
      | none => rw [e] at h2; cases h2
      | some a => rw [e] at h2; cases h2; rfl
    obtain ⟨u, hu, rv⟩ := r.get ha
    have hp : ps[i]? = some y := by
      rw [← S.pre, List.getElem?_take_of_lt (by omega)]; exact h1
    have ndP : ps.Nodup := by rw [← S.pre]; exact S.nd.sublist (List.take_sublist _ _)
    refine ⟨u, rv, ?_⟩
    rcases S.par y (List.mem_of_getElem? hp) with k | k
    · exact .inl ⟨k, bindL_get ndP hp hu k⟩
    · obtain ⟨c, e⟩ := cell_has (n := s.heap.objs.size + 1) k
      refine .inr ⟨.inl k, c, e, ?_⟩
      have q := x.cell y c e
      rw [bindC_get ndP hp hu (by show scope.names.lookup y ≠ _; rw [k]; decide)] at q
      exact q
  · exact e0.hok.fresh (Nat.le_of_lt (x.above y c (PySem.mem_of_lookup h)))
  · unfold start
    show _ = N.length
    rw [List.length_append, List.length_map, List.length_replicate]
    omega
theorem fn_of {CX : CXT} {P : Program} {w : World} {K : PySem.W.Frag} {mg : Str → Option Value} {base : Heap} {k : Nat} {f : Addr} {name qual : Str} {params : Arguments} {body : List Stmt} {scope : Scope} {dV kV doc pm cdv ct oc : Value} {an od : Option Addr}
    {osl : Array (Option Value)} {N ps : List Str} {sp : Sp} (lk : K.lookup f = some ⟨oc, od, .func (PySem.W.fnOf name qual params body scope dV kV doc pm an cdv ct), osl⟩) (hcd : PySem.W.codeIn K cdv qual = true) (S : FnScope N ps scope)
    (len : ∀ vs H Q E, sp vs H Q E → vs.length = ps.length)
    (hbody : ∀ (A : Around) (outer : List Env) (s : Shared) (H : Hp) (vs : List V) (Q : VK) (E : XK), Room k (A.deeper (envOfC qual scope s.heap.objs.size f cdv)) → sp vs H Q E →
      ∃ t, PSs (cxOf CX P w K mg base N qual scope f cdv A outer s H E) body t ∧ t { nx := fun _ H' => Q .non H', rt := Q } (start N vs) H) :
    FnOk P w K mg base CX (k + 1) f (PySem.W.fnOf name qual params body scope dV kV doc pm an cdv ct) ps sp := by
  refine ⟨len, fun A outer s H args us vs Q E hr e0 hb r hsp => ?_⟩
  have hl := len _ _ _ _ hsp
  have KX : K.In s.heap := e0.mod.kin.keeps fun b o e => (e0.bs b o e).1
  have lim : s.heap.NoLimit := e0.mod.nolimit.keeps fun b o e => (e0.bs b o e).1
  have hkind : ∀ y ∈ ps.zip us, scope.names.lookup y.1 = some .local ∨ (scope.names.lookup y.1 = some .cell ∧ ((cellsFrom (s.heap.objs.size + 1) scope.names []).lookup y.1).isSome = true) := fun ⟨n, v⟩ hy => by
    rcases S.par n (List.of_mem_zip hy).1 with q | q
    · exact .inl q
    · exact .inr ⟨q, PySem.W.cellsFrom_some _ _ _ (.inl q)⟩
  refine codeAny_call_function hr.depth (KX _ _ lk) rfl S.co S.gen rfl (PySem.W.codeRec_of KX hcd) (hb _ _ _ _ ?_)
  refine wpAny_newFunctionEnv_cells S.kind hkind fun env he s1 x => ?_
  subst he
  refine ⟨lim.keeps x.toInCall.keep, codeAny_func ?_⟩
  obtain ⟨t, ht, hq⟩ := hbody A outer s H vs Q E (hr.deeper _) hsp
  have I : Inv (cxOf CX P w K mg base N qual scope f cdv A outer s H E) [] (start N vs) H s1 := inv_start S hr.hd e0 hl r x
  refine wpAny_mono (ht [] s1 (start N vs) H _ I hq) (fun fl s' hs => ?_) fun e s' hs => hs
  have fin : ∀ {σ' : St} {H' : Hp} {v : V} {u : Value}, Inv (cxOf CX P w K mg base N qual scope f cdv A outer s H E) [] σ' H' s' → RelV v u → Q v H' → CE outer P w H s Q u s' :=
    fun {σ' H' v u} J rv q => ⟨v, H', J.os, J.bare, J.base, J.hok, rv, q⟩
  cases fl with
  | ret u =>
    obtain ⟨v, σ', H', J, rv, q⟩ := hs
    exact fin J rv q
  | next =>
    obtain ⟨σ', H', J, q⟩ := hs
    exact fin (v := V.non) (u := Value.none) J rfl q
  | brk =>
    obtain ⟨_, _, _, q⟩ := hs
    exact False.elim q
  | cont =>
    obtain ⟨_, _, _, q⟩ := hs
    exact False.elim q
end L2
namespace L2
open PySem PySem.Spec PyProof.Rows
section
variable {X : Cx} {x : Str} {p pos : Pos} {e : Expr} {es : List Expr} {t : TA} {id T : String} {r : List V → Hp → VK → Prop}
def tCB (r : List V → Hp → VK → Prop) (t : TA) : TE := fun σ H Q => t σ H fun vs H1 => r vs H1 Q
theorem pe_callB (hc : CallR X (.builtin id) r) (hg : Gl X x) (hm : X.mg x = none) (hv : bootBuiltins x = some (.builtin id)) (ha : PA X (e :: es) t) (hn : x ≠ "__name__" := by decide) (hdb : (x == ("__debug__" : Str)) = false := by decide)
    (he : starEach (e :: es) X.env = (false, eval e X.env) :: starEach es X.env := by rfl) (hpl : (backTo pos (starEach es X.env)).any (·.1) = false := by rfl) : PE X (.Call (.Name x p) (e :: es) [] pos) (tCB r t) := by
  intro pins s σ H Q I h
  refine wpAny_Call_Name_kw (ld_blt I hg hm hv ?_ hn hdb)
  exact PyProof.Rows.callWith_builtin1 (thn (ha pos pins s σ H _ I h) fun us s1 ⟨vs, H1, I1, r1, q1⟩ => hc pins s1 σ H1 vs us Q I1 r1 q1) he hpl
theorem pe_callTy (hc : CallR X (.type T) r) (hg : Gl X x) (hm : X.mg x = none) (hv : bootBuiltins x = some (.type T)) (ha : PA X (e :: es) t) (hn : x ≠ "__name__" := by decide) (hdb : (x == ("__debug__" : Str)) = false := by decide)
    (he : starEach (e :: es) X.env = (false, eval e X.env) :: starEach es X.env := by rfl) (hpl : (backTo pos (starEach es X.env)).any (·.1) = false := by rfl) : PE X (.Call (.Name x p) (e :: es) [] pos) (tCB r t) := by
  intro pins s σ H Q I h
  refine wpAny_Call_Name_kw (ld_blt I hg hm hv ?_ hn hdb)
  exact PyProof.Rows.callWith_type1 (thn (ha pos pins s σ H _ I h) fun us s1 ⟨vs, H1, I1, r1, q1⟩ => hc pins s1 σ H1 vs us Q I1 r1 q1) he hpl
end
end L2
namespace HT
open PySem PyProof.Rows
section
open PySem.SeqAt
open PySem.AutoSeq1 (wpAny_loadPart')
open PySem.MeetsSeq PySem.MeetsSeq2 PySem.MeetsSeq3
end
section
variable {prog : Program} {w : World} {A : Around} {E : Value → Shared → Prop} {s : Shared}
theorem cat_tup {t b : Addr} {vs ws : List Value} {Q : Value → Shared → Prop} (ht : IsTup s.heap t vs.toArray) (hb : IsTup s.heap b ws.toArray) (hv : vs ≠ [])
    (h1 : ws = [] → Q (.ref t) s) (h2 : ws ≠ [] → Q (.ref s.heap.objs.size) { s with heap := s.heap.push { cls := .type "tuple", data := .seq (vs ++ ws).toArray } })
    (hsz : vs.length + ws.length ≤ sizeLine) : wpAny (model prog w) A (binaryOp .Add (.ref t) (.ref b)) Q E s := by
  obtain ⟨⟨cls, dd, data, sl⟩, ho, hc, n, hd⟩ := id ht
  obtain ⟨⟨cls2, dd2, data2, sl2⟩, ho2, hc2, n2, hd2⟩ := id hb
  simp only at hc hd hc2 hd2
  subst hc hd hc2 hd2
  have e : vs.toArray ++ ws.toArray = (vs ++ ws).toArray := by simp
  by_cases hw : ws = []
  · exact concat_meets ⟨_, ho, rfl⟩ ⟨_, ho2, rfl⟩ noFill_tuple_add seq_tuple_add PySem.F.slot_tuple_add PySem.F.entry_tuple_add (PySem.F.args_tuple_add_2 _ _)
      (tuple_addW1 t b vs.toArray ws.toArray n n2 dd dd2 sl sl2 (by simpa using hv) (by simp [hw])) ⟨ho, ho2, h1 hw⟩
  · refine concat_meets ⟨_, ho, rfl⟩ ⟨_, ho2, rfl⟩ noFill_tuple_add seq_tuple_add PySem.F.slot_tuple_add PySem.F.entry_tuple_add (PySem.F.args_tuple_add_2 _ _)
      (tuple_addW2 t b vs.toArray ws.toArray n n2 dd dd2 sl sl2 (by simpa using hv) (by simpa using hw) (by rw [List.size_toArray, List.size_toArray]; exact hsz)) ⟨ho, ho2, ?_⟩
    rw [e]
    exact h2 hw
def sIx (n d : Nat) : Option Int → Nat
  | none => d
  | some v => if v < 0 then (v + (n : Int)).toNat else min v.toNat n
theorem sIx_none (n d : Nat) : sIx n d none = d := rfl
theorem sIx_nat (n d k : Nat) : sIx n d (some (k : Int)) = min k n := by
  show (if (k : Int) < 0 then ((k : Int) + (n : Int)).toNat else min (k : Int).toNat n) = min k n
  rw [if_neg (by omega), Int.toNat_natCast]
end
end HT
namespace L2
open PySem PySem.Spec PyProof.Rows
abbrev TO := St → Hp → (Option Int → Hp → Prop) → Prop
def PO (X : Cx) (e : Option Expr) (t : TO) : Prop :=
  ∀ (pins : List (Addr × Obj)) (s : Shared) (σ : St) (H : Hp) (Q : Option Int → Hp → Prop), Inv X pins σ H s → t σ H Q →
    wpAny (model X.prog X.w) X.A (evalPart e X.env) (fun u s' => ∃ o H', Inv X pins σ H' s' ∧ IsPart u o ∧ Q o H') X.xe s
def tNoPart : TO := fun _ H Q => Q none H
def tPart (t : TE) : TO := fun σ H Q => t σ H fun x H1 => ∃ i, x = .int i ∧ Q (some i) H1
section
variable {X : Cx} {e : Expr} {te : TE} {lo hi : Option Expr} {tl th : TO} {pos p2 : Pos}
theorem po_none : PO X none tNoPart := by
  intro pins s σ H Q I h
  rw [evalPart_none]
  exact wpAny_pure ⟨none, H, I, .none, h⟩
theorem po_some (h : PE X e te) : PO X (some e) (tPart te) := by
  intro pins s σ H Q I hw
  rw [evalPart_some]
  refine thn (h pins s σ H _ I hw) fun u s1 ⟨x, H1, I1, r1, q1⟩ => ?_
  obtain ⟨i, rfl, q⟩ := q1
  obtain ⟨t, rfl⟩ := r1
  exact ⟨some i, H1, I1, .int i t, q⟩
def SlR (X : Cx) (r : V → Option Int → Option Int → Hp → VK → Prop) : Prop :=
  ∀ (pins : List (Addr × Obj)) (s : Shared) (σ : St) (H : Hp) (x : V) (v vl vu : Value) (lo hi : Option Int) (sl : Addr) (Q : VK), Inv X pins σ H s → RelV x v → s.heap.IsSliceOf sl vl vu .none → IsPart vl lo → IsPart vu hi → r x lo hi H Q →
    ∃ T id, typeLookup (.type T) "__getitem__" = pure (some (.builtin id)) ∧ s.TypeIs v T ∧ wpAny (model X.prog X.w) X.A (getItem v (.ref sl)) (EP X pins σ Q) X.xe s
def tSl (r : V → Option Int → Option Int → Hp → VK → Prop) (te : TE) (tl th : TO) : TE := fun σ H Q => te σ H fun x H1 => tl σ H1 fun l H2 => th σ H2 fun u H3 => r x l u H3 Q
theorem pe_slice {r : V → Option Int → Option Int → Hp → VK → Prop} (hr : SlR X r) (he : PE X e te) (hl : PO X lo tl) (hu : PO X hi th) : PE X (.Subscript e (.Slice lo hi none p2) pos) (tSl r te tl th) := by
  intro pins s σ H Q I h
  refine Subscript_ (thn (he pins s σ H _ I h) fun v s1 ⟨x, H1, I1, r1, q1⟩ => ?_)
  refine wpAny_Slice (thn (hl pins s1 σ H1 _ I1 q1) fun vl s2 ⟨l, H2, I2, pl, q2⟩ => thn (hu pins s2 σ H2 _ I2 q2) fun vu s3 ⟨u, H3, I3, pu, q3⟩ => ?_)
  rw [evalPart_none]
  refine wpAny_pure ?_
  have I4 : Inv X pins σ H3 { s3 with heap := s3.heap.push { cls := .type "slice", data := .fields #[vl, vu, .none] } } := I3.kept (t' := s3.toks) fun b ob q => Heap.get?_push_of_some _ q
  obtain ⟨T, id, hT, ht, hg⟩ := hr pins { s3 with heap := s3.heap.push { cls := .type "slice", data := .fields #[vl, vu, .none] } } σ H3 x v vl vu l u s3.heap.objs.size Q I4 r1 (Heap.IsSliceOf.new ..) pl pu q3
  show wpAny (model X.prog X.w) X.A (subscriptTail e (.Slice lo hi none p2) v (.ref s3.heap.objs.size)) (EP X pins σ Q) X.xe { s3 with heap := s3.heap.push { cls := .type "slice", data := .fields #[vl, vu, .none] } }
  exact tail_any (ops := [.ref s3.heap.objs.size, v]) ht hT hg (by with_unfolding_all rfl)
def cutV (xs : List V) (lo hi : Option Int) : List V := (xs.drop (HT.sIx xs.length 0 lo)).take (HT.sIx xs.length xs.length hi - HT.sIx xs.length 0 lo)
theorem cutV_length (xs : List V) (lo hi : Option Int) : (cutV xs lo hi).length ≤ xs.length := by
  unfold cutV
  rw [List.length_take, List.length_drop]
  omega
theorem Vals.nil_iff {xs : List V} {us : List Value} (r : Vals xs us) : us = [] ↔ xs = [] := by
  cases r with
  | nil => simp
  | cons _ _ => simp
end
end L2
namespace L2
open PySem PySem.Spec PyProof.Rows
def ixN (n : Nat) (i : Int) : Option Nat := if 0 ≤ i then (if i < n then some i.toNat else none) else if -(n : Int) ≤ i then some (i + n).toNat else none
def atI {α : Type} (xs : List α) (i : Int) : Option α := (ixN xs.length i).bind fun j => xs[j]?
theorem ixN_seq {n : Nat} {i : Int} {j : Nat} (h : ixN n i = some j) : seqIndex? i n = some j ∧ j < n ∧ -(n : Int) ≤ i ∧ i < n := by
  unfold ixN at h
  by_cases h0 : 0 ≤ i
  · rw [if_pos h0] at h
    by_cases h1 : i < n
    · rw [if_pos h1] at h
      have e : i.toNat = j := Option.some.inj h
      exact ⟨by rw [seqIndex_of h0 h1, e], by omega, by omega, h1⟩
    · rw [if_neg h1] at h; cases h
  · rw [if_neg h0] at h
    by_cases h1 : -(n : Int) ≤ i
    · rw [if_pos h1] at h
      have e : (i + n).toNat = j := Option.some.inj h
      exact ⟨by rw [seqIndex_neg (by omega) h1, e], by omega, h1, by omega⟩
    · rw [if_neg h1] at h; cases h
theorem atI_get {α : Type} {xs : List α} {i : Int} {v : α} (h : atI xs i = some v) : ∃ j, seqIndex? i xs.length = some j ∧ xs[j]? = some v ∧ j < xs.length ∧ -(xs.length : Int) ≤ i ∧ i < xs.length := by
  unfold atI at h
  cases e : ixN xs.length i with
  | none => rw [e] at h; cases h
  | some j =>
    rw [e] at h
    obtain ⟨h1, h2, h3, h4⟩ := ixN_seq e
    exact ⟨j, h1, h, h2, h3, h4⟩
theorem atI_nat {α : Type} {xs : List α} {j : Nat} {v : α} (h : xs[j]? = some v) : atI xs (j : Int) = some v := by
  have hj : j < xs.length := (List.getElem?_eq_some_iff.mp h).1
  have e : ixN xs.length (j : Int) = some j := by
    unfold ixN
    rw [if_pos (by exact Int.natCast_nonneg _), if_pos (by omega)]; simp
  unfold atI; rw [e]; exact h
def PlainIx (b : Expr) : Prop := ∀ o i, subscripted b false o i = operate [o, i] (getItem o i)
def IxR (X : Cx) (r : R2) : Prop :=
  ∀ (value slice : Expr) (pins : List (Addr × Obj)) (s : Shared) (σ : St) (H : Hp) (x y : V) (v u : Value) (Q : VK), Inv X pins σ H s → RelV x v → RelV y u → r x y H Q →
    subscripted slice false v u = operate [v, u] (getItem v u) → wpAny (model X.prog X.w) X.A (subscriptTail value slice v u) (EP X pins σ Q) X.xe s
def MtR (X : Cx) (id : String) (r : V → List V → Hp → VK → Prop) : Prop :=
  ∀ (pins : List (Addr × Obj)) (s : Shared) (σ : St) (H : Hp) (x : V) (xs : List V) (v : Value) (us : List Value) (Q : VK), Inv X pins σ H s → RelV x v → Vals xs us → r x xs H Q →
    wpAny (model X.prog X.w) X.A (call (.builtin id) (v :: us)) (EP X pins σ Q) X.xe s
section
variable {X : Cx} {a b : Expr} {ta tb : TE} {pos : Pos}
theorem pe_ix {r : R2} (hr : IxR X r) (ha : PE X a ta) (hb : PE X b tb) (hs : PlainIx b) : PE X (.Subscript a b pos) (tOp r ta tb) := by
  intro pins s σ H Q I h
  exact Subscript_ (binT ha hb I h fun v u s2 x y H2 I2 rx ry q => hr a b pins s2 σ H2 x y v u Q I2 rx ry q (hs _ _))
inductive RIxLP (K : PySem.W.Frag) (x : V) (y : V) (H : Hp) (Q : VK) : Prop
  | mk (p xs i v : _) : (x = .ref p) → (y = .int i) → (SqL K H p xs) → (atI xs i = some v) → (Q v H) → RIxLP K x y H Q
def rIxL (K : PySem.W.Frag) : R2 := fun x y H Q => RIxLP K x y H Q
inductive RIxTP (K : PySem.W.Frag) (x : V) (y : V) (H : Hp) (Q : VK) : Prop
  | mk (p xs i v : _) : (x = .ref p) → (y = .int i) → (SqT K H p xs) → (atI xs i = some v) → (Q v H) → RIxTP K x y H Q
def rIxT (K : PySem.W.Frag) : R2 := fun x y H Q => RIxTP K x y H Q
inductive RIxSP (x : V) (y : V) (H : Hp) (Q : VK) : Prop
  | mk (z i c : _) : (x = .str z) → (y = .int i) → (z.length ≤ sizeLine) → (atI z.cps.toList i = some c) → (Q (.str ⟨#[c]⟩) H) → RIxSP x y H Q
def rIxS : R2 := fun x y H Q => RIxSP x y H Q
theorem ix_list : IxR X (rIxL X.K) := by
  intro value slice pins s σ H x y v u Q I rx ry h hs
  obtain ⟨p, xs, i, z, rfl, rfl, hq, he, q⟩ := h
  cases rx
  obtain ⟨t, rfl⟩ := ry
  obtain ⟨its, r, pl, hz⟩ := I.list hq
  obtain ⟨j, h1, h2, h3, h4, h5⟩ := atI_get he
  obtain ⟨w, ew, rw'⟩ := r.get h2
  have hl := r.length
  have hn := line63
  have fin : EP X pins σ Q w s := ⟨z, H, I, rw', q⟩
  by_cases h0 : 0 ≤ i
  · have hj : i.toNat = j := by
      rw [seqIndex_of h0 h5] at h1
      exact Option.some.inj h1
    exact item_listR pl.isList h0 (by omega) (by rw [hj]; simpa using ew) fin hs
  · have hj : (i + (its.toArray.size : Int)).toNat = j := by
      rw [seqIndex_neg (by omega) h4] at h1
      rw [List.size_toArray, ← hl]
      exact Option.some.inj h1
    exact subscriptTail_builtinR (x := w) pl.isList.typeIs slot_list_getitem.lookup
      (wpAny_getItem_list_neg (Q := fun r s' => r = w ∧ EP X pins σ Q r s') pl.isList (by omega) (by rw [List.size_toArray] <;> omega) (by omega) (by rw [hj]; simpa using ew) ⟨rfl, fin⟩) hs
theorem ix_tup : IxR X (rIxT X.K) := by
  intro value slice pins s σ H x y v u Q I rx ry h hs
  obtain ⟨p, xs, i, z, rfl, rfl, hq, he, q⟩ := h
  cases rx
  obtain ⟨t, rfl⟩ := ry
  obtain ⟨its, r, pl, hz⟩ := I.tuple hq
  obtain ⟨j, h1, h2, h3, h4, h5⟩ := atI_get he
  obtain ⟨w, ew, rw'⟩ := r.get h2
  have hl := r.length
  have hn := line63
  have fin : EP X pins σ Q w s := ⟨z, H, I, rw', q⟩
  exact subscriptTail_builtinR (x := w) pl.typeIs slot_tuple_getitem.lookup
    (getItem_tuple (j := j) (Q := fun r s' => r = w ∧ EP X pins σ Q r s') pl (by omega) (by omega) (by rw [List.size_toArray, ← hl]; exact h1) (by simpa using ew) ⟨rfl, fin⟩) hs
theorem ix_str : IxR X rIxS := by
  intro value slice pins s σ H x y v u Q I rx ry h hs
  obtain ⟨z, i, c, rfl, rfl, hz, he, q⟩ := h
  obtain ⟨t, rfl⟩ := rx
  obtain ⟨t', rfl⟩ := ry
  obtain ⟨j, h1, h2, h3, h4, h5⟩ := atI_get he
  have hl : z.cps.toList.length = z.length := by simp [Str.length]
  rw [hl] at h1 h4 h5
  have hn := line63
  exact tail_any (typeIs_str s z t) slot_str_getitem.lookup (getItem_str (c := c) (by
    have e1 : decide (i < -(2 ^ 63 : Int)) = false := decide_eq_false (by omega)
    have e2 : decide (i ≥ 2 ^ 63) = false := decide_eq_false (by omega)
    rw [e1, e2, Bool.or_false]) (by rw [h1]; simpa using h2) ⟨.str ⟨#[c]⟩, H, I.tok _, ⟨_, rfl⟩, q⟩) hs
theorem mapSeq_set (its : List Value) (n j : Nat) (u : Value) : Obj.mapSeq (·.setIfInBounds j u) { cls := .type "list", data := .seq its.toArray n } = { cls := .type "list", data := .seq (its.set j u).toArray n } := by
  simp [Obj.mapSeq]
theorem Inv.lst {pins : List (Addr × Obj)} {σ : St} {H : Hp} {s : Shared} {p : Addr} {xs : List V} (I : Inv X pins σ H s) (h : H p = some (.lst xs)) :
    ∃ (its : List Value) (n : Nat), Vals xs its ∧ s.heap.get? p = some { cls := .type "list", data := .seq its.toArray n } ∧ xs.length ≤ sizeLine := by
  obtain ⟨z, its, n, r, e⟩ := I.hok p _ h
  exact ⟨its, n, r, e, z⟩
theorem Inv.lstUpd {pins : List (Addr × Obj)} {σ : St} {H : Hp} {s : Shared} {p : Addr} {xs ys : List V} {its its' : List Value} {n n' : Nat} {f : Obj → Obj} (I : Inv X pins σ H s) (h : H p = some (.lst xs))
    (ho : s.heap.get? p = some { cls := .type "list", data := .seq its.toArray n }) (hf : f { cls := .type "list", data := .seq its.toArray n } = { cls := .type "list", data := .seq its'.toArray n' }) (r : Vals ys its') (hz : ys.length ≤ sizeLine) (t : Nat) :
    Inv X pins σ (upd H p (.lst ys)) { s with heap := s.heap.update p f, toks := t } := by
  have e : (s.heap.update p f).get? p = some { cls := .type "list", data := .seq its'.toArray n' } := by
    rw [Heap.get?_update_self f ho (by rw [hf] <;> rfl), hf]
  refine I.write (x := p) (e := p) (by rw [h]; trivial) (.inl rfl) (fun b u hb q => (Heap.get?_update_other _ _ (Ne.symm hb)).trans q) ⟨_, e⟩ ?_
  exact ⟨hz, its', n', r, e⟩
inductive RSetLP (o : V) (i : V) (v : V) (H : Hp) (Q : (Hp → Prop)) : Prop
  | mk (p xs k j : _) : (o = .ref p) → (i = .int k) → (H p = some (.lst xs)) → (ixN xs.length k = some j) → (Q (upd H p (.lst (xs.set j v)))) → RSetLP o i v H Q
def rSetL : V → V → V → Hp → (Hp → Prop) → Prop := fun o i v H Q => RSetLP o i v H Q
theorem set_list : PSet X rSetL := by
  intro pins s σ H o i v ov iv u Q I ro ri rv h
  obtain ⟨p, xs, k, j, rfl, rfl, hp, hj, q⟩ := h
  cases ro
  obtain ⟨t, rfl⟩ := ri
  obtain ⟨its, n, r, ho, hz⟩ := I.lst hp
  obtain ⟨h1, h2, h3, h4⟩ := ixN_seq hj
  have hl := r.length
  have hn := line63
  have I' : Inv X pins σ (upd H p (.lst (xs.set j v))) { s with heap := s.heap.update p (Obj.mapSeq (·.setIfInBounds j u)) } :=
    I.lstUpd hp ho (mapSeq_set its n j u) (r.set rv j) (by rw [List.length_set]; exact hz) s.toks
  by_cases h0 : 0 ≤ k
  · have hk : k.toNat = j := by
      rw [seqIndex_of h0 h4] at h1
      exact Option.some.inj h1
    exact PySem.W.ki_setAt ho h0 (by omega) (by rw [List.size_toArray, ← hl]; exact h4) (by rw [hk]; exact ⟨_, I', q⟩)
  · have hk : (k + (its.toArray.size : Int)).toNat = j := by
      rw [seqIndex_neg (by omega) h3] at h1
      rw [List.size_toArray, ← hl]
      exact Option.some.inj h1
    exact PySem.W.ki_setBack ho (by omega) (by rw [List.size_toArray, ← hl]; exact h3) (by omega) (by rw [hk]; exact ⟨_, I', q⟩)
theorem slice_bounds (lo hi : Option Int) (n : Nat) : (sliceBounds lo hi none n).1 = ((HT.sIx n 0 lo : Nat) : Int) ∧ (sliceBounds lo hi none n).2.1 = ((HT.sIx n n hi : Nat) : Int) ∧ (sliceBounds lo hi none n).2.2 = 1 := by
  refine ⟨?_, ?_, rfl⟩
  · cases lo with
    | none => simp [sliceBounds, HT.sIx]
    | some i =>
      simp only [sliceBounds, HT.sIx, Option.getD_none, show (1 : Int) > 0 by decide, if_true]
      by_cases h : i < 0
      · simp only [h, if_true] <;> omega
      · simp only [h, if_false] <;> omega
  · cases hi with
    | none => simp [sliceBounds, HT.sIx]
    | some i =>
      simp only [sliceBounds, HT.sIx, Option.getD_none, show (1 : Int) > 0 by decide, if_true]
      by_cases h : i < 0
      · simp only [h, if_true] <;> omega
      · simp only [h, if_false] <;> omega
theorem slicePick_cut (its : List Value) (lo hi : Option Int) : slicePick its.toArray lo hi none = ((its.drop (HT.sIx its.length 0 lo)).take (HT.sIx its.length its.length hi - HT.sIx its.length 0 lo)).toArray := by
  obtain ⟨h1, h2, h3⟩ := slice_bounds lo hi its.toArray.size
  unfold slicePick
  rw [h1, h2, h3]
  simp only [sliceRange_one, pick_run, List.size_toArray] <;> rfl
inductive RSlLP (K : PySem.W.Frag) (x : V) (lo : Option Int) (hi : Option Int) (H : Hp) (Q : VK) : Prop
  | mk (a xs : _) : (x = .ref a) → (SqL K H a xs) → (∀ p, H p = none → Q (.ref p) (upd H p (.lst (cutV xs lo hi)))) → RSlLP K x lo hi H Q
def rSlL (K : PySem.W.Frag) : V → Option Int → Option Int → Hp → VK → Prop := fun x lo hi H Q => RSlLP K x lo hi H Q
theorem sl_list : SlR X (rSlL X.K) := by
  intro pins s σ H x v vl vu lo hi sl Q I rx hs pl pu h
  obtain ⟨a, xs, rfl, hx, q⟩ := h
  cases rx
  obtain ⟨its, r, ht, hz⟩ := I.list hx
  have hlen := r.length
  refine ⟨"list", _, slot_list_getitem.lookup, ht.isList.typeIs, ?_⟩
  refine wpAny_getItem_list_slice ht.isList hs pl pu .none (by simp) ?_ (by rw [List.size_toArray] <;> omega)
  rw [slicePick_cut, ← hlen]
  refine ⟨.ref s.heap.objs.size, _, I.laid (t' := s.toks) (o := .lst (cutV xs lo hi)) (fun b ob q => Heap.get?_push_of_some _ q) (Nat.le_refl _) ?_, rfl, q _ (I.hok.fresh (Nat.le_refl _))⟩
  exact ⟨Nat.le_trans (cutV_length xs lo hi) hz, _, 0, (r.drop (HT.sIx xs.length 0 lo)).take (HT.sIx xs.length xs.length hi - HT.sIx xs.length 0 lo), Heap.get?_push_size _ rfl⟩
def flatV : V → Bool
  | .non => true
  | .bl _ => true
  | .int _ => true
  | .str _ => true
  | _ => false
def eqV : V → V → Bool
  | .non, .non => true
  | .bl a, .bl b => a == b
  | .bl a, .int b => (if a then 1 else 0) == b
  | .int a, .bl b => a == (if b then 1 else 0)
  | .int a, .int b => a == b
  | .str a, .str b => a == b
  | _, _ => false
theorem eqAt_V {A : Around} {s : Shared} {y x : V} {u v : Value} (ry : RelV y u) (rx : RelV x v) (fy : flatV y = true) (fx : flatV x = true) : SeqAt.EqAt A s u v (eqV y x) := by
  cases y with
  | non =>
    cases ry
    cases x with
    | non => cases rx; exact SeqAt.EqAt.same _
    | bl b => cases rx; exact SeqAt.EqAt.none_bool b
    | int b => obtain ⟨t, rfl⟩ := rx; exact SeqAt.EqAt.none_int b t
    | str b => obtain ⟨t, rfl⟩ := rx; exact SeqAt.EqAt.none_str b t
    | _ => exact absurd (show false = true from fx) Bool.false_ne_true
  | bl a =>
    cases ry
    cases x with
    | non => cases rx; exact SeqAt.EqAt.bool_none a
    | bl b => cases rx; exact SeqAt.EqAt.bool_bool a b
    | int b => obtain ⟨t, rfl⟩ := rx; exact SeqAt.EqAt.bool_int a b t
    | str b => obtain ⟨t, rfl⟩ := rx; exact SeqAt.EqAt.bool_str a b t
    | _ => exact absurd (show false = true from fx) Bool.false_ne_true
  | int a =>
    obtain ⟨t', rfl⟩ := ry
    cases x with
    | non => cases rx; exact SeqAt.EqAt.int_none a t'
    | bl b => cases rx; exact SeqAt.EqAt.int_bool a t' b
    | int b => obtain ⟨t, rfl⟩ := rx; exact SeqAt.EqAt.int_int a t' b t
    | str b => obtain ⟨t, rfl⟩ := rx; exact SeqAt.EqAt.int_str a t' b t
    | _ => exact absurd (show false = true from fx) Bool.false_ne_true
  | str a =>
    obtain ⟨t', rfl⟩ := ry
    cases x with
    | non => cases rx; exact SeqAt.EqAt.str_none a t'
    | bl b => cases rx; exact SeqAt.EqAt.str_bool a t' b
    | int b => obtain ⟨t, rfl⟩ := rx; exact SeqAt.EqAt.str_int a t' b t
    | str b => obtain ⟨t, rfl⟩ := rx; exact SeqAt.EqAt.str_str a t' b t
    | _ => exact absurd (show false = true from fx) Bool.false_ne_true
  | _ => exact absurd (show false = true from fy) Bool.false_ne_true
def eqU (x : V) (u : Value) : Bool := match u with
  | .none => eqV .non x
  | .bool b => eqV (.bl b) x
  | .int i _ => eqV (.int i) x
  | .str z _ => eqV (.str z) x
  | _ => false
theorem eqU_of {x y : V} {u : Value} (r : RelV y u) (f : flatV y = true) : eqU x u = eqV y x := by
  cases y with
  | non => cases r; rfl
  | bl b => cases r; rfl
  | int i => obtain ⟨t, rfl⟩ := r; rfl
  | str z => obtain ⟨t, rfl⟩ := r; rfl
  | _ => exact absurd (show false = true from f) Bool.false_ne_true
theorem any_eqU {x : V} : ∀ {xs : List V} {us : List Value}, Vals xs us → xs.all flatV = true → us.any (eqU x) = xs.any fun y => eqV y x
  | _, _, .nil, _ => rfl
  | y :: xs, u :: us, .cons r t, f => by
    rw [List.all_cons, Bool.and_eq_true] at f
    rw [List.any_cons, List.any_cons, eqU_of r f.1, any_eqU t f.2]
theorem mem_eqAt {A : Around} {s : Shared} {x : V} {v : Value} (rx : RelV x v) (fx : flatV x = true) : ∀ {xs : List V} {us : List Value}, Vals xs us → xs.all flatV = true → ∀ u ∈ us, SeqAt.EqAt A s u v (eqU x u)
  | _, _, .nil, _ => fun u hu => by cases hu
  | y :: xs, u :: us, .cons r t, f => fun u' hu => by
    rw [List.all_cons, Bool.and_eq_true] at f
    rcases List.mem_cons.mp hu with rfl | hu
    · rw [eqU_of r f.1]; exact eqAt_V r rx f.1 fx
    · exact mem_eqAt rx fx t f.2 u' hu
def inV (x : V) (xs : List V) : Bool := xs.any fun y => eqV y x
inductive RInP (K : PySem.W.Frag) (neg : Bool) (x : V) (y : V) (H : Hp) (Q : VK) : Prop
  | mk (p xs : _) : (y = .ref p) → ((SqL K H p xs ∨ SqT K H p xs)) → (flatV x = true) → (xs.all flatV = true) → (Q (.bl (if neg then !inV x xs else inV x xs)) H) → RInP K neg x y H Q
def rIn (K : PySem.W.Frag) (neg : Bool) : R2 := fun x y H Q => RInP K neg x y H Q
theorem op_in_seq : OpR X (compareOp .In) (rIn X.K false) := by
  intro pins s σ H x y v u Q I rx ry h
  obtain ⟨p, xs, rfl, hq, fx, fs, q⟩ := h
  cases ry
  rcases hq with hq | hq
  · obtain ⟨its, r, pl, hz⟩ := I.list hq
    refine SeqAt.in_listAt (eqU x) pl.isList (fun w hw => mem_eqAt rx fx r fs w (by simpa using hw)) ⟨.bl _, H, I, rfl, ?_⟩
    rw [show its.toArray.any (eqU x) = its.any (eqU x) by simp, any_eqU r fs]
    exact q
  · obtain ⟨its, r, pl, hz⟩ := I.tuple hq
    refine SeqAt.in_tupleAt (eqU x) pl (fun w hw => mem_eqAt rx fx r fs w (by simpa using hw)) ⟨.bl _, H, I, rfl, ?_⟩
    rw [show its.toArray.any (eqU x) = its.any (eqU x) by simp, any_eqU r fs]
    exact q
theorem op_notIn_seq : OpR X (compareOp .NotIn) (rIn X.K true) := by
  intro pins s σ H x y v u Q I rx ry h
  obtain ⟨p, xs, rfl, hq, fx, fs, q⟩ := h
  cases ry
  rcases hq with hq | hq
  · obtain ⟨its, r, pl, hz⟩ := I.list hq
    refine SeqAt.notIn_listAt (eqU x) pl.isList (fun w hw => mem_eqAt rx fx r fs w (by simpa using hw)) ⟨.bl _, H, I, rfl, ?_⟩
    rw [show its.toArray.any (eqU x) = its.any (eqU x) by simp, any_eqU r fs]
    exact q
  · obtain ⟨its, r, pl, hz⟩ := I.tuple hq
    refine SeqAt.notIn_tupleAt (eqU x) pl (fun w hw => mem_eqAt rx fx r fs w (by simpa using hw)) ⟨.bl _, H, I, rfl, ?_⟩
    rw [show its.toArray.any (eqU x) = its.any (eqU x) by simp, any_eqU r fs]
    exact q
theorem call_len_seq : CallR X (.builtin "len") (fun xs H Q => ∃ p ys, xs = [.ref p] ∧ (SqL X.K H p ys ∨ SqT X.K H p ys) ∧ Q (.int ys.length) H) := by
  intro pins s σ H xs us Q I r h
  obtain ⟨p, ys, rfl, hq, q⟩ := h
  obtain ⟨u, rfl, rx⟩ := vals1 r
  cases rx
  have hn := line63
  rcases hq with hq | hq
  · obtain ⟨its, r', pl, hz⟩ := I.list hq
    have hlen := r'.length
    exact Calls.call_len_list pl.isList (by simp only [List.size_toArray] <;> omega) ⟨.int ys.length, H, I.tok _, ⟨s.toks + 1, by rw [List.size_toArray, hlen]⟩, q⟩
  · obtain ⟨its, r', pl, hz⟩ := I.tuple hq
    have hlen := r'.length
    exact len_tuple pl (by simp only [List.size_toArray] <;> omega) ⟨.int ys.length, H, I.tok _, ⟨s.toks + 1, by rw [List.size_toArray, hlen]⟩, q⟩
theorem call_list_of : CallR X (.type "list") (fun xs H Q => ∃ p ys, xs = [.ref p] ∧ (SqL X.K H p ys ∨ SqT X.K H p ys) ∧ ∀ l, H l = none → Q (.ref l) (upd H l (.lst ys))) := by
  intro pins s σ H xs us Q I r h
  obtain ⟨p, ys, rfl, hq, q⟩ := h
  obtain ⟨u, rfl, rx⟩ := vals1 r
  cases rx
  have fin : ∀ (its : List Value), Vals ys its → ys.length ≤ sizeLine → ∀ (h' : Heap) (c' : Nat), (∀ b o', s.heap.get? b = some o' → h'.get? b = some o') →
      h'.get? s.heap.objs.size = some { cls := .type "list", dict := none, data := .seq its.toArray c', slots := #[] } → EP X pins σ Q (.ref s.heap.objs.size) { s with heap := h' } := fun its r' hz h' c' kp e =>
    ⟨.ref s.heap.objs.size, _, I.laid (t' := s.toks) kp (Nat.le_refl _) (show ObjOk X.prog X.w _ h' _ (.lst ys) from ⟨hz, its, c', r', e⟩), rfl, q _ (I.hok.fresh (Nat.le_refl _))⟩
  rcases hq with hq | hq
  · obtain ⟨its, r', pl, hz⟩ := I.list hq
    have hlen := r'.length
    obtain ⟨o, ho, hc, n, hd⟩ := pl.isList
    exact call_list_seq p (.inl rfl) ho hc hd (fun h' c' kp e => fin its r' hz h' c' kp e) (by simp only [List.size_toArray] <;> omega)
  · obtain ⟨its, r', pl, hz⟩ := I.tuple hq
    have hlen := r'.length
    obtain ⟨o, ho, hc, n, hd⟩ := pl
    exact call_list_seq p (.inr rfl) ho hc hd (fun h' c' kp e => fin its r' hz h' c' kp e) (by simp only [List.size_toArray] <;> omega)
theorem call_tuple_of : CallR X (.type "tuple") (fun xs H Q => ∃ p ys, xs = [.ref p] ∧ ((SqL X.K H p ys ∧ ∀ l, H l = none → Q (.ref l) (upd H l (.tup ys))) ∨ (SqT X.K H p ys ∧ Q (.ref p) H))) := by
  intro pins s σ H xs us Q I r h
  obtain ⟨p, ys, rfl, h⟩ := h
  obtain ⟨u, rfl, rx⟩ := vals1 r
  cases rx
  rcases h with ⟨hq, q⟩ | ⟨hq, q⟩
  · obtain ⟨its, r', pl, hz⟩ := I.list hq
    have hlen := r'.length
    refine call_tuple_list pl.isList (fun h' kp => ?_) (by simp only [List.size_toArray] <;> omega)
    have I1 : Inv X pins σ H { s with heap := h' } := I.kept (t' := s.toks) kp
    have I2 : Inv X pins σ (upd H h'.objs.size (.tup ys)) { s with heap := h'.push { cls := .type "tuple", data := .seq its.toArray } } :=
      I1.laid (t' := s.toks) (fun b o e => Heap.get?_push_of_some _ e) (Nat.le_refl _) (show ObjOk X.prog X.w _ _ _ (.tup ys) from ⟨hz, its, r', IsTupN.new _ _⟩)
    exact ⟨.ref h'.objs.size, _, I2, rfl, q _ (I1.hok.fresh (Nat.le_refl _))⟩
  · obtain ⟨its, r', pl, hz⟩ := I.tuple hq
    exact call_tuple_same pl ⟨.ref p, H, I, rfl, q⟩
def tyV (K : PySem.W.Frag) (T : String) (x : V) (H : Hp) : Prop := match x with
  | .str _ => T = "str"
  | .int _ => T = "int"
  | .ref p => (T = "list" ∧ ∃ xs, SqL K H p xs) ∨ (T = "tuple" ∧ ((∃ o, K.lookup p = some o ∧ o.cls = .type "tuple" ∧ o.dict = none) ∨ ∃ xs, H p = some (.tup xs))) ∨
      (T = "dict" ∧ ((∃ kvs, H p = some (.dK kvs)) ∨ ∃ kvs, H p = some (.dT kvs))) ∨ (T = "set" ∧ ∃ S n, H p = some (.set S n))
  | _ => False
theorem tyV_is {pins : List (Addr × Obj)} {σ : St} {H : Hp} {s : Shared} {T : String} {x : V} {v : Value} (I : Inv X pins σ H s) (r : RelV x v) (ty : tyV X.K T x H) :
    s.TypeIs v T ∧ ∀ a, v = .ref a → ∃ ob, s.heap.get? a = some ob ∧ ob.dict = none := by
  cases x with
  | str z =>
    obtain ⟨t, rfl⟩ := r
    cases (show T = "str" from ty)
    exact ⟨typeIs_str s z t, fun _ e => nomatch e⟩
  | int i =>
    obtain ⟨t, rfl⟩ := r
    cases (show T = "int" from ty)
    exact ⟨typeIs_int s i t, fun _ e => nomatch e⟩
  | ref p =>
    cases r
    rcases ty with ⟨rfl, xs, hq⟩ | ⟨rfl, ⟨o, hk, hc, hd⟩ | ⟨xs, hx⟩⟩ | ⟨rfl, hk⟩ | ⟨rfl, S, n, hk⟩
    · obtain ⟨its, _, pl, _⟩ := I.list hq
      refine ⟨pl.isList.typeIs, fun a e => ?_⟩
      cases e
      obtain ⟨o, n, e, c, hd, _⟩ := pl
      exact ⟨o, e, hd⟩
    · refine ⟨⟨o, I.kIn p o hk, hc⟩, fun a e => ?_⟩
      cases e
      exact ⟨o, I.kIn _ o hk, hd⟩
    · obtain ⟨_, _, _, o, e, c, d, _⟩ := (show ObjOk X.prog X.w H s.heap p (.tup xs) from I.hok p _ hx)
      refine ⟨⟨o, e, c⟩, fun a e2 => ?_⟩
      cases e2
      exact ⟨o, e, d⟩
    · have z : ∃ o, s.heap.get? p = some o ∧ o.ExactDict := by
        rcases hk with ⟨kvs, hk⟩ | ⟨kvs, hk⟩
        · obtain ⟨_, _, _, _, o, _, _, e, ex, _⟩ := I.hok p _ hk
          exact ⟨o, e, ex⟩
        · obtain ⟨_, _, _, _, o, _, _, e, ex, _⟩ := I.hok p _ hk
          exact ⟨o, e, ex⟩
      obtain ⟨o, e, ex⟩ := z
      refine ⟨⟨o, e, ex.1⟩, fun a e2 => ?_⟩
      cases e2
      exact ⟨o, e, ex.2.1⟩
    · obtain ⟨o, _, _, _, e, ex, _⟩ := I.hok p _ hk
      refine ⟨⟨o, e, ex.1⟩, fun a e2 => ?_⟩
      cases e2
      exact ⟨o, e, ex.2.1⟩
  | _ => exact False.elim ty
def tBM0 (K : PySem.W.Frag) (T : String) (r : V → List V → Hp → VK → Prop) (to : TE) : TE := fun σ H Q => to σ H fun x H1 => tyV K T x H1 ∧ r x [] H1 Q
def tBM (K : PySem.W.Frag) (T : String) (r : V → List V → Hp → VK → Prop) (to : TE) (t : TA) : TE := fun σ H Q => to σ H fun x H1 => tyV K T x H1 ∧ t σ H1 fun xs H2 => r x xs H2 Q
variable {o e : Expr} {es : List Expr} {to : TE} {t : TA} {name : Str} {apos cpos : Pos} {T id : String} {r : V → List V → Hp → VK → Prop}
theorem pe_bm0 (pa : PlainAttrs T) (slot : Slot T name id) (hty : typeOf (.builtin id) = pure (.type "method_descriptor")) (hm : MtR X id r) (ho : PE X o to)
    (hbase : attributeBase o name X.env (eval o X.env) = eval o X.env := by rfl) (hline : (apos.endLine == cpos.line) = true := by rfl) : PE X (.Call (.Attribute o name apos) [] [] cpos) (tBM0 X.K T r to) := by
  intro pins s σ H Q I h
  refine wpAny_Call_method0_late hbase hline (thn (ho pins s σ H _ I h) fun v s1 ⟨x, H1, I1, r1, ty, q1⟩ => ?_)
  obtain ⟨h1, h2⟩ := tyV_is I1 r1 ty
  exact ⟨T, id, pa, slot, hty, h1, h2, Calls.callWith_builtin rfl (PySem.evalArgs_none (hm pins s1 σ H1 x [] v [] Q I1 r1 .nil q1))⟩
theorem pe_bm (pa : PlainAttrs T) (slot : Slot T name id) (hty : typeOf (.builtin id) = pure (.type "method_descriptor")) (hm : MtR X id r) (ho : PE X o to) (ha : PA X (e :: es) t)
    (hbase : attributeBase o name X.env (eval o X.env) = eval o X.env := by rfl)
    (hfew : ((backTo cpos (starEach (e :: es) X.env)).all (fun x => !x.1) && (backToKw cpos (keywordEach [] X.env)).all (fun x => x.1.isSome)
      && decide ((e :: es).length + ([] : List Keyword).length + (if ([] : List Keyword).isEmpty then 0 else 1) < 30)) = true := by rfl)
    (hline : (apos.endLine == cpos.line) = true := by rfl) (hs : starEach (e :: es) X.env = (false, eval e X.env) :: starEach es X.env := by rfl) (hplain : (backTo cpos (starEach es X.env)).any (·.1) = false := by rfl) :
    PE X (.Call (.Attribute o name apos) (e :: es) [] cpos) (tBM X.K T r to t) := by
  intro pins s σ H Q I h
  refine wpAny_Call_method_late hbase hfew hline rfl (thn (ho pins s σ H _ I h) fun v s1 ⟨x, H1, I1, r1, ty, q1⟩ => ?_)
  obtain ⟨h1, h2⟩ := tyV_is I1 r1 ty
  refine ⟨T, id, pa, slot, hty, h1, h2, ?_⟩
  have hA := ha cpos pins s1 σ H1 _ I1 q1
  rw [hs] at hA ⊢
  refine Calls.callWith_builtin (by show (false || (backTo cpos (starEach es X.env)).any (·.1)) = false; rw [hplain] <;> rfl) (Calls.evalArgs_plain ?_)
  exact thn hA fun us s2 ⟨vs, H2, I2, r2, q2⟩ => hm pins s2 σ H2 x vs v us Q I2 r1 r2 q2
end
end L2
namespace L2
open PySem PySem.Spec PyProof.Rows
def MtM (X : Cx) (id : String) (r : V → List V → Hp → VK → Prop) : Prop :=
  ∀ (pins : List (Addr × Obj)) (s : Shared) (σ : St) (H : Hp) (x : V) (xs : List V) (v : Value) (us : List Value) (Q : VK), Inv X pins σ H s → RelV x v → Vals xs us → r x xs H Q →
    wpAny (model X.prog X.w) X.A (call (.builtin id) (v :: us)) (EP X pins σ Q) X.xe s
theorem Vals.one : ∀ {x : V} {us : List Value}, Vals [x] us → ∃ u, us = [u] ∧ RelV x u
  | _, _, .cons r .nil => ⟨_, rfl, r⟩
theorem Vals.zero : ∀ {us : List Value}, Vals [] us → us = []
  | _, .nil => rfl
theorem Vals.dropLast {xs : List V} {us : List Value} (h : Vals xs us) : Vals xs.dropLast us.dropLast := by
  induction h with
  | nil => exact .nil
  | cons r t ih =>
    cases t with
    | nil => exact .nil
    | cons q t' => exact .cons r ih
theorem Vals.eraseIdx : ∀ {xs : List V} {us : List Value} (i : Nat), Vals xs us → Vals (xs.eraseIdx i) (us.eraseIdx i)
  | _, _, _, .nil => .nil
  | _, _, 0, .cons _ t => t
  | _, _, i + 1, .cons r t => .cons r (Vals.eraseIdx i t)
theorem Vals.rep {xs : List V} {us : List Value} (h : Vals xs us) : ∀ k : Nat, Vals (List.replicate k xs).flatten (List.replicate k us).flatten
  | 0 => .nil
  | k + 1 => by
    rw [List.replicate_succ, List.replicate_succ, List.flatten_cons, List.flatten_cons]
    exact Vals.append h (Vals.rep h k)
theorem erase_last {α : Type} (l : List α) : l.eraseIdx (l.length - 1) = l.dropLast := by
  induction l with
  | nil => rfl
  | cons a r ih =>
    cases r with
    | nil => rfl
    | cons b r =>
      have e : (a :: b :: r).length - 1 = ((b :: r).length - 1) + 1 := by
        have h1 : (a :: b :: r).length = r.length + 2 := rfl
        have h2 : (b :: r).length = r.length + 1 := rfl
        assumption
      rw [e, List.eraseIdx_cons_succ, ih]
      all_goals rfl
theorem len_erase {α : Type} : ∀ (l : List α) (i : Nat), (l.eraseIdx i).length ≤ l.length
  | [], _ => Nat.le_refl _
  | _ :: _, 0 => Nat.le_succ _
  | _ :: r, i + 1 => Nat.succ_le_succ (len_erase r i)
theorem foldl_rep (its : List Value) : ∀ (k : Nat) (acc : List Value),
    List.foldl (fun x1 x2 => x1 ++ x2) acc.toArray (List.replicate k its.toArray) = (acc ++ (List.replicate k its).flatten).toArray
  | 0, acc => by simp
  | k + 1, acc => by
    have e : acc.toArray ++ its.toArray = (acc ++ its).toArray := by simp
    have e2 : (acc ++ its) ++ (List.replicate k its).flatten = acc ++ (List.replicate (k + 1) its).flatten := by
      rw [List.replicate_succ, List.flatten_cons, List.append_assoc]
    rw [← e2, ← foldl_rep its k (acc ++ its), ← e, List.replicate_succ, List.foldl_cons]
section
variable {X : Cx} {pins : List (Addr × Obj)} {σ : St} {H : Hp} {s : Shared} {l b : Addr} {xs ys zs : List V}
theorem Inv.lset {its its' : List Value} {n : Nat} {f : Array Value → Array Value} {t' : Nat} (I : Inv X pins σ H s) (hH : H l = some (.lst xs))
    (e : s.heap.get? l = some { cls := .type "list", data := .seq its.toArray n }) (hf : f its.toArray = its'.toArray) (hv : Vals ys its') (hz : ys.length ≤ sizeLine) :
    Inv X pins σ (upd H l (.lst ys)) { s with heap := s.heap.update l (Obj.mapSeq f), toks := t' } := by
  have q := PySem.IsL.update e f
  rw [hf] at q
  refine I.write (x := l) (e := l) (by rw [hH]; exact trivial) (.inl rfl) (fun b' u hb hu => (Heap.get?_update_other s.heap (Obj.mapSeq f) (Ne.symm hb)).trans hu) ⟨_, q⟩ ?_
  exact ⟨hz, its', _, hv, q⟩
theorem Inv.lnew {its : List Value} {t' : Nat} (I : Inv X pins σ H s) (hv : Vals ys its) (hz : ys.length ≤ sizeLine) :
    Inv X pins σ (upd H s.heap.objs.size (.lst ys)) { s with heap := s.heap.push { cls := .type "list", data := .seq its.toArray }, toks := t' } :=
  I.laid (fun _ _ q => Heap.get?_push_of_some _ q) (Nat.le_refl _) ⟨hz, its, 0, hv, Heap.get?_push_size _ rfl⟩
theorem Inv.fresh (I : Inv X pins σ H s) : H s.heap.objs.size = none := I.hok.fresh (Nat.le_refl _)
theorem Inv.lstM (I : Inv X pins σ H s) (hH : H l = some (.lst xs)) : xs.length ≤ sizeLine ∧ ∃ (its : List Value) (n : Nat), Vals xs its ∧ xs.length = its.length ∧ s.heap.get? l = some { cls := .type "list", data := .seq its.toArray n } := by
  obtain ⟨z, its, n, r, e⟩ := I.hok l _ hH
  exact ⟨z, its, n, r, r.length, e⟩
theorem notLongL {n : Nat} (h : n ≤ sizeLine) : Builtin.List.listTooLong n = false := by
  unfold Builtin.List.listTooLong
  exact decide_eq_false (by omega)
end
section
variable {X : Cx}
inductive RAppendP (x : V) (vs : List V) (H : Hp) (Q : VK) : Prop
  | mk (l xs y : _) : (x = .ref l) → (vs = [y]) → (H l = some (.lst xs)) → (xs.length < sizeLine) → (Q .non (upd H l (.lst (xs ++ [y])))) → RAppendP x vs H Q
def rAppend : V → List V → Hp → VK → Prop := fun x vs H Q => RAppendP x vs H Q
theorem mt_append : MtM X "list.append" rAppend := by
  intro pins s σ H x vs v us Q I rx rv h
  obtain ⟨l, xs, y, rfl, rfl, hH, hz, q⟩ := h
  cases rx
  obtain ⟨u, rfl, ru⟩ := rv.one
  obtain ⟨z, its, n, r, hl, e⟩ := I.lstM hH
  refine call_meets F.slot_list_append ⟨_, e, rfl⟩ F.entry_list_append (F.args_list_append_2 _ _) (PySem.list_append l its.toArray n u (by rw [List.size_toArray]; omega)) ⟨e, ?_⟩
  refine ⟨.non, _, I.lset (its' := its ++ [u]) hH e (by simp) (r.append (.cons ru .nil)) ?_, rfl, q⟩
  rw [List.length_append, List.length_singleton]
  assumption
inductive RPopP (x : V) (vs : List V) (H : Hp) (Q : VK) : Prop
  | mk (l xs y : _) : (x = .ref l) → (vs = []) → (H l = some (.lst xs)) → (xs[xs.length - 1]? = some y) → (Q y (upd H l (.lst xs.dropLast))) → RPopP x vs H Q
def rPop : V → List V → Hp → VK → Prop := fun x vs H Q => RPopP x vs H Q
theorem mt_pop : MtM X "list.pop" rPop := by
  intro pins s σ H x vs v us Q I rx rv h
  obtain ⟨l, xs, y, rfl, rfl, hH, hy, q⟩ := h
  cases rx
  have hus := rv.zero
  subst hus
  obtain ⟨z, its, n, r, hl, e⟩ := I.lstM hH
  obtain ⟨u, hu, ru⟩ := r.get hy
  have hy' : its.toArray[its.toArray.size - 1]? = some u := by
    show its.toArray[its.length - 1]? = some u
    rw [← Array.getElem?_toList, ← hl]
    exact hu
  refine call_meets F.slot_list_pop ⟨_, e, rfl⟩ F.entry_list_pop (F.args_list_pop_1 _) (MeetsSeq.list_pop_last l its.toArray n u hy' (by rw [List.size_toArray]; omega)) ⟨e, ?_⟩
  refine ⟨y, _, I.lset (its' := its.dropLast) hH e ?_ r.dropLast ?_, ru, q⟩
  · show its.toArray.eraseIdxIfInBounds (its.toArray.size - 1) = its.dropLast.toArray
    rw [List.size_toArray, List.eraseIdxIfInBounds_toArray, erase_last]
  · rw [List.length_dropLast]
    omega
inductive RPopAtP (x : V) (vs : List V) (H : Hp) (Q : VK) : Prop
  | mk (l xs i k y : _) : (x = .ref l) → (vs = [.int i]) → (H l = some (.lst xs)) → (-(2 ^ 63) ≤ i) → (i < 2 ^ 63) → (seqIndex? i xs.length = some k) → (xs[k]? = some y) → (Q y (upd H l (.lst (xs.eraseIdx k)))) → RPopAtP x vs H Q
def rPopAt : V → List V → Hp → VK → Prop := fun x vs H Q => RPopAtP x vs H Q
theorem mt_popAt : MtM X "list.pop" rPopAt := by
  intro pins s σ H x vs v us Q I rx rv h
  obtain ⟨l, xs, i, k, y, rfl, rfl, hH, h1, h2, hk, hy, q⟩ := h
  cases rx
  obtain ⟨u, rfl, ru⟩ := rv.one
  obtain ⟨t, rfl⟩ := ru
  obtain ⟨z, its, n, r, hl, e⟩ := I.lstM hH
  obtain ⟨w, hw, rw'⟩ := r.get hy
  refine call_meets F.slot_list_pop ⟨_, e, rfl⟩ F.entry_list_pop (F.args_list_pop_2 _ _)
    (MeetsSeq.list_pop_at l its.toArray n i t k w (fitsIndex_both h1 h2) (by rw [List.size_toArray, ← hl]; exact hk) (by rw [← Array.getElem?_toList]; exact hw) (by rw [List.size_toArray]; omega)) ⟨e, ?_⟩
  refine ⟨y, _, I.lset (its' := its.eraseIdx k) hH e ?_ (r.eraseIdx k) ?_, rw', q⟩
  · show its.toArray.eraseIdxIfInBounds k = (its.eraseIdx k).toArray
    rw [List.eraseIdxIfInBounds_toArray]
  · have := len_erase xs k
    exact Nat.le_trans (by assumption) (by assumption)
inductive RCatP (x : V) (y : V) (H : Hp) (Q : VK) : Prop
  | mk (l b xs zs : _) : (x = .ref l) → (y = .ref b) → (H l = some (.lst xs)) → (H b = some (.lst zs)) → (xs.length + zs.length ≤ sizeLine) → (∀ p, H p = none → Q (.ref p) (upd H p (.lst (xs ++ zs)))) → RCatP x y H Q
def rCat : R2 := fun x y H Q => RCatP x y H Q
theorem op_cat : OpR X (binaryOp .Add) rCat := by
  intro pins s σ H x y v u Q I rx ry h
  obtain ⟨l, b, xs, zs, rfl, rfl, hH, hB, hz, q⟩ := h
  cases rx
  cases ry
  obtain ⟨z, its, n, r, hl, e⟩ := I.lstM hH
  obtain ⟨z2, its2, n2, r2, hl2, e2⟩ := I.lstM hB
  refine PySem.P.add_list e e2 ?_ (by rw [List.size_toArray, List.size_toArray]; omega)
  have ea : its.toArray ++ its2.toArray = (its ++ its2).toArray := by simp
  rw [ea]
  exact ⟨.ref _, _, I.lnew (t' := s.toks) (r.append r2) (by rw [List.length_append]; assumption), rfl, q _ I.fresh⟩
inductive RRepP (x : V) (y : V) (H : Hp) (Q : VK) : Prop
  | mk (l k xs : _) : (x = .ref l) → (y = .int k) → (H l = some (.lst xs)) → (-(2 ^ 63) ≤ k) → (k < 2 ^ 63) → (xs.length * k.toNat ≤ sizeLine) → (∀ p, H p = none → Q (.ref p) (upd H p (.lst (List.replicate k.toNat xs).flatten))) → RRepP x y H Q
def rRep : R2 := fun x y H Q => RRepP x y H Q
theorem len_rep {α : Type} (xs : List α) (k : Nat) : (List.replicate k xs).flatten.length = k * xs.length := by
  induction k with
  | zero => simp
  | succ k ih => rw [List.replicate_succ, List.flatten_cons, List.length_append, ih, Nat.succ_mul, Nat.add_comm]
theorem op_rep : OpR X (binaryOp .Mult) rRep := by
  intro pins s σ H x y v u Q I rx ry h
  obtain ⟨l, k, xs, rfl, rfl, hH, h1, h2, hz, q⟩ := h
  cases rx
  obtain ⟨t, rfl⟩ := ry
  obtain ⟨z, its, n, r, hl, e⟩ := I.lstM hH
  have hlen : its.toArray.size * k.toNat ≤ sizeLine := by rw [List.size_toArray, ← hl]; exact hz
  have hcap : ¬ its.toArray.size * k.toNat > (2 ^ 63 - 1) / 8 := by
    have : (sizeLine : Nat) ≤ (2 ^ 63 - 1) / 8 := by decide
    omega
  have hfit : ¬ (!Builtin.List.listFitsIndex k) = true := by
    rw [fitsIndex_both h1 h2]
    exact Bool.false_ne_true
  have hlong : ¬ Builtin.List.listTooLong (its.toArray.size * k.toNat) = true := by
    rw [notLongL hlen]
    exact Bool.false_ne_true
  have hnew : List.foldl (fun x1 x2 => x1 ++ x2) #[] (List.replicate (if its.toArray.isEmpty = true then 0 else k.toNat) its.toArray) = (List.replicate k.toNat its).flatten.toArray := by
    have f0 : ∀ m : Nat, List.foldl (fun x1 x2 => x1 ++ x2) #[] (List.replicate m its.toArray) = (List.replicate m its).flatten.toArray := fun m => by
      have := foldl_rep its m []
      rw [List.nil_append] at this
      exact this
    rw [f0]
    cases its with
    | nil => simp
    | cons a r' => rw [if_neg (by simp)]
  refine wpAny_binaryOp_repeat_ref (T := "list") (U := "int") (by decide) ⟨_, e, rfl⟩ (fun s' => typeIs_int s' k t) noFill_list_mul F.fills_int_mul F.slot_int_rmul repeat_list F.slot_int_index.lookup
    (call_meets F.slot_int_rmul (typeIs_int s k t) F.entry_int_rmul (F.args_int_rmul_2 _ _) (int___rmul___int_list k t l its.toArray n)
      ⟨e, rfl, ⟨_, e, rfl⟩, call_meets F.slot_list_mul ⟨_, e, rfl⟩ F.entry_list_mul (F.args_list_mul_2 _ _) (AutoListH.list___mul___list_int_3 l its.toArray n k t hfit hcap hlong) ⟨e, ?_⟩⟩)
  rw [hnew]
  exact ⟨.ref _, _, I.lnew (t' := s.toks) (r.rep k.toNat) (by rw [len_rep, Nat.mul_comm]; exact hz), rfl, q _ I.fresh⟩
end
end L2
namespace L2
open PySem PySem.Spec PyProof.Rows
section
variable {κ : Type} [DecidableEq κ]
def valV (kvs : List (κ × V)) (k : κ) : Option V := (kvs.find? fun kv => decide (kv.1 = k)).map (·.2)
def putK (kvs : List (κ × V)) (k : κ) (v : V) : List (κ × V) :=
  if (kvs.any fun kv => decide (kv.1 = k)) = true then kvs.map (fun kv => if kv.1 = k then (kv.1, v) else kv) else kvs ++ [(k, v)]
theorem valV_pos {p : κ × V} {r : List (κ × V)} {k : κ} (e : p.1 = k) : valV (p :: r) k = some p.2 := by simp [valV, List.find?_cons, e]
theorem valV_neg {p : κ × V} {r : List (κ × V)} {k : κ} (e : ¬ p.1 = k) : valV (p :: r) k = valV r k := by simp [valV, List.find?_cons, e]
theorem valV_any (k : κ) : ∀ kvs : List (κ × V), (kvs.any fun kv => decide (kv.1 = k)) = (valV kvs k).isSome
  | [] => rfl
  | p :: r => by
    rw [List.any_cons]
    by_cases e : p.1 = k
    · simp only [valV_pos e, decide_eq_true e, Bool.true_or, Option.isSome_some]
    · rw [valV_neg e, decide_eq_false e, Bool.false_or]; exact valV_any k r
theorem length_putK (kvs : List (κ × V)) (k : κ) (v : V) : (putK kvs k v).length ≤ kvs.length + 1 := by
  unfold putK
  split
  · rw [List.length_map]; exact Nat.le_add_right _ _
  · rw [List.length_append, List.length_cons, List.length_nil]; exact Nat.add_le_add_left (by decide) _
theorem putK_new {kvs : List (κ × V)} {k : κ} (v : V) (h : valV kvs k = none) : putK kvs k v = kvs ++ [(k, v)] := by
  unfold putK
  rw [valV_any, h]
  exact if_neg (by decide)
theorem RelO.isSome_eq {o : Option V} {u : Option Value} (r : RelO o u) : o.isSome = u.isSome := by
  cases o with
  | none => cases u with
    | none => rfl
    | some _ => exact (show False from r).elim
  | some _ => cases u with
    | none => exact (show False from r).elim
    | some _ => rfl
theorem KV.val {kvs : List (κ × V)} {vs : List (κ × Value)} (r : KV kvs vs) (k : κ) : RelO (valV kvs k) (valueAt vs k) := by
  unfold KV at r
  induction r with
  | nil => exact True.intro
  | @cons p q ps qs h t ih =>
    obtain ⟨h1, h2⟩ := h
    by_cases e : p.1 = k
    · have e' : q.1 = k := h1.symm.trans e
      have b : valueAt (q :: qs) k = some q.2 := by simp [valueAt, List.find?_cons, e']
      rw [valV_pos e, b]; exact h2
    · have e' : ¬ q.1 = k := fun z => e (h1.trans z)
      have b : valueAt (q :: qs) k = valueAt qs k := by simp [valueAt, List.find?_cons, e']
      rw [valV_neg e, b]; exact ih
theorem KV.any {kvs : List (κ × V)} {vs : List (κ × Value)} (r : KV kvs vs) (k : κ) : (kvs.any fun kv => decide (kv.1 = k)) = vs.any fun kv => decide (kv.1 = k) := by
  unfold KV at r
  induction r with
  | nil => rfl
  | cons h t ih => rw [List.any_cons, List.any_cons, ih, h.1]
theorem KV.repl {kvs : List (κ × V)} {vs : List (κ × Value)} (r : KV kvs vs) (k : κ) {y : V} {u : Value} (ry : RelV y u) :
    KV (kvs.map fun kv => if kv.1 = k then (kv.1, y) else kv) (vs.map fun kv => if kv.1 = k then (kv.1, u) else kv) := by
  unfold KV at r ⊢
  induction r with
  | nil => exact .nil
  | @cons p q ps qs h t ih =>
    rw [List.map_cons, List.map_cons]
    refine .cons ?_ ih
    obtain ⟨h1, h2⟩ := h
    by_cases e : p.1 = k
    · rw [if_pos e, if_pos (h1.symm.trans e)]; exact ⟨h1, ry⟩
    · rw [if_neg e, if_neg (fun z => e (h1.trans z))]; exact ⟨h1, h2⟩
theorem KV.put {kvs : List (κ × V)} {vs : List (κ × Value)} (r : KV kvs vs) (k : κ) {y : V} {u : Value} (ry : RelV y u) : KV (putK kvs k y) (stored vs k u) := by
  unfold putK stored
  rw [r.any k]
  by_cases e : (vs.any fun kv => decide (kv.1 = k)) = true
  · rw [if_pos e, if_pos e]; exact r.repl k ry
  · rw [if_neg e, if_neg e]; exact Paired.snoc r ⟨rfl, ry⟩
theorem KV.length {kvs : List (κ × V)} {vs : List (κ × Value)} (r : KV kvs vs) : kvs.length = vs.length := Paired.length r
end
theorem kV_is {P : Program} {w : World} {k : Key} {u : Value} (r : RelV (kV k) u) : (mixKind P w).is k u = true := by
  cases k with
  | inl i => obtain ⟨t, e⟩ := (show ∃ t, u = Value.int i t from r); subst e; exact mixKind_int P w i t
  | inr x => obtain ⟨t, e⟩ := (show ∃ t, u = Value.str x t from r); subst e; exact mixKind_str P w x t
theorem items_are {P : Program} {w : World} : ∀ {ks : List Key} {us : List Value}, Vals (ks.map kV) us → ItemsAre (mixKind P w) ks us
  | [], _, r => by rw [List.map_nil] at r; cases r; exact .nil
  | k :: ks, _, r => by
    rw [List.map_cons] at r
    cases r with
    | cons h t => exact .cons (kV_is h) (items_are t)
abbrev KT (H : Hp) : List (List Key × V) → List (List Key × Addr × Value) → Prop := Paired fun p q => p.1 = q.1 ∧ H q.2.1 = some (.tup (p.1.map kV)) ∧ RelV p.2 q.2.2
theorem KT.val {H : Hp} {kvs : List (List Key × V)} {xs : List (List Key × Addr × Value)} (r : KT H kvs xs) (k : List Key) : RelO (valV kvs k) ((atKey xs k).map (·.2)) := by
  induction r with
  | nil => exact True.intro
  | @cons p q ps qs h t ih =>
    obtain ⟨h1, _, h2⟩ := h
    by_cases e : p.1 = k
    · have e' : q.1 = k := h1.symm.trans e
      have b : atKey (q :: qs) k = some q.2 := by simp [atKey, List.find?_cons, e']
      rw [valV_pos e, b]; exact h2
    · have e' : ¬ q.1 = k := fun z => e (h1.trans z)
      have b : atKey (q :: qs) k = atKey qs k := by simp [atKey, List.find?_cons, e']
      rw [valV_neg e, b]; exact ih
theorem KT.repl {H : Hp} {kvs : List (List Key × V)} {xs : List (List Key × Addr × Value)} (r : KT H kvs xs) (k : List Key) {y : V} {u : Value} (ry : RelV y u) :
    KT H (kvs.map fun kv => if kv.1 = k then (kv.1, y) else kv) (xs.map (putAt k u)) := by
  induction r with
  | nil => exact .nil
  | @cons p q ps qs h t ih =>
    rw [List.map_cons, List.map_cons]
    refine .cons ?_ ih
    obtain ⟨h1, h2, h3⟩ := h
    unfold putAt
    by_cases e : p.1 = k
    · rw [if_pos e, if_pos (h1.symm.trans e)]; exact ⟨h1, h2, ry⟩
    · rw [if_neg e, if_neg (fun z => e (h1.trans z))]; exact ⟨h1, h2, h3⟩
theorem KT.put {H : Hp} {kvs : List (List Key × V)} {xs : List (List Key × Addr × Value)} (r : KT H kvs xs) (k : List Key) {b : Addr} {y : V} {u : Value} (hb : H b = some (.tup (k.map kV))) (ry : RelV y u) :
    KT H (putK kvs k y) (storedH xs k b u) := by
  have e : (kvs.any fun kv => decide (kv.1 = k)) = (atKey xs k).isSome := by
    rw [valV_any, (r.val k).isSome_eq, Option.isSome_map]
  unfold putK storedH
  rw [e]
  by_cases q : (atKey xs k).isSome = true
  · rw [if_pos q, if_pos q]; exact r.repl k ry
  · rw [if_neg q, if_neg q]; exact Paired.snoc r ⟨rfl, hb, ry⟩
theorem KT.keeps {H H' : Hp} {kvs : List (List Key × V)} {xs : List (List Key × Addr × Value)} (r : KT H kvs xs) (ht : ∀ b ys, H b = some (.tup ys) → H' b = some (.tup ys)) : KT H' kvs xs :=
  Paired.mapP r fun _ _ z => ⟨z.1, ht _ _ z.2.1, z.2.2⟩
section
variable {P : Program} {w : World} {H : Hp} {h : Heap} {a : Addr}
theorem rd_of {u : HO} (ok : HOk P w H h) (e : Rd H a u) : ObjOk P w H h a u := e.ok ok
theorem dk_rd {kvs : List (Key × V)} (ok : HOk P w H h) (e : Rd H a (.dK kvs)) : kvs.length ≤ sizeLine ∧ (a == sysModules) = false ∧ ∃ vs, KV kvs vs ∧ h.DictOf (mixKind P w) a vs :=
  show ObjOk P w H h a (.dK kvs) from rd_of ok e
theorem dk_of {kvs : List (Key × V)} (ok : HOk P w H h) (e : H a = some (.dK kvs)) : kvs.length ≤ sizeLine ∧ (a == sysModules) = false ∧ ∃ vs, KV kvs vs ∧ h.DictOf (mixKind P w) a vs := dk_rd ok (.inl e)
theorem key_of {ks : List Key} (ok : HOk P w H h) (e : H a = some (.tup (ks.map kV))) : (tupleKind (mixKind P w)).is h ks a := by
  obtain ⟨_, its, r, o, h1, h2, _, n, h3⟩ := (show ObjOk P w H h a (.tup (ks.map kV)) from ok a _ e)
  exact ⟨o, its.toArray, n, h1, h2, h3, by simpa using items_are r⟩
theorem dt_rd {kvs : List (List Key × V)} (ok : HOk P w H h) (e : Rd H a (.dT kvs)) : kvs.length ≤ sizeLine ∧ (a == sysModules) = false ∧
    ∃ xs, KT H kvs xs ∧ h.DictOfH (tupleKind (mixKind P w)) a xs := by
  obtain ⟨z, y, xs, r, o, es, ep, h1, h2, h3, h4, h5⟩ := (show ObjOk P w H h a (.dT kvs) from rd_of ok e)
  refine ⟨z, y, xs, r, o, es, ep, h1, h2, h3, h4, fun x hx => ?_, h5⟩
  have all : ∀ {l : List (List Key × V)} {m : List (List Key × Addr × Value)}, KT H l m → ∀ x ∈ m, (tupleKind (mixKind P w)).is h x.1 x.2.1 := by
    intro l m q
    induction q with
    | nil => intro x hx; exact nomatch hx
    | @cons p q ps qs hq t ih =>
      intro x hx
      rcases List.mem_cons.mp hx with e | hx
      · subst e
        exact key_of ok (by rw [← hq.1]; exact hq.2.1)
      · exact ih x hx
  exact all r x hx
theorem dt_of {kvs : List (List Key × V)} (ok : HOk P w H h) (e : H a = some (.dT kvs)) : kvs.length ≤ sizeLine ∧ (a == sysModules) = false ∧
    ∃ xs, KT H kvs xs ∧ h.DictOfH (tupleKind (mixKind P w)) a xs := dt_rd ok (.inl e)
end
def DGet (H : Hp) (a : Addr) (y : V) (r : Option V) : Prop :=
  (∃ kvs k, Rd H a (.dK kvs) ∧ y = kV k ∧ r = valV kvs k) ∨ ∃ kvs k b, Rd H a (.dT kvs) ∧ y = .ref b ∧ H b = some (.tup (k.map kV)) ∧ r = valV kvs k
def DPut (H : Hp) (a : Addr) (y v : V) (H' : Hp) : Prop :=
  (∃ kvs k, H a = some (.dK kvs) ∧ y = kV k ∧ kvs.length < sizeLine ∧ H' = upd H a (.dK (putK kvs k v))) ∨
  ∃ kvs k b, H a = some (.dT kvs) ∧ y = .ref b ∧ H b = some (.tup (k.map kV)) ∧ kvs.length < sizeLine ∧ H' = upd H a (.dT (putK kvs k v))
theorem DGet.k {H : Hp} {a : Addr} {kvs : List (Key × V)} {k : Key} (e : H a = some (.dK kvs)) : DGet H a (kV k) (valV kvs k) := .inl ⟨kvs, k, .inl e, rfl, rfl⟩
theorem DPut.k {H : Hp} {a : Addr} {kvs : List (Key × V)} {k : Key} {v : V} (e : H a = some (.dK kvs)) (hl : kvs.length < sizeLine) : DPut H a (kV k) v (upd H a (.dK (putK kvs k v))) := .inl ⟨kvs, k, e, rfl, hl, rfl⟩
section
variable {X : Cx} {pins : List (Addr × Obj)} {σ : St} {H : Hp} {s : Shared} {a : Addr} {y v : V} {u r : Value} {o : Option V} {A : Around} {E : Value → Shared → Prop}
theorem Inv.big (I : Inv X pins σ H s) : sysModules < s.heap.objs.size := by
  have h : mainGlobals < s.heap.objs.size := (I.mod.glob.keeps I.bk).lt
  exact Nat.lt_trans (by decide) h
theorem d_getItem {Q : Value → Shared → Prop} (hu : A.units + 1 < cLine) (I : Inv X pins σ H s) (g : DGet H a y (some v)) (ry : RelV y u) (h : ∀ w' s', Inv X pins σ H s' → RelV v w' → Q w' s') :
    wpAny (model X.prog X.w) A (getItem (.ref a) u) Q E s := by
  rcases g with ⟨kvs, k, e, ey, l⟩ | ⟨kvs, k, b, e, ey, eb, l⟩
  · subst ey
    obtain ⟨z, hd, vs, rel, dd⟩ := dk_rd I.hok e
    obtain ⟨w', hw, rw'⟩ := RelO.some_of (v := v) (o := valueAt vs k) (by rw [l]; exact rel.val k)
    exact wpAny_getItem_of (kV_is ry) dd.mapOf hw (h w' _ (I.tok _) rw')
  · subst ey
    cases (show u = Value.ref b from ry)
    obtain ⟨z, hd, xs, rel, dd⟩ := dt_rd I.hok e
    obtain ⟨w', hw, rw'⟩ := RelO.some_of (v := v) (o := (atKey xs k).map (·.2)) (by rw [l]; exact rel.val k)
    obtain ⟨p, hp, hp2⟩ := Option.map_eq_some_iff.mp hw
    refine wpAny_getItem_heap (tupleKind_room_in1 hu) (key_of I.hok eb) dd hp ?_
    rw [hp2]
    exact h w' _ (I.tok _) rw'
theorem d_notIn {Q : Value → Shared → Prop} (hu : A.units + 1 < cLine) (I : Inv X pins σ H s) (g : DGet H a y o) (ry : RelV y u) (h : ∀ s', Inv X pins σ H s' → Q (.bool (!o.isSome)) s') :
    wpAny (model X.prog X.w) A (compareOp .NotIn u (.ref a)) Q E s := by
  rcases g with ⟨kvs, k, e, ey, l⟩ | ⟨kvs, k, b, e, ey, eb, l⟩
  · subst ey
    obtain ⟨z, hd, vs, rel, dd⟩ := dk_rd I.hok e
    refine wpAny_notIn_of (kV_is ry) hd dd.mapOf ?_
    rw [← (rel.val k).isSome_eq, ← l]
    exact h _ (I.tok _)
  · subst ey
    cases (show u = Value.ref b from ry)
    obtain ⟨z, hd, xs, rel, dd⟩ := dt_rd I.hok e
    refine wpAny_notIn_heap (tupleKind_room_in1 hu) (key_of I.hok eb) hd dd ?_
    have q := (rel.val k).isSome_eq
    rw [Option.isSome_map] at q
    rw [← q, ← l]
    exact h _ (I.tok _)
theorem d_write {h' : Heap} {t' : Nat} {ob : HO} (I : Inv X pins σ H s) (mu : Mut (H a)) (hs : Heap.SameBut a s.heap h') (he : ∃ q, h'.get? a = some q) (new : ObjOk X.prog X.w (upd H a ob) h' a ob) :
    Inv X pins σ (upd H a ob) { s with heap := h', toks := t' } :=
  I.write (x := a) (e := a) mu (.inl rfl) (fun b q hb z => (hs.2 b hb).trans z) he new
theorem dk_new {P : Program} {w : World} {H' : Hp} {h' : Heap} {kvs : List (Key × V)} {vs : List (Key × Value)} (z : kvs.length ≤ sizeLine) (hd : (a == sysModules) = false) (rel : KV kvs vs) (dd : h'.DictOf (mixKind P w) a vs) :
    ObjOk P w H' h' a (.dK kvs) := ⟨z, hd, vs, rel, dd⟩
theorem d_setItem {H' : Hp} {Q : Unit → Shared → Prop} (hu : A.units + 1 < cLine) (I : Inv X pins σ H s) (g : DPut H a y v H') (ry : RelV y u) (rv : RelV v r) (h : ∀ s', Inv X pins σ H' s' → Q () s') :
    wpAny (model X.prog X.w) A (setItem (.ref a) u r) Q E s := by
  rcases g with ⟨kvs, k, e, ey, l, eH⟩ | ⟨kvs, k, b, e, ey, eb, l, eH⟩
  · subst ey eH
    obtain ⟨z, hd, vs, rel, dd⟩ := dk_of I.hok e
    have hz : vs.length ≤ sizeLine := by rw [← rel.length]; exact z
    have hl : (putK kvs k v).length ≤ sizeLine := by have := length_putK kvs k v; exact Nat.le_trans (by assumption) (by assumption)
    refine wpAny_setItem_pairs (hsz := hz) (kV_is ry) dd fun h' dd' hs => h _ ?_
    have he : ∃ q, h'.get? a = some q := let ⟨q, _, _, hq, _⟩ := dd'; ⟨q, hq⟩
    exact d_write I (by rw [e]; exact True.intro) hs he (dk_new hl hd (rel.put k rv) dd')
  · subst ey eH
    cases (show u = Value.ref b from ry)
    obtain ⟨z, hd, xs, rel, dd⟩ := dt_of I.hok e
    have hz : xs.length ≤ sizeLine := by rw [← Paired.length rel]; exact z
    have hl : (putK kvs k v).length ≤ sizeLine := by have := length_putK kvs k v; exact Nat.le_trans (by assumption) (by assumption)
    refine wpAny_setItem_heap (hsz := hz) (tupleKind_room_in1 hu) (key_of I.hok eb) dd fun h' dd' hs => h _ ?_
    obtain ⟨q, es, ep, hq, h2, h3, h4, _, h5⟩ := dd'
    refine d_write I (by rw [e]; exact True.intro) hs ⟨q, hq⟩ ⟨hl, hd, _, (rel.put k eb rv).keeps fun c ys ec => ?_, q, es, ep, hq, h2, h3, h4, h5⟩
    rw [upd_ne (ne_of ec e (fun z => nomatch z))]
    exact ec
end
def NoSl (i : Expr) : Prop := ∀ ov iv, subscripted i false ov iv = operate [ov, iv] (getItem ov iv)
theorem subD_of {prog : Program} {w : World} {A : Around} {E : Value → Shared → Prop} {s : Shared} {env : Env} {value slice : Expr} {pos : Pos} {T id : String} {Q : Value → Shared → Prop}
    (hl : typeLookup (.type T) "__getitem__" = pure (some (.builtin id))) (hs : NoSl slice)
    (h : wpAny (model prog w) A (eval value env) (fun o s₁ => wpAny (model prog w) A (eval slice env) (fun i s₂ => s₂.TypeIs o T ∧ wpAny (model prog w) A (getItem o i) Q E s₂) E s₁) E s) :
    wpAny (model prog w) A (eval (.Subscript value slice pos) env) Q E s := by
  refine Subscript_ (wpAny_mono h (fun o s₁ h₁ => wpAny_mono h₁ (fun i s₂ h₂ => ?_) fun _ _ x => x) fun _ _ x => x)
  obtain ⟨hT, h₂⟩ := h₂
  unfold subscriptTail
  refine wpAny_bind ?_
  rw [getitemInPython_of_ne hT.not_modules]
  refine wpAny_bind (wpAny_specialOf hT hl ?_)
  have fin : wpAny (model prog w) A (subscripted slice false o i) (fun r s₃ => wpAny (model prog w) A (letTemporaryGo value o r >>= fun _ => pure r) Q E s₃) E s₂ := by
    rw [hs o i]
    exact wpAny_operating (wpAny_mono h₂ (fun r s₃ h₃ => wpAny_bind (wpAny_letTemporaryGo (wpAny_pure h₃))) fun _ _ x => x)
  first
    | exact wpAny_pure (wpAny_bind fin)
    | exact wpAny_bind (wpAny_pure (wpAny_bind fin))
    | exact wpAny_bind fin
theorem dict_typeIs {X : Cx} {pins : List (Addr × Obj)} {σ : St} {H : Hp} {s : Shared} {a : Addr} {y : V} {o : Option V} (I : Inv X pins σ H s) (g : DGet H a y o) : s.TypeIs (.ref a) "dict" := by
  rcases g with ⟨kvs, k, e, _, _⟩ | ⟨kvs, k, b, e, _, _, _⟩
  · obtain ⟨_, _, vs, _, dd⟩ := dk_rd I.hok e
    exact dd.typeIs
  · obtain ⟨_, _, xs, _, dd⟩ := dt_rd I.hok e
    exact dd.typeIs
def tDGet (td ty : TE) : TE := fun σ H Q => td σ H fun x H1 => ty σ H1 fun y H2 => ∃ a v, x = .ref a ∧ DGet H2 a y (some v) ∧ Q v H2
def tDNotIn (ty td : TE) : TE := fun σ H Q => ty σ H fun y H1 => td σ H1 fun x H2 => ∃ a o, x = .ref a ∧ DGet H2 a y o ∧ Q (.bl (!o.isSome)) H2
def sDPut (td ty tv : TE) : TS := fun D σ H => tv σ H fun v H1 => td σ H1 fun x H2 => ty σ H2 fun y H3 => ∃ a H4, x = .ref a ∧ DPut H3 a y v H4 ∧ D.nx σ H4
section
variable {X : Cx} {o i e value : Expr} {pos pos' tpos : Pos} {td ty tv : TE}
theorem pe_dget (hu : X.A.units + 1 < cLine) (ho : PE X o td) (hi : PE X i ty) (hs : NoSl i) : PE X (.Subscript o i pos) (tDGet td ty) := by
  intro pins s σ H Q I h
  refine subD_of PySem.F.slot_dict_getitem.lookup hs (thn (ho pins s σ H _ I h) fun u s1 ⟨x, H1, I1, rx, q1⟩ => thn (hi pins s1 σ H1 _ I1 q1) fun iv s2 ⟨y, H2, I2, ry, a, v, ex, g, q2⟩ => ?_)
  subst ex
  obtain rfl : u = Value.ref a := rx
  exact ⟨dict_typeIs I2 g, d_getItem hu I2 g ry fun w' s3 I3 rw' => ⟨v, H2, I3, rw', q2⟩⟩
theorem pc_dnotin (hu : X.A.units + 1 < cLine) (hi : PE X i ty) (ho : PE X o td) : PC X .NotIn i o (tDNotIn ty td) := by
  intro pins s σ H Q I h
  refine thn (hi pins s σ H _ I h) fun iv s1 ⟨y, H1, I1, ry, q1⟩ => thn (ho pins s1 σ H1 _ I1 q1) fun u s2 ⟨x, H2, I2, rx, a, ov, ex, g, q2⟩ => ?_
  subst ex
  obtain rfl : u = Value.ref a := rx
  exact d_notIn hu I2 g ry fun s3 I3 => ⟨.bl (!ov.isSome), H2, I3, rfl, q2⟩
theorem ps_dput (hu : X.A.units + 1 < cLine) (ho : PE X o td) (hi : PE X i ty) (hv : PE X value tv) (hs : swapsWith value (some (.Subscript o i pos')) pos.line X.env = pure false) :
    PS X (.Assign [.Subscript o i pos'] value pos) (sDPut td ty tv) := by
  intro pins s σ H D I h
  refine wpAny_Assign_Subscript (thn (hv pins s σ H _ I h) fun r s1 ⟨v, H1, I1, rv, q1⟩ => thn (ho pins s1 σ H1 _ I1 q1) fun u s2 ⟨x, H2, I2, rx, q2⟩ => thn (hi pins s2 σ H2 _ I2 q2) fun iv s3 ⟨y, H3, I3, ry, a, H4, ex, g, q3⟩ => ?_) hs
  subst ex
  obtain rfl : u = Value.ref a := rx
  exact d_setItem hu I3 g ry rv fun s4 I4 => ⟨σ, H4, I4, q3⟩
end
theorem dk_empty {P : Program} {w : World} {H : Hp} (h : Heap) (hb : sysModules < h.objs.size) : ObjOk P w H (h.push { cls := .type "dict", data := .dict #[] }) h.objs.size (.dK []) :=
  ⟨Nat.zero_le _, beq_eq_false_iff_ne.mpr (Ne.symm (Nat.ne_of_lt hb)), [], .nil, Heap.DictOf.new h⟩
def tDNewK : TE := fun _ H Q => ∀ p, H p = none → Q (.ref p) (upd H p (.dK []))
section
variable {X : Cx} {pos : Pos}
theorem pe_dnewK : PE X (.Dict [] [] pos) tDNewK := fun pins s σ H Q I h =>
  wpAny_Dict_empty ⟨.ref s.heap.objs.size, _, I.laid (a := s.heap.objs.size) (o := .dK []) (t' := s.toks) (fun _ _ q => Heap.get?_push_of_some _ q) (Nat.le_refl _) (dk_empty s.heap I.big), rfl, h _ (I.hok.fresh (Nat.le_refl _))⟩
end
end L2
namespace Att
open PySem PySem.W PySem.Calls PyProof.Rows
theorem ints_of_wellAll {P : Params} {h : Heap} : ∀ (ns : List Int) (vs : List Value), WellAll P h vs (ns.map WData.int) → IntsAre vs ns := by
  intro ns
  induction ns with
  | nil =>
    intro vs w
    rw [List.map_nil] at w
    cases w
    exact .nil
  | cons n ns ih =>
    intro vs w
    rw [List.map_cons] at w
    cases w with
    | cons a b =>
      cases a
      exact .cons _ _ (ih _ b)
theorem script_of {l : OpenLaw} {n : Nat} (hn : l.most = some n) {P : Params} {h : Heap} {args : List WData} {vals : List Value}
    (hpre : l.row.toRowW.claim.pre args = true) (hwl : WellAll P h vals args) :
    ∃ a vs ns, vals = [Value.ref a] ∧ args = [WData.list (ns.map WData.int)] ∧ h.get? a = some { cls := .type "list", data := .seq vs.toArray } ∧ IntsAre vs ns ∧ ns.length ≤ n := by
  have hsh : WShape.hasAll [] args [.list .int] = true := (pre_splitW hpre).1
  have hc : l.pre.holds [] { args := args } = true := (pre_splitW hpre).2
  obtain ⟨d, r, rfl, h1, h2⟩ := hasAllW_cons hsh
  obtain rfl := hasAllW_nil h2
  obtain ⟨xs, rfl, h3⟩ := hasW_list h1
  obtain ⟨ns, rfl⟩ := items_int h3
  have hlen : ns.length ≤ n := by
    unfold OpenLaw.pre at hc
    have h4 : (WTm.not (.lt (.lit (.int (n : Int))) (.len (.arg 0)))).holds [] { args := [.list (ns.map .int)] } = true := by
      have h4 := (holds_andW hc).1
      rw [hn] at h4
      exact h4
    have h5 := condW_of h4 (w_not (w_lt w_lit (w_len_list (w_arg rfl))))
    rw [List.length_map] at h5
    refine Nat.le_of_not_lt fun q => ?_
    have q' : (n : Int) < ((ns.length : Nat) : Int) := by omega
    first
      | (rw [decide_eq_true q'] at h5; exact absurd h5 (by decide))
      | (simp at h5; omega)
  cases hwl with
  | cons w1 w2 =>
    cases w2
    cases w1 with
    | list ho hall => exact ⟨_, _, ns, rfl, rfl, ho, ints_of_wellAll ns _ hall, hlen⟩
theorem post_true (l : OpenLaw) (args : List WData) : l.row.toRowW.claim.post args (.bool true) args = true :=
  postW_of (r := l.row.toRowW) (X := (true == true))
    (show WShape.has [] (.bool true) .bool = true by first | rfl | decide | simp [WShape.has, WShape.arms, WShape.armsAll])
    (show (WTm.eq .res (.lit (.bool true))).value [] { args := args, res := some (.bool true), after := args } = some (.bool (true == true)) from w_eq_bool (w_res rfl) w_lit) rfl
theorem attach_call {l : OpenLaw} {n : Nat} {q : Program} {loose : List Str} {XP : (Str → Option Value) → Heap → Prop} {YP : World → Heap → Prop} {d : DefRec}
    (hn : l.most = some n) (hdf : d.params.defaults = [])
    (call : ∀ (w : World) (s₀ s₁ : Shared) (mg mb : Str → Option Value) (fa : Addr) (o : Obj) (pm cd doc : Value) (a : Addr) (vs : List Value) (ns : List Int),
      Ground q loose [] XP w s₀ mg mb s₁.heap → YP w s₁.heap →
      s₁.heap.get? fa = some o → o.data = .func (docDef d.name d.params d.body d.scope pm cd doc) → s₁.heap.CodeRec cd d.name → mg d.name = some (.ref fa) →
      s₁.heap.get? a = some { cls := .type "list", data := .seq vs.toArray } → IntsAre vs ns → ns.length ≤ n → s₁.gens = #[] →
      codeAny (model l.prog w) callerA (.call (.ref fa) ⟨[.ref a], []⟩) (fun r s' => r = .ok (.ret (.bool true)) ∧ OldK s₁.heap s'.heap ∧ s'.os = s₁.os ∧ AllBare s'.gens) s₁) :
    WalkO q loose XP YP l.row.toRowW d [] (fun f vs => PySem.call f vs) := by
  intro w s₀ s₁ mg mb G Y fa o pm cd doc dV kV ho hd hcd hD hmg hg args vals as hpre hlay hrd hwl hlo
  obtain rfl : dV = .none := Dflts.none hD hdf
  obtain rfl : kV = .none := Dflts.noKw hD
  obtain ⟨a, vs, ns, rfl, rfl, hobj, hints, hlen⟩ := script_of hn hpre hwl
  refine enter_call (codeAny_mono (call w s₀ s₁ mg mb fa o pm cd doc a vs ns G Y ho (fd_plain hd) hcd hmg hobj hints hlen hg) fun r s' hq => ?_)
  obtain ⟨rfl, h2, h3, h4⟩ := hq
  exact ⟨.inl ⟨.bool true, .bool true, [], rfl, fun _ => rfl, .bool true, post_true l _, fun _ => ⟨List.Pairwise.nil, fun _ hm => (nomatch hm)⟩⟩, h2, h3, h4⟩
end Att
namespace L2
open PySem PySem.Spec PyProof.Rows
theorem vals_ints : ∀ {vs : List Value} {ns : List Int}, IntsAre vs ns → Vals (ns.map V.int) vs
  | _, _, .nil => .nil
  | _, _, .cons n t h => .cons ⟨t, rfl⟩ (vals_ints h)
def Only (H : Hp) : Prop := ∀ b, H b = none ∨ ∃ o xs, H b = some (.frz o (.lst xs))
theorem law_call {P : Program} {w : World} {K : PySem.W.Frag} {mg mb : Str → Option Value} {CX : CXT} {k : Nat} {fa a : Addr} {fd : FuncData} {x : Str} {sp : Sp} {s₁ : Shared} {vs : List Value} {ns : List Int}
    (KX : K.In s₁.heap) (hns : s₁.heap.Ns mainGlobals mg) (hb : s₁.heap.Ns builtinsNs mb) (hbb : ∀ x : Str, x ≠ "__name__" → mb x = bootBuiltins x) (hlim : s₁.heap.NoLimit) (hg : s₁.gens = #[])
    (ha : s₁.heap.get? a = some { cls := .type "list", data := .seq vs.toArray }) (hi : IntsAre vs ns) (hl : ns.length ≤ sizeLine) (hr : Room k callerA)
    (F : ∀ base : Heap, K.In base → base.Ns mainGlobals mg → FnOk P w K mg base CX k fa fd [x] sp) (hbind : ∀ (s : Shared) (u : Value), BindsTo s fd ⟨[u], []⟩ [(x, u)])
    (hsp : ∀ H : Hp, Only H → SqL K H a (ns.map V.int) → sp [.ref a] H (fun v _ => v = .bl true) fun _ _ _ => False)
    (hCX : ∀ H e s', CX [] H s₁ (fun _ _ _ => False) e s' → False) :
    codeAny (model P w) callerA (.call (.ref fa) ⟨[.ref a], []⟩) (fun r s' => r = .ok (.ret (.bool true)) ∧ OldK s₁.heap s'.heap ∧ s'.os = s₁.os ∧ AllBare s'.gens) s₁ := by
  have rv := vals_ints hi
  have lenV := hi.length
  have core : ∀ H : Hp, Only H → SqL K H a (ns.map V.int) → HOk P w H s₁.heap → (∀ b, H b ≠ none → b = a) → (H a ≠ none → K.lookup a = none) →
      codeAny (model P w) callerA (.call (.ref fa) ⟨[.ref a], []⟩) (fun r s' => r = .ok (.ret (.bool true)) ∧ OldK s₁.heap s'.heap ∧ s'.os = s₁.os ∧ AllBare s'.gens) s₁ := by
    intro H hO hS hok hA hK
    have base_of : ∀ {b : Addr} {o : Obj}, s₁.heap.get? b = some o → H b = none → (hidT s₁.heap H).get? b = some o := fun e n => hidT_get e n
    have noA : ∀ {b : Addr} {o : Obj} {es : Array DictEntry} {ep : Nat}, s₁.heap.get? b = some o → o.data = .dict es ep → H b = none := fun {b o es ep} e d => by
      cases q : H b with
      | none => rfl
      | some u =>
        have e' : b = a := hA b (by rw [q]; simp)
        subst e'
        rw [ha] at e; cases e
        have d' : Data.seq vs.toArray _ = Data.dict es ep := d
        cases d'
    have nsK : ∀ {b : Addr} {m : Str → Option Value}, s₁.heap.Ns b m → (hidT s₁.heap H).Ns b m := fun {b m} ⟨o, es, ep, e, d, r⟩ => ⟨o, es, ep, base_of e (noA e d), d, r⟩
    have hKb : K.In (hidT s₁.heap H) := fun b o e => base_of (KX b o e) (by
      cases q : H b with
      | none => rfl
      | some u =>
        have e' : b = a := hA b (by rw [q]; simp)
        subst e'
        rw [hK (by rw [q]; simp)] at e; cases e)
    have hM : Mod K mg (hidT s₁.heap H) := ⟨hKb, nsK hns, ⟨mb, nsK hb, hbb⟩, let ⟨mc, h1, h2⟩ := hlim; ⟨mc, nsK h1, h2⟩⟩
    have e0 : Env0 P w K mg (hidT s₁.heap H) callerA [] s₁ H := ⟨rfl, hM, fun b o e => of_hidT e, Nat.le_of_eq (hidT_size _ _), trivial, fun b hb => absurd (show b ∈ ([] : List Addr) from hb) (by simp), hok, .of_eq hg⟩
    refine codeAny_mono ((F _ hKb (nsK hns)).run callerA [] s₁ H ⟨[.ref a], []⟩ [.ref a] [.ref a] _ _ hr e0 (hbind s₁ (.ref a)) (.cons rfl .nil) (hsp H hO hS)) fun r s' h => ?_
    cases r with
    | error e => exact (hCX H e s' h).elim
    | ok fl =>
      cases fl with
      | next => exact False.elim h
      | brk => exact False.elim h
      | cont => exact False.elim h
      | ret u =>
        obtain ⟨v, H', os, bare, un, hok', r', q⟩ := h
        have q' : v = .bl true := q
        subst q'
        obtain rfl : u = Value.bool true := r'
        refine ⟨rfl, OldK.of_keep fun b o e => ?_, os, bare⟩
        cases q : H b with
        | none => exact un.keep b o e q (by intro z; exact absurd (show b ∈ ([] : List Addr) from z) (by simp)) (by simp)
        | some u =>
          rcases hO b with z | ⟨ob, xs, z⟩
          · rw [q] at z; cases z
          · have z2 := un.frzs b ob _ z
            obtain ⟨e1, _⟩ := hok b _ z
            obtain ⟨e2, _⟩ := hok' b _ z2
            rw [e] at e1; cases e1
            exact e2
  cases hk : K.lookup a with
  | some o =>
    have e := KX a o hk
    rw [ha] at e
    cases e
    refine core (fun _ => none) (fun _ => .inl rfl) (.inr ⟨_, vs.toArray, _, hk, rfl, rfl, rfl, by rw [List.size_toArray, lenV]; exact hl, by simpa using rv⟩) (fun b u z => by have z' : (none : Option HO) = some u := z; cases z') (fun b z => absurd rfl z) fun z => absurd rfl z
  | none =>
    refine core (fun b => if b = a then some (.frz { cls := .type "list", data := .seq vs.toArray } (.lst (ns.map V.int))) else none) (fun b => ?_) (.inl (.inr ⟨{ cls := .type "list", data := .seq vs.toArray }, if_pos rfl⟩)) (fun b u z => ?_) (fun b z => ?_) fun _ => hk
    · by_cases hb : b = a
      · exact .inr ⟨_, _, if_pos hb⟩
      · exact .inl (if_neg hb)
    · by_cases hb : b = a
      · have z' := (if_pos hb).symm.trans z
        cases z'
        subst hb
        exact ⟨ha, by rw [List.length_map]; exact hl, vs, _, rv, ha⟩
      · have z' := (if_neg hb).symm.trans z
        cases z'
    · by_cases hb : b = a
      · exact hb
      · exact absurd (if_neg hb) z
end L2
namespace L2
open PySem PySem.Spec PyProof.Rows
theorem walk_of {l : PySem.W.OpenLaw} {n k : Nat} {q : Program} {loose : List Str} {XP : (Str → Option Value) → Heap → Prop} {YP : World → Heap → Prop} {d : DefRec} {K : Params → PySem.W.Frag} {CX : World → CXT} {sp : World → Sp} {x : Str}
    (hn : l.most = some n) (hn2 : n ≤ sizeLine) (hdf : d.params.defaults = []) (hr : Room k callerA)
    (hY : ∀ (w : World) (h : Heap), YP w h → (K w.params).In h)
    (F : ∀ (w : World) (mg : Str → Option Value) (fa : Addr) (h : Heap), (K w.params).In h → h.Ns mainGlobals mg → mg d.name = some (.ref fa) →
      ∃ fd : FuncData, (∀ (s : Shared) (u : Value), BindsTo s fd ⟨[u], []⟩ [(x, u)]) ∧
        ∀ base : Heap, (K w.params).In base → base.Ns mainGlobals mg → FnOk l.prog w (K w.params) mg base (CX w) k fa fd [x] (sp w))
    (hsp : ∀ (w : World) (H : Hp) (a : Addr) (ns : List Int), ns.length ≤ n → Only H → SqL (K w.params) H a (ns.map V.int) → sp w [.ref a] H (fun v _ => v = .bl true) fun _ _ _ => False)
    (hCX : ∀ (w : World) (H : Hp) (s : Shared) (e : Value) (s' : Shared), CX w [] H s (fun _ _ _ => False) e s' → False) :
    PySem.W.WalkO q loose XP YP l.row.toRowW d [] (fun f vs => PySem.call f vs) := by
  refine Att.attach_call hn hdf fun w s₀ s₁ mg mb fa o pm cd doc a vs ns G Y ho hd hcd hmg hobj hints hlen hg => ?_
  have KX := hY w _ Y
  obtain ⟨fd, hb, hF⟩ := F w mg fa _ KX G.T.g hmg
  exact law_call KX G.T.g G.T.b G.T.builtins G.T.nolimit hg hobj hints (Nat.le_trans hlen hn2) hr hF hb (fun H hO hS => hsp w H a ns hlen hO hS) fun H e s' => hCX w H s₁ e s'
end L2
/- THE LAST THEOREM (shape; LID, My.* are yours):
   My.Adr: a structure of the addresses that your layer names (classes, functions); My.Txt K t: a structure (Prop) of the equations over K;
   My.txt_mk : {K} {implicit addresses ..} (e1 : nsIn K mainGlobals "law" = some (some (.ref f))) (e2 : K.lookup f = some ⟨oc, od, .func (fnOf "law" "law" params body scope dV kV doc pm an cdv ct), sl⟩) (e3 : codeIn K cdv "law" = true) .. : ∃ t, My.Txt K t
set_option maxRecDepth 100000 in
set_option maxHeartbeats 0 in
theorem PySem.Challenge.cw_LID_holds : PySem.Challenge.rw_LID.Holds := by
  w_on; o_law; k_head; (case hw => w_witness2)
  k_fill
  refine L2.walk_of (l := PySem.Challenge.rw_LID) (n := 63) (k := 40) (x := "script") (CX := fun w => ..) (sp := fun _ => My.sp_law) rfl (by decide) rfl ⟨rfl, by decide, by decide⟩ (fun w h Y => PySem.W.kIn_of Y) ?F ?S ?C
  case F =>
    intro w mg fa h KX G hmg
    have T : ∃ t, My.Txt (L2.KOf KX) t := by
      dsimp only [L2.KOf]                          -- K must stand as «<heap const> w.params» for k_is
      refine' My.txt_mk ?e1 ?e2 ?e3 ..
      (case e1 => PySem.W.k_is)                    -- in the order: a name -> its address -> its object -> its parts
      (case e2 => PySem.W.k_is)
      ..
    obtain ⟨t, T⟩ := T
    have e0 := hmg.symm.trans (PySem.W.mg_of KX G T.law)
    cases e0                                       -- fa is the law's own address
    exact ⟨_, fun s u => .of_eq rfl, fun base kb nb => My.law_fn T kb nb⟩     -- if «.of_eq rfl» comes too early: refine' ⟨_, ?b, fun base kb nb => My.law_fn T kb nb⟩; exact fun s u => .of_eq rfl
  case S => exact fun w H a ns hl hO hS => ..
  case C => exact ..
(the tactic k_is has no namespace: write k_is) -/
namespace L2
open PySem PySem.Spec PyProof.Rows
def defArgs (s : Stmt) : Arguments := match s with
  | .FunctionDef _ a _ _ _ _ _ _ _ _ => a
  | _ => { posonlyargs := [], args := [], vararg := none, kwonlyargs := [], kw_defaults := [], kwarg := none, defaults := [] }
def defBody (s : Stmt) : List Stmt := match s with
  | .FunctionDef _ _ b _ _ _ _ _ _ _ => b
  | _ => []
def defScope (s : Stmt) : Scope := match s with
  | .FunctionDef _ _ _ _ _ _ sc _ _ _ => sc
  | _ => { kind := .function, names := [], isGenerator := false, isCoroutine := false }
abbrev CX0 : CXT := fun _ _ _ _ _ _ => False
abbrev E0 : XK := fun _ _ _ => False
theorem pass0 {X : Cx} : Passes CX0 X E0 := fun _ _ _ _ _ _ _ h => h.elim
structure Fun (K : PySem.W.Frag) (x qual : Str) (st : Stmt) (f : Addr) (fd : FuncData) : Prop where
  ex : ∃ (oc : Value) (od : Option Addr) (kV doc pm : Value) (an : Option Addr) (cdv ct : Value) (osl : Array (Option Value)),
    fd = PySem.W.fnOf x qual (defArgs st) (defBody st) (defScope st) .none kV doc pm an cdv ct ∧ K.lookup f = some ⟨oc, od, .func fd, osl⟩ ∧ PySem.W.codeIn K cdv qual = true
  kp : PySem.W.keepIn K (.ref f) = true
section
variable {P : Program} {w : World} {K : PySem.W.Frag} {mg : Str → Option Value} {base : Heap}
theorem Fun.ok {x qual : Str} {st : Stmt} {f : Addr} {fd : FuncData} {N ps : List Str} {k : Nat} {sp : Sp} (F : Fun K x qual st f fd) (S : FnScope N ps (defScope st)) (len : ∀ vs H Q E, sp vs H Q E → vs.length = ps.length)
    (hbody : ∀ (cdv : Value) (A : Around) (outer : List Env) (s : Shared) (H : Hp) (vs : List V) (Q : VK) (E : XK), Room k (A.deeper (envOfC qual (defScope st) s.heap.objs.size f cdv)) → sp vs H Q E →
      ∃ t, PSs (cxOf CX0 P w K mg base N qual (defScope st) f cdv A outer s H E).nox (defBody st) t ∧ t { nx := fun _ H' => Q .non H', rt := Q } (start N vs) H) : FnOk P w K mg base CX0 (k + 1) f fd ps sp := by
  obtain ⟨oc, od, kV, doc, pm, an, cdv, ct, osl, rfl, lk, hcd⟩ := F.ex
  refine fn_of lk hcd S len fun A outer s H vs Q E hr hsp => ?_
  obtain ⟨t, h, q⟩ := hbody cdv A outer s H vs Q E hr hsp
  exact ⟨t, h.nox, q⟩
theorem Fun.binds {x qual : Str} {st : Stmt} {f : Addr} {fd : FuncData} {ps : List Str} (F : Fun K x qual st f fd)
    (h : ∀ (kV doc pm : Value) (an : Option Addr) (cdv ct : Value) (us : List Value), us.length = ps.length → bindArgs (PySem.W.fnOf x qual (defArgs st) (defBody st) (defScope st) .none kV doc pm an cdv ct) ⟨us, []⟩ = pure (ps.zip us)) : Binds K fd ps [] := by
  obtain ⟨oc, od, kV, doc, pm, an, cdv, ct, osl, rfl, lk, hcd⟩ := F.ex
  exact .all (h kV doc pm an cdv ct)
theorem fun_mk {x qual : Str} {st : Stmt} {f : Addr} {oc : Value} {od an : Option Addr} {osl : Array (Option Value)} {kV doc pm cdv ct : Value} (l : K.lookup f = some ⟨oc, od, .func (PySem.W.fnOf x qual (defArgs st) (defBody st) (defScope st) .none kV doc pm an cdv ct), osl⟩)
    (c : PySem.W.codeIn K cdv qual = true) (k : PySem.W.keepIn K (.ref f) = true) : Fun K x qual st f (PySem.W.fnOf x qual (defArgs st) (defBody st) (defScope st) .none kV doc pm an cdv ct) := ⟨⟨oc, od, kV, doc, pm, an, cdv, ct, osl, rfl, l, c⟩, k⟩
end
theorem hu_of {A : Around} {k : Nat} (hr : Room k A) : A.units + 1 < cLine := Nat.lt_of_le_of_lt (Nat.add_le_add_left (by decide : 1 ≤ 64) _) hr.units
theorem small1000 {n : Nat} (h : n ≤ 1000) : n < sizeLine := Nat.lt_of_le_of_lt h (by decide)
section
variable {X : Cx}
theorem pv (i : Nat) {x : Str} {pos : Pos} (hN : X.N[i]? = some x := by rfl) (hv : Vis X.env.scope x := by first | exact Or.inl rfl | exact Or.inr (Or.inl rfl) | exact Or.inr (Or.inr rfl)) (hd : (x == ("__debug__" : Str)) = false := by decide)
    (hcd : (x == ("__classdict__" : Str)) = false := by decide) : PE X (.Name x pos) (tVar i) := pe_var hN hv hd hcd
end
theorem iteF {A B : Prop} (h : B) : if false = true then A else B := by
  rw [if_neg Bool.false_ne_true]
  exact h
theorem iteT {A B : Prop} (h : A) : if true = true then A else B := by
  rw [if_pos rfl]
  exact h
theorem ite2 {c A B : Prop} [Decidable c] (h1 : c → A) (h2 : ¬ c → B) : if c then A else B := by
  by_cases h : c
  · rw [if_pos h]
    exact h1 h
  · rw [if_neg h]
    exact h2 h
def Same (H H' : Hp) : Prop := ∀ b o, H b = some o → H' b = some o
theorem Same.trans {H H1 H2 : Hp} (a : Same H H1) (b : Same H1 H2) : Same H H2 := fun c o h => b c o (a c o h)
end L2
set_option maxHeartbeats 4000000
namespace L2
open PySem PySem.Spec PyProof.Rows
def closes (env : Env) : List (Str × NameKind) → List (Str × Addr) → List (Str × Addr)
  | [], cs => cs
  | (n, k) :: r, cs => closes env r (if k = .free then (n, (env.cells.lookup n).getD 0) :: cs else cs)
theorem closes_ok {env : Env} : ∀ (ns : List (Str × NameKind)) (cs : List (Str × Addr)), (∀ p ∈ ns, p.2 = .free → (env.cells.lookup p.1).isSome = true) →
    (forIn ns cs fun (x : Str × NameKind) r => (do
      let mut cs := r
      if x.2 == .free then cs := (x.1, ← cellOf env x.1) :: cs
      pure (ForInStep.yield cs) : Sem (ForInStep (List (Str × Addr))))) = pure (closes env ns cs)
  | [], cs, _ => rfl
  | (n, k) :: r, cs, h => by
    have ih := fun cs => closes_ok (env := env) r cs fun p hp => h p (List.mem_cons_of_mem _ hp)
    rw [List.forIn_cons]
    by_cases hk : k = .free
    · subst hk
      have q := h (n, .free) List.mem_cons_self rfl
      obtain ⟨c, hc⟩ := Option.isSome_iff_exists.mp q
      have e : cellOf env n = pure c := by unfold cellOf; rw [hc]
      simp only [e]
      simp [closes, hc, ih]
      have := ih ((n, c) :: cs)
      simpa using this
    · have hb : (k == NameKind.free) = false := by simpa using hk
      simp [closes, hk]
      have := ih cs
      simpa using this
theorem closureFor_closes {scope : Scope} {env : Env} (h : ∀ p ∈ scope.names, p.2 = .free → (env.cells.lookup p.1).isSome = true) : closureFor scope env = pure (closes env scope.names []) := by
  have q := closes_ok (env := env) scope.names [] h
  unfold closureFor
  simp at q ⊢
  exact q
theorem closes_sub {env : Env} : ∀ (ns : List (Str × NameKind)) (cs : List (Str × Addr)), (∀ p ∈ ns, p.2 = .free → (env.cells.lookup p.1).isSome = true) → (∀ y c, cs.lookup y = some c → env.cells.lookup y = some c) →
    ∀ y c, (closes env ns cs).lookup y = some c → env.cells.lookup y = some c
  | [], cs, _, h, y, c, e => h y c e
  | (n, k) :: r, cs, h, hc, y, c, e => by
    unfold closes at e
    refine closes_sub r _ (fun p hp => h p (List.mem_cons_of_mem _ hp)) ?_ y c e
    intro y c e
    by_cases hk : k = .free
    · subst hk
      rw [if_pos rfl] at e
      obtain ⟨d, hd⟩ := Option.isSome_iff_exists.mp (h (n, .free) List.mem_cons_self rfl)
      rw [List.lookup_cons] at e
      cases q : y == n with
      | true =>
        rw [q] at e
        have : y = n := by simpa using q
        subst this
        rw [hd] at e ⊢
        exact e
      | false =>
        rw [q] at e
        exact hc y c e
    · rw [if_neg hk] at e
      exact hc y c e
theorem closes_keep {env : Env} {y : Str} : ∀ (ns : List (Str × NameKind)) (cs : List (Str × Addr)), (cs.lookup y).isSome = true → ((closes env ns cs).lookup y).isSome = true
  | [], cs, h => h
  | (n, k) :: r, cs, h => by
    unfold closes
    refine closes_keep r _ ?_
    split
    · rw [List.lookup_cons]
      split
      · rfl
      · exact h
    · exact h
theorem closes_has {env : Env} {y : Str} : ∀ (ns : List (Str × NameKind)) (cs : List (Str × Addr)), (y, NameKind.free) ∈ ns → ((closes env ns cs).lookup y).isSome = true
  | (n, k) :: r, cs, h => by
    unfold closes
    rcases List.mem_cons.mp h with e | e
    · cases e
      refine closes_keep r _ ?_
      rw [if_pos rfl, List.lookup_cons]
      simp
    · exact closes_has r _ e
def compCx (X : Cx) (scope : Scope) (N : List Str) (C : Addr) (s : Shared) (H : Hp) (ex : List Addr) (pins : List (Addr × Obj)) : Cx where
  prog := X.prog
  w := X.w
  K := X.K
  mg := X.mg
  base := X.base
  A := X.A
  N := N
  s₀ := s
  H₀ := H
  env := compEnvC scope (closes X.env scope.names []) C X.env
  outer := X.stack
  stack := X.stack
  ex := ex
  fn := fun _ => false
  calm := X.calm
  pn := X.pn ++ pins
  xe := fun _ _ => False
def cst (nT : Nat) (js : List Nat) (σ : St) : St := List.replicate nT none ++ js.map fun j => (σ[j]?).join
structure CScope (X : Cx) (scope : Scope) (T F : List Str) (js : List Nat) : Prop where
  kind : scope.kind = .function
  nocell : ∀ y ∈ scope.names, y.2 ≠ .cell
  names : ∀ x ∈ scope.names, x.2 = .local → scope.names.lookup x.1 = some .local
  free : ∀ x ∈ scope.names, x.2 = .free → X.env.kindOf x.1 = some .cell
  loc : ∀ y ∈ T, (relabel scope X.env).names.lookup y = some .local
  cel : ∀ y ∈ F, (relabel scope X.env).names.lookup y = some .cell ∧ X.env.kindOf y = some .cell ∧ (y, NameKind.free) ∈ scope.names
  all : ∀ x ∈ (relabel scope X.env).names, (x.2 = .cell ∨ x.2 = .free) → (x.1, NameKind.free) ∈ scope.names
  js : js.map (fun j => X.N[j]?) = F.map some
section
variable {X : Cx} {scope : Scope} {T F : List Str} {js : List Nat}
theorem comp_inv {pins : List (Addr × Obj)} {σ : St} {H : Hp} {s : Shared} {h1 : Heap} {tk : Nat} {fp : List Addr} {m : Str → Option Value} (S : CScope X scope T F js) (I : Inv X pins σ H s)
    (hn : h1.Ns s.heap.objs.size m) (kk : ∀ b o, s.heap.get? b = some o → h1.get? b = some o) (hf : ∀ b ∈ fp, FpOk X pins H b ∧ ∃ o, s.heap.get? b = some o ∧ ∀ v, o.data ≠ .cell v) :
    Inv (compCx X scope (T ++ F) s.heap.objs.size s H fp pins) [] (cst T.length js σ) H { s with heap := h1, toks := tk } := by
  have sub := closes_sub (env := X.env) scope.names [] (fun p hp hk => by
    obtain ⟨c, e⟩ := I.ok.has p.1 (.inl (S.free p hp hk))
    rw [e]; rfl) (fun y c e => by simp at e)
  have ltC : ∀ y c, X.env.cells.lookup y = some c → c < s.heap.objs.size := fun y c e => by
    obtain ⟨v, z⟩ := I.cell y c e
    exact z.lt
  refine ⟨⟨I.ok.mod, ?_, I.ok.glob, I.ok.blt, Nat.le_refl _, fun x y c e1 e2 => I.ok.inj x y c (sub x c e1) (sub y c e2), fun x hx => ?_, fun x c hx => absurd hx Bool.false_ne_true, I.ok.hd, I.ok.frames, .inl rfl, fun b hb => ?_, I.bs, ?_, fun b o e hb => ?_, fun b hb hs => ?_, I.stack, I.stkFree⟩,
    rfl, I.bare, Un.kept kk, ⟨m, hn, fun i x v e1 e2 e3 => ?_⟩, fun x c e => ?_, I.hok.fresh (Nat.le_refl _), fun x c e => I.freeC x c (sub x c e), fun p hp => ?_, I.hok.kept kk, ?_⟩
  · show (relabel scope X.env).kind = .function
    exact S.kind
  · have hx : (relabel scope X.env).names.lookup x = some .cell ∨ (relabel scope X.env).names.lookup x = some .free := hx
    have hm : (x, NameKind.free) ∈ scope.names := by
      rcases hx with h | h
      · exact S.all _ (PySem.mem_of_lookup h) (.inl rfl)
      · exact S.all _ (PySem.mem_of_lookup h) (.inr rfl)
    exact Option.isSome_iff_exists.mp (closes_has scope.names [] hm)
  · obtain ⟨⟨f0, f1, f2, f3, f4, f5⟩, o, ho, _⟩ := hf b hb
    exact ⟨Nat.ne_of_lt (Heap.lt_size ho), fun x c e => f4 x c (sub x c e)⟩
  · exact Nat.le_trans I.ok.bsz I.sz
  · obtain ⟨⟨f0, f1, f2, f3, f4, f5⟩, _⟩ := hf b hb
    rcases f3 with z | z
    · exact I.ok.noex b o e z
    · exact absurd (Nat.lt_of_lt_of_le (Heap.lt_size e) (Nat.le_trans I.ok.bsz z)) (Nat.lt_irrefl _)
  · obtain ⟨⟨f0, f1, f2, f3, f4, f5⟩, _⟩ := hf b hb
    rcases List.mem_cons.mp (I.stkSub b hs) with z | z
    · exact f1 z
    · exact f2 z
  · -- a name's value
    have hi : T.length ≤ i := by
      by_cases hi : i < T.length
      · unfold cst at e2
        rw [List.getElem?_append_left (by simpa using hi), List.getElem?_replicate] at e2
        split at e2 <;> cases e2
      · exact Nat.not_lt.mp (by assumption)
    obtain ⟨k, rfl⟩ : ∃ k, i = T.length + k := ⟨i - T.length, by omega⟩
    have e1 : (T ++ F)[T.length + k]? = some x := e1
    rw [List.getElem?_append_right (by assumption)] at e1
    have e1 : F[k]? = some x := by simpa using e1
    unfold cst at e2
    rw [List.getElem?_append_right (by simp)] at e2
    have e2 : (js.map fun j => (σ[j]?).join)[k]? = some (some v) := by simpa using e2
    rw [List.getElem?_map] at e2
    cases ej : js[k]? with
    | none => rw [ej] at e2; cases e2
    | some j =>
      rw [ej] at e2
      have e2 : (σ[j]?).join = some v := by simpa using e2
      have e3' : σ[j]? = some (some v) := by
        cases q : σ[j]? with
        | none => rw [q] at e2; cases e2
        | some z => rw [q] at e2; cases z with
          | none => cases e2
          | some z => simp at e2; rw [e2]
      have eN : X.N[j]? = some x := by
        have q := congrArg (fun l => l[k]?) S.js
        simp only [List.getElem?_map, ej, e1] at q
        simpa using q
      obtain ⟨c1, c2, c3⟩ := S.cel x (List.mem_of_getElem? e1)
      obtain ⟨m0, hn0, hl⟩ := I.loc
      obtain ⟨u, ru, lk⟩ := hl j x v eN e3' (.inr (.inl c2))
      refine ⟨u, ru, ?_⟩
      rcases lk with ⟨z, _⟩ | ⟨_, c, ec, hc⟩
      · rw [c2] at z; cases z
      · obtain ⟨c', ec'⟩ := Option.isSome_iff_exists.mp (closes_has (env := X.env) scope.names [] c3)
        have := sub x c' ec'
        rw [ec] at this; cases this
        refine .inr ⟨.inl c1, c, ec', ?_⟩
        obtain ⟨o, ho, hd⟩ := hc
        exact ⟨o, kk _ _ ho, hd⟩
  · obtain ⟨v, o, ho, hd⟩ := I.cell x c (sub x c e)
    exact ⟨v, o, kk _ _ ho, hd⟩
  · have hp : p ∈ (X.pn ++ pins) ++ [] := hp
    rw [List.append_nil] at hp
    obtain ⟨e, n, ne, nf, d⟩ := I.pin p hp
    refine ⟨kk _ _ e, n, Nat.ne_of_lt (Heap.lt_size e), fun z => ?_, d⟩
    rcases List.mem_cons.mp (I.stkSub p.1 z) with q | q
    · exact ne q
    · exact nf q
  · unfold cst
    show _ = (T ++ F).length
    have q := congrArg List.length S.js
    simp at q
    simp [q]
def PIf (X : Cx) (ifs : List Expr) (t : TT) : Prop :=
  ∀ (pins : List (Addr × Obj)) (s : Shared) (σ : St) (H : Hp) (Q : Bool → Hp → Prop), Inv X pins σ H s → t σ H Q →
    wpAny (model X.prog X.w) X.A (forIn ifs true fun c r => if r = true then do let ok ← isTrue c X.env (eval c X.env); pure (ForInStep.yield ok) else pure (ForInStep.yield r)) (TP X pins σ Q) X.xe s
def tYes : TT := fun _ H Q => Q true H
theorem pif_nil : PIf X [] tYes := fun pins s σ H Q I h => wpAny_tests_nil ⟨H, I, h⟩
theorem pif_one {c : Expr} {t : TT} (h : PT X c t) : PIf X [c] t := fun pins s σ H Q I hw => wpAny_tests_one (h pins s σ H Q I hw)
def cturn (g : TG) (ti : TT) (te : TE) (D : Addr) (x : V) (σ : St) (ys : List V) (H : Hp) (N : St → List V → Hp → Prop) : Prop :=
  g x σ H fun σ2 H2 => ti σ2 H2 fun b H3 => if b = true then te σ2 H3 fun y H4 => H4 D = some (.lst ys) ∧ ys.length < sizeLine ∧ N σ2 (ys ++ [y]) (upd H4 D (.lst (ys ++ [y]))) else N σ2 ys H3
def cgo (J : It) (g : TG) (ti : TT) (te : TE) (D : Addr) (σ : St) (H : Hp) (Q : VK) : Prop :=
  ∃ W : Nat → Nat → St → List V → Hp → Prop, (∃ m, W 0 m σ [] (upd H D (.lst []))) ∧ ∀ i m σ ys H, W i m σ ys H → H D = some (.lst ys) ∧
    ((J.stop i H ∧ Q (.ref D) H) ∨ (J.go i H ∧ ∃ N : St → List V → Hp → Prop, (∀ σ' ys' H', N σ' ys' H' → ∃ m', m' < m ∧ W (i + 1) m' σ' ys' H') ∧ ∀ x H', J.yld i H x H' → cturn g ti te D x σ ys H' N))
def tComp (wi : TI) (g : TG) (ti : TT) (te : TE) (nT : Nat) (js : List Nat) : TE := fun σ H Q => wi σ H fun J H1 => ∀ D, H1 D = none → cgo J g ti te D (cst nT js σ) H1 Q
theorem comp_out {pins : List (Addr × Obj)} {σ σ' : St} {H H' : Hp} {s s' : Shared} {h' : Heap} {N : List Str} {fp : List Addr} (I : Inv X pins σ H s) (hf : ∀ b ∈ fp, FpOk X pins H b)
    (J : Inv (compCx X scope N s.heap.objs.size s H fp pins) [] σ' H' s') (sb : Heap.SameBut s.heap.objs.size s'.heap h') : Inv X pins σ H' { s' with heap := h' } := by
  have ne : ∀ b o, s.heap.get? b = some o → b ≠ s.heap.objs.size := fun b o e => Nat.ne_of_lt (Heap.lt_size e)
  have u := J.base
  have u' : Un (frs X.stack) fp H H' s.heap h' :=
    ⟨fun b o e n h1 h2 => sb.extBut b o (ne b o e) (u.keep b o e n h1 h2), fun b o e n h1 h2 => by
      obtain ⟨sl, q⟩ := u.slot b o e n h1 h2
      exact ⟨sl, sb.extBut b _ (ne b o e) q⟩, u.free, fun b o e h => by
      obtain ⟨o', q⟩ := u.there b o e h
      exact ⟨o', sb.extBut b _ (ne b o e) q⟩, u.tups, u.frzs, u.tbls⟩
  have nC : H' s.heap.objs.size = none := J.free
  have hok : HOk X.prog X.w H' h' := fun b o e => by
    refine (J.hok b o e).stay (fun c v hc q => sb.extBut c v ?_ q) (fun _ q => q) fun _ _ q => q
    rcases hc with z | z
    · rw [z]; intro z'; rw [z', nC] at e; cases e
    · intro z'; rw [z', nC] at z; cases z
  exact I.call' (s' := { s' with heap := h' }) J.os u' hok J.bare fun b hb => by
    obtain ⟨f0, f1, f2, f3, f4, f5⟩ := hf b hb
    exact ⟨f3, f1, f4, f5⟩
theorem comp_go {tg elt iter : Expr} {ifs : List Expr} {pos : Pos} {g : TG} {ti : TT} {te : TE} {wi : TI} {pins : List (Addr × Obj)} {σ : St} {H : Hp} {s : Shared} {use : Option (Value → Sem Unit)} {QQ : Value → Shared → Prop} {Q : VK} (S : CScope X scope T F js) (hc : X.calm = true)
    (hi : PI X tg iter wi) (hg : ∀ C s H ex pins, PG (compCx X scope (T ++ F) C s H ex pins) tg g) (hif : ∀ C s H ex pins, PIf (compCx X scope (T ++ F) C s H ex pins) ifs ti) (he : ∀ C s H ex pins, PE (compCx X scope (T ++ F) C s H ex pins) elt te)
    (I : Inv X pins σ H s) (h : tComp wi g ti te T.length js σ H Q)
    (fin : ∀ (D C : Addr) (s' : Shared) (H' : Hp) (m : Str → Option Value), s'.heap.Ns C m → Q (.ref D) H' → FpOk X pins H' C → (∀ h', Heap.SameBut C s'.heap h' → Inv X pins σ H' { s' with heap := h' }) →
      compPost (model X.prog X.w) X.A X.xe use QQ (.ref D) C (.ok .next) s')
    (hs : ∀ x, foldedSetIterable iter X.env x = pure x) :
    wpAny (model X.prog X.w) X.A (comprehension (.ListComp elt [⟨tg, iter, ifs, 0⟩] scope pos) scope X.env (firstIterPos [⟨tg, iter, ifs, 0⟩] pos) (newList []) false (eval iter X.env) use) QQ X.xe s := by
  refine wpAny_comprehension_free (use := use) rfl hs (closureFor_closes fun p hp hk => ?_) S.kind S.names (thn (hi pins s σ H _ I h) fun v s1 h1 => thn h1 fun itv s2 h2 => ?_)
  · obtain ⟨c, e⟩ := I.ok.has p.1 (.inl (S.free p hp hk))
    rw [e]; rfl
  obtain ⟨it, fp, tn, J, H2, rfl, I2, Tn, st2, f2, h2⟩ := h2
  obtain ⟨W, ⟨m0, w0⟩, turn⟩ := h2 s2.heap.objs.size I2.fresh
  refine wpAny_newObj_type (wpAny_newFunctionEnv S.nocell (by intro y hy; simp at hy) (fun h₁ hns₁ hsb₁ => ?_) S.kind)
  have I3 := I2.lnew (t' := s2.toks) (ys := []) (its := []) Paired.nil (Nat.zero_le _)
  generalize hs3 : ({ s2 with heap := s2.heap.push { cls := .type "list", data := .seq ([] : List Value).toArray }, toks := s2.toks } : Shared) = s3 at I3
  have hf3 : ∀ b ∈ fp, FpOk X pins (upd H2 s2.heap.objs.size (.lst [])) b ∧ ∃ o, s3.heap.get? b = some o ∧ ∀ v, o.data ≠ .cell v := fun b hb => by
    obtain ⟨f0, fr⟩ := f2 b hb
    obtain ⟨o, e, d⟩ := Tn.obj _ _ st2 b hb
    refine ⟨⟨by rw [upd_ne (Nat.ne_of_lt (Heap.lt_size e))]; exact f0, fr⟩, o, ?_, d⟩
    rw [← hs3]
    exact Heap.get?_push_of_some _ e
  have e3 : s3.heap = s2.heap.push { cls := .type "list", data := .seq ([] : List Value).toArray } := by rw [← hs3]
  have kk : ∀ b o, s3.heap.get? b = some o → h₁.get? b = some o := fun b o e => by
    rw [e3] at e
    exact hsb₁.extBut b o (Nat.ne_of_lt (Heap.lt_size e)) (Heap.get?_push_of_some _ e)
  have hns : h₁.Ns s3.heap.objs.size (fun x => ([] : List (Str × Value)).reverse.lookup x) := by rw [e3]; exact hns₁
  have I4 := comp_inv (tk := s3.toks + ([] : List (Str × Value)).length) S I3 hns kk hf3
  have stat : ∀ {H' : Hp} {pl : List (Addr × Obj)}, (∀ p ∈ pl, ∀ b ∈ fp, p.1 ≠ b) → (∀ b ∈ fp, H' b = none) → ∀ b ∈ fp, FpOk (compCx X scope (T ++ F) s3.heap.objs.size s3 (upd H2 s2.heap.objs.size (.lst [])) fp pins) pl H' b := fun {H' pl} hp hn b hb => by
    obtain ⟨⟨f0, f1, f2, f3, f4, f5⟩, o, e, d⟩ := hf3 b hb
    obtain ⟨x1, x2⟩ := I4.ok.exf b hb
    refine ⟨hn b hb, x1, I4.ok.exfs b hb, .inl hb, x2, fun p hq => ?_⟩
    rcases List.mem_append.mp hq with z | z
    · exact f5 p z
    · exact hp p z b hb
  have loop : codeAny (model X.prog X.w) X.A (.compLoop (.ListComp elt [⟨tg, iter, ifs, 0⟩] scope pos) 0 (.ref it) (.ref s2.heap.objs.size) (compEnvC scope (closes X.env scope.names []) s3.heap.objs.size X.env))
      (compPost (model X.prog X.w) X.A X.xe use QQ (.ref s2.heap.objs.size) s3.heap.objs.size) { s3 with heap := h₁, toks := s3.toks + ([] : List (Str × Value)).length } := by
    refine codeAny_loop rfl (fun n s' => ∃ i σ' ys H', Inv (compCx X scope (T ++ F) s3.heap.objs.size s3 (upd H2 s2.heap.objs.size (.lst [])) fp pins) [] σ' H' s' ∧ tn i s'.heap ∧ (∀ b ∈ fp, H' b = none) ∧ W i n σ' ys H') ?_ m0 ⟨0, _, [], _, I4, ?_, fun b hb => (hf3 b hb).1.1, w0⟩
    · rintro n s5 ⟨i, σ5, ys, H5, I5, st5, fr5, w5⟩
      show wpAny _ X.A ((compTurn (.ListComp elt [⟨tg, iter, ifs, 0⟩] scope pos) 0 (.ref it) (.ref s2.heap.objs.size) (compEnvC scope (closes X.env scope.names []) s3.heap.objs.size X.env)).onRaise (fun x => do noteFrame x _; theTreesLotGoes x)) _ _ s5
      refine wpAny_noted ?_
      rw [compTurn_list]
      refine wpAny_bind (wpAny_standAt (wpAny_bind ?_))
      obtain ⟨hD, tu⟩ := turn i n σ5 ys H5 w5
      rcases tu with ⟨stop, qq⟩ | ⟨go, NN, hNN, step⟩
      · refine thn (Tn.done (compCx X scope (T ++ F) s3.heap.objs.size s3 (upd H2 s2.heap.objs.size (.lst [])) fp pins) rfl rfl rfl hc i [] s5 σ5 H5 _ I5 (stat (pl := []) (fun _ hp => absurd hp List.not_mem_nil) fr5) st5 stop) fun r s6 ⟨hr, I6⟩ => ?_
        subst hr
        refine wpAny_pure ?_
        obtain ⟨m6, hn6, _⟩ := I6.loc
        have lC : s.heap.objs.size ≤ s.heap.objs.size := Nat.le_refl _
        exact fin _ _ s6 H5 m6 hn6 qq (I3.fpOk (Nat.le_refl _) I6.free) fun h' sb => comp_out I3 (fun b hb => (hf3 b hb).1) I6 sb
      · refine thn (Tn.item (compCx X scope (T ++ F) s3.heap.objs.size s3 (upd H2 s2.heap.objs.size (.lst [])) fp pins) rfl rfl rfl hc i [] s5 σ5 H5 _ I5 (stat (pl := []) (fun _ hp => absurd hp List.not_mem_nil) fr5) st5 go) fun r s6 ⟨u, hr, h6⟩ => ?_
        subst hr
        refine wpAny_bind (thn h6 fun _ s7 ⟨x, H7, I7, r7, y7, st7, fr7⟩ => ?_)
        have I7' := I7.pinned (stat (pl := []) (fun _ hp => absurd hp List.not_mem_nil) fr7) (Tn.obj _ _ st7)
        have back : ∀ {σ8 : St} {H8 : Hp} {s8 : Shared} {ys8 : List V} {m' : Nat}, Inv (compCx X scope (T ++ F) s3.heap.objs.size s3 (upd H2 s2.heap.objs.size (.lst [])) fp pins) ([] ++ pinsAt fp s7.heap) σ8 H8 s8 → m' < n → W (i + 1) m' σ8 ys8 H8 →
            ∃ m, m < n ∧ ∃ i σ' ys H', Inv (compCx X scope (T ++ F) s3.heap.objs.size s3 (upd H2 s2.heap.objs.size (.lst [])) fp pins) [] σ' H' s8 ∧ tn i s8.heap ∧ (∀ b ∈ fp, H' b = none) ∧ W i m σ' ys H' := fun {σ8 H8 s8 ys8 m'} I8 hm w8 => by
          refine ⟨m', hm, i + 1, σ8, ys8, H8, I8.unpinned, Tn.keep _ _ _ st7 fun b hb o e => (I8.pin (b, o) (List.mem_append_right _ (List.mem_append_right _ (mem_pinsAt hb e)))).1, fun b hb => ?_, w8⟩
          obtain ⟨o, e, d⟩ := Tn.obj _ _ st7 b hb
          exact (I8.pin (b, o) (List.mem_append_right _ (List.mem_append_right _ (mem_pinsAt hb e)))).2.1
        refine wpAny_bind (wpAny_mono (hg _ _ _ _ _ _ s7 σ5 H7 x u _ I7' r7 (step x H7 y7)) (fun _ s8 ⟨σ8, H8, I8, q8⟩ => ?_) fun _ _ z => z.elim)
        refine wpAny_bind (wpAny_mono (hif _ _ _ _ _ _ s8 σ8 H8 _ I8 q8) (fun ok s9 ⟨H9, I9, q9⟩ => ?_) fun _ _ z => z.elim)
        cases ok with
        | false =>
          rw [if_neg Bool.false_ne_true] at q9
          obtain ⟨m', hm, w9⟩ := hNN _ _ _ q9
          exact wpAny_pure ⟨rfl, back I9 hm w9⟩
        | true =>
          rw [if_pos rfl] at q9
          refine wpAny_bind (wpAny_bind (wpAny_mono (he _ _ _ _ _ _ s9 σ8 H9 _ I9 q9) (fun yv s10 ⟨y, H10, I10, r10, d10, l10, q10⟩ => ?_) fun _ _ z => z.elim))
          obtain ⟨m', hm, w10⟩ := hNN _ _ _ q10
          obtain ⟨z10, its, n10, rv, el, eo⟩ := I10.lstM d10
          refine wpAny_bind (wpAny_list_append_plain (items := its.toArray) ⟨n10, eo⟩ (fun h' hl' sb' => ?_) (by simp; omega))
          obtain ⟨n11, eo'⟩ := hl'
          have I11 := I10.write (x := s2.heap.objs.size) (e := s2.heap.objs.size) (o := .lst (ys ++ [y])) (t' := s10.toks) (by rw [d10]; exact trivial) (.inl rfl) (fun b o hb e => sb'.extBut b o hb e) ⟨_, eo'⟩ ⟨by simp; assumption, its ++ [yv], n11, rv.append (.cons r10 .nil), by simpa using eo'⟩
          exact wpAny_pure (wpAny_pure ⟨rfl, back I11 hm w10⟩)
    · refine Tn.keep _ _ _ st2 fun b hb o e => kk b o ?_
      rw [e3]
      exact Heap.get?_push_of_some _ e
  have st1 : tn 0 h₁ := Tn.keep _ _ _ st2 fun b hb o e => kk b o (by rw [e3]; exact Heap.get?_push_of_some _ e)
  exact codeAny_compStart_list loop (Tn.self _ 0 _ _ _ st1 loop)
theorem pe_comp {tg elt iter : Expr} {ifs : List Expr} {pos : Pos} {g : TG} {ti : TT} {te : TE} {wi : TI} (S : CScope X scope T F js) (hc : X.calm = true)
    (hi : PI X tg iter wi) (hg : ∀ C s H ex pins, PG (compCx X scope (T ++ F) C s H ex pins) tg g) (hif : ∀ C s H ex pins, PIf (compCx X scope (T ++ F) C s H ex pins) ifs ti) (he : ∀ C s H ex pins, PE (compCx X scope (T ++ F) C s H ex pins) elt te)
    (hs : ∀ x, foldedSetIterable iter X.env x = pure x := by intro _; rfl) : PE X (.ListComp elt [⟨tg, iter, ifs, 0⟩] scope pos) (tComp wi g ti te T.length js) := by
  intro pins s σ H Q I h
  rw [eval_ListComp]
  exact comp_go (use := none) S hc hi hg hif he I h (fun D C s' H' m hn q _ hinv => ⟨m, hn, fun h' sb => ⟨.ref D, H', hinv h' sb, rfl, q⟩⟩) hs
theorem ps_comp {i : Nat} {x : Str} {pos' spos : Pos} {tg elt iter : Expr} {ifs : List Expr} {pos : Pos} {g : TG} {ti : TT} {te : TE} {wi : TI} (hN : X.N.Nodup) (hx1 : X.N[i]? = some x) (hx2 : Loc X.env.scope x) (S : CScope X scope T F js) (hc : X.calm = true)
    (hi : PI X tg iter wi) (hg : ∀ C s H ex pins, PG (compCx X scope (T ++ F) C s H ex pins) tg g) (hif : ∀ C s H ex pins, PIf (compCx X scope (T ++ F) C s H ex pins) ifs ti) (he : ∀ C s H ex pins, PE (compCx X scope (T ++ F) C s H ex pins) elt te)
    (hsw : swapsWith (.ListComp elt [⟨tg, iter, ifs, 0⟩] scope pos) (some (.Name x pos')) spos.line X.env = pure true := by rfl)
    (hf : X.fn x = true ∨ X.env.scope.names.lookup x = some .local := by first | exact .inl rfl | exact .inr rfl | assumption)
    (hs : ∀ x, foldedSetIterable iter X.env x = pure x := by intro _; rfl) : PS X (.Assign [.Name x pos'] (.ListComp elt [⟨tg, iter, ifs, 0⟩] scope pos) spos) (tAsg (tComp wi g ti te T.length js) (gName i)) := by
  intro pins s σ H D I h
  rw [exec_Assign_Name_used _ _ _ _ hsw]
  refine wpAny_bind (wpAny_standAt (wpAny_bind ?_))
  show wpAny _ X.A (do let _ ← comprehension (.ListComp elt [⟨tg, iter, ifs, 0⟩] scope pos) scope X.env _ (newList []) false (eval iter X.env) (some (assign (.Name x pos') X.env))) _ _ s
  refine wpAny_bind (wpAny_mono (comp_go (use := some (assign (.Name x pos') X.env)) (QQ := fun _ s' => SP X pins D .next s') S hc hi hg hif he I h (fun d C s' H' m hn q fC hinv => ?_) hs) (fun _ s' hq => wpAny_pure (wpAny_pure hq)) fun _ _ e => e)
  have I1 : Inv X pins σ H' s' := hinv s'.heap (Heap.SameBut.refl ..)
  obtain ⟨oC, es, ep, ho, hd, hr⟩ := id hn
  obtain ⟨f0, f1, f2, f3, f4, f5⟩ := fC
  have I2 : Inv X (pins ++ [(C, oC)]) σ H' s' := I1.pins_of fun p hp => (List.mem_append.mp hp).elim (fun z => I1.pin p (List.mem_append_right _ z)) fun z => by
    have e := List.mem_singleton.mp z
    subst e
    exact ⟨ho, f0, f1, f2, fun v z => by rw [hd] at z; cases z⟩
  show wpAny _ X.A (assign (.Name x pos') X.env (.ref d)) _ _ _
  refine wpAny_assign_Name (store_ok (v := .ref d) I2 hN hx1 hx2 rfl (fun s'' I'' => ?_) hf)
  have e2 := (I''.pin (C, oC) (List.mem_append_right _ (List.mem_append_right _ (List.mem_singleton.mpr rfl)))).1
  refine ⟨m, ⟨oC, es, ep, e2, hd, hr⟩, fun h' sb => ?_⟩
  exact ⟨_, H', I''.unpinned.turned (t' := s''.toks) (it := C) (fun b o hb e => sb.extBut b o hb e) f0 f1 f3 f4 f5, q⟩
end
section
variable {g : TG} {ti : TT} {te : TE} {Q : VK} {D : Addr} {σ : St} {H : Hp}
theorem comp_list {K : PySem.W.Frag} {a : Addr} {xs : List V} (Pv : Nat → St → List V → Hp → Prop) (h0 : Pv 0 σ [] (upd H D (.lst []))) (hl : ∀ i σ ys H, i ≤ xs.length → Pv i σ ys H → SqL K H a xs ∧ H D = some (.lst ys))
    (hs : ∀ i x σ ys H, xs[i]? = some x → Pv i σ ys H → cturn g ti te D x σ ys H (Pv (i + 1))) (hd : ∀ σ ys H, Pv xs.length σ ys H → Q (.ref D) H) :
    cgo (Itl K a) g ti te D σ H Q := by
  refine ⟨fun i m σ ys H => m = xs.length - i ∧ i ≤ xs.length ∧ Pv i σ ys H, ⟨xs.length, by simp, Nat.zero_le _, h0⟩, ?_⟩
  rintro i m σ ys H ⟨rfl, hi, p⟩
  obtain ⟨q, hD⟩ := hl i σ ys H hi p
  refine ⟨hD, ?_⟩
  by_cases hlt : i < xs.length
  · refine .inr ⟨⟨xs, xs[i], q, by simp [hlt]⟩, Pv (i + 1), fun σ' ys' H' p' => ⟨xs.length - (i + 1), by omega, rfl, hlt, p'⟩, fun x H' y => ?_⟩
    obtain ⟨e, y⟩ := y
    subst e
    exact (hs i x σ ys _ (y xs q) p)
  · have e : i = xs.length := by omega
    subst e
    exact .inl ⟨⟨xs, q, Nat.le_refl _⟩, hd σ ys H p⟩
theorem comp_tup {K : PySem.W.Frag} {a : Addr} {xs : List V} (Pv : Nat → St → List V → Hp → Prop) (h0 : Pv 0 σ [] (upd H D (.lst []))) (hl : ∀ i σ ys H, i ≤ xs.length → Pv i σ ys H → SqT K H a xs ∧ H D = some (.lst ys))
    (hs : ∀ i x σ ys H, xs[i]? = some x → Pv i σ ys H → cturn g ti te D x σ ys H (Pv (i + 1))) (hd : ∀ σ ys H, Pv xs.length σ ys H → Q (.ref D) H) :
    cgo (Itt K a) g ti te D σ H Q := by
  refine ⟨fun i m σ ys H => m = xs.length - i ∧ i ≤ xs.length ∧ Pv i σ ys H, ⟨xs.length, by simp, Nat.zero_le _, h0⟩, ?_⟩
  rintro i m σ ys H ⟨rfl, hi, p⟩
  obtain ⟨q, hD⟩ := hl i σ ys H hi p
  refine ⟨hD, ?_⟩
  by_cases hlt : i < xs.length
  · refine .inr ⟨⟨xs, xs[i], q, by simp [hlt]⟩, Pv (i + 1), fun σ' ys' H' p' => ⟨xs.length - (i + 1), by omega, rfl, hlt, p'⟩, fun x H' y => ?_⟩
    obtain ⟨e, y⟩ := y
    subst e
    exact (hs i x σ ys _ (y xs q) p)
  · have e : i = xs.length := by omega
    subst e
    exact .inl ⟨⟨xs, q, Nat.le_refl _⟩, hd σ ys H p⟩
theorem comp_range {lo : Int} {n : Nat} (Pv : Nat → St → List V → Hp → Prop) (h0 : Pv 0 σ [] (upd H D (.lst []))) (hl : ∀ i σ ys H, i ≤ n → Pv i σ ys H → H D = some (.lst ys))
    (hs : ∀ i σ ys H, i < n → Pv i σ ys H → cturn g ti te D (.int (lo + i)) σ ys H (Pv (i + 1))) (hd : ∀ σ ys H, Pv n σ ys H → Q (.ref D) H) :
    cgo (Itr lo n) g ti te D σ H Q := by
  refine ⟨fun i m σ ys H => m = n - i ∧ i ≤ n ∧ Pv i σ ys H, ⟨n, by simp, Nat.zero_le _, h0⟩, ?_⟩
  rintro i m σ ys H ⟨rfl, hi, p⟩
  have hD := hl i σ ys H hi p
  refine ⟨hD, ?_⟩
  by_cases hlt : i < n
  · refine .inr ⟨hlt, Pv (i + 1), fun σ' ys' H' p' => ⟨n - (i + 1), by omega, rfl, hlt, p'⟩, fun x H' y => ?_⟩
    obtain ⟨e, y⟩ := y
    subst e y
    exact (hs i σ ys _ hlt p)
  · have e : i = n := by omega
    subst e
    exact .inl ⟨Nat.le_refl _, hd σ ys H p⟩
end
end L2
set_option maxHeartbeats 4000000
namespace L2
open PySem PySem.Spec PyProof.Rows
mutual
inductive Rep (K : PySem.W.Frag) (H : Hp) : V → PyData → Prop
  | non : Rep K H .non .none
  | bl (b : Bool) : Rep K H (.bl b) (.bool b)
  | int (i : Int) : Rep K H (.int i) (.int i)
  | str (x : Str) : Rep K H (.str x) (.str x)
  | lst {a : Addr} {xs : List V} {ds : List PyData} : SqL K H a xs → RepAll K H xs ds → Rep K H (.ref a) (.list ds)
  | tup {a : Addr} {xs : List V} {ds : List PyData} : SqT K H a xs → RepAll K H xs ds → Rep K H (.ref a) (.tuple ds)
inductive RepAll (K : PySem.W.Frag) (H : Hp) : List V → List PyData → Prop
  | nil : RepAll K H [] []
  | cons {x : V} {xs : List V} {d : PyData} {ds : List PyData} : Rep K H x d → RepAll K H xs ds → RepAll K H (x :: xs) (d :: ds)
end
mutual
theorem Rep.reads {X : Cx} {pins : List (Addr × Obj)} {σ : St} {H : Hp} {s : Shared} (I : Inv X pins σ H s) : ∀ {v : V} {d : PyData} {u : Value}, Rep X.K H v d → RelV v u → ∃ as, Reads s.heap u d as
  | _, _, _, .non, r => by cases r; exact ⟨_, .none⟩
  | _, _, _, .bl b, r => by cases r; exact ⟨_, .bool b⟩
  | _, _, _, .int i, r => by obtain ⟨t, rfl⟩ := r; exact ⟨_, .int i t⟩
  | _, _, _, .str x, r => by obtain ⟨t, rfl⟩ := r; exact ⟨_, .str x t⟩
  | _, _, _, .lst hq hx, r => by
    cases r
    obtain ⟨its, rv, hl, hz⟩ := I.list hq
    obtain ⟨as, ra⟩ := RepAll.reads I hx rv
    obtain ⟨o, ho, hc, n, hd⟩ := hl.isList
    exact ⟨_, .list ho hc hd ra⟩
  | _, _, _, .tup hq hx, r => by
    cases r
    obtain ⟨its, rv, hl, hz⟩ := I.tuple hq
    obtain ⟨as, ra⟩ := RepAll.reads I hx rv
    obtain ⟨o, ho, hc, n, hd⟩ := hl
    exact ⟨_, .tuple ho hc hd ra⟩
theorem RepAll.reads {X : Cx} {pins : List (Addr × Obj)} {σ : St} {H : Hp} {s : Shared} (I : Inv X pins σ H s) : ∀ {xs : List V} {ds : List PyData} {us : List Value}, RepAll X.K H xs ds → Vals xs us → ∃ as, ReadsAll s.heap us ds as
  | _, _, _, .nil, .nil => ⟨_, .nil⟩
  | _, _, _, .cons h t, .cons r rs => by
    obtain ⟨a, ra⟩ := Rep.reads I h r
    obtain ⟨b, rb⟩ := RepAll.reads I t rs
    exact ⟨_, .cons ra rb⟩
end
section
variable {X : Cx} {a b c e : Expr} {ta tb tc te : TE} {pos p2 : Pos}
inductive RNeDP (K : PySem.W.Frag) (x : V) (y : V) (H : Hp) (Q : VK) : Prop
  | mk (da db : _) : (Rep K H x da) → (Rep K H y db) → (da.canLay0 = true) → (db.canLay0 = true) → (da.depth ≤ 20) → (Q (.bl (!PyData.eqv da db)) H) → RNeDP K x y H Q
def rNeD (K : PySem.W.Frag) : R2 := fun x y H Q => RNeDP K x y H Q
theorem op_neD (hu : X.A.units + 64 < cLine) : OpR X (compareOp .NotEq) (rNeD X.K) := by
  intro pins s σ H x y u v Q I rx ry h
  obtain ⟨da, db, h1, h2, h3, h4, h5, q⟩ := h
  obtain ⟨as, r1⟩ := h1.reads I rx
  obtain ⟨bs, r2⟩ := h2.reads I ry
  exact SeqAt.compareNe_reads r1 r2 h3 h4 (by omega) ⟨.bl _, H, I, rfl, q⟩
theorem call_isi : CallR X (.builtin "isinstance") (fun xs H Q => ∃ (x : V) (t : Value) (c : String) (b : Bool), xs = [x, .ty c] ∧ TyOf X.K H x t ∧ PySem.W.kitOne X.K t (.type c) = some b ∧ Q (.bl b) H) := by
  intro pins s σ H xs us Q I r h
  obtain ⟨x, t, c, b, rfl, ty, e, q⟩ := h
  obtain ⟨u, v, rfl, rx, ry⟩ := vals2 r
  cases ry
  exact isinst_ok I rx ty e fun tk => ⟨.bl b, H, I.tok tk, rfl, q⟩
theorem pe_ty {x : Str} {T : String} (hg : Gl X x) (hm : X.mg x = none) (hv : bootBuiltins x = some (.type T)) (hn : x ≠ "__name__" := by decide) (hd : (x == ("__debug__" : Str)) = false := by decide) : PE X (.Name x pos) (tC (.ty T)) :=
  fun pins s σ H Q I h => ld_blt I hg hm hv ⟨.ty T, H, I, rfl, h⟩ hn hd
def rints (i : Int) (n : Nat) : List Int := (List.range n).map fun (k : Nat) => i + (k : Int)
inductive RCatTTP (K : PySem.W.Frag) (x : V) (y : V) (H : Hp) (Q : VK) : Prop
  | mk (a b : Addr) (xs ys : List V) : (x = .ref a) → (y = .ref b) → (SqT K H a xs) → (SqT K H b ys) → (xs.length + ys.length ≤ sizeLine) → ((xs = [] → Q (.ref b) H)) → ((xs ≠ [] → ys = [] → Q (.ref a) H)) → ((xs ≠ [] → ys ≠ [] → ∀ p, H p = none → Q (.ref p) (upd H p (.tup (xs ++ ys))))) → RCatTTP K x y H Q
def rCatTT (K : PySem.W.Frag) : R2 := fun x y H Q => RCatTTP K x y H Q
theorem op_catTT : OpR X (binaryOp .Add) (rCatTT X.K) := by
  intro pins s σ H x y u v Q I rx ry h
  obtain ⟨p, q, xs, ys, rfl, rfl, hx, hy, hz, h1, h2, h3⟩ := h
  cases rx; cases ry
  obtain ⟨its, r1, t1, z1⟩ := I.tuple hx
  obtain ⟨its2, r2, t2, z2⟩ := I.tuple hy
  have l1 := r1.length
  have l2 := r2.length
  by_cases e : xs = []
  · subst e
    have ei : its = [] := by cases its with | nil => rfl | cons _ _ => cases l1
    subst ei
    obtain ⟨⟨cls, dd, data, sl⟩, ho, hc, n, hd⟩ := id t1
    obtain ⟨⟨cls2, dd2, data2, sl2⟩, ho2, hc2, n2, hd2⟩ := id t2
    simp only at hc hd hc2 hd2
    subst hc hd hc2 hd2
    exact PySem.concat_meets ⟨_, ho, rfl⟩ ⟨_, ho2, rfl⟩ noFill_tuple_add seq_tuple_add PySem.F.slot_tuple_add PySem.F.entry_tuple_add (PySem.F.args_tuple_add_2 _ _)
      (tuple_addW0 p q _ _ n n2 dd dd2 sl sl2 (by rfl)) ⟨ho, ho2, ⟨.ref q, H, I, rfl, h1 rfl⟩⟩
  · refine HT.cat_tup t1 t2 (fun z => e ((Vals.nil_iff r1).mp z)) (fun z => ⟨.ref p, H, I, rfl, h2 e ((Vals.nil_iff r2).mp z)⟩) (fun z => ?_) (by omega)
    exact ⟨.ref s.heap.objs.size, _, I.laid (t' := s.toks) (o := .tup (xs ++ ys)) (fun b ob q => Heap.get?_push_of_some _ q) (Nat.le_refl _) ⟨by simpa using hz, its ++ its2, r1.append r2, IsTupN.new _ _⟩, rfl, h3 e (fun z' => z ((Vals.nil_iff r2).mpr z')) _ I.fresh⟩
end
section
variable {prog : Program} {w : World} {A : Around} {E : Value → Shared → Prop}
variable {s : Shared}
end
end L2
set_option maxHeartbeats 4000000
namespace L2
open PySem PySem.Spec PyProof.Rows
section
variable {X : Cx} {a b c e : Expr} {ta tb tc te : TE} {pos p2 : Pos}
theorem strsAre_of : ∀ {ys : List Str} {us : List Value}, Vals (ys.map V.str) us → StrsAre us ys
  | [], _, .nil => .nil
  | y :: ys, _, .cons h t => by
    obtain ⟨u, rfl⟩ := h
    exact .cons y u (strsAre_of t)
inductive RJoinP (K : PySem.W.Frag) (x : V) (vs : List V) (H : Hp) (Q : VK) : Prop
  | mk (z : Str) (l : Addr) (ys : List Str) : (x = .str z) → (vs = [.ref l]) → (SqL K H l (ys.map V.str)) → ((ys.map (·.length)).sum + ys.length * z.length ≤ 16777216) → (Q (.str (Txt.join z ys)) H) → RJoinP K x vs H Q
def rJoin (K : PySem.W.Frag) : V → List V → Hp → VK → Prop := fun x vs H Q => RJoinP K x vs H Q
theorem mt_join : MtM X "str.join" (rJoin X.K) := by
  intro pins s σ H x xs v us Q I rx r h
  obtain ⟨z, l, ys, rfl, rfl, hl, hz, q⟩ := h
  obtain ⟨t, rfl⟩ := rx
  obtain ⟨u, rfl, ru⟩ := vals1 r
  cases ru
  obtain ⟨its, rv, hp, _⟩ := I.list hl
  exact join_list hp.isList (strsAre_of rv) hz fun t' k => ⟨.str _, H, I.tok k, ⟨t', rfl⟩, q⟩
end
def relab (scope osc : Scope) : Scope := { scope with names := scope.names.map fun (n, k) => if (k == .free && osc.kind == .function && osc.names.lookup n == some .cell) then (n, .cell) else (n, k) }
structure CS (osc scope : Scope) (T F : List Str) : Prop where
  kind : scope.kind = .function
  nocell : ∀ y ∈ scope.names, y.2 ≠ .cell
  names : ∀ x ∈ scope.names, x.2 = .local → scope.names.lookup x.1 = some .local
  free : ∀ x ∈ scope.names, x.2 = .free → osc.names.lookup x.1 = some .cell
  loc : ∀ y ∈ T, (relab scope osc).names.lookup y = some .local
  cel : ∀ y ∈ F, (relab scope osc).names.lookup y = some .cell ∧ osc.names.lookup y = some .cell ∧ (y, NameKind.free) ∈ scope.names
  all : ∀ x ∈ (relab scope osc).names, (x.2 = .cell ∨ x.2 = .free) → (x.1, NameKind.free) ∈ scope.names
theorem CS.to {X : Cx} {scope osc : Scope} {T F : List Str} {js : List Nat} (h : CS osc scope T F) (hj : js.map (fun j => X.N[j]?) = F.map some) (ho : X.env.scope = osc) : CScope X scope T F js := by
  subst ho
  exact ⟨h.kind, h.nocell, h.names, h.free, h.loc, h.cel, h.all, hj⟩
theorem PSs.imp' {X : Cx} {st : List PySem.Stmt} {t t' : TS} (h : PSs X st t) (f : ∀ D σ H, t' D σ H → t D σ H) : PSs X st t' := fun pins s σ H D I h' => h pins s σ H D I (f D σ H h')
end L2
set_option maxHeartbeats 4000000
namespace L2
open PySem PySem.Spec PyProof.Rows
section
variable {X : Cx} {pins : List (Addr × Obj)} {σ : St} {H : Hp} {s : Shared}
theorem Inv.turnedL {t' : Nat} {h' : Heap} (ch : List Addr) (I : Inv X pins σ H s) (k : ∀ b o, b ∉ ch → s.heap.get? b = some o → h'.get? b = some o) (hf : ∀ b ∈ ch, FpOk X pins H b) : Inv X pins σ H { s with heap := h', toks := t' } := by
  have out : ∀ b u, H b = some u → b ∉ ch := fun b u e z => by rw [(hf b z).1] at e; cases e
  have outL : X.env.locals ∉ ch := fun z => (hf _ z).2.1 rfl
  refine I.step (g' := s.gens) (d' := s.drawn) (ch := ch) (fun b hb => ⟨(hf b hb).2.2.2.1, (hf b hb).2.1, (hf b hb).2.2.2.2.1, (hf b hb).2.2.2.2.2⟩) (fun b o _ _ hc e _ => k b o hc e) (fun b o _ _ hc e _ => ⟨o.slots, k b o hc e⟩)
    (fun _ _ _ _ n => n) (fun b o hc e => ⟨o, k b o hc e⟩) (fun _ _ e => e) (fun _ _ _ e => e) (fun b ps e => ⟨#[], by rw [e]; simp⟩) (fun m hm => ?_) (fun b u e => ?_) I.bare
  · obtain ⟨o, es, ep, ho, r⟩ := hm
    exact ⟨o, es, ep, k _ o outL ho, r⟩
  · refine (I.hok b u e).stay (fun c v hc q => k c v ?_ q) (fun _ q => q) fun _ _ q => q
    rcases hc with z | z
    · rw [z]; exact out b u e
    · exact out c _ z
theorem FpOk.up {b T : Addr} {o : HO} (h : FpOk X pins H b) (n : b ≠ T) : FpOk X pins (upd H T o) b := ⟨by rw [upd_ne n]; exact h.1, h.2⟩
end
def Ite (K : PySem.W.Frag) (a : Addr) : It :=
  ⟨fun i H => ∃ xs x, SqL K H a xs ∧ xs[i]? = some x, fun i H v H' => ∃ T x, H T = none ∧ v = .ref T ∧ H' = upd H T (.tup [.int i, x]) ∧ ∀ xs, SqL K H a xs → xs[i]? = some x, fun i H => ∃ xs, SqL K H a xs ∧ xs.length ≤ i⟩
theorem turn_enum {P : Program} {w : World} {K : PySem.W.Frag} {elts : List Expr} {x1} {pos : Pos} (a e it : Addr) (hei : e ≠ it) : Turn P w K (.Tuple elts x1 pos) (Ite K a) [e, it] e (fun i h => (∃ old, IsEnum h e it i old) ∧ h.IsListIter it a i) where
  mem := by simp
  obj := fun i h st b hb => by
    obtain ⟨⟨old, he⟩, o, ho, hc, hd⟩ := st
    rcases List.mem_cons.mp hb with rfl | hb
    · exact ⟨_, he, fun v z => by cases z⟩
    · have : b = it := by simpa using hb
      subst this
      exact ⟨o, ho, fun v z => by rw [hd] at z; cases z⟩
  keep := fun i h h' st k => ⟨let ⟨old, he⟩ := st.1; ⟨old, k e (by simp) _ he⟩, st.2.at fun o q => k it (by simp) o q⟩
  item := by
    intro X hP hw hK hc i pins s σ H E I hf st hg
    subst hP hw hK
    obtain ⟨⟨old, he⟩, hit⟩ := st
    obtain ⟨xs, x, hq, hx⟩ := hg
    obtain ⟨its, rv, p, hz⟩ := I.list hq
    obtain ⟨u, hu, ru⟩ := rv.get hx
    have fresh : H s.heap.objs.size = none := I.hok.fresh (Nat.le_refl _)
    have elt : e < s.heap.objs.size := Heap.lt_size he
    have ilt : it < s.heap.objs.size := by obtain ⟨_, q, _⟩ := hit; exact Heap.lt_size q
    refine wpAny_pyNext_enum_item he hit p.isList (x := u) (by simpa using hu) hei fun h' eo it' hT hsz kk => ⟨_, rfl, ?_⟩
    refine wpAny_letOwnedTupleGo_enum (s := { s with heap := h', toks := s.toks + 1 }) eo fun h2 e2 sb => ?_
    have I1 : Inv X pins σ (upd H s.heap.objs.size (.tup [.int i, x])) { s with heap := s.heap.push { cls := .type "tuple", data := .seq #[.int i s.toks, u] }, toks := s.toks } :=
      I.laid (o := .tup [.int i, x]) (fun b ob q => Heap.get?_push_of_some _ q) (Nat.le_refl _) ⟨by rw [sizeLine_eq]; simp, [.int i s.toks, u], .cons ⟨_, rfl⟩ (.cons ru .nil), IsTupN.new _ _⟩
    have I2 := I1.turnedL (h' := h2) (t' := s.toks + 1) [e, it] (fun b o hb q => ?_) (fun b hb => ?_)
    · refine ⟨.ref s.heap.objs.size, _, I2, rfl, ⟨_, x, fresh, rfl, rfl, fun ys hy => by rw [I.list_inj hy hq]; exact hx⟩, ⟨⟨_, by simpa using e2⟩, it'.at fun o q => (sb.2 it hei.symm).trans q⟩, fun b hb => ?_⟩
      rcases List.mem_cons.mp hb with rfl | hb
      · rw [upd_ne (Nat.ne_of_lt elt)]; exact (hf _ (by simp)).1
      · have : b = it := by simpa using hb
        subst this
        rw [upd_ne (Nat.ne_of_lt ilt)]; exact (hf _ (by simp)).1
    · have b1 : b ≠ e := fun z => hb (by simp [z])
      have b2 : b ≠ it := fun z => hb (by simp [z])
      refine (sb.2 b b1).trans ?_
      by_cases hbs : b = s.heap.objs.size
      · subst hbs
        rw [Heap.get?_push_size _ rfl] at q
        cases q
        exact hT
      · rw [Heap.get?_push_ne _ _ _ hbs] at q
        exact kk b o b1 b2 q
    · rcases List.mem_cons.mp hb with rfl | hb
      · exact (hf _ (by simp)).up (Nat.ne_of_lt elt)
      · have : b = it := by simpa using hb
        subst this
        exact (hf _ (by simp)).up (Nat.ne_of_lt ilt)
  done := by
    intro X hP hw hK hc i pins s σ H E I hf st hg
    subst hP hw hK
    obtain ⟨⟨old, he⟩, hit⟩ := st
    obtain ⟨xs, hq, hx⟩ := hg
    obtain ⟨its, rv, p, hz⟩ := I.list hq
    have hl := rv.length
    exact wpAny_pyNext_enum_end (I.ok.hd hc) he hit p.isList (by simp; omega) fun h' eb => ⟨rfl, I.turnedL (t' := s.toks) [e, it] (fun b o hb q => eb b o (fun z => hb (by simp [z])) q) hf⟩
  self := fun A i s Q E st h => let ⟨⟨old, he⟩, _⟩ := st; wpAny_pyIter_enum he h
def iEnum (K : PySem.W.Frag) (ta : TA) : TI := fun σ H R => ta σ H fun vs H1 => ∃ a xs, vs = [.ref a] ∧ SqL K H1 a xs ∧ R (Ite K a) H1
theorem pi_enumL {X : Cx} {elts : List Expr} {x1} {tpos : Pos} {a : Expr} {ta : TA} {p pos : Pos} (hg : Gl X "enumerate") (hm : X.mg "enumerate" = none) (ha : PA X [a] ta) (hs : starEach [a] X.env = [(false, eval a X.env)] := by rfl) :
    PI X (.Tuple elts x1 tpos) (.Call (.Name "enumerate" p) [a] [] pos) (iEnum X.K ta) := by
  intro pins s σ H R I h
  refine Call_ (ld_blt I hg hm (show bootBuiltins "enumerate" = some (.type "enumerate") by decide +kernel) (PyProof.Rows.callWith_type1 (thn (ha pos pins s σ H _ I h) fun us s1 ⟨vs, H1, I1, r1, q1⟩ => ?_) hs rfl))
  obtain ⟨l, xs, e, hq, q⟩ := q1
  subst e
  obtain ⟨u, rfl, ru⟩ := vals1 r1
  cases ru
  obtain ⟨its, rv, pl, hz⟩ := I1.list hq
  refine call_enumerate_list pl.isList fun h' he hit hsz kk => wpAny_pyIter_enum he ?_
  refine ⟨s1.heap.objs.size + 1, [s1.heap.objs.size + 1, s1.heap.objs.size], _, _, H1, rfl, I1.kept (t' := s1.toks) kk, turn_enum l _ _ (Nat.succ_ne_self _), ⟨⟨_, he⟩, hit⟩, fun b hb => ?_, q⟩
  have hb : s1.heap.objs.size ≤ b := by
    rcases List.mem_cons.mp hb with rfl | hb
    · exact Nat.le_succ _
    · have : b = s1.heap.objs.size := by simpa using hb
      exact Nat.le_of_eq this.symm
  exact I1.fpOk hb (I1.hok.fresh hb)
section
variable {g : TG} {ti : TT} {te : TE} {Q : VK} {D : Addr} {σ : St} {H : Hp}
theorem comp_enum {K : PySem.W.Frag} {a : Addr} {xs : List V} (Pv : Nat → St → List V → Hp → Prop) (h0 : Pv 0 σ [] (upd H D (.lst []))) (hl : ∀ i σ ys H, i ≤ xs.length → Pv i σ ys H → SqL K H a xs ∧ H D = some (.lst ys))
    (hs : ∀ i x σ ys H T, xs[i]? = some x → Pv i σ ys H → H T = none → cturn g ti te D (.ref T) σ ys (upd H T (.tup [.int (i : Nat), x])) (Pv (i + 1))) (hd : ∀ σ ys H, Pv xs.length σ ys H → Q (.ref D) H) :
    cgo (Ite K a) g ti te D σ H Q := by
  refine ⟨fun i m σ ys H => m = xs.length - i ∧ i ≤ xs.length ∧ Pv i σ ys H, ⟨xs.length, by simp, Nat.zero_le _, h0⟩, ?_⟩
  rintro i m σ ys H ⟨rfl, hi, p⟩
  obtain ⟨q, hD⟩ := hl i σ ys H hi p
  refine ⟨hD, ?_⟩
  by_cases hlt : i < xs.length
  · refine .inr ⟨⟨xs, xs[i], q, by simp [hlt]⟩, Pv (i + 1), fun σ' ys' H' p' => ⟨xs.length - (i + 1), by omega, rfl, hlt, p'⟩, fun x H' y => ?_⟩
    obtain ⟨T, z, hT, rfl, rfl, y⟩ := y
    exact hs i z σ ys H T (y xs q) p hT
  · have e : i = xs.length := by omega
    subst e
    exact .inl ⟨⟨xs, q, Nat.le_refl _⟩, hd σ ys H p⟩
end
end L2
set_option maxHeartbeats 4000000
namespace PySem
open Builtin
section
variable {prog : Program} {w : World} {A : Around} {E : Value → Shared → Prop} {s : Shared}
theorem nextOf_tup {it t : Addr} {i : Nat} {its : Array Value} {x : Value} {Q : Value → Shared → Prop} (hi : s.heap.IsTupleIter it t i) (ht : s.heap.IsTuple t its) (hx : its[i]? = some x)
    (hQ : ∀ h', h'.IsTupleIter it t (i + 1) → Heap.SameBut it s.heap h' → Q x { s with heap := h' }) : wpAny (model prog w) A (Builtin.SmallTypes.nextOf (.ref it)) Q E s := by
  obtain ⟨oi, gi, ci, di⟩ := id hi
  obtain ⟨ot, gt, _, nt, dt⟩ := ht
  unfold Builtin.SmallTypes.nextOf
  refine wpAny_bind (wpAny_callSpecial?_slot (name := Str.ofString "__next__") hi.typeIs F.slot_tuple_iterator_next (wpAny_call_entry F.slot_tuple_iterator_next hi.typeIs F.entry_tuple_iterator_next ?_ (F.args_tuple_iterator_next_1 _)))
  show wpAny _ _ (field (.ref it) 0 >>= fun _ => _) _ _ s
  refine wpAny_bind (wpAny_field gi di (x := .ref t) rfl ?_)
  show wpAny _ _ (ite ((Value.ref t == Value.none) = true) _ _) _ _ s
  have ng : ¬ ((Value.ref t == Value.none) = true) := Bool.false_ne_true
  rw [if_neg ng]
  show wpAny _ _ (field (.ref it) 1 >>= fun _ => _) _ _ s
  refine wpAny_bind (wpAny_field gi di (x := .int i 0) rfl ?_)
  show wpAny _ _ (seqItems? (.ref t) >>= fun _ => _) _ _ s
  refine wpAny_bind (wpAny_seqItems gt dt ?_)
  simp only [Int.toNat_natCast, hx]
  refine wpAny_bind (wpAny_setField gi di (by simp) (wpAny_pure ⟨x, rfl, wpAny_pure (hQ _ ⟨_, Heap.get?_update_self _ gi (Obj.isFreed_of_fields (Obj.data_mapFields di _)), (Obj.cls_mapFields ..).trans ci, ?_⟩ (Heap.SameBut.update ..))⟩))
  rw [Obj.data_mapFields di]
  simp [rawInt]
theorem nextOf_tup_end {it t : Addr} {i : Nat} {its : Array Value} {Q : Value → Shared → Prop} (hh : A.handled = none) (hi : s.heap.IsTupleIter it t i) (ht : s.heap.IsTuple t its) (hx : its[i]? = none)
    (hE : ∀ h' e, Heap.ExtBut it s.heap h' → (∃ o, h'.get? e = some o ∧ o.cls = .type "StopIteration") → E (.ref e) { s with heap := h' }) : wpAny (model prog w) A (Builtin.SmallTypes.nextOf (.ref it)) Q E s := by
  obtain ⟨oi, gi, ci, di⟩ := id hi
  obtain ⟨ot, gt, _, nt, dt⟩ := ht
  unfold Builtin.SmallTypes.nextOf
  refine wpAny_bind (wpAny_callSpecial?_slot (name := Str.ofString "__next__") hi.typeIs F.slot_tuple_iterator_next (wpAny_call_entry F.slot_tuple_iterator_next hi.typeIs F.entry_tuple_iterator_next ?_ (F.args_tuple_iterator_next_1 _)))
  show wpAny _ _ (field (.ref it) 0 >>= fun _ => _) _ _ s
  refine wpAny_bind (wpAny_field gi di (x := .ref t) rfl ?_)
  show wpAny _ _ (ite ((Value.ref t == Value.none) = true) _ _) _ _ s
  have ng : ¬ ((Value.ref t == Value.none) = true) := Bool.false_ne_true
  rw [if_neg ng]
  show wpAny _ _ (field (.ref it) 1 >>= fun _ => _) _ _ s
  refine wpAny_bind (wpAny_field gi di (x := .int i 0) rfl ?_)
  show wpAny _ _ (seqItems? (.ref t) >>= fun _ => _) _ _ s
  refine wpAny_bind (wpAny_seqItems gt dt ?_)
  simp only [Int.toNat_natCast, hx]
  refine wpAny_bind (wpAny_rule (wpAny_bind (wpAny_setField gi di (by simp) ?_)))
  show wpAny _ _ (newExc (.type "StopIteration") [] >>= fun _ => _) _ _ _
  refine wpAny_bind ?_
  simp only [newExc, newTuple]
  refine wpAny_bind (wpAny_newObj_type ?_ (by size_fits))
  refine wpAny_bind (m := firstArgMember _ _) (wpAny_of_eq (a := Value.none) (by first | rfl | (simp only [firstArgMember]; rfl)) ?_)
  refine wpAny_newObj_type ?_ (by size_fits)
  simp only [raiseNew]
  refine wpAny_bind (wpAny_handled ?_)
  first | rw [show A.in1.handled = none from hh] | rw [hh]
  exact wpAny_bind (wpAny_pure (wpAny_throw (hE _ _ (((Heap.SameBut.update ..).extBut.push _).push _) ⟨_, Heap.get?_push_size _ rfl, rfl⟩)))
theorem Draws.tup {prog : Program} {w : World} {A : Around} (hh : A.handled = none) (it t : Addr) (hne : t ≠ it) (its : Array Value) :
    Draws prog w A it [it, t] its.size (fun i v => its[i]? = some v) (fun i h => h.IsTupleIter it t i ∧ h.IsTuple t its) where
  live := fun _ _ st => ⟨st.1.choose, st.1.choose_spec.1⟩
  frame := fun _ _ _ st hk => ⟨st.1.at fun o e => hk it (by simp) o e, let ⟨o, ho, r⟩ := st.2; ⟨o, hk t (by simp) o ho, r⟩⟩
  item := fun i s Q E hi st hQ => by
    refine nextOf_tup st.1 st.2 (x := its[i]) (by simp [hi]) fun h' hit' hs' => ?_
    exact hQ _ h' s.toks (by simp [hi]) ⟨hit', let ⟨o, ho, r⟩ := st.2; ⟨o, hs'.extBut _ _ hne ho, r⟩⟩ hs'
  done := fun s Q E st hE => nextOf_tup_end hh st.1 st.2 (by simp) hE
end
end PySem
namespace PySem
open Builtin
structure ZAp (z TI TO i1 i2 : Addr) (f1 f2 : List Addr) : Prop where
  a1 : TI ≠ z
  a2 : TO ≠ z
  a3 : i1 ≠ z
  a4 : i2 ≠ z
  a5 : TI ≠ TO
  a6 : TI ≠ i1
  a7 : TI ≠ i2
  a8 : TO ≠ i1
  a9 : TO ≠ i2
  b1 : i1 ≠ i2
  b2 : z ∉ f1
  b3 : z ∉ f2
  b4 : TO ∉ f1
  b5 : TO ∉ f2
  b6 : i1 ∉ f2
  b7 : i2 ∉ f1
section
variable {prog : Program} {w : World} {A : Around} {E : Value → Shared → Prop} {s : Shared} {z TI TO i1 i2 : Addr} {f1 f2 : List Addr} {n1 n2 : Nat} {P1 P2 : Nat → Value → Prop} {S1 S2 : Nat → Heap → Prop}
theorem zip_itemD {k : Nat} {a b : Value} {Q : Value → Shared → Prop} (D : ZAp z TI TO i1 i2 f1 f2) (D1 : Draws prog w A i1 f1 n1 P1 S1) (D2 : Draws prog w A i2 f2 n2 P2 S2)
    (hZ : IsZip s.heap z TI TO .none) (pI : IsPair s.heap TI (.ref i1) (.ref i2)) (pO : IsPair s.heap TO a b) (t1 : S1 k s.heap) (t2 : S2 k s.heap) (l1 : k < n1) (l2 : k < n2)
    (hQ : ∀ h' tk x y, P1 k x → P2 k y → IsZip h' z TI TO (rawInt s.heap.objs.size) → IsPair h' TO x y → S1 (k + 1) h' → S2 (k + 1) h' → IsPair h' s.heap.objs.size x y →
      (∀ c o, c ≠ z → c ≠ TO → c ≠ i1 → c ≠ i2 → s.heap.get? c = some o → h'.get? c = some o) → Q (.ref s.heap.objs.size) { s with heap := h', toks := tk }) :
    wpAny (model prog w) A (Builtin.«zip.__next__» ⟨[.ref z], []⟩) (fun fin s' => ∃ v, fin = .done (.ret v) ∧ Q v s') E s := by
  show wpAny _ _ (field (.ref z) 2 >>= fun _ => _) _ _ _
  refine wpAny_bind (wpAny_field hZ rfl (x := .bool false) rfl ?_)
  show wpAny _ _ (field (.ref z) 3 >>= fun _ => _) _ _ _
  refine wpAny_bind (wpAny_field hZ rfl (x := .ref TI) rfl ?_)
  refine wpAny_bind (wpAny_seqItems pI rfl ?_)
  show wpAny _ _ (Builtin.SmallTypes.ownedTupleIsFree (.ref z) >>= fun _ => _) _ _ _
  refine wpAny_bind ?_
  unfold Builtin.SmallTypes.ownedTupleIsFree
  refine wpAny_bind (wpAny_field hZ rfl (x := .none) rfl (wpAny_pure ?_))
  simp only [if_true]
  refine wpAny_bind (wpAny_rule (wpAny_bind (wpAny_field hZ rfl (x := .ref TO) rfl ?_)))
  refine wpAny_bind (wpAny_setField_rec hZ (by simp) fun g1 zg1 k1 => ?_)
  replace zg1 : IsZip g1 z TI TO .ellipsis := zg1
  refine wpAny_bind ?_
  simp only [List.zipIdx_cons, List.zipIdx_nil, List.forIn_cons, List.forIn_nil]
  refine wpAny_bind (wpAny_bind (wpAny_onRaise ?_))
  show wpAny _ _ (Builtin.SmallTypes.nextOf (.ref i1) >>= fun _ => _) _ _ _
  refine wpAny_bind (D1.item k _ _ _ l1 (D1.frame _ _ _ t1 fun c hc o e => k1.extBut _ _ (fun q => D.b2 (q ▸ hc)) e) fun x g2 tk2 px sg2 k2 => wpAny_pure ?_)
  have pO2 : IsPair g2 TO a b := k2.extBut _ _ D.a8 (k1.extBut _ _ D.a2 pO)
  refine wpAny_bind (wpAny_seqItems pO2 rfl (wpAny_bind (wpAny_updateSeq_pair pO2 fun g3 pO3 k3 => ?_)))
  replace pO3 : IsPair g3 TO x b := pO3
  refine wpAny_bind (wpAny_letGo (wpAny_pure (wpAny_bind (wpAny_bind (wpAny_onRaise ?_)))))
  show wpAny _ _ (Builtin.SmallTypes.nextOf (.ref i2) >>= fun _ => _) _ _ _
  have t2' : S2 k g3 := D2.frame _ _ _ t2 fun c hc o e => k3.extBut _ _ (fun q => D.b5 (q ▸ hc)) (k2.extBut _ _ (fun q => D.b6 (q ▸ hc)) (k1.extBut _ _ (fun q => D.b3 (q ▸ hc)) e))
  refine wpAny_bind (D2.item k _ _ _ l2 t2' fun y g4 tk4 py sg4 k4 => wpAny_pure ?_)
  have pO4 : IsPair g4 TO x b := k4.extBut _ _ D.a9 pO3
  refine wpAny_bind (wpAny_seqItems pO4 rfl (wpAny_bind (wpAny_updateSeq_pair pO4 fun g5 pO5 k5 => ?_)))
  replace pO5 : IsPair g5 TO x y := pO5
  refine wpAny_bind (wpAny_letGo (wpAny_pure (wpAny_pure (wpAny_bind (wpAny_seqItems pO5 rfl (wpAny_bind (wpAny_newTuple ?_)))))))
  have sz : g5.objs.size = s.heap.objs.size := by rw [k5.1, k4.1, k3.1, k2.1, k1.1]
  have zg5 : IsZip g5 z TI TO .ellipsis := k5.extBut _ _ D.a2.symm (k4.extBut _ _ D.a4.symm (k3.extBut _ _ D.a2.symm (k2.extBut _ _ D.a3.symm zg1)))
  have kk : ∀ c o, c ≠ z → c ≠ TO → c ≠ i1 → c ≠ i2 → s.heap.get? c = some o → g5.get? c = some o := fun c o c1 c2 c3 c4 e => k5.extBut _ _ c2 (k4.extBut _ _ c4 (k3.extBut _ _ c2 (k2.extBut _ _ c3 (k1.extBut _ _ c1 e))))
  have u1 : S1 (k + 1) g5 := D1.frame _ _ _ sg2 fun c hc o e => k5.extBut _ _ (fun q => D.b4 (q ▸ hc)) (k4.extBut _ _ (fun q => D.b7 (q ▸ hc)) (k3.extBut _ _ (fun q => D.b4 (q ▸ hc)) e))
  have u2 : S2 (k + 1) g5 := D2.frame _ _ _ sg4 fun c hc o e => k5.extBut _ _ (fun q => D.b5 (q ▸ hc)) e
  have zlt : z < g5.objs.size := Heap.lt_size zg5
  show wpAny _ _ (Builtin.SmallTypes.ownedTupleHandOut (.ref z) (.ref g5.objs.size) >>= fun _ => _) _ _ _
  refine wpAny_bind ?_
  unfold Builtin.SmallTypes.ownedTupleHandOut
  have zg6 : IsZip (g5.push { cls := .type "tuple", data := .seq #[x, y] }) z TI TO .ellipsis := Heap.get?_push_of_some _ zg5
  refine wpAny_bind (wpAny_setField_rec zg6 (by simp) fun g7 zg7 k7 => ?_)
  replace zg7 : IsZip g7 z TI TO (rawInt g5.objs.size) := zg7
  refine wpAny_setField_rec zg7 (by simp) fun g8 zg8 k8 => ?_
  replace zg8 : IsZip g8 z TI TO (rawInt g5.objs.size) := zg8
  have up : ∀ c o, c ≠ z → g5.get? c = some o → g8.get? c = some o := fun c o c1 e => k8.extBut _ _ c1 (k7.extBut _ _ c1 (Heap.get?_push_of_some _ e))
  have pT : IsPair g8 g5.objs.size x y := k8.extBut _ _ (Nat.ne_of_gt zlt) (k7.extBut _ _ (Nat.ne_of_gt zlt) (Heap.get?_push_size _ rfl))
  rw [sz] at zg8 pT
  refine wpAny_pure ⟨_, rfl, ?_⟩
  show Q (.ref g5.objs.size) _
  rw [sz]
  exact hQ g8 _ x y px py zg8 (up _ _ D.a2 pO5) (D1.frame _ _ _ u1 fun c hc o e => up c o (fun q => D.b2 (q ▸ hc)) e) (D2.frame _ _ _ u2 fun c hc o e => up c o (fun q => D.b3 (q ▸ hc)) e) pT fun c o c1 c2 c3 c4 e => up c o c1 (kk c o c1 c2 c3 c4 e)
theorem zip_endD {k : Nat} {a b : Value} {Q : Fin → Shared → Prop} (D : ZAp z TI TO i1 i2 f1 f2) (D1 : Draws prog w A i1 f1 n1 P1 S1) (D2 : Draws prog w A i2 f2 n2 P2 S2)
    (hZ : IsZip s.heap z TI TO .none) (pI : IsPair s.heap TI (.ref i1) (.ref i2)) (pO : IsPair s.heap TO a b) (t1 : S1 k s.heap) (t2 : S2 k s.heap) (hend : k = n1 ∨ (k < n1 ∧ k = n2))
    (hE : ∀ h' tk e, (∀ c o, c ≠ z → c ≠ TO → c ≠ i1 → c ≠ i2 → s.heap.get? c = some o → h'.get? c = some o) → (∃ o, h'.get? e = some o ∧ o.cls = .type "StopIteration") → E (.ref e) { s with heap := h', toks := tk }) :
    wpAny (model prog w) A (Builtin.«zip.__next__» ⟨[.ref z], []⟩) Q E s := by
  show wpAny _ _ (field (.ref z) 2 >>= fun _ => _) _ _ _
  refine wpAny_bind (wpAny_field hZ rfl (x := .bool false) rfl ?_)
  show wpAny _ _ (field (.ref z) 3 >>= fun _ => _) _ _ _
  refine wpAny_bind (wpAny_field hZ rfl (x := .ref TI) rfl ?_)
  refine wpAny_bind (wpAny_seqItems pI rfl ?_)
  show wpAny _ _ (Builtin.SmallTypes.ownedTupleIsFree (.ref z) >>= fun _ => _) _ _ _
  refine wpAny_bind ?_
  unfold Builtin.SmallTypes.ownedTupleIsFree
  refine wpAny_bind (wpAny_field hZ rfl (x := .none) rfl (wpAny_pure ?_))
  simp only [if_true]
  refine wpAny_bind (wpAny_rule (wpAny_bind (wpAny_field hZ rfl (x := .ref TO) rfl ?_)))
  refine wpAny_bind (wpAny_setField_rec hZ (by simp) fun g1 zg1 k1 => ?_)
  replace zg1 : IsZip g1 z TI TO .ellipsis := zg1
  refine wpAny_bind ?_
  simp only [List.zipIdx_cons, List.zipIdx_nil, List.forIn_cons, List.forIn_nil]
  refine wpAny_bind (wpAny_bind (wpAny_onRaise ?_))
  show wpAny _ _ (Builtin.SmallTypes.nextOf (.ref i1) >>= fun _ => _) _ _ _
  have t1' : S1 k g1 := D1.frame _ _ _ t1 fun c hc o e => k1.extBut _ _ (fun q => D.b2 (q ▸ hc)) e
  rcases hend with rfl | ⟨l1, rfl⟩
  · refine wpAny_bind (D1.done _ _ _ t1' fun g2 e k2 he => ?_)
    obtain ⟨oe, ge, ce⟩ := he
    have zg2 : IsZip g2 z TI TO .ellipsis := k2 _ _ D.a3.symm zg1
    have ne : e ≠ z := fun q => by subst q; rw [zg2] at ge; cases ge; simp at ce
    exact wpAny_setField_rec zg2 (by simp) fun g3 _ k3 => hE g3 _ e (fun c o c1 _ c3 _ q => k3.extBut _ _ c1 (k2 _ _ c3 (k1.extBut _ _ c1 q))) ⟨oe, k3.extBut _ _ ne ge, ce⟩
  · refine wpAny_bind (D1.item k _ _ _ l1 t1' fun x g2 tk2 px sg2 k2 => wpAny_pure ?_)
    have pO2 : IsPair g2 TO a b := k2.extBut _ _ D.a8 (k1.extBut _ _ D.a2 pO)
    refine wpAny_bind (wpAny_seqItems pO2 rfl (wpAny_bind (wpAny_updateSeq_pair pO2 fun g3 pO3 k3 => ?_)))
    refine wpAny_bind (wpAny_letGo (wpAny_pure (wpAny_bind (wpAny_bind (wpAny_onRaise ?_)))))
    show wpAny _ _ (Builtin.SmallTypes.nextOf (.ref i2) >>= fun _ => _) _ _ _
    have t2' : S2 k g3 := D2.frame _ _ _ t2 fun c hc o e => k3.extBut _ _ (fun q => D.b5 (q ▸ hc)) (k2.extBut _ _ (fun q => D.b6 (q ▸ hc)) (k1.extBut _ _ (fun q => D.b3 (q ▸ hc)) e))
    refine wpAny_bind (D2.done _ _ _ t2' fun g4 e k4 he => ?_)
    obtain ⟨oe, ge, ce⟩ := he
    have zg4 : IsZip g4 z TI TO .ellipsis := k4 _ _ D.a4.symm (k3.extBut _ _ D.a2.symm (k2.extBut _ _ D.a3.symm zg1))
    have ne : e ≠ z := fun q => by subst q; rw [zg4] at ge; cases ge; simp at ce
    exact wpAny_setField_rec zg4 (by simp) fun g5 _ k5 => hE g5 _ e (fun c o c1 c2 c3 c4 q => k5.extBut _ _ c1 (k4 _ _ c4 (k3.extBut _ _ c2 (k2.extBut _ _ c3 (k1.extBut _ _ c1 q))))) ⟨oe, k5.extBut _ _ ne ge, ce⟩
end
end PySem
namespace PySem
open Builtin
section
variable {prog : Program} {w : World} {A : Around} {E : Value → Shared → Prop} {s : Shared} {z TI TO i1 i2 : Addr} {f1 f2 : List Addr} {n1 n2 : Nat} {P1 P2 : Nat → Value → Prop} {S1 S2 : Nat → Heap → Prop}
theorem pyNext_zip_itemD {k : Nat} {a b : Value} {Q : Option Value → Shared → Prop} (D : ZAp z TI TO i1 i2 f1 f2) (D1 : Draws prog w A.in1 i1 f1 n1 P1 S1) (D2 : Draws prog w A.in1 i2 f2 n2 P2 S2)
    (hZ : IsZip s.heap z TI TO .none) (pI : IsPair s.heap TI (.ref i1) (.ref i2)) (pO : IsPair s.heap TO a b) (t1 : S1 k s.heap) (t2 : S2 k s.heap) (l1 : k < n1) (l2 : k < n2)
    (hQ : ∀ h' tk x y, P1 k x → P2 k y → IsZip h' z TI TO (rawInt s.heap.objs.size) → IsPair h' TO x y → S1 (k + 1) h' → S2 (k + 1) h' → IsPair h' s.heap.objs.size x y →
      (∀ c o, c ≠ z → c ≠ TO → c ≠ i1 → c ≠ i2 → s.heap.get? c = some o → h'.get? c = some o) → Q (some (.ref s.heap.objs.size)) { s with heap := h', toks := tk }) :
    wpAny (model prog w) A (pyNext (.ref z)) Q E s := by
  have tz : s.TypeIs (.ref z) "zip" := ⟨_, hZ, rfl⟩
  unfold pyNext
  exact wpAny_bind (wpAny_attempt (wpAny_callSpecial?_slot (name := Str.ofString "__next__") tz F.slot_zip_next (wpAny_call_entry F.slot_zip_next tz F.entry_zip_next
      (zip_itemD D D1 D2 hZ pI pO t1 t2 l1 l2 fun h' tk x y a1 a2 a3 a4 a5 a6 a7 a8 => wpAny_pure (hQ h' tk x y a1 a2 a3 a4 a5 a6 a7 a8)) (F.args_zip_next_1 _))))
theorem pyNext_zip_endD {k : Nat} {a b : Value} {Q : Option Value → Shared → Prop} (D : ZAp z TI TO i1 i2 f1 f2) (D1 : Draws prog w A.in1 i1 f1 n1 P1 S1) (D2 : Draws prog w A.in1 i2 f2 n2 P2 S2)
    (hZ : IsZip s.heap z TI TO .none) (pI : IsPair s.heap TI (.ref i1) (.ref i2)) (pO : IsPair s.heap TO a b) (t1 : S1 k s.heap) (t2 : S2 k s.heap) (hend : k = n1 ∨ (k < n1 ∧ k = n2))
    (hQ : ∀ h' tk, (∀ c o, c ≠ z → c ≠ TO → c ≠ i1 → c ≠ i2 → s.heap.get? c = some o → h'.get? c = some o) → Q none { s with heap := h', toks := tk }) :
    wpAny (model prog w) A (pyNext (.ref z)) Q E s := by
  have tz : s.TypeIs (.ref z) "zip" := ⟨_, hZ, rfl⟩
  unfold pyNext
  refine wpAny_bind (wpAny_attempt (wpAny_callSpecial?_slot (name := Str.ofString "__next__") tz F.slot_zip_next (wpAny_call_entry F.slot_zip_next tz F.entry_zip_next (zip_endD D D1 D2 hZ pI pO t1 t2 hend fun h' tk e hk he => ?_) (F.args_zip_next_1 _))))
  obtain ⟨o, ho, hc⟩ := he
  exact wpAny_bind (wpAny_isInstance (T := "StopIteration") (b := true) ⟨o, ho, hc⟩ isSubtype_stop (wpAny_pure (hQ _ _ hk)))
end
abbrev zT1 (h : Heap) (a : Addr) : Heap := h.push { cls := .type "tuple_iterator", data := .fields #[.ref a, .int 0 0] }
abbrev zT2 (h : Heap) (a b : Addr) : Heap := (zT1 h a).push { cls := .type "tuple_iterator", data := .fields #[.ref b, .int 0 0] }
abbrev zT3 (h : Heap) (a b : Addr) : Heap := (zT2 h a b).push { cls := .type "tuple", data := .seq #[.ref h.objs.size, .ref (zT1 h a).objs.size] }
abbrev zT4 (h : Heap) (a b : Addr) : Heap := (zT3 h a b).push { cls := .type "tuple", data := .seq #[.none, .none] }
abbrev zT5 (h : Heap) (a b : Addr) : Heap := (zT4 h a b).push { cls := .type "zip", data := .fields #[.none, .bool false, .bool false, .ref (zT2 h a b).objs.size, .ref (zT3 h a b).objs.size] }
theorem meets_zip_tt (a b : Addr) (xs ys : Array Value) :
    Meets (Builtin.«zip.__new__» ⟨[.type "zip", .ref a, .ref b], []⟩) (fun _ R s => s.heap.IsTuple a xs ∧ s.heap.IsTuple b ys ∧ R (.ok (.ret (.ref (zT4 s.heap a b).objs.size))) { s with heap := zT5 s.heap a b }) :=
  .of_wp fun prog w A R s h => by
    obtain ⟨hp, g, d, tk, os⟩ := s
    obtain ⟨ta, tb, h⟩ := h
    have hsub := sub_zip
    have q1 : Heap.IsTuple (Shared.heap ⟨hp, g, d, tk, os⟩) a xs := ta
    have q2 : Heap.IsTuple (Shared.heap ⟨hp.push { cls := .type "tuple_iterator", data := .fields #[.ref a, .int 0 0] }, g, d, tk, os⟩) b ys := let ⟨o, ho, r⟩ := tb; ⟨o, Heap.get?_push_of_some _ ho, r⟩
    wp_walk using wpAny_pyIter_tuple q1, wpAny_pyIter_tuple q2
    exact ⟨_, rfl, h⟩
section
variable {prog : Program} {w : World} {A : Around} {E : Value → Shared → Prop} {s : Shared}
theorem call_zip_tt {a b : Addr} {xs ys : Array Value} {Q : Value → Shared → Prop} (ta : s.heap.IsTuple a xs) (tb : s.heap.IsTuple b ys)
    (h : ∀ h', IsZip h' (s.heap.objs.size + 4) (s.heap.objs.size + 2) (s.heap.objs.size + 3) .none → IsPair h' (s.heap.objs.size + 2) (.ref s.heap.objs.size) (.ref (s.heap.objs.size + 1)) → IsPair h' (s.heap.objs.size + 3) .none .none →
      h'.IsTupleIter s.heap.objs.size a 0 → h'.IsTupleIter (s.heap.objs.size + 1) b 0 → (∀ c o, s.heap.get? c = some o → h'.get? c = some o) → Q (.ref (s.heap.objs.size + 4)) { s with heap := h' }) :
    wpAny (model prog w) A (call (.type "zip") [.ref a, .ref b]) Q E s := by
  refine callType_new F.called_zip (by decide) (F.typeCall_zip_2 _ _) (F.newCall_zip_2 _ _) (fun obj => F.args_object_init_3 obj _ _) F.entry_zip_new (meets_zip_tt a b xs ys) ⟨ta, tb, ?_⟩
  have y1 : (zT1 s.heap a).objs.size = s.heap.objs.size + 1 := Heap.size_push ..
  have y2 : (zT2 s.heap a b).objs.size = s.heap.objs.size + 2 := by rw [Heap.size_push, y1]
  have y3 : (zT3 s.heap a b).objs.size = s.heap.objs.size + 3 := by rw [Heap.size_push, y2]
  have y4 : (zT4 s.heap a b).objs.size = s.heap.objs.size + 4 := by rw [Heap.size_push, y3]
  have e5 : (zT5 s.heap a b).get? (zT4 s.heap a b).objs.size = some _ := Heap.get?_push_size _ rfl
  have e4 : (zT5 s.heap a b).get? (zT3 s.heap a b).objs.size = some _ := Heap.get?_push_of_some _ (Heap.get?_push_size _ rfl)
  have e3 : (zT5 s.heap a b).get? (zT2 s.heap a b).objs.size = some _ := Heap.get?_push_of_some _ (Heap.get?_push_of_some _ (Heap.get?_push_size _ rfl))
  have e2 : (zT5 s.heap a b).get? (zT1 s.heap a).objs.size = some _ := Heap.get?_push_of_some _ (Heap.get?_push_of_some _ (Heap.get?_push_of_some _ (Heap.get?_push_size _ rfl)))
  have e1 : (zT5 s.heap a b).get? s.heap.objs.size = some _ := Heap.get?_push_of_some _ (Heap.get?_push_of_some _ (Heap.get?_push_of_some _ (Heap.get?_push_of_some _ (Heap.get?_push_size _ rfl))))
  show _ ∧ _
  rw [y2, y3, y4] at e5
  rw [y1, y2] at e3
  rw [y3] at e4
  rw [y1] at e2
  rw [y4]
  refine ⟨⟨_, e5, rfl⟩, h _ e5 e3 e4 ⟨_, e1, rfl, rfl⟩ ⟨_, e2, rfl, rfl⟩ fun c o e => ?_⟩
  exact Heap.get?_push_of_some _ (Heap.get?_push_of_some _ (Heap.get?_push_of_some _ (Heap.get?_push_of_some _ (Heap.get?_push_of_some _ e))))
end
end PySem
namespace L2
open PySem PySem.Spec PyProof.Rows
def Itz (K : PySem.W.Frag) (a b : Addr) : It :=
  ⟨fun i H => ∃ xs ys x y, SqT K H a xs ∧ SqT K H b ys ∧ xs[i]? = some x ∧ ys[i]? = some y, fun i H v H' => ∃ T x y, H T = none ∧ v = .ref T ∧ H' = upd H T (.tup [x, y]) ∧ (∀ xs, SqT K H a xs → xs[i]? = some x) ∧ ∀ ys, SqT K H b ys → ys[i]? = some y,
   fun i H => ∃ xs ys, SqT K H a xs ∧ SqT K H b ys ∧ (i = xs.length ∨ (i < xs.length ∧ i = ys.length))⟩
theorem zap_of {z TI TO i1 i2 a b : Addr} (nd : [z, TI, TO, i1, i2].Nodup) (na : a ∉ [z, TI, TO, i1, i2]) (nb : b ∉ [z, TI, TO, i1, i2]) : ZAp z TI TO i1 i2 [i1, a] [i2, b] := by
  simp only [List.nodup_cons, List.mem_cons, List.mem_nil_iff, or_false, not_or, List.nodup_nil, and_true, not_false_eq_true] at nd na nb
  obtain ⟨⟨q1, q2, q3, q4⟩, ⟨q5, q6, q7⟩, ⟨q8, q9⟩, q10⟩ := nd
  obtain ⟨r1, r2, r3, r4, r5⟩ := na
  obtain ⟨s1, s2, s3, s4, s5⟩ := nb
  constructor <;> first | exact Ne.symm ‹_› | assumption | (simp only [List.mem_cons, List.mem_nil_iff, or_false, not_or]; constructor <;> first | assumption | exact Ne.symm ‹_›)
theorem turn_zip {P : Program} {w : World} {K : PySem.W.Frag} {elts : List Expr} {x1} {pos : Pos} (a b z TI TO i1 i2 : Addr) (nd : [z, TI, TO, i1, i2].Nodup) (na : a ∉ [z, TI, TO, i1, i2]) (nb : b ∉ [z, TI, TO, i1, i2]) : Turn P w K (.Tuple elts x1 pos) (Itz K a b) [z, TI, TO, i1, i2] z
    (fun i h => IsZip h z TI TO .none ∧ IsPair h TI (.ref i1) (.ref i2) ∧ (∃ u v, IsPair h TO u v) ∧ h.IsTupleIter i1 a i ∧ h.IsTupleIter i2 b i) where
  mem := by simp
  obj := fun i h st c hc => by
    obtain ⟨h1, h2, ⟨u, v, h3⟩, ⟨o4, g4, _, d4⟩, ⟨o5, g5, _, d5⟩⟩ := st
    simp only [List.mem_cons, List.mem_nil_iff, or_false] at hc
    rcases hc with rfl | rfl | rfl | rfl | rfl
    · exact ⟨_, h1, fun v q => by cases q⟩
    · exact ⟨_, h2, fun v q => by cases q⟩
    · exact ⟨_, h3, fun v q => by cases q⟩
    · exact ⟨_, g4, fun v q => by rw [d4] at q; cases q⟩
    · exact ⟨_, g5, fun v q => by rw [d5] at q; cases q⟩
  keep := fun i h h' st k => by
    obtain ⟨h1, h2, ⟨u, v, h3⟩, h4, h5⟩ := st
    exact ⟨k z (by simp) _ h1, k TI (by simp) _ h2, ⟨u, v, k TO (by simp) _ h3⟩, h4.at fun o q => k i1 (by simp) o q, h5.at fun o q => k i2 (by simp) o q⟩
  item := by
    intro X hP hw hK hc i pins s σ H E I hf st hg
    subst hP hw hK
    obtain ⟨hZ, pI, ⟨u, v, pO⟩, t1, t2⟩ := st
    obtain ⟨xs, ys, x, y, ha, hb, hx, hy⟩ := hg
    obtain ⟨its, rv, p1, _⟩ := I.tuple ha
    obtain ⟨jts, rw', p2, _⟩ := I.tuple hb
    obtain ⟨ux, hux, rx⟩ := rv.get hx
    obtain ⟨uy, huy, ry⟩ := rw'.get hy
    have AP := zap_of nd na nb
    have fresh : H s.heap.objs.size = none := I.hok.fresh (Nat.le_refl _)
    have ltz : ∀ c ∈ [z, TI, TO, i1, i2], c ≠ s.heap.objs.size := by
      intro c hc
      obtain ⟨o4, g4, _⟩ := id t1
      obtain ⟨o5, g5, _⟩ := id t2
      simp only [List.mem_cons, List.mem_nil_iff, or_false] at hc
      rcases hc with rfl | rfl | rfl | rfl | rfl
      · exact Nat.ne_of_lt (Heap.lt_size hZ)
      · exact Nat.ne_of_lt (Heap.lt_size pI)
      · exact Nat.ne_of_lt (Heap.lt_size pO)
      · exact Nat.ne_of_lt (Heap.lt_size g4)
      · exact Nat.ne_of_lt (Heap.lt_size g5)
    refine pyNext_zip_itemD AP (Draws.tup (A := X.A.in1) (I.ok.hd hc) i1 a (fun q => na (by simp [q])) its.toArray) (Draws.tup (A := X.A.in1) (I.ok.hd hc) i2 b (fun q => nb (by simp [q])) jts.toArray) hZ pI pO ⟨t1, p1⟩ ⟨t2, p2⟩
      (by have := (List.getElem?_eq_some_iff.mp hux).1; simpa using this) (by have := (List.getElem?_eq_some_iff.mp huy).1; simpa using this) fun h' tk xv yv px py z' pO' s1' s2' pT kk => ⟨_, rfl, ?_⟩
    have ex : ux = xv := Option.some.inj (hux.symm.trans (by simpa using px))
    have ey : uy = yv := Option.some.inj (huy.symm.trans (by simpa using py))
    subst ex ey
    refine wpAny_letOwnedTupleGo_zip (s := { s with heap := h', toks := tk }) z' fun h2 z2 sb => ?_
    have I1 : Inv X pins σ (upd H s.heap.objs.size (.tup [x, y])) { s with heap := s.heap.push { cls := .type "tuple", data := .seq #[ux, uy] }, toks := s.toks } :=
      I.laid (o := .tup [x, y]) (fun b ob q => Heap.get?_push_of_some _ q) (Nat.le_refl _) ⟨by rw [sizeLine_eq]; simp, [ux, uy], .cons rx (.cons ry .nil), IsTupN.new _ _⟩
    have I2 := I1.turnedL (h' := h2) (t' := tk) [z, TI, TO, i1, i2] (fun c o hc' q => ?_) (fun c hc' => (hf c hc').up (ltz c hc'))
    · refine ⟨.ref s.heap.objs.size, _, I2, rfl, ⟨_, x, y, fresh, rfl, rfl, fun ys' hy' => by rw [I.tuple_inj hy' ha]; exact hx, fun ys' hy' => by rw [I.tuple_inj hy' hb]; exact hy⟩,
        ⟨z2, (sb.2 TI AP.a1).trans (kk _ _ AP.a1 AP.a5 AP.a6 AP.a7 pI), ⟨_, _, (sb.2 TO AP.a2).trans pO'⟩, s1'.1.at fun o q => (sb.2 i1 AP.a3).trans q, s2'.1.at fun o q => (sb.2 i2 AP.a4).trans q⟩, fun c hc' => ?_⟩
      rw [upd_ne (ltz c hc')]; exact (hf c hc').1
    · have c1 : c ≠ z := fun q => hc' (by simp [q])
      have c2 : c ≠ TO := fun q => hc' (by simp [q])
      have c3 : c ≠ i1 := fun q => hc' (by simp [q])
      have c4 : c ≠ i2 := fun q => hc' (by simp [q])
      refine (sb.2 c c1).trans ?_
      by_cases hcs : c = s.heap.objs.size
      · subst hcs
        rw [Heap.get?_push_size _ rfl] at q
        cases q
        exact pT
      · rw [Heap.get?_push_ne _ _ _ hcs] at q
        exact kk c o c1 c2 c3 c4 q
  done := by
    intro X hP hw hK hc i pins s σ H E I hf st hg
    subst hP hw hK
    obtain ⟨hZ, pI, ⟨u, v, pO⟩, t1, t2⟩ := st
    obtain ⟨xs, ys, ha, hb, hend⟩ := hg
    obtain ⟨its, rv, p1, _⟩ := I.tuple ha
    obtain ⟨jts, rw', p2, _⟩ := I.tuple hb
    have AP := zap_of nd na nb
    have l1 := rv.length
    have l2 := rw'.length
    refine pyNext_zip_endD AP (Draws.tup (A := X.A.in1) (I.ok.hd hc) i1 a (fun q => na (by simp [q])) its.toArray) (Draws.tup (A := X.A.in1) (I.ok.hd hc) i2 b (fun q => nb (by simp [q])) jts.toArray) hZ pI pO ⟨t1, p1⟩ ⟨t2, p2⟩
      (by simp only [List.size_toArray]; omega) fun h' tk kk => ⟨rfl, I.turnedL (t' := tk) [z, TI, TO, i1, i2] (fun c o hc' q => ?_) hf⟩
    exact kk c o (fun q => hc' (by simp [q])) (fun q => hc' (by simp [q])) (fun q => hc' (by simp [q])) (fun q => hc' (by simp [q])) q
  self := fun A i s Q E st h => wpAny_pyIter_zip st.1 h
def iZip (K : PySem.W.Frag) (ta : TA) : TI := fun σ H R => ta σ H fun vs H1 => ∃ a b xs ys, vs = [.ref a, .ref b] ∧ SqT K H1 a xs ∧ SqT K H1 b ys ∧ R (Itz K a b) H1
theorem pi_zip {X : Cx} {elts : List Expr} {x1} {tpos : Pos} {e1 e2 : Expr} {ta : TA} {p pos : Pos} (hg : Gl X "zip") (hm : X.mg "zip" = none) (ha : PA X [e1, e2] ta) (hs : starEach [e1, e2] X.env = [(false, eval e1 X.env), (false, eval e2 X.env)] := by rfl) (hs2 : starEach [e2] X.env = [(false, eval e2 X.env)] := by rfl) :
    PI X (.Tuple elts x1 tpos) (.Call (.Name "zip" p) [e1, e2] [] pos) (iZip X.K ta) := by
  intro pins s σ H R I h
  refine Call_ (ld_blt I hg hm (show bootBuiltins "zip" = some (.type "zip") by decide +kernel) (PyProof.Rows.callWith_type1 (thn (ha pos pins s σ H _ I h) fun us s1 ⟨vs, H1, I1, r1, q1⟩ => ?_) (by rw [hs, hs2]) (by rw [hs2]; rfl)))
  obtain ⟨a, b, xs, ys, e, hqa, hqb, q⟩ := q1
  subst e
  cases r1 with
  | cons r rr =>
    cases rr with
    | cons r' rr =>
      cases rr
      cases r
      cases r'
      obtain ⟨its, rv, p1, _⟩ := I1.tuple hqa
      obtain ⟨jts, rw', p2, _⟩ := I1.tuple hqb
      refine call_zip_tt p1 p2 fun h' hZ pI pO t1 t2 kk => wpAny_pyIter_zip hZ ?_
      obtain ⟨oa, ga, _⟩ := id p1
      obtain ⟨ob, gb, _⟩ := id p2
      have la := Heap.lt_size ga
      have lb := Heap.lt_size gb
      have big : ∀ c ∈ [s1.heap.objs.size + 4, s1.heap.objs.size + 2, s1.heap.objs.size + 3, s1.heap.objs.size, s1.heap.objs.size + 1], s1.heap.objs.size ≤ c := by
        intro c hc
        simp only [List.mem_cons, List.mem_nil_iff, or_false] at hc
        rcases hc with rfl | rfl | rfl | rfl | rfl <;> first | exact Nat.le_add_right _ _ | exact Nat.le_refl _
      refine ⟨s1.heap.objs.size + 4, [s1.heap.objs.size + 4, s1.heap.objs.size + 2, s1.heap.objs.size + 3, s1.heap.objs.size, s1.heap.objs.size + 1], _, _, H1, rfl, I1.kept (t' := s1.toks) kk,
        turn_zip a b _ _ _ _ _ ?_ (fun q => Nat.lt_irrefl _ (Nat.lt_of_lt_of_le la (big _ q))) (fun q => Nat.lt_irrefl _ (Nat.lt_of_lt_of_le lb (big _ q))), ⟨hZ, pI, ⟨_, _, pO⟩, t1, t2⟩, fun c hc => I1.fpOk (big c hc) (I1.hok.fresh (big c hc)), q⟩
      generalize s1.heap.objs.size = n
      show List.Nodup ([n + 4, n + 2, n + 3, n, n + 1] : List Nat)
      simp
section
variable {g : TG} {ti : TT} {te : TE} {Q : VK} {D : Addr} {σ : St} {H : Hp}
theorem comp_zip {K : PySem.W.Frag} {a b : Addr} {xs ys : List V} (Pv : Nat → St → List V → Hp → Prop) (h0 : Pv 0 σ [] (upd H D (.lst []))) (hl : ∀ i σ zs H, i ≤ xs.length → i ≤ ys.length → Pv i σ zs H → SqT K H a xs ∧ SqT K H b ys ∧ H D = some (.lst zs))
    (hs : ∀ i x y σ zs H T, xs[i]? = some x → ys[i]? = some y → Pv i σ zs H → H T = none → cturn g ti te D (.ref T) σ zs (upd H T (.tup [x, y])) (Pv (i + 1))) (hd : ∀ i σ zs H, i = min xs.length ys.length → Pv i σ zs H → Q (.ref D) H) :
    cgo (Itz K a b) g ti te D σ H Q := by
  refine ⟨fun i m σ zs H => m = xs.length - i ∧ i ≤ xs.length ∧ i ≤ ys.length ∧ Pv i σ zs H, ⟨xs.length, by simp, Nat.zero_le _, Nat.zero_le _, h0⟩, ?_⟩
  rintro i m σ zs H ⟨rfl, hi, hj, p⟩
  obtain ⟨q1, q2, hD⟩ := hl i σ zs H hi hj p
  refine ⟨hD, ?_⟩
  by_cases hlt : i < xs.length ∧ i < ys.length
  · refine .inr ⟨⟨xs, ys, xs[i], ys[i], q1, q2, by simp [hlt.1], by simp [hlt.2]⟩, Pv (i + 1), fun σ' ys' H' p' => ⟨xs.length - (i + 1), by omega, rfl, hlt.1, hlt.2, p'⟩, fun x H' y => ?_⟩
    obtain ⟨T, x, y, hT, rfl, rfl, y1, y2⟩ := y
    exact hs i x y σ zs H T (y1 xs q1) (y2 ys q2) p hT
  · exact .inl ⟨⟨xs, ys, q1, q2, by omega⟩, hd i σ zs H (by omega) p⟩
end
end L2
set_option maxHeartbeats 4000000
namespace HT
open PySem PyProof.Rows
end HT
namespace L2
open PySem PySem.Spec PyProof.Rows
theorem op_eqNil {X : Cx} (hu : X.A.units + 64 < cLine) : OpR X (compareOp .Eq) (fun x y H Q => ∃ (a b : Addr) (xs : List V), x = .ref a ∧ y = .ref b ∧ SqL X.K H a xs ∧ SqL X.K H b [] ∧ Q (.bl xs.isEmpty) H) := by
  intro pins s σ H x y u v Q I rx ry h
  obtain ⟨a, b, xs, rfl, rfl, ha, hb, q⟩ := h
  cases rx
  cases ry
  cases xs with
  | nil =>
    obtain ⟨as, r1⟩ := Rep.reads (u := .ref a) I (Rep.lst ha .nil) rfl
    obtain ⟨bs, r2⟩ := Rep.reads (u := .ref b) I (Rep.lst hb .nil) rfl
    exact SeqAt.compareEq_reads r1 r2 rfl rfl (by simp only [PyData.depth, PyData.depthAll]; omega) ⟨.bl _, H, I, rfl, q⟩
  | cons x xs =>
    obtain ⟨its, r1, h1, _⟩ := I.list ha
    obtain ⟨its2, r2, h2, _⟩ := I.list hb
    have l1 := r1.length
    have l2 := r2.length
    refine SeqAt.eq_list_lengthsAt h1.isList h2.isList (by simp at l1 l2 ⊢; omega) (by omega) ⟨.bl _, H, I, rfl, q⟩
theorem same_new {H : Hp} {p : Addr} {o : HO} (h : H p = none) : Same H (upd H p o) := fun b u e => by rw [upd_ne (ne_of_none e h)]; exact e
theorem same_refl (H : Hp) : Same H H := fun _ _ e => e
theorem small {n : Nat} (h : n ≤ 10000) : n ≤ sizeLine := by rw [sizeLine_eq]; exact Nat.le_trans (by assumption) (by decide)
theorem sqL_same {K : PySem.W.Frag} {H H' : Hp} {a : Addr} {xs : List V} (h : SqL K H a xs) (s : Same H H') : SqL K H' a xs := by
  rcases h with (e | ⟨o, e⟩) | e
  · exact .inl (.inl (s _ _ e))
  · exact .inl (.inr ⟨o, s _ _ e⟩)
  · exact .inr e
theorem none_of {H H' : Hp} {a : Addr} (s : Same H H') (h : H' a = none) : H a = none := by
  cases e : H a with
  | none => rfl
  | some o => rw [s _ _ e] at h; cases h
theorem pg_tupK {X : Cx} {es : List Expr} {k : Nat} {t : TGs} {pos : Pos} (K : PySem.W.Frag) (n : Nat) (hK : X.K = K) (hc : X.calm = true) (h : PGs X es t) (hn : (assignEach es X.env).length = n := by rfl) (hst : (assignEach es X.env).findIdx? (·.1) = none := by rfl) : PG X (.Tuple es k pos) (gTup K n t) := by
  subst hK
  exact pg_tup hc h hn hst
end L2
set_option maxHeartbeats 4000000
namespace PySem
open Builtin
section
variable {prog : Program} {w : World} {A : Around} {E : Value → Shared → Prop} {s : Shared}
theorem collect_rng {Q : List Value → Shared → Prop} {r : Addr} {a b c : Int} {t u v : Tok} {n : Nat} (hh : A.handled = none) (hr : IsRange s.heap r a b c t u v) (hsmall : Builtin.Range.small a b c = true) (hn : Builtin.Range.rangeSize a b c = n) (hlen : n ≤ 2 ^ 24)
    (hQ : ∀ (h' : Heap) (tk : Nat) (acc : Array Value), (∀ b o, s.heap.get? b = some o → h'.get? b = some o) → ItemsOf (fun i v => ∃ t, v = .int (a + i * c) t) acc n → Q acc.toList { s with heap := h', toks := tk }) : wpAny (model prog w) A (collect (.ref r)) Q E s := by
  unfold collect
  refine wpAny_bind (wpAny_runValue (codeAny_builtin F.entry_proto_collect ?_))
  rw [Around.under_plainId F.plain_proto_collect _]
  show wpAny _ A.in1 (newList [] >>= fun l => again (.builtin "list.__iadd__" ⟨[l, .ref r], []⟩)) _ _ s
  refine wpAny_bind (wpAny_newObj_type (wpAny_pure ⟨plainId_quiet F.plain_list_iadd _, codeAny_builtin F.entry_list_iadd ?_⟩))
  rw [Around.under_plainId F.plain_list_iadd _]
  show wpAny _ A.in1 (Builtin.List.listExtendWith (.ref s.heap.objs.size) (.ref r) (.ref s.heap.objs.size)) _ _ _
  have oS : (s.heap.push { cls := .type "list", data := .seq ([] : List Value).toArray }).get? s.heap.objs.size = some { cls := .type "list", data := .seq ([] : List Value).toArray } := Heap.get?_push_size _ rfl
  have key := wpAny_extend_range (prog := prog) (w := w) (A := A) (s := { s with heap := s.heap.push { cls := .type "list", data := .seq ([] : List Value).toArray } })
    (R := fun r' s' => ∃ (h' : Heap) (tk : Nat) (acc : Array Value) (c' : Nat), r' = .ok (.ret (.ref s.heap.objs.size)) ∧ s' = { s with heap := h', toks := tk } ∧ (∀ b o, s.heap.get? b = some o → h'.get? b = some o) ∧ h'.get? s.heap.objs.size = some { cls := .type "list", dict := none, data := .seq acc c', slots := #[] } ∧ ItemsOf (fun i v => ∃ t, v = .int (a + i * c) t) acc n)
    hh (Heap.get?_push_of_some _ hr) hsmall hn hlen s.heap.objs.size (.ref s.heap.objs.size) _ oS fun h' tk acc' c' hk hS' hacc => ⟨h', tk, acc', c', rfl, rfl, fun b o e => hk b o (Nat.ne_of_lt (Heap.lt_size e)) (Heap.get?_push_of_some _ e), hS', hacc⟩
  have out : ∀ (r' : Result) (s' : Shared), (∃ (h' : Heap) (tk : Nat) (acc : Array Value) (c' : Nat), r' = .ok (.ret (.ref s.heap.objs.size)) ∧ s' = { s with heap := h', toks := tk } ∧ (∀ b o, s.heap.get? b = some o → h'.get? b = some o) ∧ h'.get? s.heap.objs.size = some { cls := .type "list", dict := none, data := .seq acc c', slots := #[] } ∧ ItemsOf (fun i v => ∃ t, v = .int (a + i * c) t) acc n) →
      ∃ (acc : Array Value) (c' : Nat), r' = .ok (.ret (.ref s.heap.objs.size)) ∧ s'.heap.get? s.heap.objs.size = some { cls := .type "list", dict := none, data := .seq acc c', slots := #[] } ∧ Q acc.toList s' := by
    rintro r' s' ⟨h', tk, acc, c', e1, rfl, e3, e4, e5⟩
    exact ⟨acc, c', e1, e4, hQ h' tk acc e3 e5⟩
  refine wpAny_mono key (fun fin s' hf => ?_) fun e s' he => ?_
  · cases fin with
    | done f =>
      obtain ⟨acc, c', e1, e2, e3⟩ := out _ _ hf
      cases e1
      show wpAny _ A (load s.heap.objs.size >>= fun _ => _) _ _ _
      exact wpAny_bind (wpAny_load e2 (wpAny_pure e3))
    | again c' =>
      refine ⟨hf.1, codeAny_mono hf.2 fun r' s' h' => ?_⟩
      obtain ⟨acc, c', e1, e2, e3⟩ := out _ _ h'
      subst e1
      show wpAny _ A (load s.heap.objs.size >>= fun _ => _) _ _ _
      exact wpAny_bind (wpAny_load e2 (wpAny_pure e3))
  · obtain ⟨_, _, e1, _⟩ := out _ _ he
    cases e1
end
theorem meets_tuple_rng (r : Addr) (a b c : Int) (t u v : Tok) (n : Nat) (hsmall : Builtin.Range.small a b c = true) (hn : Builtin.Range.rangeSize a b c = n) (hlen : n ≤ 2 ^ 24) (hz : n ≤ sizeLine) :
    Meets (Builtin.«tuple.__new__» ⟨[.type "tuple", .ref r], []⟩)
      (fun A R s => A.handled = none ∧ IsRange s.heap r a b c t u v ∧ ∀ (h' : Heap) (tk : Nat) (acc : Array Value), (∀ b o, s.heap.get? b = some o → h'.get? b = some o) → ItemsOf (fun i v => ∃ t, v = .int (a + i * c) t) acc n →
        R (.ok (.ret (.ref h'.objs.size))) { s with heap := h'.push { cls := .type "tuple", data := .seq acc }, toks := tk }) :=
  .of_wp fun prog w A R s h => by
    obtain ⟨hh, hr, h⟩ := h
    have hsub := sub_tuple_self
    have hinit := init_tuple_lookup
    have hmh := madeHere_tuple
    have tr : s.TypeIs (.ref r) "range" := ⟨_, hr, rfl⟩
    have hh1 : A.in1.handled = none := hh
    wp_walk using wpAny_typeOf tr, collect_rng hh1 hr hsmall hn hlen
    intro h' tk acc hk hacc
    show wpAny _ _ (Builtin.Tuple.tupleExact acc.toList.toArray >>= fun v => ret v) _ _ _
    unfold Builtin.Tuple.tupleExact
    refine wpAny_bind (wpAny_newObj_type ?_ (show acc.toList.toArray.size ≤ sizeLine by simp only [Array.toArray_toList]; rw [hacc.1]; exact hz))
    refine wpAny_pure ⟨_, rfl, ?_⟩
    have e : acc.toList.toArray = acc := by simp
    rw [e]
    exact h h' tk acc hk hacc
section
variable {prog : Program} {w : World} {A : Around} {E : Value → Shared → Prop} {s : Shared}
theorem call_tuple_rng' {Q : Value → Shared → Prop} {r : Addr} {a b c : Int} {t u v : Tok} {n : Nat} (hh : A.handled = none) (hr : IsRange s.heap r a b c t u v) (hsmall : Builtin.Range.small a b c = true) (hn : Builtin.Range.rangeSize a b c = n) (hlen : n ≤ 2 ^ 24) (hz : n ≤ sizeLine)
    (h : ∀ (h' : Heap) (tk : Nat) (acc : Array Value), (∀ b o, s.heap.get? b = some o → h'.get? b = some o) → ItemsOf (fun i v => ∃ t, v = .int (a + i * c) t) acc n → Q (.ref h'.objs.size) { s with heap := h'.push { cls := .type "tuple", data := .seq acc }, toks := tk }) :
    wpAny (model prog w) A (call (.type "tuple") [.ref r]) Q E s :=
  callType_new F.called_tuple (by decide) (F.typeCall_tuple_1 _) (F.newCall_tuple_1 _) (fun obj => F.args_object_init_2 obj _) F.entry_tuple_new (meets_tuple_rng r a b c t u v n hsmall hn hlen hz) ⟨hh, hr, fun h' tk acc hk hacc => ⟨⟨_, Heap.get?_push_size _ rfl, rfl⟩, h h' tk acc hk hacc⟩⟩
end
end PySem
namespace PySem
open Builtin
end PySem
namespace L2
open PySem PySem.Spec PyProof.Rows
section
variable {X : Cx}
theorem countP_vals {i : Int} : ∀ {ns : List Int} {us : List Value}, Vals (ns.map V.int) us → us.countP (fun v => match v with | .int j _ => j == i | _ => false) = ns.count i
  | [], _, .nil => rfl
  | n :: ns, _, .cons h t => by
    obtain ⟨u, rfl⟩ := h
    rw [List.countP_cons, List.count_cons, countP_vals t]
inductive RCountTP (K : PySem.W.Frag) (x : V) (vs : List V) (H : Hp) (Q : VK) : Prop
  | mk (a : Addr) (ns : List Int) (i : Int) : (x = .ref a) → (vs = [.int i]) → (SqT K H a (ns.map V.int)) → (Q (.int (ns.count i : Nat)) H) → RCountTP K x vs H Q
def rCountT (K : PySem.W.Frag) : V → List V → Hp → VK → Prop := fun x vs H Q => RCountTP K x vs H Q
theorem mt_countT : MtM X "tuple.count" (rCountT X.K) := by
  intro pins s σ H x xs v us Q I rx r h
  obtain ⟨a, ns, i, rfl, rfl, ha, q⟩ := h
  cases rx
  obtain ⟨u, rfl, ⟨t, rfl⟩⟩ := vals1 r
  obtain ⟨its, rv, p, hz⟩ := I.tuple ha
  obtain ⟨⟨cls, dd, data, sl⟩, ho, hc, n, hd⟩ := id p
  simp only at hc hd
  subst hc hd
  refine call_meets PySem.F.slot_tuple_count ⟨_, ho, rfl⟩ PySem.F.entry_tuple_count (PySem.F.args_tuple_count_2 _ _) (SeqAt.tuple_countAt a its.toArray n dd sl (.int i t) (fun v => match v with | .int j _ => j == i | _ => false)) ⟨ho, ?_, ?_⟩
  · intro y hy
    have hy : y ∈ its := by simpa using hy
    have : ∀ {ns : List Int} {us : List Value}, Vals (ns.map V.int) us → ∀ y ∈ us, ∃ j t', y = .int j t' := by
      intro ns us hv
      induction ns generalizing us with
      | nil => cases hv; intro y hy; cases hy
      | cons n ns ih =>
        cases hv with
        | cons h tl =>
          intro y hy
          rcases List.mem_cons.mp hy with rfl | hy
          · obtain ⟨u, rfl⟩ := h; exact ⟨n, u, rfl⟩
          · exact ih tl y hy
    obtain ⟨j, t', rfl⟩ := this rv y hy
    exact SeqAt.EqAt.int_int j t' i t
  · refine ⟨.int _, H, I.tok _, ⟨_, rfl⟩, ?_⟩
    have := countP_vals (i := i) rv
    simp only [List.toList_toArray]
    rw [this]
    exact q
theorem call_range1 : CallR X (.type "range") (fun xs H Q => ∃ j : Int, xs = [.int j] ∧ ∀ l, H l = none → Q (.ref l) (upd H l (.rng 0 j))) := by
  intro pins s σ H xs us Q I r h
  obtain ⟨j, rfl, q⟩ := h
  obtain ⟨u, rfl, ⟨t, rfl⟩⟩ := vals1 r
  exact call_range_1 ⟨.ref s.heap.objs.size, _, I.laid (o := .rng 0 j) (fun _ _ q => Heap.get?_push_of_some _ q) (Nat.le_refl _) ⟨_, _, _, Heap.get?_push_size _ rfl⟩, rfl, q _ I.fresh⟩
theorem vals_rng : ∀ (l : List Value) (k : Nat) (i : Int), (∀ (n : Nat) (x : Value), l[n]? = some x → ∃ t, x = .int (i + n) t) → l.length = k → Vals ((rints i k).map V.int) l := by
  intro l
  induction l with
  | nil => intro k i _ e; cases e; exact .nil
  | cons x l ih =>
    intro k i h e
    cases k with
    | zero => cases e
    | succ k =>
      have h0 := h 0 x rfl
      have e1 : rints i (k + 1) = i :: rints (i + 1) k := by
        simp only [rints, List.range_succ_eq_map, List.map_cons, List.map_map]
        refine congr (congrArg List.cons (by simp)) (List.map_congr_left fun a _ => ?_)
        simp only [Function.comp]; omega
      rw [e1]
      refine .cons (by obtain ⟨t, q⟩ := h0; exact ⟨t, by simpa using q⟩) (ih k (i + 1) (fun n y hy => ?_) (by simpa using e))
      obtain ⟨t, q⟩ := h (n + 1) y (by simpa using hy)
      exact ⟨t, by rw [q]; congr 1; omega⟩
theorem call_tuple_rng (hc : X.calm = true) : CallR X (.type "tuple") (fun xs H Q => ∃ (p : Addr) (j : Int), xs = [.ref p] ∧ H p = some (.rng 0 j) ∧ 0 ≤ j ∧ j ≤ 1000 ∧ ∀ l H', Same H H' → H' l = some (.tup ((rints 0 j.toNat).map V.int)) → Q (.ref l) H') := by
  intro pins s σ H xs us Q I r h
  obtain ⟨p, j, rfl, hp, b1, b2, q⟩ := h
  obtain ⟨u, rfl, rx⟩ := vals1 r
  cases rx
  obtain ⟨t, u, v, ho⟩ := (show ObjOk X.prog X.w H s.heap p (.rng 0 j) from I.hok p _ hp)
  refine call_tuple_rng' (n := j.toNat) (I.ok.hd hc) (show IsRange s.heap p 0 j 1 t u v from ho) (small_one (by decide) (by decide) (by omega) (by omega)) (by rw [rangeSize_one]; split <;> omega) (by omega) (by rw [sizeLine_eq]; omega) fun h' tk acc hk hacc => ?_
  have I1 : Inv X pins σ H { s with heap := h', toks := tk } := I.kept hk
  have fr : H h'.objs.size = none := I1.hok.fresh (Nat.le_refl _)
  refine ⟨.ref h'.objs.size, _, I1.laid (o := .tup ((rints 0 j.toNat).map V.int)) (t' := tk) (fun b ob q => Heap.get?_push_of_some _ q) (Nat.le_refl _) ⟨by simp [rints, sizeLine_eq]; omega, acc.toList, ?_, ?_⟩, rfl, q _ _ (same_new fr) upd_same⟩
  · refine vals_rng acc.toList _ 0 (fun n x hx => ?_) (by simpa using hacc.1)
    obtain ⟨t, q⟩ := hacc.2 n x (by simpa using hx)
    exact ⟨t, by rw [q, Int.mul_one]⟩
  · exact ⟨_, Heap.get?_push_size _ rfl, rfl, rfl, 0, by simp⟩
end
end L2
set_option maxHeartbeats 4000000
namespace PySem
open Builtin
theorem noFill_tup_mul : fillsNumberSlot (.type "tuple") "mul" = pure false := fillsNumberSlot_seq (id := "tuple.__mul__") (r := some (.builtin "tuple.__rmul__")) F.slot_tuple_mul.lookup (by decide +kernel) F.slot_tuple_rmul.lookup (by decide +kernel)
theorem repeat_tup : seqRepeat? (.type "tuple") = pure (some (.builtin "tuple.__mul__")) := by
  unfold seqRepeat?
  rw [seqSlot_of (T := "tuple") (name := "__mul__") (id := "tuple.__mul__") F.slot_tuple_mul.lookup (by decide +kernel), seqSlot_of (T := "tuple") (name := "__rmul__") (id := "tuple.__rmul__") F.slot_tuple_rmul.lookup (by decide +kernel)]
  rfl
theorem int_rmul_tup (a : Int) (t : Tok) (l : Addr) (items : Array Value) (n : Nat) (dd : Option Addr) (sl : Array (Option Value)) :
    Meets (Builtin.«int.__rmul__» ⟨[.int a t, .ref l], []⟩) (fun _ R s => s.heap.get? l = some { cls := .type "tuple", dict := dd, data := .seq items n, slots := sl } ∧ R (.ok (.ret Value.notImplemented)) s) :=
  .of_wp fun prog w A R s h => by
    obtain ⟨hp, g, d, tk, os⟩ := s
    obtain ⟨hl, h⟩ := h
    wp_walk
    exact ⟨_, rfl, h⟩
theorem tup_mul (l : Addr) (items : Array Value) (n : Nat) (dd : Option Addr) (sl : Array (Option Value)) (k : Int) (t : Tok) (hk : 1 ≤ k) (hk2 : k ≤ 1000) (h1 : items.size = 1) :
    Meets (Builtin.«tuple.__mul__» ⟨[.ref l, .int k t], []⟩) (fun _ R s => s.heap.get? l = some { cls := .type "tuple", dict := dd, data := .seq items n, slots := sl } ∧ (k = 1 → R (.ok (.ret (.ref l))) s) ∧
      (k ≠ 1 → R (.ok (.ret (.ref s.heap.objs.size))) { s with heap := s.heap.push { cls := .type "tuple", data := .seq ((List.replicate k.toNat items).foldl (· ++ ·) #[]) } })) :=
  .of_wp fun prog w A R s h => by
    obtain ⟨hp, g, d, tk, os⟩ := s
    obtain ⟨hl, q1, q2⟩ := h
    have f1 := AutoSeq1.idx_int
    have b1 : (decide (k < -(2 ^ 63)) || decide (k ≥ 2 ^ 63)) = false := by rw [decide_eq_false (by omega), decide_eq_false (by omega)]; rfl
    have b2 : items.isEmpty = false := by rw [Array.isEmpty]; simp [h1]
    have hT : Shared.TypeIs ⟨hp, g, d, tk, os⟩ (.ref l) "tuple" := ⟨_, hl, rfl⟩
    by_cases hk1 : k = 1
    · subst hk1
      have z := q1 rfl
      wp_walk using AutoSeq1.wpAny_loadPart' hl, wpAny_typeOf hT
      exact ⟨_, rfl, z⟩
    · have z := q2 hk1
      have c1 : (items.isEmpty || k == 1) = false := by rw [b2]; simpa using hk1
      have c2 : (decide (k ≤ 0) || items.isEmpty) = false := by rw [b2, decide_eq_false (by omega)]; rfl
      have c3 : ¬ ((items.size : Int) * k > (2 ^ 63 - 1) / 8) := by rw [h1]; omega
      have c4 : Builtin.Tuple.tupleTooMany ((items.size : Int) * k) = false := by unfold Builtin.Tuple.tupleTooMany; rw [h1, sizeLine_eq]; exact decide_eq_false (by omega)
      wp_walk using AutoSeq1.wpAny_loadPart' hl, wpAny_typeOf hT
      rw [if_neg (by rw [b1]; decide)]
      wp_walk using AutoSeq1.wpAny_loadPart' hl, wpAny_typeOf hT
      rw [if_neg (by rw [c2]; decide)]
      wp_walk using AutoSeq1.wpAny_loadPart' hl, wpAny_typeOf hT
      rw [if_neg c3]
      wp_walk using AutoSeq1.wpAny_loadPart' hl, wpAny_typeOf hT
      rw [if_neg (by rw [c4]; decide)]
      have len : ((List.replicate k.toNat items).foldl (· ++ ·) #[]).size ≤ sizeLine := by
        have key : ∀ (m : Nat) (acc : Array Value), ((List.replicate m items).foldl (· ++ ·) acc).size = acc.size + m := by
          intro m
          induction m with
          | zero => intro acc; rfl
          | succ m ih => intro acc; rw [List.replicate_succ, List.foldl_cons, ih, Array.size_append, h1]; omega
        rw [key, sizeLine_eq]
        simp
        omega
      refine wpAny_bind (m := Builtin.Tuple.tupleExact _) ?_
      unfold Builtin.Tuple.tupleExact
      exact wpAny_newObj_type (wpAny_pure ⟨_, rfl, z⟩) len
end PySem
namespace L2
open PySem PySem.Spec PyProof.Rows
section
variable {X : Cx}
theorem foldl_one (u : Value) : ∀ (m : Nat) (acc : Array Value), (List.replicate m (#[u] : Array Value)).foldl (· ++ ·) acc = (acc.toList ++ List.replicate m u).toArray := by
  intro m
  induction m with
  | zero => intro acc; simp
  | succ m ih => intro acc; rw [List.replicate_succ, List.foldl_cons, ih, List.replicate_succ]; simp
theorem vals_rep {x : V} {u : Value} (r : RelV x u) : ∀ m : Nat, Vals (List.replicate m x) (List.replicate m u)
  | 0 => .nil
  | m + 1 => by rw [List.replicate_succ, List.replicate_succ]; exact .cons r (vals_rep r m)
theorem op_repT1 : OpR X (binaryOp .Mult) (fun x y H Q => ∃ (a : Addr) (z : V) (k : Int), x = .ref a ∧ y = .int k ∧ SqT X.K H a [z] ∧ 1 ≤ k ∧ k ≤ 1000 ∧ (k = 1 → Q (.ref a) H) ∧ (k ≠ 1 → ∀ p, H p = none → Q (.ref p) (upd H p (.tup (List.replicate k.toNat z))))) := by
  intro pins s σ H x y v u Q I rx ry h
  obtain ⟨a, z, k, rfl, rfl, ha, k1, k2, q1, q2⟩ := h
  cases rx
  obtain ⟨t, rfl⟩ := ry
  obtain ⟨its, rv, p, hz⟩ := I.tuple ha
  obtain ⟨u0, rfl, ru⟩ := vals1 rv
  obtain ⟨⟨cls, dd, data, sl⟩, ho, hc, n, hd⟩ := id p
  simp only at hc hd
  subst hc hd
  refine wpAny_binaryOp_repeat_ref (T := "tuple") (U := "int") (by decide) ⟨_, ho, rfl⟩ (fun s' => typeIs_int s' k t) noFill_tup_mul PySem.F.fills_int_mul PySem.F.slot_int_rmul repeat_tup PySem.F.slot_int_index.lookup
    (call_meets PySem.F.slot_int_rmul (typeIs_int s k t) PySem.F.entry_int_rmul (PySem.F.args_int_rmul_2 _ _) (int_rmul_tup k t a _ n dd sl)
      ⟨ho, rfl, ⟨_, ho, rfl⟩, call_meets PySem.F.slot_tuple_mul ⟨_, ho, rfl⟩ PySem.F.entry_tuple_mul (PySem.F.args_tuple_mul_2 _ _) (tup_mul a _ n dd sl k t k1 k2 (by simp)) ⟨ho, fun e => ?_, fun e => ?_⟩⟩)
  · exact ⟨.ref a, H, I, rfl, q1 e⟩
  · refine ⟨.ref s.heap.objs.size, _, I.laid (o := .tup (List.replicate k.toNat z)) (fun b ob q => Heap.get?_push_of_some _ q) (Nat.le_refl _) ⟨by simp [sizeLine_eq]; omega, List.replicate k.toNat u0, vals_rep ru _, ?_⟩, rfl, q2 e _ I.fresh⟩
    have e := foldl_one u0 k.toNat #[]
    rw [show ([u0].toArray : Array Value) = #[u0] from rfl, e]
    simp only [List.nil_append]
    exact IsTupN.new _ _
end
section
variable {X : Cx}
theorem op_repT2 : OpR X (binaryOp .Mult) (fun x y H Q => ∃ (a : Addr) (z : V) (k : Int), x = .ref a ∧ y = .int k ∧ H a = some (.tup [z]) ∧ 1 ≤ k ∧ k ≤ 1000 ∧ ∀ p H', Same H H' → H' p = some (.tup (List.replicate k.toNat z)) → Q (.ref p) H') := by
  intro pins s σ H x y v u Q I rx ry h
  obtain ⟨a, z, k, hx, hy, ha, k1, k2, q⟩ := h
  exact op_repT1 pins s σ H x y v u Q I rx ry ⟨a, z, k, hx, hy, SqT.of ha, k1, k2, fun e => q a H (same_refl H) (by rw [ha, e]; rfl), fun _ p hp => q p _ (same_new hp) upd_same⟩
end
def IteT (K : PySem.W.Frag) (a : Addr) : It :=
  ⟨fun i H => ∃ xs x, SqT K H a xs ∧ xs[i]? = some x, fun i H v H' => ∃ T x, H T = none ∧ v = .ref T ∧ H' = upd H T (.tup [.int i, x]) ∧ ∀ xs, SqT K H a xs → xs[i]? = some x, fun i H => ∃ xs, SqT K H a xs ∧ i = xs.length⟩
theorem turn_enumT {P : Program} {w : World} {K : PySem.W.Frag} {elts : List Expr} {x1} {pos : Pos} (a e it : Addr) (hei : e ≠ it) (hae : a ≠ e) (hai : a ≠ it) : Turn P w K (.Tuple elts x1 pos) (IteT K a) [e, it] e (fun i h => (∃ old, IsEnum h e it i old) ∧ h.IsTupleIter it a i) where
  mem := by simp
  obj := fun i h st b hb => by
    obtain ⟨⟨old, he⟩, o, ho, hc, hd⟩ := st
    rcases List.mem_cons.mp hb with rfl | hb
    · exact ⟨_, he, fun v z => by cases z⟩
    · have : b = it := by simpa using hb
      subst this
      exact ⟨o, ho, fun v z => by rw [hd] at z; cases z⟩
  keep := fun i h h' st k => ⟨let ⟨old, he⟩ := st.1; ⟨old, k e (by simp) _ he⟩, st.2.at fun o q => k it (by simp) o q⟩
  item := by
    intro X hP hw hK hc i pins s σ H E I hf st hg
    subst hP hw hK
    obtain ⟨⟨old, he⟩, hit⟩ := st
    obtain ⟨xs, x, hq, hx⟩ := hg
    obtain ⟨its, rv, p, hz⟩ := I.tuple hq
    obtain ⟨u, hu, ru⟩ := rv.get hx
    have fresh : H s.heap.objs.size = none := I.hok.fresh (Nat.le_refl _)
    have elt : e < s.heap.objs.size := Heap.lt_size he
    have ilt : it < s.heap.objs.size := by obtain ⟨_, q, _⟩ := hit; exact Heap.lt_size q
    have hil : i < its.toArray.size := by have := (List.getElem?_eq_some_iff.mp hu).1; simpa using this
    refine wpAny_pyNext_enum_itemD (Draws.tup (A := X.A.in1) (I.ok.hd hc) it a hai its.toArray) he ⟨hit, p⟩ hil hei (by simp only [List.mem_cons, List.mem_nil_iff, or_false, not_or]; exact ⟨hei, hae.symm⟩) fun uv h' tk pu eo it' hT hsz kk => ⟨_, rfl, ?_⟩
    have eu : u = uv := Option.some.inj (hu.symm.trans (by simpa using pu))
    subst eu
    refine wpAny_letOwnedTupleGo_enum (s := { s with heap := h', toks := tk + 1 }) eo fun h2 e2 sb => ?_
    have I1 : Inv X pins σ (upd H s.heap.objs.size (.tup [.int i, x])) { s with heap := s.heap.push { cls := .type "tuple", data := .seq #[.int i tk, u] }, toks := s.toks } :=
      I.laid (o := .tup [.int i, x]) (fun b ob q => Heap.get?_push_of_some _ q) (Nat.le_refl _) ⟨by rw [sizeLine_eq]; simp, [.int i tk, u], .cons ⟨_, rfl⟩ (.cons ru .nil), IsTupN.new _ _⟩
    have I2 := I1.turnedL (h' := h2) (t' := tk + 1) [e, it] (fun b o hb q => ?_) (fun b hb => ?_)
    · refine ⟨.ref s.heap.objs.size, _, I2, rfl, ⟨_, x, fresh, rfl, rfl, fun ys hy => by rw [I.tuple_inj hy hq]; exact hx⟩, ⟨⟨_, by simpa using e2⟩, it'.1.at fun o q => (sb.2 it hei.symm).trans q⟩, fun b hb => ?_⟩
      rcases List.mem_cons.mp hb with rfl | hb
      · rw [upd_ne (Nat.ne_of_lt elt)]; exact (hf _ (by simp)).1
      · have : b = it := by simpa using hb
        subst this
        rw [upd_ne (Nat.ne_of_lt ilt)]; exact (hf _ (by simp)).1
    · have b1 : b ≠ e := fun z => hb (by simp [z])
      have b2 : b ≠ it := fun z => hb (by simp [z])
      refine (sb.2 b b1).trans ?_
      by_cases hbs : b = s.heap.objs.size
      · subst hbs
        rw [Heap.get?_push_size _ rfl] at q
        cases q
        exact hT
      · rw [Heap.get?_push_ne _ _ _ hbs] at q
        exact kk b o b1 b2 q
    · rcases List.mem_cons.mp hb with rfl | hb
      · exact (hf _ (by simp)).up (Nat.ne_of_lt elt)
      · have : b = it := by simpa using hb
        subst this
        exact (hf _ (by simp)).up (Nat.ne_of_lt ilt)
  done := by
    intro X hP hw hK hc i pins s σ H E I hf st hg
    subst hP hw hK
    obtain ⟨⟨old, he⟩, hit⟩ := st
    obtain ⟨xs, hq, hx⟩ := hg
    obtain ⟨its, rv, p, hz⟩ := I.tuple hq
    have hl := rv.length
    have hn : i = its.toArray.size := by simp; omega
    subst hn
    exact wpAny_pyNext_enum_endD (Draws.tup (A := X.A.in1) (I.ok.hd hc) it a hai its.toArray) he ⟨hit, p⟩ fun h' eb => ⟨rfl, I.turnedL (t' := s.toks) [e, it] (fun b o hb q => eb b o (fun z => hb (by simp [z])) q) hf⟩
  self := fun A i s Q E st h => let ⟨⟨old, he⟩, _⟩ := st; wpAny_pyIter_enum he h
end L2
namespace PySem
open Builtin
theorem meets_enumerate_newT (a : Addr) (items : Array Value) (n : Nat) (dd : Option Addr) (sl : Array (Option Value)) :
    Meets (Builtin.«enumerate.__new__» ⟨[.type "enumerate", .ref a], []⟩) (fun _ R s => s.heap.get? a = some { cls := .type "tuple", dict := dd, data := .seq items n, slots := sl } ∧
      R (.ok (.ret (.ref (s.heap.push { cls := .type "tuple_iterator", data := .fields #[.ref a, .int 0 0] }).objs.size)))
        { s with heap := (s.heap.push { cls := .type "tuple_iterator", data := .fields #[.ref a, .int 0 0] }).push { cls := .type "enumerate", data := .fields #[.none, .bool false, .ref s.heap.objs.size, rawInt 0, .none, .none] } }) :=
  .of_wp fun prog w A R s h => by
    obtain ⟨hp, g, d, tk, os⟩ := s
    obtain ⟨ha, h⟩ := h
    have hsub := sub_enumerate
    have tA : Heap.IsTuple (Shared.heap ⟨hp, g, d, tk, os⟩) a items := ⟨_, ha, rfl, n, rfl⟩
    wp_walk using AutoSeq1.wpAny_loadPart' ha
    refine wpAny_stack_any fun st => wpAny_pure ?_
    split
    · rename_i c _ _ _ _ _
      cases (c == Value.type "enumerate") <;> (wp_walk using AutoSeq1.wpAny_loadPart' ha, wpAny_pyIter_tuple tA; exact ⟨_, rfl, h⟩)
    · wp_walk using AutoSeq1.wpAny_loadPart' ha, wpAny_pyIter_tuple tA
      exact ⟨_, rfl, h⟩
theorem call_enumerate_tup {prog : Program} {w : World} {A : Around} {E : Value → Shared → Prop} {s : Shared} {a : Addr} {items : Array Value} {Q : Value → Shared → Prop} (tA : s.heap.IsTuple a items)
    (h : ∀ h', IsEnum h' (s.heap.objs.size + 1) s.heap.objs.size 0 .none → h'.IsTupleIter s.heap.objs.size a 0 → (∀ b o, s.heap.get? b = some o → h'.get? b = some o) → Q (.ref (s.heap.objs.size + 1)) { s with heap := h' }) :
    wpAny (model prog w) A (call (.type "enumerate") [.ref a]) Q E s := by
  obtain ⟨⟨c, dd, dt, sl⟩, ha, hc, n, hd⟩ := tA
  replace hc : c = .type "tuple" := hc
  replace hd : dt = .seq items n := hd
  subst hc hd
  refine callType_new F.called_enumerate (by decide) (F.typeCall_enumerate_1 _) (F.newCall_enumerate_1 _) (fun obj => F.args_object_init_2 obj _) F.entry_enumerate_new (meets_enumerate_newT a items n dd sl) ⟨ha, ?_⟩
  have y1 : (s.heap.push { cls := .type "tuple_iterator", data := .fields #[.ref a, .int 0 0] }).objs.size = s.heap.objs.size + 1 := Heap.size_push ..
  have e1 : ((s.heap.push { cls := .type "tuple_iterator", data := .fields #[.ref a, .int 0 0] }).push { cls := .type "enumerate", data := .fields #[.none, .bool false, .ref s.heap.objs.size, rawInt 0, .none, .none] }).get? (s.heap.push { cls := .type "tuple_iterator", data := .fields #[.ref a, .int 0 0] }).objs.size = some _ := Heap.get?_push_size _ rfl
  have e2 : ((s.heap.push { cls := .type "tuple_iterator", data := .fields #[.ref a, .int 0 0] }).push { cls := .type "enumerate", data := .fields #[.none, .bool false, .ref s.heap.objs.size, rawInt 0, .none, .none] }).get? s.heap.objs.size = some _ := Heap.get?_push_of_some _ (Heap.get?_push_size _ rfl)
  show _ ∧ _
  rw [y1] at e1 ⊢
  exact ⟨⟨_, e1, rfl⟩, h _ e1 ⟨_, e2, rfl, rfl⟩ fun b o e => Heap.get?_push_of_some _ (Heap.get?_push_of_some _ e)⟩
end PySem
namespace L2
open PySem PySem.Spec PyProof.Rows
def iEnumT (K : PySem.W.Frag) (ta : TA) : TI := fun σ H R => ta σ H fun vs H1 => ∃ a xs, vs = [.ref a] ∧ SqT K H1 a xs ∧ R (IteT K a) H1
theorem pi_enumT {X : Cx} {elts : List Expr} {x1} {tpos : Pos} {a : Expr} {ta : TA} {p pos : Pos} (hg : Gl X "enumerate") (hm : X.mg "enumerate" = none) (ha : PA X [a] ta) (hs : starEach [a] X.env = [(false, eval a X.env)] := by rfl) :
    PI X (.Tuple elts x1 tpos) (.Call (.Name "enumerate" p) [a] [] pos) (iEnumT X.K ta) := by
  intro pins s σ H R I h
  refine Call_ (ld_blt I hg hm (show bootBuiltins "enumerate" = some (.type "enumerate") by decide +kernel) (PyProof.Rows.callWith_type1 (thn (ha pos pins s σ H _ I h) fun us s1 ⟨vs, H1, I1, r1, q1⟩ => ?_) hs rfl))
  obtain ⟨l, xs, e, hq, q⟩ := q1
  subst e
  obtain ⟨u, rfl, ru⟩ := vals1 r1
  cases ru
  obtain ⟨its, rv, pl, hz⟩ := I1.tuple hq
  refine call_enumerate_tup pl fun h' he hit kk => wpAny_pyIter_enum he ?_
  obtain ⟨ol, gl, _⟩ := id pl
  have ll := Heap.lt_size gl
  refine ⟨s1.heap.objs.size + 1, [s1.heap.objs.size + 1, s1.heap.objs.size], _, _, H1, rfl, I1.kept (t' := s1.toks) kk, turn_enumT l _ _ (Nat.succ_ne_self _) (Nat.ne_of_lt (Nat.lt_succ_of_lt ll)) (Nat.ne_of_lt ll), ⟨⟨_, he⟩, hit⟩, fun b hb => ?_, q⟩
  have hb : s1.heap.objs.size ≤ b := by
    rcases List.mem_cons.mp hb with rfl | hb
    · exact Nat.le_succ _
    · have : b = s1.heap.objs.size := by simpa using hb
      exact Nat.le_of_eq this.symm
  exact I1.fpOk hb (I1.hok.fresh hb)
section
variable {g : TG} {ti : TT} {te : TE} {Q : VK} {D : Addr} {σ : St} {H : Hp}
theorem comp_enumT {K : PySem.W.Frag} {a : Addr} {xs : List V} (Pv : Nat → St → List V → Hp → Prop) (h0 : Pv 0 σ [] (upd H D (.lst []))) (hl : ∀ i σ ys H, i ≤ xs.length → Pv i σ ys H → SqT K H a xs ∧ H D = some (.lst ys))
    (hs : ∀ i x σ ys H T, xs[i]? = some x → Pv i σ ys H → H T = none → cturn g ti te D (.ref T) σ ys (upd H T (.tup [.int (i : Nat), x])) (Pv (i + 1))) (hd : ∀ σ ys H, Pv xs.length σ ys H → Q (.ref D) H) :
    cgo (IteT K a) g ti te D σ H Q := by
  refine ⟨fun i m σ ys H => m = xs.length - i ∧ i ≤ xs.length ∧ Pv i σ ys H, ⟨xs.length, by simp, Nat.zero_le _, h0⟩, ?_⟩
  rintro i m σ ys H ⟨rfl, hi, p⟩
  obtain ⟨q, hD⟩ := hl i σ ys H hi p
  refine ⟨hD, ?_⟩
  by_cases hlt : i < xs.length
  · refine .inr ⟨⟨xs, xs[i], q, by simp [hlt]⟩, Pv (i + 1), fun σ' ys' H' p' => ⟨xs.length - (i + 1), by omega, rfl, hlt, p'⟩, fun x H' y => ?_⟩
    obtain ⟨T, z, hT, rfl, rfl, y⟩ := y
    exact hs i z σ ys H T (y xs q) p hT
  · have e : i = xs.length := by omega
    subst e
    exact .inl ⟨⟨xs, q, rfl⟩, hd σ ys H p⟩
end
end L2
set_option maxHeartbeats 1000000
namespace Srt
open PySem PySem.W PyProof.Rows
structure Ord (lt : Nat → Nat → Bool) : Prop where
  asym : ∀ a b, lt a b = true → lt b a = false
  ntr : ∀ a b c, lt a b = false → lt b c = false → lt a c = false
def ev {α : Type} (lt : Nat → Nat → Bool) : KasT α → α
  | .ret a => a
  | .ask i j k => ev lt (k (lt i j))
theorem ev_bind {α β : Type} (lt : Nat → Nat → Bool) (f : α → KasT β) : ∀ t : KasT α, ev lt (t.bind f) = ev lt (f (ev lt t))
  | .ret _ => rfl
  | .ask i j k => ev_bind lt f (k (lt i j))
def AsksP {α : Type} (n : Nat) (P : α → Prop) : KasT α → Prop
  | .ret a => P a
  | .ask i j k => i < n ∧ j < n ∧ ∀ b, AsksP n P (k b)
theorem AsksP.bind {α β : Type} {n : Nat} {P : α → Prop} {R : β → Prop} {f : α → KasT β} (hf : ∀ a, P a → AsksP n R (f a)) : ∀ {t : KasT α}, AsksP n P t → AsksP n R (t.bind f)
  | .ret a, h => hf a h
  | .ask i j k, h => ⟨h.1, h.2.1, fun b => AsksP.bind hf (h.2.2 b)⟩
theorem AsksP.ev {α : Type} {n : Nat} {P : α → Prop} (lt : Nat → Nat → Bool) : ∀ {t : KasT α}, AsksP n P t → P (Srt.ev lt t)
  | .ret _, h => h
  | .ask i j k, h => AsksP.ev (n := n) (P := P) lt (t := k (lt i j)) (h.2.2 (lt i j))
theorem AsksP.wp {α : Type} {n : Nat} {P : α → Prop} {cmp : Nat → Nat → (Bool → Shared → Prop) → Shared → Prop} {lt : Nat → Nat → Bool} {s : Shared} (hc : ∀ i j (C : Bool → Shared → Prop), i < n → j < n → C (lt i j) s → cmp i j C s) {Q : α → Shared → Prop} : ∀ {t : KasT α}, AsksP n P t → Q (Srt.ev lt t) s → t.kasWp cmp Q s
  | .ret _, _, q => q
  | .ask i j k, h, q => hc i j _ h.1 h.2.1 (AsksP.wp hc (h.2.2 (lt i j)) q)
abbrev g (p : Array Nat) (k : Nat) : Nat := p.getD k 0
theorem g_eq (p : Array Nat) (k : Nat) : g p k = (p[k]?).getD 0 := by
  show p.getD k 0 = _
  simp [Array.getD_eq_getD_getElem?]
theorem g_rev {p : Array Nat} {i j : Nat} (hj : j ≤ p.size) (k : Nat) : g (kas_rev p i j) k = if i ≤ k ∧ k < j then g p (i + j - 1 - k) else g p k := by
  rw [g_eq]
  unfold kas_rev
  rw [getElem?_mirror_all hj]
  split <;> rw [g_eq]
theorem g_bub {p : Array Nat} {src d : Nat} (hs : src < p.size) (hd : d ≤ src) (k : Nat) : g (bubble p src d) k = if k = src - d then g p src else if src - d < k ∧ k ≤ src then g p (k - 1) else g p k := by
  rw [g_eq, getElem?_bubble hs d hd, g_eq, g_eq, g_eq]
  split
  · rfl
  · split <;> rfl
theorem rev_size (p : Array Nat) (i j : Nat) : (kas_rev p i j).size = p.size := mirror_size _ _ _ _
theorem rev_perm (p : Array Nat) (i j : Nat) : (kas_rev p i j).Perm p := mirror_perm _ _ _ _
def Pm (n : Nat) (p : Array Nat) : Prop := p.Perm (List.range n).toArray
theorem Pm.size {n : Nat} {p : Array Nat} (h : Pm n p) : p.size = n := by
  have := Array.Perm.size_eq h
  simpa using this
theorem Pm.lt {n : Nat} {p : Array Nat} (h : Pm n p) (h0 : 0 < n) (k : Nat) : g p k < n := by
  rw [g_eq]
  cases e : p[k]? with
  | none => exact h0
  | some x =>
    have hx : x ∈ p := Array.mem_of_getElem? e
    have := (Array.Perm.mem_iff h).mp hx
    simpa using this
section
variable {n : Nat} (h0 : 0 < n)
include h0
theorem asks_asc {p : Array Nat} (h : Pm n p) : ∀ f m, AsksP n (fun _ => True) (kas_asc p f m)
  | 0, _ => trivial
  | f + 1, m => ⟨h.lt h0 _, h.lt h0 _, fun b => by cases b <;> first | exact trivial | exact asks_asc h f (m + 1)⟩
theorem asks_desc : ∀ f {p : Array Nat} (m q : Nat), Pm n p → AsksP n (fun r => Pm n r.1) (kas_desc f p m q)
  | 0, _, _, _, h => h
  | f + 1, p, m, q, h => by
    refine ⟨h.lt h0 _, h.lt h0 _, fun b => ?_⟩
    cases b with
    | true =>
      show AsksP n _ (if q > 0 then _ else _)
      by_cases hq : q > 0
      · rw [if_pos hq]; exact asks_desc f _ _ ((rev_perm _ _ _).trans h)
      · rw [if_neg hq]; exact asks_desc f _ _ h
    | false =>
      refine ⟨h.lt h0 _, h.lt h0 _, fun d => ?_⟩
      cases d with
      | true => exact h
      | false => exact asks_desc f _ _ h
theorem asks_tail3 {p : Array Nat} (m nrem : Nat) (h : Pm n p) : AsksP n (fun r => Pm n r.2) (kas_tail3 m nrem p) := by
  have hr : Pm n (kas_rev p 0 m) := (rev_perm _ _ _).trans h
  refine AsksP.bind (n := n) (P := fun _ => True) (R := fun r : Nat × Array Nat => Pm n r.2) (fun k _ => ?_) (asks_asc h0 hr _ _)
  exact hr
theorem asks_descPart {p : Array Nat} (m nrem : Nat) (h : Pm n p) : AsksP n (fun r => Pm n r.2) (kas_descPart m nrem p) :=
  (asks_desc h0 _ _ _ h).bind fun r hr => by
    by_cases hq : r.2.2 > 0
    · rw [if_pos hq]; exact asks_tail3 h0 _ _ ((rev_perm _ _ _).trans hr)
    · rw [if_neg hq]; exact asks_tail3 h0 _ _ hr
theorem asks_count {p : Array Nat} (nrem : Nat) (h : Pm n p) : AsksP n (fun r => Pm n r.2) (kas_count nrem p) :=
  (asks_asc h0 h _ _).bind fun m _ => by
    by_cases h1 : (m == nrem) = true
    · rw [if_pos h1]; exact h
    · rw [if_neg h1]
      by_cases h2 : m > 1
      · rw [if_pos h2]
        refine ⟨h.lt h0 _, h.lt h0 _, fun c => ?_⟩
        cases c with
        | true => exact h
        | false => exact asks_descPart h0 _ _ ((rev_perm _ _ _).trans h)
      · rw [if_neg h2]; exact asks_descPart h0 _ _ h
theorem asks_place {p : Array Nat} (k : Nat) (h : Pm n p) : ∀ f l r, AsksP n (fun _ => True) (kas_place p k f l r)
  | 0, _, _ => trivial
  | f + 1, l, r => by
    show AsksP n _ (if l ≥ r then _ else _)
    by_cases hl : l ≥ r
    · rw [if_pos hl]; trivial
    · rw [if_neg hl]
      refine ⟨h.lt h0 _, h.lt h0 _, fun c => ?_⟩
      cases c with
      | true => exact asks_place k h f _ _
      | false => exact asks_place k h f _ _
theorem asks_bin : ∀ f {p : Array Nat} (k : Nat), Pm n p → AsksP n (Pm n) (kas_bin f p k)
  | 0, _, _, h => h
  | f + 1, p, k, h => (asks_place h0 k h _ _ _).bind fun l _ => asks_bin f (k + 1) ((bubble_perm _ _ _).trans h)
theorem asks_sort : AsksP n (Pm n) (kas_sort n) :=
  (asks_count h0 n (Array.Perm.refl _)).bind fun r hr => by
    by_cases h1 : r.1 < n
    · rw [if_pos h1]; exact asks_bin h0 _ _ hr
    · rw [if_neg h1]; exact hr
end
section
variable {lt : Nat → Nat → Bool} (O : Ord lt)
def Sto (lt : Nat → Nat → Bool) (p : Array Nat) (k : Nat) : Prop := ∀ i j, i ≤ j → j < k → lt (g p j) (g p i) = false
def Dto (lt : Nat → Nat → Bool) (p : Array Nat) (k : Nat) : Prop := ∀ i j, i ≤ j → j < k → lt (g p i) (g p j) = false
def Eqv (lt : Nat → Nat → Bool) (a b : Nat) : Prop := lt a b = false ∧ lt b a = false
include O
theorem irr (a : Nat) : lt a a = false := by
  cases h : lt a a with
  | false => rfl
  | true => have := O.asym a a h; rw [h] at this; cases this
theorem ev_asc {p : Array Nat} : ∀ f m, 1 ≤ m → Sto lt p m → m ≤ ev lt (kas_asc p f m) ∧ ev lt (kas_asc p f m) ≤ m + f ∧ Sto lt p (ev lt (kas_asc p f m)) ∧ (ev lt (kas_asc p f m) < m + f → lt (g p (ev lt (kas_asc p f m))) (g p (ev lt (kas_asc p f m) - 1)) = true)
  | 0, m, _, hs => ⟨Nat.le_refl _, Nat.le_refl _, hs, fun h => absurd h (Nat.lt_irrefl _)⟩
  | f + 1, m, h1, hs => by
    show m ≤ ev lt (if lt (g p m) (g p (m - 1)) = true then .ret m else kas_asc p f (m + 1)) ∧ ev lt (if lt (g p m) (g p (m - 1)) = true then .ret m else kas_asc p f (m + 1)) ≤ m + (f + 1) ∧ Sto lt p (ev lt (if lt (g p m) (g p (m - 1)) = true then .ret m else kas_asc p f (m + 1))) ∧ (ev lt (if lt (g p m) (g p (m - 1)) = true then .ret m else kas_asc p f (m + 1)) < m + (f + 1) → lt (g p (ev lt (if lt (g p m) (g p (m - 1)) = true then .ret m else kas_asc p f (m + 1)))) (g p (ev lt (if lt (g p m) (g p (m - 1)) = true then .ret m else kas_asc p f (m + 1)) - 1)) = true)
    by_cases c : lt (g p m) (g p (m - 1)) = true
    · rw [if_pos c]
      exact ⟨Nat.le_refl _, Nat.le_add_right _ _, hs, fun _ => c⟩
    · rw [if_neg c]
      have c : lt (g p m) (g p (m - 1)) = false := by simpa using c
      have hs' : Sto lt p (m + 1) := fun i j hij hj => by
        by_cases e : j = m
        · subst e
          by_cases e2 : i = j
          · subst e2; exact irr O _
          · exact O.ntr _ _ _ c (hs i (j - 1) (by omega) (by exact Nat.sub_lt (by assumption) (by decide)))
        · exact hs i j hij (by omega)
      obtain ⟨a, b, d, e⟩ := ev_asc f (m + 1) (by exact Nat.lt_succ_of_lt (by assumption)) hs'
      exact ⟨by exact Nat.le_of_lt (by assumption), by omega, d, fun h => e (by omega)⟩
theorem Dto.eqv {p p1 : Array Nat} {k : Nat} (h : Dto lt p k) (he : ∀ i, i < k → Eqv lt (g p1 i) (g p i)) : Dto lt p1 k := fun i j hij hj =>
  O.ntr _ _ _ (he i (by exact Nat.lt_of_le_of_lt (by assumption) (by assumption))).1 (O.ntr _ _ _ (h i j hij hj) (he j hj).2)
def Blk (lt : Nat → Nat → Bool) (p : Array Nat) (m q : Nat) : Prop := q + 1 ≤ m ∧ ∀ i j, m - (q + 1) ≤ i → i < m → m - (q + 1) ≤ j → j < m → Eqv lt (g p i) (g p j)
theorem rev_blk {p : Array Nat} {m q : Nat} (hm : m ≤ p.size) (hb : Blk lt p m q) : ∀ i, Eqv lt (g (kas_rev p (m - (q + 1)) m) i) (g p i) := fun i => by
  have h1 := hb.1
  rw [g_rev hm]
  split
  · exact hb.2 _ _ (by omega) (by omega) (by omega) (by omega)
  · exact ⟨irr O _, irr O _⟩
theorem ev_desc : ∀ f {p : Array Nat} (m q : Nat), 1 ≤ m → m + f ≤ p.size → Dto lt p m → Blk lt p m q →
    let r := ev lt (kas_desc f p m q); m ≤ r.2.1 ∧ r.2.1 ≤ m + f ∧ r.1.size = p.size ∧ Dto lt r.1 r.2.1 ∧ Blk lt r.1 r.2.1 r.2.2
  | 0, p, m, q, _, _, hd, hb => ⟨Nat.le_refl _, Nat.le_refl _, rfl, hd, hb⟩
  | f + 1, p, m, q, h1, hz, hd, hb => by
    intro r
    have b1 := hb.1
    have single : ∀ (p' : Array Nat), Blk lt p' (m + 1) 0 := fun p' => ⟨by exact Nat.lt_succ_of_lt (by assumption), fun i j a b c d => by
      have : i = j := by omega
      subst this; exact ⟨irr O _, irr O _⟩⟩
    have low : lt (g p (m - 1)) (g p m) = false → Dto lt p (m + 1) := fun c i j hij hj => by
      by_cases e : j = m
      · subst e
        by_cases e2 : i = j
        · subst e2; exact irr O _
        · exact O.ntr _ _ _ (hd i (j - 1) (by omega) (by exact Nat.sub_lt (by assumption) (by decide))) c
      · exact hd i j hij (by omega)
    by_cases c : lt (g p m) (g p (m - 1)) = true
    · have cl := low (O.asym _ _ c)
      by_cases hq : q > 0
      · have e : r = ev lt (kas_desc f (kas_rev p (m - (q + 1)) m) (m + 1) 0) := by
          show ev lt (if lt (g p m) (g p (m - 1)) = true then (if q > 0 then _ else _) else _) = _
          rw [if_pos c, if_pos hq]
        obtain ⟨a, b, s, d, k⟩ := ev_desc f (p := kas_rev p (m - (q + 1)) m) (m + 1) 0 (by exact Nat.lt_succ_of_lt (by assumption)) (by rw [rev_size]; omega) (Dto.eqv O cl fun i _ => rev_blk O (by omega) hb i) (single _)
        rw [e]
        exact ⟨by exact Nat.le_of_lt (by assumption), by omega, by rw [s, rev_size], d, k⟩
      · have e : r = ev lt (kas_desc f p (m + 1) 0) := by
          show ev lt (if lt (g p m) (g p (m - 1)) = true then (if q > 0 then _ else _) else _) = _
          rw [if_pos c, if_neg hq]
        obtain ⟨a, b, s, d, k⟩ := ev_desc f (p := p) (m + 1) 0 (by exact Nat.lt_succ_of_lt (by assumption)) (by omega) cl (single _)
        rw [e]
        exact ⟨by exact Nat.le_of_lt (by assumption), by omega, s, d, k⟩
    · have c' : lt (g p m) (g p (m - 1)) = false := by simpa using c
      by_cases d1 : lt (g p (m - 1)) (g p m) = true
      · have e : r = (p, m, q) := by
          show ev lt (if lt (g p m) (g p (m - 1)) = true then _ else KasT.ask _ _ fun d => if d = true then _ else _) = _
          rw [if_neg c]
          show ev lt (if lt (g p (m - 1)) (g p m) = true then KasT.ret (p, m, q) else _) = _
          rw [if_pos d1]
          rfl
        rw [e]
        exact ⟨Nat.le_refl _, Nat.le_add_right _ _, rfl, hd, hb⟩
      · have d' : lt (g p (m - 1)) (g p m) = false := by simpa using d1
        have e : r = ev lt (kas_desc f p (m + 1) (q + 1)) := by
          show ev lt (if lt (g p m) (g p (m - 1)) = true then _ else KasT.ask _ _ fun d => if d = true then _ else _) = _
          rw [if_neg c]
          show ev lt (if lt (g p (m - 1)) (g p m) = true then KasT.ret (p, m, q) else _) = _
          rw [if_neg d1]
        have blk : Blk lt p (m + 1) (q + 1) := ⟨by exact Nat.succ_le_succ (by assumption), fun i j i1 i2 j1 j2 => by
          have to : ∀ k, m - (q + 1) ≤ k → k < m + 1 → Eqv lt (g p k) (g p (m - 1)) := fun k k1 k2 => by
            by_cases z : k = m
            · subst z; exact ⟨c', d'⟩
            · exact hb.2 k (m - 1) k1 (by omega) (by omega) (by exact Nat.sub_lt (by assumption) (by decide))
          have a := to i (by omega) i2
          have b := to j (by omega) j2
          exact ⟨O.ntr _ _ _ a.1 b.2, O.ntr _ _ _ b.1 a.2⟩⟩
        obtain ⟨a, b, s, d, k⟩ := ev_desc f (p := p) (m + 1) (q + 1) (by exact Nat.lt_succ_of_lt (by assumption)) (by omega) (low d') blk
        rw [e]
        exact ⟨by exact Nat.le_of_lt (by assumption), by omega, s, d, k⟩
theorem Dto.rev {p : Array Nat} {m : Nat} (hm : m ≤ p.size) (h : Dto lt p m) : Sto lt (kas_rev p 0 m) m := fun i j hij hj => by
  rw [g_rev hm, g_rev hm, if_pos ⟨by exact Nat.zero_le _, by assumption⟩, if_pos ⟨by exact Nat.zero_le _, by exact Nat.lt_of_le_of_lt (by assumption) (by assumption)⟩]
  exact h _ _ (by omega) (by omega)
theorem ev_tail3 {p : Array Nat} {m nrem : Nat} (h1 : 1 ≤ m) (hn : m ≤ nrem) (hz : nrem ≤ p.size) (h : Dto lt p m) : let r := ev lt (kas_tail3 m nrem p); 1 ≤ r.1 ∧ r.1 ≤ nrem ∧ Sto lt r.2 r.1 := by
  intro r
  have e : r = (ev lt (kas_asc (kas_rev p 0 m) (nrem - m) m), kas_rev p 0 m) := ev_bind lt _ _
  obtain ⟨a, b, c, _⟩ := ev_asc O (p := kas_rev p 0 m) (nrem - m) m h1 (Dto.rev O (by exact Nat.le_trans (by assumption) (by assumption)) h)
  rw [e]
  exact ⟨by show 1 ≤ _; exact Nat.le_trans (by assumption) (by assumption), by show _ ≤ nrem; omega, c⟩
theorem ev_descPart {p : Array Nat} {m nrem : Nat} (hn : m + 1 ≤ nrem) (hz : nrem ≤ p.size) (h : Dto lt p (m + 1)) : let r := ev lt (kas_descPart m nrem p); 1 ≤ r.1 ∧ r.1 ≤ nrem ∧ Sto lt r.2 r.1 := by
  intro r
  have single : Blk lt p (m + 1) 0 := ⟨by omega, fun i j a b c d => by
    have : i = j := by omega
    subst this; exact ⟨irr O _, irr O _⟩⟩
  obtain ⟨a, b, s, d, k⟩ := ev_desc O (nrem - (m + 1)) (p := p) (m + 1) 0 (by omega) (by omega) h single
  have e : r = ev lt (if (ev lt (kas_desc (nrem - (m + 1)) p (m + 1) 0)).2.2 > 0 then kas_tail3 (ev lt (kas_desc (nrem - (m + 1)) p (m + 1) 0)).2.1 nrem (kas_rev (ev lt (kas_desc (nrem - (m + 1)) p (m + 1) 0)).1 ((ev lt (kas_desc (nrem - (m + 1)) p (m + 1) 0)).2.1 - ((ev lt (kas_desc (nrem - (m + 1)) p (m + 1) 0)).2.2 + 1)) (ev lt (kas_desc (nrem - (m + 1)) p (m + 1) 0)).2.1) else kas_tail3 (ev lt (kas_desc (nrem - (m + 1)) p (m + 1) 0)).2.1 nrem (ev lt (kas_desc (nrem - (m + 1)) p (m + 1) 0)).1) := ev_bind lt _ _
  rw [e]
  generalize ev lt (kas_desc (nrem - (m + 1)) p (m + 1) 0) = x at a b s d k
  by_cases hq : x.2.2 > 0
  · rw [if_pos hq]
    exact ev_tail3 O (by omega) (by omega) (by rw [rev_size]; omega) (Dto.eqv O d fun i _ => rev_blk O (by omega) k i)
  · rw [if_neg hq]
    exact ev_tail3 O (by omega) (by omega) (by omega) d
theorem ev_count {p : Array Nat} {nrem : Nat} (h1 : 1 ≤ nrem) (hz : nrem ≤ p.size) : let r := ev lt (kas_count nrem p); 1 ≤ r.1 ∧ r.1 ≤ nrem ∧ Sto lt r.2 r.1 := by
  intro r
  have s1 : Sto lt p 1 := fun i j hij hj => by
    have a : i = 0 := by omega
    have b : j = 0 := by omega
    subst a b; exact irr O _
  obtain ⟨a, b, c, e⟩ := ev_asc O (p := p) (nrem - 1) 1 (Nat.le_refl _) s1
  have er : r = ev lt ((fun n => if (n == nrem) = true then KasT.ret (n, p) else if n > 1 then KasT.ask (p.getD 0 0) (p.getD (n - 1) 0) fun c => if c = true then KasT.ret (n, p) else kas_descPart n nrem (kas_rev p 0 n) else kas_descPart n nrem p) (ev lt (kas_asc p (nrem - 1) 1))) := ev_bind lt _ _
  rw [er]
  generalize ev lt (kas_asc p (nrem - 1) 1) = m at a b c e
  dsimp only
  by_cases h2 : (m == nrem) = true
  · rw [if_pos h2]
    exact ⟨a, by show m ≤ nrem; omega, c⟩
  · rw [if_neg h2]
    have hm : m < nrem := by
      have : m ≠ nrem := by simpa using h2
      omega
    have last := e (by omega)
    by_cases h3 : m > 1
    · rw [if_pos h3]
      show let r := ev lt (if lt (g p 0) (g p (m - 1)) = true then KasT.ret (m, p) else kas_descPart m nrem (kas_rev p 0 m)); 1 ≤ r.1 ∧ r.1 ≤ nrem ∧ Sto lt r.2 r.1
      by_cases h4 : lt (g p 0) (g p (m - 1)) = true
      · rw [if_pos h4]
        exact ⟨a, by show m ≤ nrem; exact Nat.le_of_lt (by assumption), c⟩
      · rw [if_neg h4]
        have h4 : lt (g p 0) (g p (m - 1)) = false := by simpa using h4
        have all : ∀ i j, i < m → j < m → lt (g p i) (g p j) = false := fun i j hi hj => O.ntr _ _ _ (O.ntr _ _ _ (c 0 i (by exact Nat.zero_le _) hi) h4) (c j (m - 1) (by omega) (by exact Nat.sub_lt (by assumption) (by decide)))
        have blk : Blk lt p m (m - 1) := ⟨by exact Nat.sub_lt (by assumption) (by decide), fun i j _ i2 _ j2 => ⟨all i j i2 j2, all j i j2 i2⟩⟩
        have d1 : Dto lt p (m + 1) := fun i j hij hj => by
          by_cases z : j = m
          · subst z
            by_cases z2 : i = j
            · subst z2; exact irr O _
            · exact O.ntr _ _ _ (all i (j - 1) (by omega) (by exact Nat.sub_lt (by assumption) (by decide))) (O.asym _ _ last)
          · exact all i j (by omega) (by omega)
        have rb := rev_blk O (by omega) blk
        rw [show m - (m - 1 + 1) = 0 by omega] at rb
        exact ev_descPart O (by assumption) (by rw [rev_size]; assumption) (Dto.eqv O d1 fun i _ => rb i)
    · rw [if_neg h3]
      have : m = 1 := by omega
      subst this
      refine ev_descPart O (by assumption) hz fun i j hij hj => ?_
      by_cases z : i = j
      · subst z; exact irr O _
      · have a0 : i = 0 := by omega
        have b1 : j = 1 := by omega
        subst a0 b1
        exact O.asym _ _ last
theorem ev_place {p : Array Nat} {k : Nat} : ∀ f l r, r - l ≤ f → l ≤ r → r ≤ k → (∀ i, i < l → lt (g p k) (g p i) = false) → (∀ i, r ≤ i → i < k → lt (g p k) (g p i) = true) → Sto lt p k →
    let x := ev lt (kas_place p k f l r); x ≤ k ∧ (∀ i, i < x → lt (g p k) (g p i) = false) ∧ ∀ i, x ≤ i → i < k → lt (g p k) (g p i) = true
  | 0, l, r, hf, hlr, hrk, h1, h2, _ => by
    have : l = r := by omega
    subst this
    exact ⟨hrk, h1, h2⟩
  | f + 1, l, r, hf, hlr, hrk, h1, h2, hs => by
    intro x
    by_cases hl : l ≥ r
    · have e : x = l := by
        show ev lt (if l ≥ r then KasT.ret l else _) = l
        rw [if_pos hl]; rfl
      have : l = r := by omega
      subst this
      rw [e]
      exact ⟨hrk, h1, h2⟩
    · by_cases c : lt (g p k) (g p ((l + r) / 2)) = true
      · have e : x = ev lt (kas_place p k f l ((l + r) / 2)) := by
          show ev lt (if l ≥ r then KasT.ret l else KasT.ask _ _ fun c => if c = true then _ else _) = _
          rw [if_neg hl]
          show ev lt (if lt (g p k) (g p ((l + r) / 2)) = true then _ else _) = _
          rw [if_pos c]
        rw [e]
        refine ev_place f l ((l + r) / 2) (by omega) (by omega) (by omega) h1 (fun i i1 i2 => ?_) hs
        cases z : lt (g p k) (g p i) with
        | true => rfl
        | false =>
          have := O.ntr _ _ _ z (hs ((l + r) / 2) i i1 i2)
          rw [c] at this; cases this
      · have c' : lt (g p k) (g p ((l + r) / 2)) = false := by simpa using c
        have e : x = ev lt (kas_place p k f ((l + r) / 2 + 1) r) := by
          show ev lt (if l ≥ r then KasT.ret l else KasT.ask _ _ fun c => if c = true then _ else _) = _
          rw [if_neg hl]
          show ev lt (if lt (g p k) (g p ((l + r) / 2)) = true then _ else _) = _
          rw [if_neg c]
        rw [e]
        refine ev_place f ((l + r) / 2 + 1) r (by omega) (by omega) hrk (fun i i1 => O.ntr _ _ _ c' (hs i ((l + r) / 2) (by omega) (by omega))) h2 hs
theorem ev_bin : ∀ f {p : Array Nat} (k : Nat), k + f = p.size → Sto lt p k → Sto lt (ev lt (kas_bin f p k)) p.size
  | 0, p, k, hz, hs => by
    have : k = p.size := by assumption
    subst this; exact hs
  | f + 1, p, k, hz, hs => by
    have e : ev lt (kas_bin (f + 1) p k) = ev lt (kas_bin f (bubble p k (k - ev lt (kas_place p k k 0 k))) (k + 1)) := ev_bind lt _ _
    obtain ⟨x1, x2, x3⟩ := ev_place O (p := p) (k := k) k 0 k (by exact Nat.le_refl _) (by exact Nat.zero_le _) (Nat.le_refl _) (fun i hi => by omega) (fun i i1 i2 => by omega) hs
    rw [e]
    generalize ev lt (kas_place p k k 0 k) = x at x1 x2 x3
    have hs' : Sto lt (bubble p k (k - x)) (k + 1) := fun i j hij hj => by
      rw [g_bub (by omega) (by exact Nat.sub_le _ _), g_bub (by omega) (by exact Nat.sub_le _ _), show k - (k - x) = x by omega]
      by_cases j1 : j = x
      · rw [if_pos j1]
        by_cases i1 : i = x
        · rw [if_pos i1]; exact irr O _
        · rw [if_neg i1, if_neg (by omega)]
          exact x2 i (by omega)
      · rw [if_neg j1]
        by_cases j2 : x < j ∧ j ≤ k
        · rw [if_pos j2]
          by_cases i1 : i = x
          · rw [if_pos i1]; exact O.asym _ _ (x3 (j - 1) (by omega) (by omega))
          · rw [if_neg i1]
            by_cases i2 : x < i ∧ i ≤ k
            · rw [if_pos i2]; exact hs (i - 1) (j - 1) (by omega) (by omega)
            · rw [if_neg i2]; exact hs i (j - 1) (by omega) (by omega)
        · rw [if_neg j2, if_neg (by omega), if_neg (by omega)]
          exact hs i j hij (by omega)
    have := ev_bin f (p := bubble p k (k - x)) (k + 1) (by rw [bubble_size]; omega) hs'
    rw [bubble_size] at this
    exact this
theorem ev_sort {n : Nat} (h1 : 1 ≤ n) : Sto lt (ev lt (kas_sort n)) n := by
  have hz : (List.range n).toArray.size = n := by simp
  have e : ev lt (kas_sort n) = ev lt ((fun r : Nat × Array Nat => if r.1 < n then kas_bin (n - max r.1 1) r.2 (max r.1 1) else .ret r.2) (ev lt (kas_count n (List.range n).toArray))) := ev_bind lt _ _
  obtain ⟨a, b, c⟩ := ev_count O (p := (List.range n).toArray) h1 (by omega)
  have pm : Pm n (ev lt (kas_count n (List.range n).toArray)).2 := (asks_count (by assumption) n (Array.Perm.refl _)).ev lt
  rw [e]
  generalize ev lt (kas_count n (List.range n).toArray) = r at a b c pm
  dsimp only
  have sz := pm.size
  by_cases h : r.1 < n
  · rw [if_pos h, show max r.1 1 = r.1 by omega]
    have := ev_bin O (n - r.1) (p := r.2) r.1 (by omega) c
    rw [sz] at this
    exact this
  · rw [if_neg h]
    have : r.1 = n := by omega
    rw [this] at c
    exact c
end
end Srt
set_option maxHeartbeats 1000000
namespace Srt
open PySem PySem.W PyProof.Rows
section
variable {prog : Program} {w : World} {A : Around} {E : Value → Shared → Prop} {s : Shared}
theorem list_sort_raw {κ : SortKind} {lt : Nat → Nat → Bool} (O : Ord lt) {a : Addr} {vs : List Value} {n : Nat} {P : PySem.Fin → Shared → Prop} (ho : s.heap.get? a = some (seqObj "list" vs.toArray n)) (h64 : vs.length < 64)
    (hk : ∀ h', (∀ b o, b ≠ a → s.heap.get? b = some o → h'.get? b = some o) → 2 ≤ vs.length → ∀ Q : SortKind → Shared → Prop, Q κ { s with heap := h' } → wpAny (model prog w) A (keyKind' vs.toArray) Q E { s with heap := h' })
    (hc : ∀ h', (∀ b o, b ≠ a → s.heap.get? b = some o → h'.get? b = some o) → ∀ i j (C : Bool → Shared → Prop), i < vs.length → j < vs.length → C (lt i j) { s with heap := h' } → kas_ask prog w A κ vs i j C { s with heap := h' })
    (h : ∀ p : Array Nat, Pm vs.length p → Sto lt p vs.length → P (.done (.ret .none)) { s with heap := sortedHeap s.heap a vs (p.toList.map fun i => vs.getD i Value.none).toArray }) :
    wpAny (model prog w) A (Builtin.«list.sort» ⟨[.ref a], []⟩) P E s := by
  rw [list_sort_plain]
  have ha : a < s.heap.objs.size := Heap.lt_size ho
  refine wpAny_bind (listItems_at ho rfl ?_)
  refine wpAny_bind (listUpdate_at ho rfl ?_ (by rw [List.size_toArray, sizeLine_eq]; omega) (Nat.zero_le _))
  obtain ⟨e1, ho1⟩ : ∃ e1, (s.heap.update a (Obj.mapSeq fun _ => #[])).get? a = some (seqObj "list" #[] e1) := ⟨_, get?_update_seq ho (fun _ => #[])⟩
  refine wpAny_bind (seqEpoch_at ho1 rfl ?_)
  refine wpAny_bind (wpAny_newTuple ?_ (by show vs.length ≤ _; rw [sizeLine_eq]; omega))
  refine wpAny_bind (wpAny_newList ?_ (Nat.zero_le _))
  refine wpAny_holding ?_
  have keep : ∀ b o, b ≠ a → s.heap.get? b = some o → (((s.heap.update a (Obj.mapSeq fun _ => #[])).push (seqObj "tuple" vs.toArray 0)).push (seqObj "list" #[] 0)).get? b = some o := fun b o ne q => by
    have hlt : b < s.heap.objs.size := Heap.lt_size q
    rw [Heap.get?_push_ne _ _ _ (by rw [size_push', Heap.size_update]; exact Nat.ne_of_lt (Nat.lt_succ_of_lt hlt)), Heap.get?_push_ne _ _ _ (by rw [Heap.size_update]; exact Nat.ne_of_lt hlt), Heap.get?_update_ne _ _ _ _ ne]
    exact q
  have ho6 : (((s.heap.update a (Obj.mapSeq fun _ => #[])).push (seqObj "tuple" vs.toArray 0)).push (seqObj "list" #[] 0)).get? a = some (seqObj "list" #[] e1) := by
    rw [Heap.get?_push_ne _ _ _ (by rw [size_push', Heap.size_update]; exact Nat.ne_of_lt (Nat.lt_succ_of_lt ha)), Heap.get?_push_ne _ _ _ (by rw [Heap.size_update]; exact Nat.ne_of_lt ha)]
    exact ho1
  show wpAny (model prog w) A _ P E { s with heap := ((s.heap.update a (Obj.mapSeq fun _ => #[])).push (seqObj "tuple" vs.toArray 0)).push (seqObj "list" #[] 0) }
  dsimp only
  have hsz : vs.toArray.size = vs.length := by simp
  by_cases h2 : vs.toArray.size < 2
  · rw [if_pos h2, if_pos h2]
    refine wpAny_bind (wpAny_pure ?_)
    rw [StateT.run_pure]
    refine wpAny_bind (wpAny_pure ?_)
    dsimp only
    refine wpAny_bind (seqEpoch_at ho6 rfl ?_)
    refine wpAny_bind (listUpdate_at ho6 rfl ?_ (hsz2 := by rw [Array.size_map]; show (pairsOf vs).size ≤ _; rw [pairsOf_size, sizeLine_eq]; omega))
    simp only [bne_self_eq_false, Bool.false_eq_true, if_false]
    have fin := h (List.range vs.length).toArray (Array.Perm.refl _) (fun i j hij hj => by
      have : i = j := by omega
      subst this; exact irr O _)
    have e : (List.range vs.length).toArray.toList.map (fun i => vs.getD i Value.none) = vs := by
      refine List.ext_getElem? fun i => ?_
      simp only [List.getElem?_map]
      by_cases hi : i < vs.length
      · simp [hi]
      · simp [Nat.le_of_not_lt hi]
    rw [e] at fin
    have e2 : (Array.map (fun x => x.snd) (vs.toArray.zip vs.toArray)) = vs.toArray := by
      apply Array.toList_inj.mp
      simp [List.map_snd_zip]
    rw [show Array.map (fun x : Keyed => x.snd) (arrOf (SortSt.mk' general' (vs.toArray.zip vs.toArray) #[] 7 none)) = vs.toArray from e2]
    exact wpAny_pure fin
  · rw [if_neg h2, if_neg h2]
    have h2' : 2 ≤ vs.length := by rw [hsz] at h2; exact Nat.not_lt.mp (by assumption)
    refine wpAny_bind (hk _ keep h2' _ ?_)
    refine wpAny_bind (wpAny_mono (kat_run (ks := vs) (vs := vs) (κ := κ) (Q := fun st' s' => ∃ p : Array Nat, s' = { s with heap := ((s.heap.update a (Obj.mapSeq fun _ => #[])).push (seqObj "tuple" vs.toArray 0)).push (seqObj "list" #[] 0) } ∧ Pm vs.length p ∧ Sto lt p vs.length ∧ arrOf st' = p.map (kas_item (vs.toArray.zip vs.toArray)) ∧ failedOf st' = none)
      rfl h2' h64 (G := fun p s' => s' = { s with heap := ((s.heap.update a (Obj.mapSeq fun _ => #[])).push (seqObj "tuple" vs.toArray 0)).push (seqObj "list" #[] 0) } ∧ Pm vs.length p ∧ Sto lt p vs.length) (fun p st' s' a1 a2 a3 a4 => ⟨p, a4.1, a4.2.1, a4.2.2, a2, a3⟩) ?_) ?_ fun _ _ e => e)
    · exact AsksP.wp (lt := lt) (hc _ keep) (asks_sort (by exact Nat.le_of_lt (by assumption))) ⟨rfl, (asks_sort (by exact Nat.le_of_lt (by assumption))).ev lt, ev_sort O (by exact Nat.le_of_lt (by assumption))⟩
    · rintro ⟨⟨⟩, st'⟩ s' ⟨p, rfl, hp, hs, har, hf⟩
      dsimp only
      rw [kat_snds rfl har]
      refine wpAny_bind (seqEpoch_at ho6 rfl ?_)
      refine wpAny_bind (listUpdate_at ho6 rfl ?_ (Nat.zero_le _) (by rw [List.size_toArray, List.length_map, Array.length_toList, hp.size, sizeLine_eq]; omega))
      rw [hf]
      simp only [bne_self_eq_false, Bool.false_eq_true, if_false]
      exact wpAny_pure (h p hp hs)
theorem sorted_raw {κ : SortKind} {lt : Nat → Nat → Bool} (O : Ord lt) {v : Value} (I : List Value → Prop) {Q : Value → Shared → Prop} (h64 : ∀ vs, I vs → vs.length < 64)
    (hcol : ∀ (Q : List Value → Shared → Prop), (∀ vs h1 t1, I vs → (∀ b o, s.heap.get? b = some o → h1.get? b = some o) → Q vs { s with heap := h1, toks := t1 }) → wpAny (model prog w) A.in1 (collect v) Q E s)
    (hk : ∀ vs h' t', I vs → (∀ b o, s.heap.get? b = some o → h'.get? b = some o) → 2 ≤ vs.length → ∀ Q : SortKind → Shared → Prop, Q κ { s with heap := h', toks := t' } → wpAny (model prog w) A.in1.in1 (keyKind' vs.toArray) Q E { s with heap := h', toks := t' })
    (hc : ∀ vs h' t', I vs → (∀ b o, s.heap.get? b = some o → h'.get? b = some o) → ∀ i j (C : Bool → Shared → Prop), i < vs.length → j < vs.length → C (lt i j) { s with heap := h', toks := t' } → kas_ask prog w A.in1.in1 κ vs i j C { s with heap := h', toks := t' })
    (h : ∀ vs (p : Array Nat) (h1 h' : Heap) t' l e, I vs → Pm vs.length p → Sto lt p vs.length → (∀ b o, s.heap.get? b = some o → h1.get? b = some o) → (∀ b o, h1.get? b = some o → h'.get? b = some o) → h1.objs.size ≤ l → h'.get? l = some (seqObj "list" (p.toList.map fun i => vs.getD i Value.none).toArray e) → Q (.ref l) { s with heap := h', toks := t' }) :
    wpAny (model prog w) A (call (.builtin "sorted") [v]) Q E s := by
  refine Calls.call_function_entry kind_sorted plain_sorted entry_sorted (args_sorted1 _) ?_
  unfold Builtin.«sorted»
  refine wpAny_bind (m := checkCount "sorted" 1 1 _) (wpAny_pure ?_)
  refine wpAny_bind (hcol _ fun vs h1 t1 hI k1 => ?_)
  have h64 := h64 vs hI
  refine wpAny_bind (wpAny_newList ?_ (by rw [sizeLine_eq]; omega))
  have hoL : (h1.push (seqObj "list" vs.toArray 0)).get? h1.objs.size = some (seqObj "list" vs.toArray 0) := Heap.get?_push_size _ rfl
  show wpAny _ _ _ _ _ { s with heap := h1.push (seqObj "list" vs.toArray 0), toks := t1 }
  have k3 : ∀ b o, h1.get? b = some o → b ≠ h1.objs.size ∧ (h1.push (seqObj "list" vs.toArray 0)).get? b = some o := fun b o q =>
    ⟨Nat.ne_of_lt (Heap.lt_size q), Heap.get?_push_of_some _ q⟩
  have k2 : ∀ b o, s.heap.get? b = some o → b ≠ h1.objs.size ∧ (h1.push (seqObj "list" vs.toArray 0)).get? b = some o := fun b o q => k3 b o (k1 b o q)
  refine wpAny_bind (wpAny_holding (wpAny_call_entry slot_list_sort ⟨_, hoL, rfl⟩ entry_list_sort (list_sort_raw (s := { s with heap := h1.push (seqObj "list" vs.toArray 0), toks := t1 }) (κ := κ) O hoL h64 (fun h' k l2 Q q => ?_) (fun h' k i j C hi hj q => ?_) fun p hp hs => ⟨_, rfl, ?_⟩) (args_list_sort _)))
  · exact hk vs h' t1 hI (fun b o q => k b o (k2 b o q).1 (k2 b o q).2) l2 Q q
  · exact hc vs h' t1 hI (fun b o q => k b o (k2 b o q).1 (k2 b o q).2) i j C hi hj q
  · refine wpAny_pure ⟨_, rfl, ?_⟩
    have hz : h1.objs.size < (h1.push (seqObj "list" vs.toArray 0)).objs.size := by rw [size_push']; exact Nat.lt_succ_self _
    obtain ⟨e, he⟩ : ∃ e, (sortedHeap (h1.push (seqObj "list" vs.toArray 0)) h1.objs.size vs (p.toList.map fun i => vs.getD i Value.none).toArray).get? h1.objs.size = some (seqObj "list" (p.toList.map fun i => vs.getD i Value.none).toArray e) := by
      unfold sortedHeap
      obtain ⟨e1, ho1⟩ : ∃ e1, ((h1.push (seqObj "list" vs.toArray 0)).update h1.objs.size (Obj.mapSeq fun _ => #[])).get? h1.objs.size = some (seqObj "list" #[] e1) := ⟨_, get?_update_seq hoL (fun _ => #[])⟩
      have ho6 : ((((h1.push (seqObj "list" vs.toArray 0)).update h1.objs.size (Obj.mapSeq fun _ => #[])).push (seqObj "tuple" vs.toArray 0)).push (seqObj "list" #[] 0)).get? h1.objs.size = some (seqObj "list" #[] e1) := by
        exact Heap.get?_push_of_some _ (Heap.get?_push_of_some _ ho1)
      exact ⟨_, get?_update_seq ho6 fun _ => _⟩
    refine h vs p h1 _ t1 h1.objs.size e hI hp hs k1 (fun b o q => ?_) (Nat.le_refl _) he
    have q2 := k3 b o q
    unfold sortedHeap
    rw [Heap.get?_update_ne _ _ _ _ q2.1]
    refine Heap.get?_push_of_some _ (Heap.get?_push_of_some _ ?_)
    rw [Heap.get?_update_ne _ _ _ _ q2.1]
    exact q2.2
end
end Srt
set_option maxHeartbeats 1000000
namespace Srt
open PySem PySem.W PyProof.Rows L2
def ltK : Key → Key → Bool
  | .inl a, .inl b => decide (a < b)
  | .inr a, .inr b => decide (a.cps.toList < b.cps.toList)
  | .inl _, .inr _ => true
  | .inr _, .inl _ => false
def ltR : List Key → List Key → Bool
  | x :: xs, y :: ys => if x = y then ltR xs ys else ltK x y
  | [], _ :: _ => true
  | _, [] => false
theorem str_ext {a b : Str} (h : a.cps.toList = b.cps.toList) : a = b := by
  cases a; cases b; simp at h; rw [h]
theorem ltK_irr : ∀ a, ltK a a = false
  | .inl a => by simp [ltK]
  | .inr a => by simp [ltK, List.lt_irrefl]
theorem ltK_tr : ∀ {a b c}, ltK a b = true → ltK b c = true → ltK a c = true
  | .inl a, .inl b, .inl c, h1, h2 => by simp only [ltK, decide_eq_true_eq] at *; omega
  | .inr a, .inr b, .inr c, h1, h2 => by simp only [ltK, decide_eq_true_eq] at *; exact List.lt_trans h1 h2
  | .inl _, .inl _, .inr _, _, _ => rfl
  | .inl _, .inr _, .inr _, _, _ => rfl
  | .inl _, .inr _, .inl _, _, h2 => by simp [ltK] at h2
  | .inr _, .inl _, _, h1, _ => by simp [ltK] at h1
  | .inr _, .inr _, .inl _, _, h2 => by simp [ltK] at h2
theorem ltK_tri : ∀ a b, ltK a b = false → a = b ∨ ltK b a = true
  | .inl a, .inl b, h => by
    simp only [ltK, decide_eq_true_eq, decide_eq_false_iff_not] at *
    rcases Int.lt_trichotomy a b with x | x | x
    · exact absurd x h
    · exact .inl (by rw [x])
    · exact .inr x
  | .inr a, .inr b, h => by
    simp only [ltK, decide_eq_true_eq, decide_eq_false_iff_not] at *
    by_cases e : b.cps.toList < a.cps.toList
    · exact .inr e
    · exact .inl (congrArg Sum.inr (str_ext (List.le_antisymm (List.not_lt.mp e) (List.not_lt.mp h))))
  | .inl _, .inr _, h => by simp [ltK] at h
  | .inr _, .inl _, _ => .inr rfl
theorem ltR_irr : ∀ a, ltR a a = false
  | [] => rfl
  | x :: xs => by simp [ltR, ltR_irr xs]
theorem ltR_tr : ∀ {a b c}, ltR a b = true → ltR b c = true → ltR a c = true
  | _, [], _, h, _ => by simp [ltR] at h
  | _, _ :: _, [], _, h => by simp [ltR] at h
  | [], _ :: _, _ :: _, _, _ => rfl
  | x :: xs, y :: ys, z :: zs, h1, h2 => by
    unfold ltR at h1 h2 ⊢
    by_cases e1 : x = y
    · subst e1
      rw [if_pos rfl] at h1
      by_cases e2 : x = z
      · rw [if_pos e2] at h2 ⊢; exact ltR_tr h1 h2
      · rw [if_neg e2] at h2 ⊢; exact h2
    · rw [if_neg e1] at h1
      by_cases e2 : y = z
      · subst e2
        rw [if_neg e1]; exact h1
      · rw [if_neg e2] at h2
        have := ltK_tr h1 h2
        rw [if_neg (fun e => by rw [e, ltK_irr] at this; cases this)]
        exact this
theorem ltR_tri : ∀ a b, ltR a b = false → a = b ∨ ltR b a = true
  | [], [], _ => .inl rfl
  | [], _ :: _, h => by simp [ltR] at h
  | _ :: _, [], _ => .inr rfl
  | x :: xs, y :: ys, h => by
    unfold ltR at h ⊢
    by_cases e : x = y
    · subst e
      rw [if_pos rfl] at h ⊢
      rcases ltR_tri xs ys h with r | r
      · exact .inl (by rw [r])
      · exact .inr r
    · rw [if_neg e] at h
      rw [if_neg (fun z => e z.symm)]
      exact .inr ((ltK_tri _ _ h).resolve_left e)
theorem ord_rows (f : Nat → List Key) : Ord fun i j => ltR (f i) (f j) where
  asym := fun a b h => by
    cases e : ltR (f b) (f a) with
    | false => rfl
    | true => have := ltR_tr h e; rw [ltR_irr] at this; cases this
  ntr := fun a b c h1 h2 => by
    cases e : ltR (f a) (f c) with
    | false => rfl
    | true =>
      rcases ltR_tri _ _ h1 with r | r
      · rw [r, h2] at e; cases e
      · have := ltR_tr r e; rw [h2] at this; cases this
def isL : Key → Bool
  | .inl _ => true
  | .inr _ => false
section
variable {prog : Program} {w : World} {A : Around} {E : Value → Shared → Prop} {s : Shared}
theorem key_eq : ∀ {x y : Key} {u v : Value} {C : Bool → Shared → Prop}, isL x = isL y → RelV (kV x) u → RelV (kV y) v → C (decide (x = y)) s → wpAny (model prog w) A (eqBool u v) C E s
  | .inl a, .inl b, _, _, C, _, ⟨t, rfl⟩, ⟨t', rfl⟩, h => wpAny_eqBool_int (by
      have : (a == b) = decide ((Sum.inl a : Key) = Sum.inl b) := by simp only [Sum.inl.injEq]; rfl
      rw [this]; exact h)
  | .inr a, .inr b, _, _, C, _, ⟨t, rfl⟩, ⟨t', rfl⟩, h => wpAny_eqBool_str (by
      have : decide (a = b) = decide ((Sum.inr a : Key) = Sum.inr b) := by simp
      rw [this]; exact h)
  | .inl _, .inr _, _, _, _, h, _, _, _ => by cases h
  | .inr _, .inl _, _, _, _, h, _, _, _ => by cases h
theorem key_lt : ∀ {x y : Key} {u v : Value} {b : Bool} {C : Bool → Shared → Prop}, isL x = isL y → RelV (kV x) u → RelV (kV y) v → C (ltK x y) s → wpAny (model prog w) A (oneLt' b u v) C E s
  | .inl a, .inl c, _, _, true, C, _, ⟨t, rfl⟩, ⟨t', rfl⟩, h => oneLt_int h
  | .inl a, .inl c, _, _, false, C, _, ⟨t, rfl⟩, ⟨t', rfl⟩, h => kat_one _ _ (PyProof.Rows.lt_int (show PySem.W.BoolBack C _ s from h))
  | .inr a, .inr c, _, _, true, C, _, ⟨t, rfl⟩, ⟨t', rfl⟩, h => oneLt_str h
  | .inr a, .inr c, _, _, false, C, _, ⟨t, rfl⟩, ⟨t', rfl⟩, h => kat_one _ _ (PySem.P.lt_str (show PySem.W.BoolBack C _ s from h))
  | .inl _, .inr _, _, _, _, _, h, _, _, _ => by cases h
  | .inr _, .inl _, _, _, _, _, h, _, _, _ => by cases h
theorem lex_go {b fin : Bool} {C : Bool → Shared → Prop} (hf : fin = false) : ∀ {x y : List Key} {us vs : List Value} (i : Nat), x.map isL = y.map isL → Vals (x.map kV) us → Vals (y.map kV) vs → C (ltR x y) s → KatLex prog w A b fin C (us.zip vs) i s
  | [], [], _, _, i, _, .nil, .nil, h => by subst hf; exact h
  | [], _ :: _, _, _, _, e, _, _, _ => by cases e
  | _ :: _, [], _, _, _, e, _, _, _ => by cases e
  | x :: xs, y :: ys, _, _, i, e, .cons r1 r2, .cons q1 q2, h => by
    simp only [List.map_cons, List.cons.injEq] at e
    refine kat_cons (key_eq e.1 r1 q1 ?_)
    unfold ltR at h
    by_cases z : x = y
    · rw [decide_eq_true z]
      rw [if_pos z] at h
      exact kat_yes (lex_go hf (i + 1) e.2 r2 q2 h)
    · rw [decide_eq_false z]
      rw [if_neg z] at h
      exact kat_no (key_lt e.1 r1 q1 h)
end
abbrev Row := Addr × List Key
def rRef (q : Row) : V := .ref q.1
theorem tups_of {X : Cx} {pins : List (Addr × Obj)} {σ : L2.St} {H : Hp} {s : Shared} (I : Inv X pins σ H s) : ∀ (ps : List Row), (∀ q ∈ ps, SqT X.K H q.1 (q.2.map kV)) → (∀ q ∈ ps, q.2 ≠ []) →
    ∃ fs, KatTups s.heap (ps.map fun q => Value.ref q.1) fs ∧ fs.length = ps.length ∧ ∀ v ∈ fs, ∃ q ∈ ps, ∃ k r, q.2 = k :: r ∧ RelV (kV k) v
  | [], _, _ => ⟨[], trivial, rfl, fun v h => nomatch h⟩
  | q :: ps, h, h0 => by
    obtain ⟨fs, t, l, f⟩ := tups_of I ps (fun q hq => h q (.tail _ hq)) fun q hq => h0 q (.tail _ hq)
    obtain ⟨its, rv, ⟨o, ho, hc, n, hd⟩, hz⟩ := I.tuple (h q (.head _))
    cases e : q.2 with
    | nil => exact absurd e (h0 q (.head _))
    | cons k r =>
      rw [e, List.map_cons] at rv
      cases rv with
      | @cons _ u _ us ru rr =>
        refine ⟨u :: fs, .cons ho hc hd (by simp) t, by simp [l], fun v hv => ?_⟩
        rcases List.mem_cons.mp hv with rfl | hv
        · exact ⟨q, .head _, k, r, e, ru⟩
        · obtain ⟨q', h1, k', r', h2, h3⟩ := f v hv
          exact ⟨q', .tail _ h1, k', r', h2, h3⟩
theorem looks_key {M : Model} {h : Heap} : ∀ {k : Key} {v : Value}, RelV (kV k) v → Looks M h (typeOf v) (if isL k = true then Value.type "int" else Value.type "str")
  | .inl i, v, ⟨t, e⟩ => by subst e; exact Looks.of_pure rfl
  | .inr x, v, ⟨t, e⟩ => by subst e; exact Looks.of_pure rfl
theorem Pm.toList {n : Nat} {p : Array Nat} (h : Pm n p) : p.toList.Perm (List.range n) := by
  have := (Array.perm_iff_toList_perm).mp h
  simpa using this
theorem map_range_getD {α : Type} (l : List α) (d : α) : (List.range l.length).map (fun i => l.getD i d) = l := by
  refine List.ext_getElem? fun i => ?_
  simp only [List.getElem?_map]
  by_cases hi : i < l.length
  · simp [hi]
  · simp [Nat.le_of_not_lt hi]
theorem Sto.pairwise {lt : Nat → Nat → Bool} {p : Array Nat} {n : Nat} (hz : p.size = n) (h : Sto lt p n) : p.toList.Pairwise fun i j => lt j i = false := by
  rw [List.pairwise_iff_getElem]
  intro i j hi hj hij
  have := h i j (Nat.le_of_lt hij) (by simpa [← hz] using hj)
  simp only [Array.length_toList] at hi hj
  have e1 : g p i = p.toList[i] := by simp [g, Array.getD, hi]
  have e2 : g p j = p.toList[j] := by simp [g, Array.getD, hj]
  rw [e1, e2] at this
  exact this
theorem vals_map {α : Type} (f : α → V) (f' : α → Value) (hf : ∀ a, RelV (f a) (f' a)) : ∀ l : List α, Vals (l.map f) (l.map f')
  | [] => .nil
  | a :: l => .cons (hf a) (vals_map f f' hf l)
theorem sortT_core {X : Cx} {pins : List (Addr × Obj)} {σ : L2.St} {H : Hp} {s : Shared} (I : Inv X pins σ H s) {v : Value} {ps : List Row} {Q : VK} (hT : ∀ q ∈ ps, SqT X.K H q.1 (q.2.map kV)) (hS : ∀ q ∈ ps, ∀ q' ∈ ps, q.2.map isL = q'.2.map isL) (h0 : ∀ q ∈ ps, q.2 ≠ []) (h64 : ps.length < 64)
    (hcol : ∀ (Q : List Value → Shared → Prop), (∀ h1 t1, (∀ b o, s.heap.get? b = some o → h1.get? b = some o) → Q (ps.map fun q => Value.ref q.1) { s with heap := h1, toks := t1 }) → wpAny (model X.prog X.w) X.A.in1 (collect v) Q X.xe s)
    (h : ∀ (l : Addr) (ps' : List Row), H l = none → ps'.Perm ps → ps'.Pairwise (fun a b => ltR b.2 a.2 = false) → Q (.ref l) (upd H l (.lst (ps'.map rRef)))) :
    wpAny (model X.prog X.w) X.A (call (.builtin "sorted") [v]) (EP X pins σ Q) X.xe s := by
  have lz : (ps.map fun q => Value.ref q.1).length = ps.length := List.length_map ..
  refine sorted_raw (κ := tuples' true) (ord_rows fun i => (ps.getD i (0, [])).2) (fun vs => vs = ps.map fun q => Value.ref q.1) (fun vs e => by rw [e, lz]; exact h64) (fun Q hq => hcol Q fun h1 t1 k => hq _ h1 t1 rfl k) ?_ ?_ ?_
  · rintro vs h' t' rfl k l2 Q hq
    rw [lz] at l2
    have I' : Inv X pins σ H { s with heap := h', toks := t' } := I.kept k
    obtain ⟨fs, t, l, f⟩ := tups_of I' ps hT h0
    obtain ⟨q0, r0, e0⟩ : ∃ q0 r0, ps = q0 :: r0 := by
      match ps, l2 with
      | q0 :: r0, _ => exact ⟨q0, r0, rfl⟩
    have m0 : q0 ∈ ps := by rw [e0]; exact .head _
    obtain ⟨k0, r1, e1⟩ : ∃ k0 r1, q0.2 = k0 :: r1 := by
      cases e : q0.2 with
      | nil => exact absurd e (h0 q0 m0)
      | cons k r => exact ⟨k, r, rfl⟩
    refine kat_kind (s := { s with heap := h', toks := t' }) (T := if isL k0 = true then Value.type "int" else Value.type "str") t (by omega) (fun v hv => ?_) (by split <;> rfl) ?_
    · obtain ⟨q, hq, k', r', e', rk⟩ := f v hv
      have := hS q hq q0 m0
      rw [e', e1] at this
      simp only [List.map_cons, List.cons.injEq] at this
      rw [← this.1]
      exact looks_key rk
    · have : ((if isL k0 = true then Value.type "int" else Value.type "str") != Value.type "tuple") = true := by split <;> rfl
      rw [this]; exact hq
  · rintro vs h' t' rfl k i j C hi hj hC
    rw [lz] at hi hj
    have I' : Inv X pins σ H { s with heap := h', toks := t' } := I.kept k
    show wpAny _ _ (keyLt' _ ((ps.map fun q => Value.ref q.1).getD i Value.none) ((ps.map fun q => Value.ref q.1).getD j Value.none)) C _ _
    have ei : (ps.map fun q => Value.ref q.1).getD i Value.none = Value.ref ps[i].1 := by simp [hi]
    have ej : (ps.map fun q => Value.ref q.1).getD j Value.none = Value.ref ps[j].1 := by simp [hj]
    have fi : ps.getD i (0, []) = ps[i] := by simp [hi]
    have fj : ps.getD j (0, []) = ps[j] := by simp [hj]
    rw [ei, ej]
    rw [fi, fj] at hC
    obtain ⟨ui, ri, ⟨oi, hoi, hci, ni, hdi⟩, zi⟩ := I'.tuple (hT ps[i] (List.getElem_mem hi))
    obtain ⟨uj, rj, ⟨oj, hoj, hcj, nj, hdj⟩, zj⟩ := I'.tuple (hT ps[j] (List.getElem_mem hj))
    have sh := hS _ (List.getElem_mem hi) _ (List.getElem_mem hj)
    have el : ui.length = uj.length := by
      rw [← ri.length, ← rj.length, List.length_map, List.length_map]
      simpa using congrArg List.length sh
    refine kat_lt hoi hdi hoj hdj (lex_go (by simp [el]) 0 sh ri rj hC)
  · rintro vs p h1 h' t' l e rfl pm st k1 k zl hl
    have I : Inv X pins σ H { s with heap := h1, toks := t' } := I.kept k1
    have pl := pm.toList
    rw [lz] at pl pm st
    have hz := pm.size
    have mem : ∀ i ∈ p.toList, i < ps.length := fun i hi => by simpa using pl.mem_iff.mp hi
    have e1 : (p.toList.map fun i => (ps.map fun q => Value.ref q.1).getD i Value.none) = (p.toList.map fun i => ps.getD i (0, [])).map fun q => Value.ref q.1 := by
      rw [List.map_map]
      refine List.map_congr_left fun i hi => ?_
      have := mem i hi
      simp [this]
    rw [e1] at hl
    have pp : (p.toList.map fun i => ps.getD i (0, [])).Perm ps := by
      have := pl.map (fun i => ps.getD i ((0, []) : Row))
      rwa [map_range_getD] at this
    have pw : (p.toList.map fun i => ps.getD i ((0, []) : Row)).Pairwise (fun a b => ltR b.2 a.2 = false) := by
      rw [List.pairwise_map]
      exact st.pairwise hz
    refine ⟨.ref l, _, I.laid (t' := t') (o := .lst ((p.toList.map fun i => ps.getD i (0, [])).map rRef)) k zl ⟨?_, _, e, vals_map rRef (fun q => Value.ref q.1) (fun _ => rfl) _, hl⟩, rfl, h l _ (I.hok.fresh zl) pp pw⟩
    rw [List.length_map, pp.length_eq, sizeLine_eq]
    omega
end Srt
set_option maxHeartbeats 1000000
namespace Srt
open PySem PySem.W PyProof.Rows L2
structure RowsOk (K : PySem.W.Frag) (H : Hp) (ps : List Row) : Prop where
  at' : ∀ q ∈ ps, SqT K H q.1 (q.2.map kV)
  sh : ∀ q ∈ ps, ∀ q' ∈ ps, q.2.map isL = q'.2.map isL
  ne : ∀ q ∈ ps, q.2 ≠ []
  few : ps.length < 64
section
variable {X : Cx}
theorem call_sortedT : CallR X (.builtin "sorted") (fun xs H Q => ∃ (p : Addr) (ps : List Row), xs = [.ref p] ∧ SqL X.K H p (ps.map rRef) ∧ RowsOk X.K H ps ∧ ∀ (l : Addr) (ps' : List Row), H l = none → ps'.Perm ps → ps'.Pairwise (fun a b => ltR b.2 a.2 = false) → Q (.ref l) (upd H l (.lst (ps'.map rRef)))) := by
  intro pins s σ H xs us Q I r h
  obtain ⟨p, ps, rfl, hq, ok, q⟩ := h
  obtain ⟨u, rfl, rx⟩ := vals1 r
  cases rx
  obtain ⟨its, rv, hp, hz⟩ := I.list hq
  have e : its = ps.map fun q => Value.ref q.1 := by
    clear hq hp hz q r ok
    induction ps generalizing its with
    | nil => cases rv; rfl
    | cons a ps ih =>
      cases rv with
      | cons ru rr => rw [List.map_cons, ← ih _ rr]; cases ru; rfl
  subst e
  refine sortT_core I ok.at' ok.sh ok.ne ok.few (fun Q hq => collect_list hp.isList (hq _ _ fun b o ho => ?_) (by rw [List.length_map, sizeLine_eq]; have := ok.few; omega)) q
  have hlt : b < s.heap.objs.size := Heap.lt_size ho
  rw [Heap.get?_update_ne _ _ _ _ (Nat.ne_of_lt hlt)]
  exact Heap.get?_push_of_some _ ho
end
end Srt
set_option maxHeartbeats 1000000
namespace L2
open PySem PySem.Spec PyProof.Rows
end L2
set_option maxHeartbeats 400000
namespace L2
open PySem PySem.Spec PyProof.Rows
end L2
set_option maxHeartbeats 1000000
namespace PySem
end PySem
namespace PySem
end PySem
set_option maxHeartbeats 1000000
namespace L2
open PySem PySem.Spec PyProof.Rows
end L2
set_option maxHeartbeats 1000000
namespace HT
open PySem PyProof.Rows
end HT
namespace L2
open PySem PySem.Spec PyProof.Rows
end L2
set_option maxHeartbeats 4000000
namespace HT
open PySem PyProof.Rows L2
section
open PySem.SeqAt
open PySem.AutoSeq1 (wpAny_loadPart')
open PySem.MeetsSeq PySem.MeetsSeq2 PySem.MeetsSeq3
end
end HT
namespace L2
open PySem PySem.Spec PyProof.Rows
end L2
set_option maxHeartbeats 1000000
namespace L2
open PySem PySem.Spec PyProof.Rows
theorem op_neNil {X : Cx} (hu : X.A.units + 64 < cLine) : OpR X (compareOp .NotEq) (fun x y H Q => ∃ (a b : Addr) (xs : List V), x = .ref a ∧ y = .ref b ∧ SqL X.K H a xs ∧ SqL X.K H b [] ∧ Q (.bl (!xs.isEmpty)) H) := by
  intro pins s σ H x y u v Q I rx ry h
  obtain ⟨a, b, xs, rfl, rfl, ha, hb, q⟩ := h
  cases rx
  cases ry
  cases xs with
  | nil => exact op_neD hu pins s σ H (.ref a) (.ref b) _ _ Q I rfl rfl ⟨.list [], .list [], .lst ha .nil, .lst hb .nil, rfl, rfl, by decide, q⟩
  | cons x xs =>
    obtain ⟨its, r1, h1, _⟩ := I.list ha
    obtain ⟨its2, r2, h2, _⟩ := I.list hb
    have l1 := r1.length
    have l2 := r2.length
    refine SeqAt.RcNeAt.lists_lengths h1.isList h2.isList (by simp at l1 l2 ⊢; omega) (by omega) X.prog X.w _ _ ⟨.bl _, H, I, rfl, q⟩
end L2
set_option maxHeartbeats 1000000
namespace L2
open PySem PySem.Spec PyProof.Rows
end L2
set_option maxHeartbeats 1000000
namespace L2
open PySem PySem.Spec PyProof.Rows
end L2
set_option maxHeartbeats 1000000
namespace PySem
open PyProof.Rows
end PySem
namespace L2
open PySem PySem.Spec PyProof.Rows
end L2
set_option maxHeartbeats 1000000
namespace PySem
open PyProof.Rows
namespace F
end F
end PySem
namespace L2
open PySem PySem.Spec PyProof.Rows
end L2
set_option maxHeartbeats 1000000
namespace Wk
open PySem
abbrev T4 := Str × Nat × Nat × Int
def nbT (v : Nat) (t : T4) : List (Str × Nat) := (if t.2.1 = v then [(t.1, t.2.2.1)] else []) ++ (if t.2.2.1 = v then [(t.1, t.2.1)] else [])
def nbrs (S : List T4) (v : Nat) : List (Str × Nat) := S.flatMap (nbT v)
abbrev Ws := List (Option (List Str))
def visit (w : List Str) : List (Str × Nat) → Ws × List Nat → Ws × List Nat
  | [], st => st
  | (n, u) :: r, st => if st.1[u]? = some none then visit w r (st.1.set u (some (w ++ [n])), st.2 ++ [u]) else visit w r st
def bstep (S : List T4) (st : Ws × List Nat) : Ws × List Nat :=
  match st.2 with
  | [] => st
  | h :: rest => visit ((st.1[h]?.join).getD []) (nbrs S h) (st.1, rest)
def binit (N p : Nat) : Ws × List Nat := ((List.replicate N none).set p (some []), [p])
def iter (S : List T4) : Nat → Ws × List Nat → Ws × List Nat
  | 0, st => st
  | n + 1, st => iter S n (bstep S st)
def waysF (N : Nat) (S : List T4) (p : Nat) : Ws := (iter S 64 (binit N p)).1
theorem iter_nil {S : List T4} : ∀ (n : Nat) {ws : Ws}, iter S n (ws, []) = (ws, [])
  | 0, _ => rfl
  | n + 1, ws => iter_nil n (ws := ws)
theorem iter_snoc {S : List T4} : ∀ (n : Nat) (st : Ws × List Nat), iter S (n + 1) st = bstep S (iter S n st)
  | 0, st => rfl
  | n + 1, st => iter_snoc n (bstep S st)
theorem iter_add {S : List T4} (m : Nat) : ∀ (n : Nat) (st : Ws × List Nat), iter S (n + m) st = iter S m (iter S n st)
  | 0, st => by rw [Nat.zero_add]; rfl
  | n + 1, st => by rw [show n + 1 + m = (n + m) + 1 by omega]; exact iter_add m n (bstep S st)
theorem ways_of {N p i : Nat} {S : List T4} {ws : Ws} (h : iter S i (binit N p) = (ws, [])) (hi : i ≤ 64) : waysF N S p = ws := by
  unfold waysF
  rw [show 64 = i + (64 - i) by omega, iter_add, h, iter_nil]
inductive Lead (S : List T4) (a : Nat) : List Str → Nat → Prop
  | nil : Lead S a [] a
  | snoc {ws : List Str} {b c : Nat} {n : Str} : Lead S a ws b → (n, c) ∈ nbrs S b → Lead S a (ws ++ [n]) c
def nones (ws : Ws) : Nat := ws.countP (· == none)
def Vis (ws : Ws) (v : Nat) (w : List Str) : Prop := ws[v]? = some (some w)
structure PInv (S : List T4) (N p h : Nat) (w : List Str) (st : Ws × List Nat) : Prop where
  len : st.1.length = N
  lead : ∀ v x, Vis st.1 v x → Lead S p x v
  vis : ∀ v ∈ st.2, ∃ x, Vis st.1 v x
  done : ∀ v x, Vis st.1 v x → v ∈ st.2 ∨ v = h ∨ ∀ nb ∈ nbrs S v, ∃ y, Vis st.1 nb.2 y ∧ y.length ≤ x.length + 1
  sorted : st.2.Pairwise fun a b => ∀ x y, Vis st.1 a x → Vis st.1 b y → x.length ≤ y.length
  top : ∀ v x b y, Vis st.1 v x → b ∈ st.2 → Vis st.1 b y → x.length ≤ y.length + 1
  hv : Vis st.1 h w
  ht : ∀ v x, Vis st.1 v x → x.length ≤ w.length + 1
  hb : ∀ b y, b ∈ st.2 → Vis st.1 b y → w.length ≤ y.length
theorem vis_set {ws : Ws} {u : Nat} {z : List Str} (hu : ws[u]? = some none) {v : Nat} {x : List Str} : Vis (ws.set u (some z)) v x ↔ (v = u ∧ x = z) ∨ Vis ws v x := by
  unfold Vis
  have hl : u < ws.length := (List.getElem?_eq_some_iff.mp hu).1
  rw [List.getElem?_set]
  by_cases e : u = v
  · subst e
    rw [if_pos rfl, if_pos hl, hu]
    constructor
    · intro q; left; exact ⟨rfl, by simpa using q.symm⟩
    · rintro (⟨_, rfl⟩ | q)
      · rfl
      · simp at q
  · rw [if_neg e]
    constructor
    · exact .inr
    · rintro (⟨rfl, _⟩ | q)
      · exact absurd rfl e
      · exact q
theorem vis_inj {ws : Ws} {v : Nat} {x y : List Str} (a : Vis ws v x) (b : Vis ws v y) : x = y := by
  unfold Vis at a b; rw [a] at b; simpa using b
theorem visit_ok {S : List T4} {N p h : Nat} {w : List Str} : ∀ (L : List (Str × Nat)) (st : Ws × List Nat), PInv S N p h w st → (∀ nb ∈ L, nb ∈ nbrs S h ∧ nb.2 < N) →
    PInv S N p h w (visit w L st) ∧ (∀ v x, Vis st.1 v x → Vis (visit w L st).1 v x) ∧ (∀ nb ∈ L, ∃ y, Vis (visit w L st).1 nb.2 y ∧ y.length ≤ w.length + 1) ∧ nones (visit w L st).1 + (visit w L st).2.length = nones st.1 + st.2.length
  | [], st, I, _ => ⟨I, fun _ _ e => e, fun nb h => (by cases h), rfl⟩
  | (n, u) :: r, st, I, hL => by
    have hr : ∀ nb ∈ r, nb ∈ nbrs S h ∧ nb.2 < N := fun nb q => hL nb (List.mem_cons_of_mem _ q)
    have hn := hL (n, u) (List.mem_cons_self ..)
    have hu : u < st.1.length := by rw [I.len]; exact hn.2
    unfold visit
    by_cases e : st.1[u]? = some none
    · rw [if_pos e]
      have I' : PInv S N p h w (st.1.set u (some (w ++ [n])), st.2 ++ [u]) := by
        have nu : ∀ x, ¬ Vis st.1 u x := fun x q => by unfold Vis at q; rw [e] at q; simp at q
        refine ⟨by simp [I.len], ?_, ?_, ?_, ?_, ?_, ?_, ?_, ?_⟩
        · intro v x q
          rcases (vis_set e).mp q with ⟨rfl, rfl⟩ | q
          · exact .snoc (I.lead h w I.hv) hn.1
          · exact I.lead v x q
        · intro v q
          rcases List.mem_append.mp q with q | q
          · obtain ⟨x, hx⟩ := I.vis v q; exact ⟨x, (vis_set e).mpr (.inr hx)⟩
          · rw [List.mem_singleton.mp q]; exact ⟨_, (vis_set e).mpr (.inl ⟨rfl, rfl⟩)⟩
        · intro v x q
          rcases (vis_set e).mp q with ⟨rfl, rfl⟩ | q
          · exact .inl (List.mem_append_right _ (List.mem_singleton.mpr rfl))
          · rcases I.done v x q with a | a | a
            · exact .inl (List.mem_append_left _ a)
            · exact .inr (.inl a)
            · exact .inr (.inr fun nb hb => let ⟨y, hy, hl⟩ := a nb hb; ⟨y, (vis_set e).mpr (.inr hy), hl⟩)
        · refine List.pairwise_append.mpr ⟨?_, List.pairwise_singleton .., ?_⟩
          · refine (List.Pairwise.imp_of_mem ?_ I.sorted)
            intro a b ha hb k x y hx hy
            have hx' : Vis st.1 a x := by
              rcases (vis_set e).mp hx with ⟨rfl, _⟩ | q
              · obtain ⟨z, hz⟩ := I.vis _ ha; exact absurd hz (nu z)
              · exact q
            have hy' : Vis st.1 b y := by
              rcases (vis_set e).mp hy with ⟨rfl, _⟩ | q
              · obtain ⟨z, hz⟩ := I.vis _ hb; exact absurd hz (nu z)
              · exact q
            exact k x y hx' hy'
          · intro a ha b hb x y hx hy
            rw [List.mem_singleton.mp hb] at hy
            rcases (vis_set e).mp hy with ⟨_, rfl⟩ | q
            · rcases (vis_set e).mp hx with ⟨_, rfl⟩ | q
              · exact Nat.le_refl _
              · have := I.ht a x q; simp only [List.length_append, List.length_cons, List.length_nil]; assumption
            · exact absurd q (nu y)
        · intro v x b y hx hb hy
          have hx1 : x.length ≤ w.length + 1 := by
            rcases (vis_set e).mp hx with ⟨_, rfl⟩ | q
            · simp
            · exact I.ht v x q
          have hy1 : w.length ≤ y.length := by
            rcases (vis_set e).mp hy with ⟨_, rfl⟩ | q
            · simp
            · rcases List.mem_append.mp hb with hb | hb
              · exact I.hb b y hb q
              · rw [List.mem_singleton.mp hb] at q; exact absurd q (nu y)
          omega
        · exact (vis_set e).mpr (.inr I.hv)
        · intro v x hx
          rcases (vis_set e).mp hx with ⟨_, rfl⟩ | q
          · simp
          · exact I.ht v x q
        · intro b y hb hy
          rcases (vis_set e).mp hy with ⟨_, rfl⟩ | q
          · simp
          · rcases List.mem_append.mp hb with hb | hb
            · exact I.hb b y hb q
            · rw [List.mem_singleton.mp hb] at q; exact absurd q (nu y)
      obtain ⟨a, b, c, d⟩ := visit_ok r _ I' hr
      refine ⟨a, fun v x q => b v x ((vis_set e).mpr (.inr q)), fun nb q => ?_, ?_⟩
      · rcases List.mem_cons.mp q with rfl | q
        · exact ⟨_, b _ _ ((vis_set e).mpr (.inl ⟨rfl, rfl⟩)), by simp⟩
        · exact c nb q
      · rw [d]
        have : nones (st.1.set u (some (w ++ [n]))) + 1 = nones st.1 := by
          unfold nones
          have hg : st.1[u] = none := by have := List.getElem?_eq_some_iff.mp e; exact this.2
          rw [List.countP_set (h := hu), hg]
          have : 0 < st.1.countP (· == none) := List.countP_pos_iff.mpr ⟨none, by rw [← hg]; exact List.getElem_mem hu, rfl⟩
          simp only [beq_self_eq_true, if_true]
          show st.1.countP (· == none) - 1 + 0 + 1 = _
          omega
        simp only [List.length_append, List.length_cons, List.length_nil]
        omega
    · rw [if_neg e]
      obtain ⟨a, b, c, d⟩ := visit_ok r st I hr
      refine ⟨a, b, fun nb q => ?_, d⟩
      rcases List.mem_cons.mp q with rfl | q
      · have : ∃ y, Vis st.1 u y := by
          cases hh : st.1[u]? with
          | none => rw [List.getElem?_eq_getElem hu] at hh; cases hh
          | some z => cases z with
            | none => exact absurd hh e
            | some y => exact ⟨y, hh⟩
        obtain ⟨y, hy⟩ := this
        exact ⟨y, b _ _ hy, I.ht _ _ hy⟩
      · exact c nb q
structure BInv (S : List T4) (N p : Nat) (st : Ws × List Nat) : Prop where
  len : st.1.length = N
  p0 : Vis st.1 p []
  lead : ∀ v x, Vis st.1 v x → Lead S p x v
  vis : ∀ v ∈ st.2, ∃ x, Vis st.1 v x
  done : ∀ v x, Vis st.1 v x → v ∈ st.2 ∨ ∀ nb ∈ nbrs S v, ∃ y, Vis st.1 nb.2 y ∧ y.length ≤ x.length + 1
  sorted : st.2.Pairwise fun a b => ∀ x y, Vis st.1 a x → Vis st.1 b y → x.length ≤ y.length
  top : ∀ v x b y, Vis st.1 v x → b ∈ st.2 → Vis st.1 b y → x.length ≤ y.length + 1
def InN (N : Nat) (S : List T4) : Prop := ∀ t ∈ S, t.2.1 < N ∧ t.2.2.1 < N
theorem nb_lt {N : Nat} {S : List T4} (h : InN N S) {v : Nat} {nb : Str × Nat} (q : nb ∈ nbrs S v) : nb.2 < N := by
  obtain ⟨t, ht, q⟩ := List.mem_flatMap.mp q
  have := h t ht
  unfold nbT at q
  rcases List.mem_append.mp q with q | q
  · split at q
    · rw [List.mem_singleton.mp q]; exact this.2
    · cases q
  · split at q
    · rw [List.mem_singleton.mp q]; exact this.1
    · cases q
theorem binv0 {S : List T4} {N p : Nat} (hp : p < N) : BInv S N p (binit N p) := by
  have hu : (List.replicate N (none : Option (List Str)))[p]? = some none := by rw [List.getElem?_replicate]; rw [if_pos hp]
  have nv : ∀ v x, ¬ Vis (List.replicate N (none : Option (List Str))) v x := fun v x q => by
    unfold Vis at q; rw [List.getElem?_replicate] at q; split at q <;> simp at q
  have key : ∀ v x, Vis (binit N p).1 v x → v = p ∧ x = [] := fun v x q => by
    rcases (vis_set hu).mp q with q | q
    · exact q
    · exact absurd q (nv v x)
  refine ⟨by simp [binit], (vis_set hu).mpr (.inl ⟨rfl, rfl⟩), ?_, ?_, ?_, ?_, ?_⟩
  · intro v x q; obtain ⟨rfl, rfl⟩ := key v x q; exact .nil
  · intro v q; rw [List.mem_singleton.mp q]; exact ⟨_, (vis_set hu).mpr (.inl ⟨rfl, rfl⟩)⟩
  · intro v x q; obtain ⟨rfl, rfl⟩ := key v x q; exact .inl (List.mem_singleton.mpr rfl)
  · exact List.pairwise_singleton ..
  · intro v x b y q _ q2; obtain ⟨rfl, rfl⟩ := key v x q; simp
theorem binit_vis {N p : Nat} (hp : p < N) {v : Nat} {x : List Str} (q : Vis (binit N p).1 v x) : x = [] := by
  have hu : (List.replicate N (none : Option (List Str)))[p]? = some none := by rw [List.getElem?_replicate]; rw [if_pos hp]
  rcases (vis_set hu).mp q with q | q
  · exact q.2
  · unfold Vis at q; rw [List.getElem?_replicate] at q; split at q <;> simp at q
theorem pinv_of {S : List T4} {N p h : Nat} {ws : Ws} {rest : List Nat} (I : BInv S N p (ws, h :: rest)) : ∃ w, Vis ws h w ∧ PInv S N p h w (ws, rest) := by
  obtain ⟨w, hw⟩ := I.vis h (List.mem_cons_self ..)
  refine ⟨w, hw, I.len, I.lead, fun v q => I.vis v (List.mem_cons_of_mem _ q), ?_, (List.pairwise_cons.mp I.sorted).2, fun v x b y a q => I.top v x b y a (List.mem_cons_of_mem _ q), hw, fun v x q => I.top v x h w q (List.mem_cons_self ..) hw, fun b y q hb => (List.pairwise_cons.mp I.sorted).1 b q w y hw hb⟩
  intro v x q
  rcases I.done v x q with a | a
  · rcases List.mem_cons.mp a with rfl | a
    · exact .inr (.inl rfl)
    · exact .inl a
  · exact .inr (.inr a)
theorem bstep_ok {S : List T4} {N p h : Nat} {ws : Ws} {rest : List Nat} (hS : InN N S) (I : BInv S N p (ws, h :: rest)) :
    BInv S N p (bstep S (ws, h :: rest)) ∧ nones (bstep S (ws, h :: rest)).1 + (bstep S (ws, h :: rest)).2.length + 1 = nones ws + (h :: rest).length := by
  obtain ⟨w, hw, J⟩ := pinv_of I
  have e : bstep S (ws, h :: rest) = visit w (nbrs S h) (ws, rest) := by
    show visit ((ws[h]?.join).getD []) (nbrs S h) (ws, rest) = _
    unfold Vis at hw
    rw [hw]; rfl
  rw [e]
  obtain ⟨a, b, c, d⟩ := visit_ok (nbrs S h) (ws, rest) J fun nb q => ⟨q, nb_lt hS q⟩
  refine ⟨⟨a.len, b _ _ I.p0, a.lead, a.vis, ?_, a.sorted, a.top⟩, by rw [d]; rfl⟩
  intro v x q
  rcases a.done v x q with r | rfl | r
  · exact .inl r
  · refine .inr fun nb hb => ?_
    have := vis_inj q a.hv
    subst this
    exact c nb hb
  · exact .inr r
theorem iter_ok {S : List T4} {N p : Nat} (hS : InN N S) : ∀ (n : Nat) (st : Ws × List Nat), BInv S N p st → BInv S N p (iter S n st) ∧ ((iter S n st).2 = [] ∨ nones (iter S n st).1 + (iter S n st).2.length + n = nones st.1 + st.2.length)
  | 0, st, I => ⟨I, .inr rfl⟩
  | n + 1, (ws, []), I => by
    have e : iter S (n + 1) (ws, []) = (ws, []) := iter_nil (n + 1)
    rw [e]; exact ⟨I, .inl rfl⟩
  | n + 1, (ws, h :: rest), I => by
    obtain ⟨a, b⟩ := bstep_ok hS I
    obtain ⟨c, d⟩ := iter_ok hS n _ a
    refine ⟨c, ?_⟩
    rcases d with d | d
    · exact .inl d
    · refine .inr ?_
      show nones (iter S n (bstep S (ws, h :: rest))).1 + (iter S n (bstep S (ws, h :: rest))).2.length + (n + 1) = nones ws + (h :: rest).length
      omega
theorem ways_end {S : List T4} {N p : Nat} (hS : InN N S) (hp : p < N) (hN : N ≤ 60) : ∃ ws, iter S 64 (binit N p) = (ws, []) ∧ BInv S N p (ws, []) := by
  obtain ⟨a, b⟩ := iter_ok hS 64 (binit N p) (binv0 hp)
  have : nones (binit N p).1 + (binit N p).2.length ≤ N + 1 := by
    have : nones (binit N p).1 ≤ (binit N p).1.length := List.countP_le_length
    simp only [binit, List.length_set, List.length_replicate, List.length_singleton] at this ⊢
    exact Nat.succ_le_succ (by assumption)
  have e : (iter S 64 (binit N p)).2 = [] := by
    rcases b with b | b
    · exact b
    · omega
  refine ⟨(iter S 64 (binit N p)).1, Prod.ext rfl e, ?_⟩
  have : iter S 64 (binit N p) = ((iter S 64 (binit N p)).1, []) := Prod.ext rfl e
  rw [this] at a
  exact a
theorem ways_len {S : List T4} {N p : Nat} (hS : InN N S) (hp : p < N) (hN : N ≤ 60) : (waysF N S p).length = N := by
  obtain ⟨ws, e, I⟩ := ways_end hS hp hN
  rw [ways_of e (Nat.le_refl _)]; exact I.len
theorem ways_lead {S : List T4} {N p : Nat} (hS : InN N S) (hp : p < N) (hN : N ≤ 60) {v : Nat} {x : List Str} (h : Vis (waysF N S p) v x) : Lead S p x v := by
  obtain ⟨ws, e, I⟩ := ways_end hS hp hN
  rw [ways_of e (Nat.le_refl _)] at h; exact I.lead v x h
theorem ways_least {S : List T4} {N p : Nat} (hS : InN N S) (hp : p < N) (hN : N ≤ 60) {v : Nat} {x : List Str} (h : Lead S p x v) : ∃ y, Vis (waysF N S p) v y ∧ y.length ≤ x.length := by
  obtain ⟨ws, e, I⟩ := ways_end hS hp hN
  rw [ways_of e (Nat.le_refl _)]
  induction h with
  | nil => exact ⟨[], I.p0, Nat.le_refl _⟩
  | snoc a b ih =>
    obtain ⟨y, hy, hl⟩ := ih
    rcases I.done _ _ hy with q | q
    · cases q
    · obtain ⟨z, hz, hl2⟩ := q _ b
      exact ⟨z, hz, by simp only [List.length_append, List.length_cons, List.length_nil] at hl2 ⊢; omega⟩
def partF (N : Nat) (S : List T4) (p : Nat) : List Nat := (List.range N).filter fun v => ((waysF N S p)[v]?.join).isSome
def Reach (S : List T4) (a b : Nat) : Prop := ∃ ws, Lead S a ws b
theorem vis_iff {ws : Ws} {v : Nat} : (ws[v]?.join).isSome = true ↔ ∃ x, Vis ws v x := by
  unfold Vis
  cases ws[v]? with
  | none => simp
  | some z => cases z <;> simp
theorem mem_part {S : List T4} {N p v : Nat} (hS : InN N S) (hp : p < N) (hN : N ≤ 60) : v ∈ partF N S p ↔ v < N ∧ Reach S p v := by
  unfold partF
  rw [List.mem_filter, List.mem_range, vis_iff]
  constructor
  · rintro ⟨a, x, hx⟩; exact ⟨a, x, ways_lead hS hp hN hx⟩
  · rintro ⟨a, x, hx⟩; obtain ⟨y, hy, _⟩ := ways_least hS hp hN hx; exact ⟨a, y, hy⟩
theorem Reach.refl {S : List T4} {a : Nat} : Reach S a a := ⟨[], .nil⟩
theorem nb_symm {S : List T4} {a b : Nat} {n : Str} (h : (n, b) ∈ nbrs S a) : (n, a) ∈ nbrs S b := by
  obtain ⟨t, ht, q⟩ := List.mem_flatMap.mp h
  refine List.mem_flatMap.mpr ⟨t, ht, ?_⟩
  unfold nbT at q ⊢
  rcases List.mem_append.mp q with q | q
  · split at q
    · rename_i e
      have := List.mem_singleton.mp q
      cases this
      refine List.mem_append_right _ ?_
      rw [if_pos rfl, e]; exact List.mem_singleton.mpr rfl
    · cases q
  · split at q
    · rename_i e
      have := List.mem_singleton.mp q
      cases this
      refine List.mem_append_left _ ?_
      rw [if_pos rfl, e]; exact List.mem_singleton.mpr rfl
    · cases q
theorem Reach.trans {S : List T4} {a b c : Nat} (h : Reach S a b) (g : Reach S b c) : Reach S a c := by
  obtain ⟨x, hx⟩ := h
  obtain ⟨y, hy⟩ := g
  induction hy with
  | nil => exact ⟨x, hx⟩
  | snoc _ q ih => obtain ⟨z, hz⟩ := ih; exact ⟨_, .snoc hz q⟩
theorem Reach.step {S : List T4} {a b : Nat} {n : Str} (h : (n, b) ∈ nbrs S a) : Reach S a b := ⟨[] ++ [n], .snoc .nil h⟩
theorem Reach.symm {S : List T4} {a b : Nat} (h : Reach S a b) : Reach S b a := by
  obtain ⟨x, hx⟩ := h
  induction hx with
  | nil => exact .refl
  | snoc _ q ih => exact (Reach.step (nb_symm q)).trans ih
theorem nb_of {S : List T4} {t : T4} (h : t ∈ S) : (t.1, t.2.2.1) ∈ nbrs S t.2.1 := List.mem_flatMap.mpr ⟨t, h, List.mem_append_left _ (by rw [if_pos rfl]; exact List.mem_singleton.mpr rfl)⟩
theorem nb_elim {S : List T4} {a b : Nat} {n : Str} (h : (n, b) ∈ nbrs S a) : ∃ t ∈ S, t.1 = n ∧ ((t.2.1 = a ∧ t.2.2.1 = b) ∨ (t.2.2.1 = a ∧ t.2.1 = b)) := by
  obtain ⟨t, ht, q⟩ := List.mem_flatMap.mp h
  refine ⟨t, ht, ?_⟩
  unfold nbT at q
  rcases List.mem_append.mp q with q | q
  · split at q
    · rename_i e
      have := List.mem_singleton.mp q
      cases this
      exact ⟨rfl, .inl ⟨e, rfl⟩⟩
    · cases q
  · split at q
    · rename_i e
      have := List.mem_singleton.mp q
      cases this
      exact ⟨rfl, .inr ⟨e, rfl⟩⟩
    · cases q
def relab (l : List Nat) (lo hi : Nat) : List Nat := l.map fun x => if x = hi then lo else x
def labS (l : List Nat) (t : T4) : List Nat := relab l (min (l.getD t.2.1 0) (l.getD t.2.2.1 0)) (max (l.getD t.2.1 0) (l.getD t.2.2.1 0))
def labF (N : Nat) (S : List T4) : List Nat := S.foldl labS (List.range N)
theorem labS_len (l : List Nat) (t : T4) : (labS l t).length = l.length := by simp [labS, relab]
theorem relab_get {l : List Nat} {lo hi v : Nat} (hv : v < l.length) : (relab l lo hi).getD v 0 = if l.getD v 0 = hi then lo else l.getD v 0 := by
  unfold relab
  rw [List.getD_eq_getElem?_getD, List.getElem?_map, List.getElem?_eq_getElem hv, List.getD_eq_getElem?_getD, List.getElem?_eq_getElem hv]; rfl
theorem labS_get {l : List Nat} {t : T4} {v : Nat} (hv : v < l.length) : (labS l t).getD v 0 = if l.getD v 0 = max (l.getD t.2.1 0) (l.getD t.2.2.1 0) then min (l.getD t.2.1 0) (l.getD t.2.2.1 0) else l.getD v 0 := relab_get hv
theorem labs_keep {u v : Nat} (S : List T4) : ∀ l : List Nat, u < l.length → v < l.length → l.getD u 0 = l.getD v 0 → (S.foldl labS l).getD u 0 = (S.foldl labS l).getD v 0 := by
  induction S with
  | nil => intro l _ _ h; exact h
  | cons t S ih =>
    intro l hu hv h
    rw [List.foldl_cons]
    exact ih _ (by rw [labS_len]; exact hu) (by rw [labS_len]; exact hv) (by rw [labS_get hu, labS_get hv, h])
theorem labs_tie {N : Nat} (S : List T4) : ∀ l : List Nat, l.length = N → InN N S → ∀ t ∈ S, (S.foldl labS l).getD t.2.1 0 = (S.foldl labS l).getD t.2.2.1 0 := by
  induction S with
  | nil => intro l _ _ t h; cases h
  | cons t S ih =>
    intro l hl hN t' h
    rw [List.foldl_cons]
    rcases List.mem_cons.mp h with rfl | h
    · have := hN t' (List.mem_cons_self ..)
      refine labs_keep S _ (by rw [labS_len]; omega) (by rw [labS_len]; omega) ?_
      rw [labS_get (by omega), labS_get (by omega)]
      split <;> split <;> omega
    · exact ih _ (by rw [labS_len]; exact hl) (fun x q => hN x (List.mem_cons_of_mem _ q)) t' h
theorem nbrs_mono {S S' : List T4} (h : ∀ t ∈ S, t ∈ S') {v : Nat} {nb : Str × Nat} (q : nb ∈ nbrs S v) : nb ∈ nbrs S' v := by
  obtain ⟨t, ht, q⟩ := List.mem_flatMap.mp q
  exact List.mem_flatMap.mpr ⟨t, h t ht, q⟩
theorem Reach.mono {S S' : List T4} (h : ∀ t ∈ S, t ∈ S') {a b : Nat} (q : Reach S a b) : Reach S' a b := by
  obtain ⟨x, hx⟩ := q
  induction hx with
  | nil => exact .refl
  | snoc _ q ih => exact ih.trans (.step (nbrs_mono h q))
theorem labs_reach {N : Nat} {S0 : List T4} (S : List T4) : ∀ l : List Nat, l.length = N → InN N S → (∀ t ∈ S, t ∈ S0) → (∀ u v, u < N → v < N → l.getD u 0 = l.getD v 0 → Reach S0 u v) → ∀ u v, u < N → v < N → (S.foldl labS l).getD u 0 = (S.foldl labS l).getD v 0 → Reach S0 u v := by
  induction S with
  | nil => intro l _ _ _ h; exact h
  | cons t S ih =>
    intro l hl hN hS h
    rw [List.foldl_cons]
    refine ih _ (by rw [labS_len]; exact hl) (fun x q => hN x (List.mem_cons_of_mem _ q)) (fun x q => hS x (List.mem_cons_of_mem _ q)) ?_
    intro u v hu hv e
    have ht := hN t (List.mem_cons_self ..)
    have tt : Reach S0 t.2.1 t.2.2.1 := .step (nb_of (hS t (List.mem_cons_self ..)))
    rw [labS_get (by omega), labS_get (by omega)] at e
    have q1 : ∀ x, x < N → (l.getD x 0 = max (l.getD t.2.1 0) (l.getD t.2.2.1 0) ∨ l.getD x 0 = min (l.getD t.2.1 0) (l.getD t.2.2.1 0)) → Reach S0 x t.2.1 := by
      intro x hx hm
      have : l.getD x 0 = l.getD t.2.1 0 ∨ l.getD x 0 = l.getD t.2.2.1 0 := by omega
      rcases this with q | q
      · exact h x _ hx ht.1 q
      · exact (h x _ hx ht.2 q).trans tt.symm
    split at e
    · split at e
      · exact (q1 u hu (.inl (by assumption))).trans (q1 v hv (.inl (by assumption))).symm
      · exact (q1 u hu (.inl (by assumption))).trans (q1 v hv (.inr e.symm)).symm
    · split at e
      · exact (q1 u hu (.inr e)).trans (q1 v hv (.inl (by assumption))).symm
      · exact h u v hu hv e
theorem lab_iff {N : Nat} {S : List T4} (hS : InN N S) {u v : Nat} (hu : u < N) (hv : v < N) : (labF N S).getD u 0 = (labF N S).getD v 0 ↔ Reach S u v := by
  constructor
  · refine labs_reach S (List.range N) (List.length_range ..) hS (fun _ h => h) ?_ u v hu hv
    intro a b ha hb e
    rw [List.getD_eq_getElem?_getD, List.getElem?_range ha, List.getD_eq_getElem?_getD, List.getElem?_range hb] at e
    have : a = b := e
    subst this; exact .refl
  · rintro ⟨x, hx⟩
    induction hx with
    | nil => rfl
    | @snoc ws b c n a q ih =>
      have hb : b < N := by
        cases a with
        | nil => exact hu
        | snoc _ r => exact nb_lt hS r
      have hc : c < N := nb_lt hS q
      refine (ih hb).trans ?_
      obtain ⟨t, ht, _, h⟩ := nb_elim q
      have := labs_tie S (List.range N) (List.length_range ..) hS t ht
      rcases h with ⟨rfl, rfl⟩ | ⟨rfl, rfl⟩
      · exact this
      · exact this.symm
theorem part_lab {N p : Nat} {S : List T4} (hS : InN N S) (hp : p < N) (hN : N ≤ 60) : partF N S p = (List.range N).filter fun v => decide ((labF N S).getD v 0 = (labF N S).getD p 0) := by
  refine List.filter_congr fun v hv => ?_
  have hv := List.mem_range.mp hv
  rw [Bool.eq_iff_iff, decide_eq_true_eq, lab_iff hS hv hp]
  have := mem_part (v := v) hS hp hN
  unfold partF at this
  rw [List.mem_filter, List.mem_range] at this
  constructor
  · intro h; exact (this.mp ⟨hv, h⟩).2.symm
  · intro h; exact (this.mpr ⟨hv, h.symm⟩).2
end Wk
set_option maxHeartbeats 1000000
namespace L2
open PySem
theorem while_gh {c : TT} {tb : TS} {D : Ends} {σ : St} {H : Hp} (Pv : Nat → St → Hp → Prop) {m0 : Nat} (h0 : Pv m0 σ H)
    (hs : ∀ m σ H, Pv m σ H → c σ H fun b H1 => if b = true then tb { D with nx := fun σ' H' => ∃ m', m' < m ∧ Pv m' σ' H', ct := fun σ' H' => ∃ m', m' < m ∧ Pv m' σ' H', bk := D.nx } σ H1 else D.nx σ H1)
    (mono : ∀ σ H Q Q', (∀ b H1, Q b H1 → Q' b H1) → c σ H Q → c σ H Q') : tWhile c tb D σ H := by
  refine ⟨Pv, ⟨m0, h0⟩, fun m σ H p => ?_⟩
  refine mono σ H _ _ (fun b H1 q => ?_) (hs m σ H p)
  cases b with
  | true => exact ⟨_, fun _ _ h => h, q⟩
  | false => exact q
theorem same_set {H0 H : Hp} {a : Addr} {o : HO} (s : Same H0 H) (n : H0 a = none) : Same H0 (upd H a o) := fun b u e => by
  rw [upd_ne (ne_of_none e n)]; exact s b u e
theorem inV_ints (x : Int) (zs : List Int) : inV (.int x) (zs.map V.int) = decide (x ∈ zs) := by
  unfold inV
  induction zs with
  | nil => simp
  | cons z zs ih =>
    rw [List.map_cons, List.any_cons, ih]
    have : eqV (.int z) (.int x) = decide (x = z) := by
      show (z == x) = _
      rw [Bool.eq_iff_iff, beq_iff_eq, decide_eq_true_eq]; exact eq_comm
    rw [this, Bool.eq_iff_iff]; simp
theorem flat_ints (ns : List Int) : (ns.map V.int).all flatV = true := by
  induction ns with
  | nil => rfl
  | cons n ns ih => rw [List.map_cons, List.all_cons, ih]; rfl
theorem map_some {α β : Type} {f : α → β} {l : List α} {i : Nat} {x : β} (h : (l.map f)[i]? = some x) : ∃ z, l[i]? = some z ∧ x = f z := by
  rw [List.getElem?_map] at h
  cases q : l[i]? with
  | none => rw [q] at h; cases h
  | some z => rw [q] at h; exact ⟨z, rfl, (Option.some.inj h).symm⟩
theorem ixN_nat {n j : Nat} (h : j < n) : ixN n (j : Int) = some j := by
  unfold ixN
  rw [if_pos (by exact Int.natCast_nonneg _), if_pos (by omega)]; simp
theorem getq {α : Type} {l : List α} {i : Nat} (h : i < l.length) : l[i]? = some l[i] := List.getElem?_eq_getElem h
end L2
namespace Wk
open PySem L2
def tieV (t : T4) : List V := [.str t.1, .int (t.2.1 : Int), .int (t.2.2.1 : Int), .int t.2.2.2]
def TiesAt (H : Hp) (rs : List Addr) (S : List T4) : Prop := rs.length = S.length ∧ ∀ (i : Nat) r t, rs[i]? = some r → S[i]? = some t → H r = some (.tup (tieV t))
theorem TiesAt.same {H H' : Hp} {rs : List Addr} {S : List T4} (h : TiesAt H rs S) (s : Same H H') : TiesAt H' rs S := ⟨h.1, fun i r t a b => s _ _ (h.2 i r t a b)⟩
theorem TiesAt.get {H : Hp} {rs : List Addr} {S : List T4} (h : TiesAt H rs S) {i : Nat} {r : Addr} (hr : rs[i]? = some r) : ∃ t, S[i]? = some t ∧ H r = some (.tup (tieV t)) := by
  have hi : i < S.length := by rw [← h.1]; exact (List.getElem?_eq_some_iff.mp hr).1
  exact ⟨S[i], getq hi, h.2 i r _ hr (getq hi)⟩
def PrsAt (H : Hp) (l : Addr) (ps : List (Str × Nat)) : Prop := ∃ rs : List Addr, H l = some (.lst (rs.map V.ref)) ∧ rs.length = ps.length ∧ ∀ (i : Nat) r q, rs[i]? = some r → ps[i]? = some q → H r = some (.tup [.str q.1, .int (q.2 : Int)])
theorem PrsAt.same {H H' : Hp} {l : Addr} {ps : List (Str × Nat)} (h : PrsAt H l ps) (s : Same H H') : PrsAt H' l ps := let ⟨rs, a, b, c⟩ := h; ⟨rs, s _ _ a, b, fun i r q e f => s _ _ (c i r q e f)⟩
def BesAt (H : Hp) (b : Addr) (N : Nat) (f : Nat → List (Str × Nat)) : Prop := ∃ ls : List Addr, H b = some (.lst (ls.map V.ref)) ∧ ls.length = N ∧ ∀ (v : Nat) l, ls[v]? = some l → PrsAt H l (f v)
theorem BesAt.same {H H' : Hp} {b : Addr} {N : Nat} {f : Nat → List (Str × Nat)} (h : BesAt H b N f) (s : Same H H') : BesAt H' b N f := let ⟨ls, x, y, z⟩ := h; ⟨ls, s _ _ x, y, fun v l e => (z v l e).same s⟩
structure Bes (H0 H : Hp) (b : Addr) (ls : List Addr) (N : Nat) (f : Nat → List (Str × Nat)) : Prop where
  same : Same H0 H
  hb : H b = some (.lst (ls.map V.ref))
  len : ls.length = N
  nd : ls.Nodup
  new : ∀ l ∈ ls, H0 l = none ∧ l ≠ b
  prs : ∀ (v : Nat) l, ls[v]? = some l → PrsAt H l (f v)
theorem nd_ix {ls : List Addr} (h : ls.Nodup) {i j : Nat} {l : Addr} (a : ls[i]? = some l) (b : ls[j]? = some l) : i = j := by
  have hi := (List.getElem?_eq_some_iff.mp a).1
  exact (List.getElem?_inj hi h).mp (by rw [a, b])
theorem Bes.app {H0 H : Hp} {b : Addr} {ls : List Addr} {N v : Nat} {f : Nat → List (Str × Nat)} {l p : Addr} {xs : List V} {n : Str} {u : Nat} (B : Bes H0 H b ls N f) (hv : ls[v]? = some l) (hp : H p = none) (hl : H l = some (.lst xs)) :
    Bes H0 (upd (upd H p (.tup [.str n, .int (u : Int)])) l (.lst (xs ++ [.ref p]))) b ls N (fun x => if x = v then f v ++ [(n, u)] else f x) := by
  have lm : l ∈ ls := List.mem_of_getElem? hv
  have s1 := same_new (o := .tup [.str n, .int (u : Int)]) hp
  have lp : l ≠ p := ne_of_none hl hp
  refine ⟨same_set (B.same.trans s1) (B.new l lm).1, by rw [upd_ne (B.new l lm).2.symm]; exact s1 _ _ B.hb, B.len, B.nd, B.new, fun x k hx => ?_⟩
  obtain ⟨rs, h1, h2, h3⟩ := B.prs x k hx
  have tl : ∀ (r : Addr) ys, H r = some (.tup ys) → upd (upd H p (.tup [.str n, .int (u : Int)])) l (.lst (xs ++ [.ref p])) r = some (.tup ys) := fun r ys e => by
    rw [upd_ne (ne_of e hl (by intro z; cases z))]; exact s1 _ _ e
  by_cases e : x = v
  · subst e
    rw [hv] at hx
    cases hx
    rw [hl] at h1
    injection h1 with h1
    injection h1 with h1
    simp only [if_true]
    refine ⟨rs ++ [p], by rw [upd_same, h1, List.map_append]; rfl, by simp [h2], fun i r q hr hq => ?_⟩
    rw [List.getElem?_append] at hr hq
    by_cases hi : i < rs.length
    · rw [if_pos hi] at hr
      rw [if_pos (by omega)] at hq
      exact tl _ _ (h3 i r q hr hq)
    · rw [if_neg hi] at hr
      rw [if_neg (by omega), ← h2] at hq
      have : i - rs.length = 0 := by
        have := (List.getElem?_eq_some_iff.mp hr).1
        simp at this; assumption
      rw [this] at hr hq
      cases hr
      cases hq
      rw [upd_ne lp.symm]; exact upd_same
  · simp only [if_neg e]
    have kl : k ≠ l := fun q => by subst q; exact e (nd_ix B.nd hx hv)
    exact ⟨rs, by rw [upd_ne kl]; exact s1 _ _ h1, h2, fun i r q hr hq => tl _ _ (h3 i r q hr hq)⟩
theorem nbrs_snoc (S : List T4) (t : T4) (v : Nat) : nbrs (S ++ [t]) v = nbrs S v ++ nbT v t := by unfold nbrs; rw [List.flatMap_append]; simp
theorem nb_two (S : List T4) (t : T4) : (fun x => if x = t.2.2.1 then (fun x => if x = t.2.1 then nbrs S t.2.1 ++ [(t.1, t.2.2.1)] else nbrs S x) t.2.2.1 ++ [(t.1, t.2.1)] else (fun x => if x = t.2.1 then nbrs S t.2.1 ++ [(t.1, t.2.2.1)] else nbrs S x) x) = nbrs (S ++ [t]) := by
  funext x
  rw [nbrs_snoc]
  unfold nbT
  by_cases a : t.2.1 = x
  · subst a
    rw [if_pos rfl]
    by_cases b : t.2.2.1 = t.2.1
    · rw [if_pos b, if_pos b.symm]; dsimp only; rw [if_pos b]; simp
    · rw [if_neg b, if_neg (Ne.symm b)]; dsimp only; rw [if_pos rfl]; simp
  · rw [if_neg a]
    by_cases b : t.2.2.1 = x
    · subst b
      rw [if_pos rfl, if_pos rfl]; dsimp only; rw [if_neg (Ne.symm a)]; simp
    · rw [if_neg b, if_neg (Ne.symm b)]; dsimp only; rw [if_neg (Ne.symm a)]; simp
theorem nbrs_len (S : List T4) (v : Nat) : (nbrs S v).length ≤ 2 * S.length := by
  unfold nbrs
  induction S with
  | nil => simp
  | cons t S ih =>
    rw [List.flatMap_cons, List.length_append, List.length_cons]
    have : (nbT v t).length ≤ 2 := by unfold nbT; rw [List.length_append]; split <;> split <;> simp
    omega
def WayV (H : Hp) (x : V) : Option (List Str) → Prop
  | none => x = .non
  | some w => ∃ r, x = .ref r ∧ H r = some (.tup (w.map V.str))
def WaysAt (H : Hp) (a : Addr) (ws : Ws) : Prop := ∃ xs, H a = some (.lst xs) ∧ xs.length = ws.length ∧ ∀ (i : Nat) x o, xs[i]? = some x → ws[i]? = some o → WayV H x o
theorem WayV.mono {H H' : Hp} {x : V} {o : Option (List Str)} (f : ∀ r ys, H r = some (.tup ys) → H' r = some (.tup ys)) (h : WayV H x o) : WayV H' x o := by
  cases o with
  | none => exact h
  | some w => obtain ⟨r, a, b⟩ := h; exact ⟨r, a, f _ _ b⟩
theorem WaysAt.same {H H' : Hp} {a : Addr} {ws : Ws} (h : WaysAt H a ws) (s : Same H H') : WaysAt H' a ws := let ⟨xs, x, y, z⟩ := h; ⟨xs, s _ _ x, y, fun i u o e f => (z i u o e f).mono fun r ys => s r (.tup ys)⟩
theorem WaysAt.keep {H : Hp} {a l : Addr} {ws : Ws} {ys zs : List V} (h : WaysAt H a ws) (hl : H l = some (.lst ys)) (n : a ≠ l) : WaysAt (upd H l (.lst zs)) a ws := by
  obtain ⟨xs, x, y, z⟩ := h
  exact ⟨xs, by rw [upd_ne n]; exact x, y, fun i u o e f => (z i u o e f).mono fun r ys e => by rw [upd_ne (ne_of e hl (by intro z; cases z))]; exact e⟩
theorem WaysAt.get {H : Hp} {a : Addr} {ws : Ws} (h : WaysAt H a ws) {v : Nat} {o : Option (List Str)} (hv : ws[v]? = some o) : ∃ xs x, H a = some (.lst xs) ∧ xs[v]? = some x ∧ xs.length = ws.length ∧ WayV H x o := by
  obtain ⟨xs, x, y, z⟩ := h
  have hl : v < xs.length := by rw [y]; exact (List.getElem?_eq_some_iff.mp hv).1
  exact ⟨xs, xs[v], x, getq hl, y, z v _ o (getq hl) hv⟩
theorem WaysAt.set {H : Hp} {a r : Addr} {ws : Ws} {xs : List V} {u : Nat} {w : List Str} (h : WaysAt H a ws) (ha : H a = some (.lst xs)) (hr : H r = some (.tup (w.map V.str))) : WaysAt (upd H a (.lst (xs.set u (.ref r)))) a (ws.set u (some w)) := by
  obtain ⟨xs', x, y, z⟩ := h
  rw [ha] at x
  injection x with x
  injection x with x
  subst x
  have tl : ∀ (q : Addr) ys, H q = some (.tup ys) → upd H a (.lst (xs.set u (.ref r))) q = some (.tup ys) := fun q ys e => by
    rw [upd_ne (ne_of e ha (by intro z; cases z))]; exact e
  refine ⟨_, upd_same, by simp [y], fun i x o hx ho => ?_⟩
  rw [List.getElem?_set] at hx ho
  by_cases e : u = i
  · rw [if_pos e] at hx ho
    split at hx
    · rw [if_pos (by omega)] at ho
      cases hx
      cases ho
      exact ⟨r, rfl, tl _ _ hr⟩
    · cases hx
  · rw [if_neg e] at hx ho
    exact (z i x o hx ho).mono tl
def vis1 (w : List Str) (q : Str × Nat) (st : Ws × List Nat) : Ws × List Nat := if st.1[q.2]? = some none then (st.1.set q.2 (some (w ++ [q.1])), st.2 ++ [q.2]) else st
theorem vis1_no {w : List Str} {q : Str × Nat} {st : Ws × List Nat} (h : ¬ st.1[q.2]? = some none) : vis1 w q st = st := if_neg h
theorem vis1_yes {w : List Str} {q : Str × Nat} {st : Ws × List Nat} (h : st.1[q.2]? = some none) : vis1 w q st = (st.1.set q.2 (some (w ++ [q.1])), st.2 ++ [q.2]) := if_pos h
theorem visit_snoc (w : List Str) (q : Str × Nat) : ∀ (L : List (Str × Nat)) (st : Ws × List Nat), visit w (L ++ [q]) st = vis1 w q (visit w L st)
  | [], st => by unfold vis1; show visit w (q :: []) st = _; unfold visit; rfl
  | (n, u) :: r, st => by
    show visit w ((n, u) :: (r ++ [q])) st = _
    unfold visit
    split
    · exact visit_snoc w q r _
    · exact visit_snoc w q r _
theorem visit_vis (w : List Str) : ∀ (L : List (Str × Nat)) (st : Ws × List Nat) {v : Nat} {x : List Str}, Vis st.1 v x → Vis (visit w L st).1 v x
  | [], _, _, _, h => h
  | (n, u) :: r, st, v, x, h => by
    unfold visit
    split
    · rename_i e; exact visit_vis w r _ ((vis_set e).mpr (.inr h))
    · exact visit_vis w r _ h
theorem visit_len (w : List Str) : ∀ (L : List (Str × Nat)) (st : Ws × List Nat), (visit w L st).1.length = st.1.length ∧ (visit w L st).2.length ≤ st.2.length + L.length
  | [], st => ⟨rfl, Nat.le_refl _⟩
  | (n, u) :: r, st => by
    unfold visit
    split
    · obtain ⟨a, b⟩ := visit_len w r (st.1.set u (some (w ++ [n])), st.2 ++ [u])
      refine ⟨by rw [a]; simp, ?_⟩
      simp only [List.length_append, List.length_cons, List.length_nil] at b ⊢
      omega
    · obtain ⟨a, b⟩ := visit_len w r st
      exact ⟨a, by rw [List.length_cons]; exact Nat.le_succ_of_le (by assumption)⟩
theorem bstep_short {S : List T4} {N p h i : Nat} {ws : Ws} {rest : List Nat} (hS : InN N S) (I : BInv S N p (ws, h :: rest)) (hl : ∀ v x, Wk.Vis ws v x → x.length ≤ i) : ∀ v x, Wk.Vis (bstep S (ws, h :: rest)).1 v x → x.length ≤ i + 1 := by
  obtain ⟨w, hw, J⟩ := pinv_of I
  have e : bstep S (ws, h :: rest) = visit w (nbrs S h) (ws, rest) := by
    show visit ((ws[h]?.join).getD []) (nbrs S h) (ws, rest) = _
    unfold Wk.Vis at hw
    rw [hw]; rfl
  rw [e]
  obtain ⟨a, _⟩ := visit_ok (nbrs S h) (ws, rest) J fun nb q => ⟨q, nb_lt hS q⟩
  intro v x q
  have := a.ht v x q
  have := hl h w hw
  omega
theorem refs_inj {xs ys : List Addr} (h : xs.map V.ref = ys.map V.ref) : xs = ys := (List.map_inj_right (fun _ _ h => by injection h)).mp h
end Wk
set_option maxHeartbeats 1000000
namespace Wk
open PySem L2
abbrev LS : Str := Str.ofString "abcdefghijklmnopqrstuvwxyz"
theorem LS_eq : LS.cps.toList = (List.range 26).map (97 + ·) := by decide +kernel
theorem LS_at {v : Int} (h0 : 0 ≤ v) (h1 : v < 26) : atI LS.cps.toList v = some (97 + v.toNat) := by
  obtain ⟨j, rfl⟩ : ∃ j : Nat, v = (j : Int) := ⟨v.toNat, by omega⟩
  have hj : j < 26 := by omega
  refine atI_nat ?_
  rw [LS_eq, List.getElem?_map, List.getElem?_range hj]
  rfl
theorem cat_cps (x y : Str) : (x ++ y).cps.toList = x.cps.toList ++ y.cps.toList := by
  show (x.cps ++ y.cps).toList = _
  rw [Array.toList_append]
def sg (c : Nat) : V := .str ⟨#[c]⟩
theorem sg_map (ws : List Nat) : ws.map sg = (ws.map fun c => (⟨#[c]⟩ : Str)).map V.str := by rw [List.map_map]; rfl
theorem sg_sum (ws : List Nat) : ((ws.map fun c => (⟨#[c]⟩ : Str)).map (·.length)).sum = ws.length := by
  induction ws with
  | nil => rfl
  | cons c ws ih => simp only [List.map_cons, List.sum_cons, List.length_cons, ih]; show 1 + ws.length = _; omega
theorem join_cps : ∀ ws : List Nat, (Txt.join (Str.ofString "") (ws.map fun c => (⟨#[c]⟩ : Str))).cps.toList = ws := by
  have key : ∀ ws : List Nat, (Str.join (Str.ofString "") (ws.map fun c => (⟨#[c]⟩ : Str))).cps.toList = ws := by
    intro ws
    induction ws with
    | nil => rfl
    | cons c ws ih =>
      cases ws with
      | nil => rfl
      | cons d ws =>
        simp only [List.map_cons] at ih ⊢
        rw [Str.join, cat_cps, cat_cps, ih]
        · rfl
        · intro q; cases q
  intro ws
  show (Builtin.Str.glued _ _).cps.toList = _
  rw [StrLaws.glued_eq_join]
  exact key ws
theorem len_cps (z : Str) : z.length = z.cps.toList.length := by show z.cps.size = _; simp
theorem cutV_drop {xs : List V} {n : Nat} : cutV xs (some (n : Int)) none = xs.drop n := by
  unfold cutV
  rw [HT.sIx_none, HT.sIx_nat]
  by_cases h : n ≤ xs.length
  · rw [Nat.min_eq_left h, List.take_of_length_le (by rw [List.length_drop]; exact Nat.le_refl _)]
  · rw [Nat.min_eq_right (by omega), List.drop_of_length_le (by exact Nat.le_refl _), List.drop_of_length_le (by omega)]; simp
theorem inV_strs (x : Str) (zs : List Str) : inV (.str x) (zs.map V.str) = decide (x ∈ zs) := by
  unfold inV
  induction zs with
  | nil => simp
  | cons z zs ih =>
    rw [List.map_cons, List.any_cons, ih]
    have : eqV (.str z) (.str x) = decide (x = z) := by
      show (z == x) = _
      rw [Bool.eq_iff_iff, beq_iff_eq, decide_eq_true_eq]; exact eq_comm
    rw [this, Bool.eq_iff_iff]; simp
theorem nat_of {v : Int} (h0 : 0 ≤ v) : ∃ j : Nat, v = (j : Int) := ⟨v.toNat, by omega⟩
end Wk
set_option maxHeartbeats 1000000
namespace Wk
open PySem L2
theorem nodup_le {α : Type} [DecidableEq α] : ∀ (xs ys : List α), xs.Nodup → (∀ x ∈ xs, x ∈ ys) → xs.length ≤ ys.length
  | [], _, _, _ => Nat.zero_le _
  | x :: xs, ys, nd, h => by
    have nd := List.nodup_cons.mp nd
    have hx := h x (List.mem_cons_self ..)
    have := nodup_le xs (ys.erase x) nd.2 fun y hy => (List.mem_erase_of_ne (fun e => nd.1 (by rw [← e]; exact hy))).mpr (h y (List.mem_cons_of_mem _ hy))
    rw [List.length_erase_of_mem hx] at this
    have := List.length_pos_of_mem hx
    rw [List.length_cons]; omega
theorem mod_ne {N a v : Nat} (ha : a < N) (hv : v < N - 1) : (a + 1 + v) % N ≠ a ∧ (a + 1 + v) % N < N := by
  refine ⟨?_, Nat.mod_lt _ (by omega)⟩
  by_cases h : a + 1 + v < N
  · rw [Nat.mod_eq_of_lt h]; omega
  · rw [Nat.mod_eq_sub_mod (by exact Nat.not_lt.mp (by assumption)), Nat.mod_eq_of_lt (by omega)]; omega
theorem mod_int {a b : Nat} : ((a : Int) % (b : Int)) = ((a % b : Nat) : Int) := by simp
end Wk
namespace L2
open PySem
end L2
set_option maxHeartbeats 1000000
namespace Wk
open PySem L2
def keysOf (t : T4) : List Key := [.inr t.1, .inl (t.2.1 : Int), .inl (t.2.2.1 : Int), .inl t.2.2.2]
def tieOf : List Key → T4
  | [.inr n, .inl a, .inl b, .inl w] => (n, a.toNat, b.toNat, w)
  | _ => (Str.ofString "", 0, 0, 0)
theorem tieOf_keys (t : T4) : tieOf (keysOf t) = t := by
  obtain ⟨n, a, b, w⟩ := t
  show (n, (a : Int).toNat, (b : Int).toNat, w) = _
  simp
theorem keys_tieV (t : T4) : (keysOf t).map kV = tieV t := rfl
def IsTie (ks : List Key) : Prop := ∃ t, ks = keysOf t
theorem perm_erase {α : Type} {zs : List α} {v : Nat} (hv : v < zs.length) : zs.Perm ([zs[v]] ++ zs.eraseIdx v) := by
  induction zs generalizing v with
  | nil => simp at hv
  | cons z zs ih =>
    cases v with
    | zero => exact List.Perm.refl _
    | succ v =>
      have hv' : v < zs.length := by simpa using hv
      have := ih (v := v) hv'
      show (z :: zs).Perm (zs[v] :: z :: zs.eraseIdx v)
      exact (List.Perm.cons z this).trans (List.Perm.swap ..)
end Wk
set_option maxHeartbeats 1000000
namespace L2
open PySem PySem.Spec PyProof.Rows
end L2
namespace Wk
open PySem L2
def Srtd (S T : List T4) : Prop := S.Perm T ∧ S.Pairwise fun a b => Srt.ltR (keysOf b) (keysOf a) = false
end Wk
set_option maxHeartbeats 1000000
namespace Wk
open PySem L2
end Wk
set_option maxHeartbeats 1000000
namespace Wk
open PySem L2
end Wk
set_option maxHeartbeats 1000000
namespace L2
open PySem PySem.Spec PyProof.Rows
end L2
namespace Wk
open PySem L2
theorem part_up {N p : Nat} {S : List T4} : (partF N S p).Pairwise (· < ·) := by
  unfold partF
  exact (List.pairwise_lt_range).sublist List.filter_sublist
end Wk
set_option maxHeartbeats 1000000
namespace HT
open PySem PyProof.Rows
end HT
namespace L2
open PySem PySem.Spec PyProof.Rows
end L2
namespace Wk
open PySem L2
end Wk
set_option maxHeartbeats 4000000
namespace L2
open PySem PySem.Spec PyProof.Rows
end L2
set_option maxHeartbeats 1000000
namespace PySem
open PySem.Spec PyProof.Rows
end PySem
namespace L2
open PySem PySem.Spec PyProof.Rows
end L2
set_option maxHeartbeats 1000000
namespace Srt
open PySem PySem.W PyProof.Rows L2
end Srt
set_option maxHeartbeats 1000000
namespace Wk
open PySem L2
def NmS (zs : List Str) : Prop := zs.Pairwise fun a b => Srt.ltK (.inr b) (.inr a) = false
end Wk
set_option maxHeartbeats 1000000
namespace Wk
open PySem L2
end Wk
set_option maxHeartbeats 1000000
namespace Wk
open PySem L2
def lsF (N : Nat) (S : List T4) : List Nat := (List.range N).filter fun p => decide ((partF N S p)[0]? = some p)
theorem part_eq {N p q : Nat} {S : List T4} (hS : InN N S) (hp : p < N) (hq : q < N) (hN : N ≤ 60) (h : Reach S p q) : partF N S p = partF N S q := by
  rw [part_lab hS hp hN, part_lab hS hq hN, (lab_iff hS hp hq).mpr h]
theorem part_self {N p : Nat} {S : List T4} (hS : InN N S) (hp : p < N) (hN : N ≤ 60) : p ∈ partF N S p := (mem_part hS hp hN).mpr ⟨hp, .refl⟩
theorem part_head {N p : Nat} {S : List T4} (hS : InN N S) (hp : p < N) (hN : N ≤ 60) : ∃ q, (partF N S p)[0]? = some q ∧ q ∈ lsF N S ∧ Reach S q p := by
  have hm := part_self hS hp hN
  have hl : 0 < (partF N S p).length := List.length_pos_of_mem hm
  have h0 := getq hl
  refine ⟨_, h0, ?_⟩
  have hq := (mem_part hS hp hN).mp (List.getElem_mem hl)
  refine ⟨List.mem_filter.mpr ⟨List.mem_range.mpr hq.1, ?_⟩, hq.2.symm⟩
  rw [decide_eq_true_eq, ← part_eq hS hp hq.1 hN hq.2]
  exact h0
theorem ls_uniq {N p q : Nat} {S : List T4} (hS : InN N S) (hN : N ≤ 60) (hp : p ∈ lsF N S) (hq : q ∈ lsF N S) (h : Reach S p q) : p = q := by
  obtain ⟨p1, p2⟩ := List.mem_filter.mp hp
  obtain ⟨q1, q2⟩ := List.mem_filter.mp hq
  rw [decide_eq_true_eq] at p2 q2
  rw [part_eq hS (List.mem_range.mp p1) (List.mem_range.mp q1) hN h, q2] at p2
  exact (Option.some.inj p2).symm
theorem ls_lt {N p : Nat} {S : List T4} (hp : p ∈ lsF N S) : p < N := List.mem_range.mp (List.mem_filter.mp hp).1
def Two (S : List T4) : Prop := ∃ f : Nat → Int, (∀ v, f v = 0 ∨ f v = 1) ∧ ∀ t ∈ S, f t.2.1 ≠ f t.2.2.1
theorem lead_sides {S : List T4} {f : Nat → Int} (two : ∀ v, f v = 0 ∨ f v = 1) (h : ∀ t ∈ S, f t.2.1 ≠ f t.2.2.1) {a b : Nat} {ws : List Str} (l : Lead S a ws b) : ws.length % 2 = 0 ↔ f a = f b := by
  induction l with
  | nil => simp
  | @snoc ws b c n _ q ih =>
    have hne : f b ≠ f c := by
      obtain ⟨t, ht, _, ⟨e1, e2⟩ | ⟨e1, e2⟩⟩ := nb_elim q
      · rw [← e1, ← e2]; exact h t ht
      · rw [← e1, ← e2]; exact Ne.symm (h t ht)
    have x := two a
    have y := two b
    have z := two c
    rw [List.length_append]
    show (ws.length + 1) % 2 = 0 ↔ _
    constructor
    · intro e
      have : ¬ f a = f b := fun k => by have := ih.mpr k; omega
      omega
    · intro e
      have : ¬ ws.length % 2 = 0 := fun k => by have := ih.mp k; omega
      omega
end Wk
set_option maxHeartbeats 1000000
namespace Wk
open PySem L2
def LLow (N : Nat) (l : List Nat) : Prop := l.length = N ∧ ∀ v, v < N → l.getD v 0 ≤ v ∧ l.getD (l.getD v 0) 0 = l.getD v 0
theorem low_step {N : Nat} {l : List Nat} {t : T4} (h : LLow N l) (h1 : t.2.1 < N) (h2 : t.2.2.1 < N) : LLow N (labS l t) := by
  obtain ⟨hl, h⟩ := h
  refine ⟨by rw [labS_len]; exact hl, fun v hv => ?_⟩
  have a := h _ h1
  have b := h _ h2
  have c := h v hv
  have g : ∀ u, u < N → (labS l t).getD u 0 = if l.getD u 0 = max (l.getD t.2.1 0) (l.getD t.2.2.1 0) then min (l.getD t.2.1 0) (l.getD t.2.2.1 0) else l.getD u 0 := fun u hu => labS_get (by omega)
  have lo : l.getD (min (l.getD t.2.1 0) (l.getD t.2.2.1 0)) 0 = min (l.getD t.2.1 0) (l.getD t.2.2.1 0) := by
    rcases Nat.le_total (l.getD t.2.1 0) (l.getD t.2.2.1 0) with z | z
    · rw [Nat.min_eq_left z]; exact a.2
    · rw [Nat.min_eq_right z]; exact b.2
  rw [g v hv]
  by_cases e : l.getD v 0 = max (l.getD t.2.1 0) (l.getD t.2.2.1 0)
  · rw [if_pos e]
    have hm : min (l.getD t.2.1 0) (l.getD t.2.2.1 0) < N := by omega
    refine ⟨by omega, ?_⟩
    rw [g _ hm, lo]
    split <;> rfl
  · rw [if_neg e]
    refine ⟨c.1, ?_⟩
    rw [g _ (by omega), c.2, if_neg e]
theorem labF_low {N : Nat} {S : List T4} (hS : InN N S) : LLow N (labF N S) := by
  have : ∀ (S : List T4) (l : List Nat), InN N S → LLow N l → LLow N (S.foldl labS l) := by
    intro S
    induction S with
    | nil => intro l _ h; exact h
    | cons t S ih =>
      intro l hS h
      have ht := hS t (List.mem_cons_self ..)
      exact ih _ (fun u hu => hS u (List.mem_cons_of_mem _ hu)) (low_step h ht.1 ht.2)
  refine this S (List.range N) hS ⟨List.length_range, fun v hv => ?_⟩
  have e : ∀ u, u < N → (List.range N).getD u 0 = u := fun u hu => by rw [List.getD_eq_getElem?_getD, List.getElem?_range hu]; rfl
  rw [e v hv, e v hv]
  exact ⟨Nat.le_refl _, rfl⟩
theorem lab_ls {N v : Nat} {S : List T4} (hS : InN N S) (hN : N ≤ 60) (hv : v < N) : (labF N S).getD v 0 ∈ lsF N S ∧ Reach S ((labF N S).getD v 0) v := by
  have low := labF_low hS
  have c := low.2 v hv
  have pN : (labF N S).getD v 0 < N := by omega
  have r : Reach S ((labF N S).getD v 0) v := (lab_iff hS pN hv).mp c.2
  refine ⟨List.mem_filter.mpr ⟨List.mem_range.mpr pN, ?_⟩, r⟩
  rw [decide_eq_true_eq]
  have hm := part_self hS pN hN
  have hl : 0 < (partF N S ((labF N S).getD v 0)).length := List.length_pos_of_mem hm
  have h0 := getq hl
  rw [h0]
  congr 1
  have hq := (mem_part hS pN hN).mp (List.getElem_mem hl)
  have e := (lab_iff hS pN hq.1).mpr hq.2
  rw [c.2] at e
  have l1 := (low.2 _ hq.1).1
  obtain ⟨i, hi, ei⟩ := List.mem_iff_getElem.mp hm
  rcases Nat.eq_zero_or_pos i with z | z
  · subst z; exact ei
  · have := List.pairwise_iff_getElem.mp (part_up (N := N) (p := (labF N S).getD v 0) (S := S)) 0 i hl hi z
    rw [ei] at this
    omega
end Wk
set_option maxHeartbeats 1000000
namespace Wk
open PySem L2
def Par (N : Nat) (S : List T4) (v : Nat) (s : Int) : Prop := ∃ p ∈ lsF N S, ∃ ws, Lead S p ws v ∧ s = ((ws.length % 2 : Nat) : Int)
theorem Par.two {N v : Nat} {S : List T4} {s : Int} (h : Par N S v s) : s = 0 ∨ s = 1 := by
  obtain ⟨p, _, ws, _, e⟩ := h
  omega
theorem Par.least {N p : Nat} {S : List T4} (h : p ∈ lsF N S) : Par N S p 0 := ⟨p, h, [], .nil, rfl⟩
theorem Par.step {N : Nat} {S : List T4} {t : T4} {s : Int} (ht : t ∈ S) : (Par N S t.2.1 s → Par N S t.2.2.1 (1 - s)) ∧ (Par N S t.2.2.1 s → Par N S t.2.1 (1 - s)) := by
  constructor
  · rintro ⟨p, hp, ws, l, e⟩
    refine ⟨p, hp, ws ++ [t.1], .snoc l (nb_of ht), ?_⟩
    rw [List.length_append]
    show _ = ((((ws.length + 1) % 2 : Nat)) : Int)
    omega
  · rintro ⟨p, hp, ws, l, e⟩
    refine ⟨p, hp, ws ++ [t.1], .snoc l (nb_symm (nb_of ht)), ?_⟩
    rw [List.length_append]
    show _ = ((((ws.length + 1) % 2 : Nat)) : Int)
    omega
theorem Par.uniq {N v : Nat} {S : List T4} {s s' : Int} (hS : InN N S) (hN : N ≤ 60) (two : Two S) (h : Par N S v s) (h' : Par N S v s') : s = s' := by
  obtain ⟨f, f2, ft⟩ := two
  obtain ⟨p, hp, ws, l, e⟩ := h
  obtain ⟨q, hq, xs, m, e'⟩ := h'
  have : p = q := ls_uniq hS hN hp hq (Reach.trans ⟨ws, l⟩ (Reach.symm ⟨xs, m⟩))
  subst this
  have a := lead_sides f2 ft l
  have b := lead_sides f2 ft m
  have c : ws.length % 2 = 0 ↔ xs.length % 2 = 0 := a.trans b.symm
  omega
theorem Par.bad {N : Nat} {S : List T4} {t : T4} {s : Int} (hS : InN N S) (hN : N ≤ 60) (ht : t ∈ S) (h : Par N S t.2.1 s) (h' : Par N S t.2.2.1 s) : ¬ Two S := fun two => by
  have := Par.uniq hS hN two h' ((Par.step ht).1 h)
  have := h.two
  omega
theorem closed_reach {S : List T4} {M : Nat → Prop} (h : ∀ t ∈ S, (M t.2.1 → M t.2.2.1) ∧ (M t.2.2.1 → M t.2.1)) {a b : Nat} (r : Reach S a b) (ha : M a) : M b := by
  obtain ⟨ws, l⟩ := r
  induction l with
  | nil => exact ha
  | @snoc ws b c n _ q ih =>
    obtain ⟨t, ht, _, ⟨e1, e2⟩ | ⟨e1, e2⟩⟩ := nb_elim q
    · rw [← e2]; exact (h t ht).1 (e1 ▸ ih)
    · rw [← e2]; exact (h t ht).2 (e1 ▸ ih)
theorem next_least {N i : Nat} {S : List T4} {M : Nat → Prop} (hS : InN N S) (hN : N ≤ 60) (hi : i < N) (h : ∀ t ∈ S, (M t.2.1 → M t.2.2.1) ∧ (M t.2.2.1 → M t.2.1)) (low : ∀ v, v < i → M v) (no : ¬ M i) : i ∈ lsF N S := by
  obtain ⟨a, b⟩ := lab_ls hS hN hi
  have le := ((labF_low hS).2 i hi).1
  rcases Nat.lt_or_eq_of_le le with z | z
  · exact absurd (closed_reach h b (low _ z)) no
  · rw [z] at a; exact a
end Wk
set_option maxHeartbeats 1000000
namespace Srt
open PySem PySem.W PyProof.Rows L2
end Srt
set_option maxHeartbeats 1000000
namespace L2
open PySem PySem.Spec PyProof.Rows
def Flt : V → V → Bool
  | .non, .non => true
  | .non, .bl _ => true
  | .non, .int _ => true
  | .non, .str _ => true
  | .bl _, .non => true
  | .bl _, .bl _ => true
  | .bl _, .str _ => true
  | .int _, .non => true
  | .int _, .int _ => true
  | .int _, .str _ => true
  | .str _, .non => true
  | .str _, .bl _ => true
  | .str _, .int _ => true
  | .str _, .str _ => true
  | _, _ => false
def Eqs (K : PySem.W.Frag) (H : Hp) : Nat → V → V → Bool → Prop
  | 0, x, y, b => Flt x y = true ∧ b = decide (x = y)
  | n + 1, x, y, b => (Flt x y = true ∧ b = decide (x = y)) ∨
      (∃ (a c : Addr) (xs ys : List V) (e : Nat → Bool), x = .ref a ∧ y = .ref c ∧ ((SqT K H a xs ∧ SqT K H c ys) ∨ (SqL K H a xs ∧ SqL K H c ys)) ∧ (∀ (j : Nat) p q, xs[j]? = some p → ys[j]? = some q → Eqs K H n p q (e j)) ∧ b = ((List.range (min xs.length ys.length)).all e && xs.length == ys.length)) ∨
      (∃ (a : Addr) (xs : List V), x = .ref a ∧ y = .non ∧ SqT K H a xs ∧ b = false) ∨
      (∃ (a : Addr) (xs : List V), x = .non ∧ y = .ref a ∧ SqT K H a xs ∧ b = false)
theorem Eqs.flat {K : PySem.W.Frag} {H : Hp} {n : Nat} {x y : V} (h : Flt x y = true) : Eqs K H n x y (decide (x = y)) := by
  cases n with
  | zero => exact ⟨h, rfl⟩
  | succ n => exact .inl ⟨h, rfl⟩
theorem all_dec {α : Type} [DecidableEq α] {xs ys : List V} {ds es : List α} (l1 : ds.length = xs.length) (l2 : es.length = ys.length) : ((List.range (min xs.length ys.length)).all (fun j => decide (ds[j]? = es[j]?)) && xs.length == ys.length) = decide (ds = es) := by
  by_cases h : xs.length = ys.length
  · rw [Bool.eq_iff_iff, Bool.and_eq_true, List.all_eq_true, decide_eq_true_eq]
    constructor
    · rintro ⟨ha, _⟩
      refine List.ext_getElem? fun i => ?_
      by_cases hi : i < xs.length
      · exact of_decide_eq_true (ha i (List.mem_range.mpr (by omega)))
      · rw [List.getElem?_eq_none (by omega), List.getElem?_eq_none (by omega)]
    · rintro rfl
      exact ⟨fun j _ => decide_eq_true rfl, by simpa using h⟩
  · have : (xs.length == ys.length) = false := by simpa using h
    rw [this, Bool.and_false, decide_eq_false fun e => h (by rw [← l1, ← l2, e])]
theorem Eqs.seq {K : PySem.W.Frag} {H : Hp} {n : Nat} {a c : Addr} {xs ys : List V} {α : Type} [DecidableEq α] {ds es : List α} (hh : (SqT K H a xs ∧ SqT K H c ys) ∨ (SqL K H a xs ∧ SqL K H c ys)) (l1 : ds.length = xs.length) (l2 : es.length = ys.length)
    (h : ∀ (j : Nat) p q d e, xs[j]? = some p → ys[j]? = some q → ds[j]? = some d → es[j]? = some e → Eqs K H n p q (decide (d = e))) : Eqs K H (n + 1) (.ref a) (.ref c) (decide (ds = es)) := by
  refine .inr (.inl ⟨a, c, xs, ys, fun j => decide (ds[j]? = es[j]?), rfl, rfl, hh, fun j p q hp hq => ?_, (all_dec l1 l2).symm⟩)
  have j1 : j < ds.length := by rw [l1]; exact (List.getElem?_eq_some_iff.mp hp).1
  have j2 : j < es.length := by rw [l2]; exact (List.getElem?_eq_some_iff.mp hq).1
  have := h j p q ds[j] es[j] hp hq (List.getElem?_eq_getElem j1) (List.getElem?_eq_getElem j2)
  show Eqs K H n p q (decide (ds[j]? = es[j]?))
  rw [List.getElem?_eq_getElem j1, List.getElem?_eq_getElem j2]
  have e : decide (some ds[j] = some es[j]) = decide (ds[j] = es[j]) := by
    rw [Bool.eq_iff_iff, decide_eq_true_eq, decide_eq_true_eq]
    exact ⟨fun h => Option.some.inj h, fun h => by rw [h]⟩
  rw [e]; exact this
theorem Eqs.flats {K : PySem.W.Frag} {H : Hp} {n : Nat} {a c : Addr} {xs ys : List V} (h1 : SqT K H a xs) (h2 : SqT K H c ys) (h : ∀ x ∈ xs, ∀ y ∈ ys, Flt x y = true) : Eqs K H (n + 1) (.ref a) (.ref c) (decide (xs = ys)) :=
  Eqs.seq (.inl ⟨h1, h2⟩) rfl rfl fun j p q d e hp hq hd he => by
    rw [hp] at hd
    rw [hq] at he
    cases hd
    cases he
    exact Eqs.flat (h _ (List.mem_of_getElem? hp) _ (List.mem_of_getElem? hq))
section
variable {X : Cx} {pins : List (Addr × Obj)} {σ : St} {H : Hp} {s : Shared}
theorem eqs_refl (I : Inv X pins σ H s) : ∀ (n : Nat) {x : V} {b : Bool}, Eqs X.K H n x x b → b = true
  | 0, x, b, ⟨_, e⟩ => by rw [e, decide_eq_true rfl]
  | n + 1, x, b, h => by
    rcases h with ⟨_, e⟩ | ⟨a, c, xs, ys, e, e1, e2, hh, hj, eb⟩ | ⟨a, xs, e1, e2, _⟩ | ⟨a, xs, e1, e2, _⟩
    · rw [e, decide_eq_true rfl]
    · rw [e1] at e2
      injection e2 with e2
      subst e2
      have ex : xs = ys := by
        rcases hh with ⟨h1, h2⟩ | ⟨h1, h2⟩
        · exact I.tuple_inj h1 h2
        · exact I.list_inj h1 h2
      subst ex
      rw [eb, Bool.and_eq_true]
      refine ⟨List.all_eq_true.mpr fun j hj' => ?_, by simp⟩
      have hj' := List.mem_range.mp hj'
      have hjx : j < xs.length := by omega
      exact eqs_refl I n (hj j _ _ (List.getElem?_eq_getElem hjx) (List.getElem?_eq_getElem hjx))
    · rw [e1] at e2; cases e2
    · rw [e1] at e2; cases e2
theorem flt_at {x y : V} {v u : Value} (h : Flt x y = true) (rx : RelV x v) (ry : RelV y u) (A : Around) : SeqAt.EqAt A s v u (decide (x = y)) := by
  have sw : ∀ {b c : Bool}, SeqAt.EqAt A s v u b → b = c → SeqAt.EqAt A s v u c := fun h e => e ▸ h
  cases x <;> cases y <;> simp only [Flt, Bool.false_eq_true] at h <;> simp only [RelV] at rx ry
  · subst rx; subst ry; exact SeqAt.EqAt.same _
  · subst rx; subst ry; exact sw (SeqAt.EqAt.none_bool _) (by simp)
  · obtain ⟨t, rfl⟩ := ry; subst rx; exact sw (SeqAt.EqAt.none_int _ _) (by simp)
  · obtain ⟨t, rfl⟩ := ry; subst rx; exact sw (SeqAt.EqAt.none_str _ _) (by simp)
  · subst rx; subst ry; exact sw (SeqAt.EqAt.bool_none _) (by simp)
  · subst rx; subst ry; exact sw (SeqAt.EqAt.bool_bool _ _) (by rw [Bool.eq_iff_iff]; simp)
  · obtain ⟨t, rfl⟩ := ry; subst rx; exact sw (SeqAt.EqAt.bool_str _ _ _) (by simp)
  · obtain ⟨t, rfl⟩ := rx; subst ry; exact sw (SeqAt.EqAt.int_none _ _) (by simp)
  · obtain ⟨t, rfl⟩ := rx; obtain ⟨t', rfl⟩ := ry; exact sw (SeqAt.EqAt.int_int _ _ _ _) (by rw [Bool.eq_iff_iff]; simp)
  · obtain ⟨t, rfl⟩ := rx; obtain ⟨t', rfl⟩ := ry; exact sw (SeqAt.EqAt.int_str _ _ _ _) (by simp)
  · obtain ⟨t, rfl⟩ := rx; subst ry; exact sw (SeqAt.EqAt.str_none _ _) (by simp)
  · obtain ⟨t, rfl⟩ := rx; subst ry; exact sw (SeqAt.EqAt.str_bool _ _ _) (by simp)
  · obtain ⟨t, rfl⟩ := rx; obtain ⟨t', rfl⟩ := ry; exact sw (SeqAt.EqAt.str_int _ _ _ _) (by simp)
  · obtain ⟨t, rfl⟩ := rx; obtain ⟨t', rfl⟩ := ry; exact sw (SeqAt.EqAt.str_str _ _ _ _) (by rw [Bool.eq_iff_iff]; simp)
theorem val_at {xs : List V} {its : List Value} (r : Vals xs its) {j : Nat} (h : j < its.toArray.size) : ∃ x, xs[j]? = some x ∧ RelV x its.toArray[j] := by
  have l := r.length
  have hj : j < xs.length := by simpa [l] using h
  obtain ⟨v, e, rv⟩ := r.get (i := j) (x := xs[j]) (by simp [hj])
  have w1 : its.toArray[j] = v := by
    have := (List.getElem?_eq_some_iff.mp e).2
    simpa using this
  exact ⟨xs[j], by simp [hj], by rw [w1]; exact rv⟩
theorem in1_units (A : Around) : A.in1.units ≤ A.units + 1 := by first | exact Nat.le_refl _ | exact Nat.le_succ _
theorem eqs_at (I : Inv X pins σ H s) : ∀ (n : Nat) {x y : V} {b : Bool} {v u : Value} {A : Around}, A.units + n < cLine → Eqs X.K H n x y b → RelV x v → RelV y u → SeqAt.EqAt A s v u b
  | 0, x, y, b, v, u, A, _, ⟨h, e⟩, rx, ry => by rw [e]; exact flt_at h rx ry A
  | n + 1, x, y, b, v, u, A, hu, h, rx, ry => by
    rcases id h with ⟨h, e⟩ | ⟨a, c, xs, ys, e, rfl, rfl, hh, hj, eb⟩ | ⟨a, xs, rfl, rfl, h1, e⟩ | ⟨a, xs, rfl, rfl, h1, e⟩
    · rw [e]; exact flt_at h rx ry A
    · cases rx
      cases ry
      by_cases hne : a = c
      · subst hne
        rw [eqs_refl I (n + 1) h]
        exact SeqAt.EqAt.same _
      refine SeqAt.EqAt.of_refs hne ?_
      have iu := in1_units A
      rcases hh with ⟨h1, h2⟩ | ⟨h1, h2⟩
      · obtain ⟨its, r1, p1, _⟩ := I.tuple h1
        obtain ⟨its2, r2, p2, _⟩ := I.tuple h2
        have := SeqAt.RcAt.tuples (A := A) (e := e) p1 p2 (by omega) fun j j1 j2 => ?_
        · rw [List.size_toArray, List.size_toArray, ← r1.length, ← r2.length] at this
          rw [eb]; exact this
        · obtain ⟨p, ep, rp⟩ := val_at r1 j1
          obtain ⟨q, eq, rq⟩ := val_at r2 j2
          exact eqs_at I n (by omega) (hj j p q ep eq) rp rq
      · obtain ⟨its, r1, p1, _⟩ := I.list h1
        obtain ⟨its2, r2, p2, _⟩ := I.list h2
        have m1 := r1.length
        have m2 := r2.length
        by_cases hl : xs.length = ys.length
        · have := SeqAt.RcAt.lists (A := A) (e := e) p1.isList p2.isList (by rw [List.size_toArray, List.size_toArray]; omega) (by omega) fun j j1 j2 => ?_
          · rw [List.size_toArray, ← m1] at this
            rw [eb, hl, Nat.min_self, ← hl]
            simpa using this
          · obtain ⟨p, ep, rp⟩ := val_at r1 j1
            obtain ⟨q, eq, rq⟩ := val_at r2 j2
            exact eqs_at I n (by omega) (hj j p q ep eq) rp rq
        · have := SeqAt.RcAt.lists_lengths (A := A) p1.isList p2.isList (by rw [List.size_toArray, List.size_toArray]; simp; omega) (by omega)
          have eb' : b = false := by rw [eb]; simp [hl]
          rw [eb']; exact this
    · cases rx
      cases ry
      obtain ⟨its, r1, p1, _⟩ := I.tuple h1
      rw [e]; exact SeqAt.EqAt.tuple_none p1 (by omega)
    · cases rx
      cases ry
      obtain ⟨its, r1, p1, _⟩ := I.tuple h1
      rw [e]; exact SeqAt.EqAt.none_tuple p1 (by omega)
end
end L2
set_option maxHeartbeats 1000000
namespace L2
open PySem PySem.Spec PyProof.Rows
theorem pe_bmK {X : Cx} {o e : Expr} {es : List Expr} {to : TE} {t : TA} {name : Str} {apos cpos : Pos} {T id : String} {r : V → List V → Hp → VK → Prop} (K : PySem.W.Frag) (hK : X.K = K) (pa : PlainAttrs T) (slot : Slot T name id) (hty : typeOf (.builtin id) = pure (.type "method_descriptor")) (hm : MtM X id r) (ho : PE X o to) (ha : PA X (e :: es) t)
    (hbase : attributeBase o name X.env (eval o X.env) = eval o X.env := by rfl)
    (hfew : ((backTo cpos (starEach (e :: es) X.env)).all (fun x => !x.1) && (backToKw cpos (keywordEach [] X.env)).all (fun x => x.1.isSome) && decide ((e :: es).length + ([] : List Keyword).length + (if ([] : List Keyword).isEmpty then 0 else 1) < 30)) = true := by rfl)
    (hline : (apos.endLine == cpos.line) = true := by rfl) (hs : starEach (e :: es) X.env = (false, eval e X.env) :: starEach es X.env := by rfl) (hplain : (backTo cpos (starEach es X.env)).any (·.1) = false := by rfl) :
    PE X (.Call (.Attribute o name apos) (e :: es) [] cpos) (tBM K T r to t) := by
  subst hK
  exact pe_bm pa slot hty hm ho ha hbase hfew hline hs hplain
end L2
set_option maxHeartbeats 4000000
namespace K22
open PySem L2 Wk
def top (i : Nat) : Stmt := PySem.Challenge.pw_joinedever_k22_whole_takes_of_stands.main.body.getD i (.Pass ⟨0, 0, 0, 0⟩)
def meth (i j : Nat) : Stmt := match top i with
  | .ClassDef (body := b) .. => b.getD j (.Pass ⟨0, 0, 0, 0⟩)
  | s => s
abbrev sWhole : Stmt := top 4
abbrev sWithin : Stmt := top 5
abbrev sStays : Stmt := top 7
abbrev sJp : Stmt := top 8
abbrev sInit : Stmt := meth 9 0
abbrev sJoin : Stmt := meth 9 1
abbrev sTop : Stmt := meth 9 2
abbrev sSide : Stmt := meth 9 3
abbrev sSize : Stmt := meth 9 4
abbrev sParts : Stmt := meth 9 5
abbrev sOdd : Stmt := meth 9 6
abbrev sJoins : Stmt := meth 9 7
abbrev sShown : Stmt := meth 9 8
abbrev sBack : Stmt := meth 9 9
abbrev sBeside : Stmt := top 11
abbrev sWays : Stmt := top 12
abbrev sPart : Stmt := top 13
abbrev sJoined : Stmt := top 14
abbrev sPartsOf : Stmt := top 15
abbrev sCell : Stmt := top 17
abbrev sOpened : Stmt := top 18
abbrev sDraw : Stmt := top 19
abbrev sRare : Stmt := top 20
abbrev sTwo : Stmt := top 21
abbrev sNamed : Stmt := top 22
abbrev sOrder : Stmt := top 23
abbrev sDTies : Stmt := top 24
abbrev sEven : Stmt := top 25
abbrev sRight : Stmt := top 26
abbrev sGone : Stmt := top 27
abbrev sLaw : Stmt := top 28
structure Txt (K : PySem.W.Frag) (mg : Str → Option Value) (C I : Addr) : Prop where
  cl : Cls K C
  nS : NoAttr K C "states"
  mkC : Mk K C I
  mgC : mg "Takes" = some (.ref C)
  isinstance : mg "isinstance" = none
  int : mg "int" = none
  bool : mg "bool" = none
  tuple : mg "tuple" = none
  len : mg "len" = none
  range : mg "range" = none
  max : mg "max" = none
  min : mg "min" = none
  zip : mg "zip" = none
  sorted : mg "sorted" = none
  list : mg "list" = none
  enumerate : mg "enumerate" = none
structure S3 where
  tops : List Int
  sides : List Int
  odds : Int
def staysB (tops : List Int) (a b : Int) : Bool := decide (0 < (tops.count a : Int) - (tops.count b : Int)) || (decide ((tops.count a : Int) - (tops.count b : Int) = 0) && decide (a < b))
def newTops (tops : List Int) (kept taken : Int) : List Int := tops.map fun t => if t = taken then kept else t
def newSides (tops sides : List Int) (taken turn : Int) : List Int := List.zipWith (fun t s => if t = taken then Builtin.bitXor s turn else s) tops sides
def kt (tops : List Int) (a b : Int) : Int × Int := if staysB tops a b then (a, b) else (b, a)
def turnOf (s t : Int) : Int := if s = t then 1 else 0
def joinS (st : S3) (i j : Nat) : S3 × Bool :=
  let a := st.tops.getD i 0
  let b := st.tops.getD j 0
  if a = b then (⟨st.tops, st.sides, st.odds + turnOf (st.sides.getD i 0) (st.sides.getD j 0)⟩, false)
  else (⟨newTops st.tops (kt st.tops a b).1 (kt st.tops a b).2, newSides st.tops st.sides (kt st.tops a b).2 (turnOf (st.sides.getD i 0) (st.sides.getD j 0)), st.odds⟩, true)
def partsN (tops : List Int) : Nat := ((List.range tops.length).filter fun p => decide (tops.getD p 0 = (p : Nat))).length
def StAt (H : Hp) (r : Addr) (st : S3) : Prop := ∃ a b : Addr, H r = some (.tup [.ref a, .ref b, .int st.odds]) ∧ H a = some (.tup (st.tops.map V.int)) ∧ H b = some (.tup (st.sides.map V.int))
def TupS (H H' : Hp) : Prop := ∀ b xs, H b = some (.tup xs) → H' b = some (.tup xs)
theorem StAt.tup {H H' : Hp} {r : Addr} {st : S3} (h : StAt H r st) (t : TupS H H') : StAt H' r st := by
  obtain ⟨a, b, h1, h2, h3⟩ := h
  exact ⟨a, b, t _ _ h1, t _ _ h2, t _ _ h3⟩
def StsAt (H : Hp) : List Addr → List S3 → Prop
  | [], [] => True
  | r :: rs, st :: sts => StAt H r st ∧ StsAt H rs sts
  | _, _ => False
theorem StsAt.tup {H H' : Hp} (t : TupS H H') : ∀ {rs : List Addr} {sts : List S3}, StsAt H rs sts → StsAt H' rs sts
  | [], [], _ => trivial
  | _ :: _, _ :: _, h => ⟨h.1.tup t, StsAt.tup t h.2⟩
theorem StsAt.snoc {H : Hp} {r : Addr} {st : S3} (t : StAt H r st) : ∀ {rs : List Addr} {sts : List S3}, StsAt H rs sts → StsAt H (rs ++ [r]) (sts ++ [st])
  | [], [], _ => ⟨t, trivial⟩
  | _ :: _, _ :: _, h => ⟨h.1, StsAt.snoc t h.2⟩
theorem StsAt.len {H : Hp} : ∀ {rs : List Addr} {sts : List S3}, StsAt H rs sts → rs.length = sts.length
  | [], [], _ => rfl
  | _ :: _, _ :: _, h => by simp [StsAt.len h.2]
theorem StsAt.take {H : Hp} (k : Nat) : ∀ {rs : List Addr} {sts : List S3}, StsAt H rs sts → StsAt H (rs.take k) (sts.take k) := by
  induction k with
  | zero => intro rs sts _; simp [StsAt]
  | succ k ih =>
    intro rs sts h
    match rs, sts, h with
    | [], [], _ => exact trivial
    | _ :: _, _ :: _, h => exact ⟨h.1, ih h.2⟩
theorem StsAt.last {H : Hp} : ∀ {rs : List Addr} {pre : List S3} {st : S3}, StsAt H rs (pre ++ [st]) → ∃ rs' r, rs = rs' ++ [r] ∧ StAt H r st ∧ StsAt H rs' pre
  | [], [], _, h => h.elim
  | [], _ :: _, _, h => h.elim
  | r :: rs, [], st, h => by
    match rs, h with
    | [], h => exact ⟨[], r, rfl, h.1, trivial⟩
    | _ :: _, h => exact h.2.elim
  | r :: rs, p :: pre, st, h => by
    obtain ⟨rs', r', e, h1, h2⟩ := StsAt.last (pre := pre) h.2
    exact ⟨r :: rs', r', by rw [e]; rfl, h1, h.1, h2⟩
def flds (S : Addr) : List (Str × V) := putF "states" (.ref S) []
theorem flds_at (S : Addr) : (flds S).lookup ("states" : Str) = some (.ref S) := by
  unfold flds
  rw [lookup_putF, if_pos rfl]
theorem flds_no (S : Addr) {m : Str} (h : ¬ m = "states") : (flds S).lookup m = none := by
  unfold flds
  rw [lookup_putF, if_neg h]
  rfl
theorem flds_put (S S' : Addr) : putF "states" (.ref S') (flds S) = flds S' := by
  unfold flds
  show (if ("states" : Str) = "states" then _ else _) = _
  rw [if_pos rfl]
  rfl
structure TkAt (C : Addr) (H : Hp) (x S : Addr) (sts : List S3) : Prop where
  ob : ∃ dx, H x = some (.ins C dx (flds S))
  st : ∃ rs : List Addr, H S = some (.lst (rs.map V.ref)) ∧ StsAt H rs sts
  le : sts.length ≤ 200
structure Ok (n : Nat) (st : S3) : Prop where
  t : st.tops.length = n
  s : st.sides.length = n
  n1 : 1 ≤ n
  n2 : n ≤ 24
def spWhole : Sp := fun vs H Q _ => ∃ i : Int, vs = [.int i] ∧ Q (.bl true) H
def spWithin : Sp := fun vs H Q _ => ∃ i lo hi : Int, vs = [.int i, .int lo, .int hi] ∧ lo ≤ i ∧ i ≤ hi ∧ Q (.bl true) H
def spStays (K : PySem.W.Frag) : Sp := fun vs H Q _ => ∃ (t : Addr) (tops : List Int) (a b : Int), vs = [.ref t, .int a, .int b] ∧ H t = some (.tup (tops.map V.int)) ∧ Q (.bl (staysB tops a b)) H
def spJp (K : PySem.W.Frag) : Sp := fun vs H Q _ => ∃ (t s : Addr) (st : S3) (n i j : Nat), vs = [.ref t, .ref s, .int (i : Nat), .int (j : Nat)] ∧ H t = some (.tup (st.tops.map V.int)) ∧ H s = some (.tup (st.sides.map V.int)) ∧ Ok n st ∧ i < n ∧ j < n ∧
  ∀ (r a b : Addr) (H' : Hp), Same H H' → H' r = some (.tup [.ref a, .ref b]) → H' a = some (.tup ((newTops st.tops (kt st.tops (st.tops.getD i 0) (st.tops.getD j 0)).1 (kt st.tops (st.tops.getD i 0) (st.tops.getD j 0)).2).map V.int)) →
    H' b = some (.tup ((newSides st.tops st.sides (kt st.tops (st.tops.getD i 0) (st.tops.getD j 0)).2 (turnOf (st.sides.getD i 0) (st.sides.getD j 0))).map V.int)) → Q (.ref r) H'
def start3 (m : Int) : S3 := ⟨rints 0 m.toNat, List.replicate m.toNat 0, 0⟩
def spInit (C : Addr) : Sp := fun vs H Q _ => ∃ (x dx : Addr) (m : Int), vs = [.ref x, .int m] ∧ H x = some (.ins C dx []) ∧ 1 ≤ m ∧ m ≤ 24 ∧ ∀ (S : Addr) (H' : Hp), H S = none → TkAt C H' x S [start3 m] → (∀ b o, H b = some o → b ≠ x → H' b = some o) → Q .non H'
def spShown (C : Addr) : Sp := fun vs H Q _ => ∃ (x S : Addr) (pre : List S3) (st : S3), vs = [.ref x] ∧ TkAt C H x S (pre ++ [st]) ∧ ∀ r, StAt H r st → Q (.ref r) H
def spTop (C : Addr) : Sp := fun vs H Q _ => ∃ (x S : Addr) (pre : List S3) (st : S3) (n i : Nat), vs = [.ref x, .int (i : Nat)] ∧ TkAt C H x S (pre ++ [st]) ∧ Ok n st ∧ i < n ∧ Q (.int (st.tops.getD i 0)) H
def spSide (C : Addr) : Sp := fun vs H Q _ => ∃ (x S : Addr) (pre : List S3) (st : S3) (n i : Nat), vs = [.ref x, .int (i : Nat)] ∧ TkAt C H x S (pre ++ [st]) ∧ Ok n st ∧ i < n ∧ Q (.int (st.sides.getD i 0)) H
def spSize (C : Addr) : Sp := fun vs H Q _ => ∃ (x S : Addr) (pre : List S3) (st : S3) (n i : Nat), vs = [.ref x, .int (i : Nat)] ∧ TkAt C H x S (pre ++ [st]) ∧ Ok n st ∧ i < n ∧ Q (.int (st.tops.count (st.tops.getD i 0) : Nat)) H
def spOdd (C : Addr) : Sp := fun vs H Q _ => ∃ (x S : Addr) (pre : List S3) (st : S3), vs = [.ref x] ∧ TkAt C H x S (pre ++ [st]) ∧ Q (.int st.odds) H
def spJoins (C : Addr) : Sp := fun vs H Q _ => ∃ (x S : Addr) (sts : List S3), vs = [.ref x] ∧ TkAt C H x S sts ∧ Q (.int ((sts.length : Int) - 1)) H
def spParts (C : Addr) : Sp := fun vs H Q _ => ∃ (x S : Addr) (pre : List S3) (st : S3) (n : Nat), vs = [.ref x] ∧ TkAt C H x S (pre ++ [st]) ∧ Ok n st ∧ ∀ H', Same H H' → Q (.int (partsN st.tops : Nat)) H'
def spJoin (C : Addr) : Sp := fun vs H Q _ => ∃ (x S : Addr) (pre : List S3) (st : S3) (n i j : Nat), vs = [.ref x, .int (i : Nat), .int (j : Nat)] ∧ TkAt C H x S (pre ++ [st]) ∧ pre.length ≤ 150 ∧ Ok n st ∧ i < n ∧ j < n ∧
  ∀ H', (∀ b o, H b = some o → b ≠ S → H' b = some o) → TkAt C H' x S (pre ++ [st] ++ [(joinS st i j).1]) → Q (.bl (joinS st i j).2) H'
def spBack (C : Addr) : Sp := fun vs H Q _ => ∃ (x S : Addr) (sts : List S3) (k : Nat), vs = [.ref x, .int (k : Nat)] ∧ TkAt C H x S sts ∧ k < sts.length ∧ ∀ (S' : Addr) (H' : Hp), H S' = none → (∀ b o, H b = some o → b ≠ x → H' b = some o) → TkAt C H' x S' (sts.take (k + 1)) → Q .non H'
theorem getD_at {ns : List Int} {i : Nat} (h : i < ns.length) : atI (ns.map V.int) (i : Int) = some (.int (ns.getD i 0)) := atI_nat (by rw [List.getElem?_map, List.getElem?_eq_getElem h]; simp [List.getD, h])
theorem at_last {r : V} {xs : List V} : atI (xs ++ [r]) (-1) = some r := by
  unfold atI ixN
  rw [if_neg (by decide), if_pos (by simp; omega)]
  have : ((-1 : Int) + ((xs ++ [r]).length : Int)).toNat = xs.length := by simp; omega
  rw [this]
  simp
section
variable {P : Program} {w : World} {K : PySem.W.Frag} {mg : Str → Option Value} {base : Heap} {C I : Addr}
theorem scWhole : FnScope ["thing"] ["thing"] (defScope sWhole) := ⟨rfl, rfl, rfl, by decide +kernel, rfl, by decide +kernel, by decide +kernel⟩
theorem ok_Whole {f : Addr} {fd : FuncData} (F : Fun K "is_whole" "is_whole" sWhole f fd) (T : Txt K mg C I) :
    FnOk P w K mg base CX0 1 f fd ["thing"] spWhole := by
  refine F.ok scWhole (fun vs H Q E h => ?_) (fun cdv A outer s H vs Q E hr h => ?_)
  · obtain ⟨_, rfl, _⟩ := h; rfl
  · obtain ⟨i, rfl, k⟩ := h
    refine ⟨_, pss_one (ps_ret (pe_and (pe_callB call_isi (by rfl) T.isinstance (by decide +kernel) (pa_cons (pv 0) (pa_cons (pe_ty (T := "int") (by rfl) T.int (by decide +kernel)) pa_nil))) (pe_one (pe_not (pe_callB call_isi (by rfl) T.isinstance (by decide +kernel) (pa_cons (pv 0) (pa_cons (pe_ty (T := "bool") (by rfl) T.bool (by decide +kernel)) pa_nil))))))), ?_⟩
    exact ⟨_, rfl, _, _, "int", true, rfl, .int i, rfl, _, rfl, iteT ⟨_, rfl, _, _, "bool", false, rfl, .int i, rfl, _, rfl, k⟩⟩
theorem scWithin : FnScope ["thing", "low", "high"] ["thing", "low", "high"] (defScope sWithin) := ⟨rfl, rfl, rfl, by decide +kernel, rfl, by decide +kernel, by decide +kernel⟩
theorem ok_Within {f : Addr} {fd : FuncData} (F : Fun K "is_within" "is_within" sWithin f fd) (T : Txt K mg C I)
    {gWhole : Addr} {fWhole : FuncData} (kWhole : PySem.W.keepIn K (.ref gWhole) = true) (bWhole : Binds K fWhole ["thing"] []) (hWhole : mg "is_whole" = some (.ref gWhole)) (GWhole : FnOk P w K mg base CX0 1 gWhole fWhole ["thing"] spWhole) :
    FnOk P w K mg base CX0 2 f fd ["thing", "low", "high"] spWithin := by
  refine F.ok scWithin (fun vs H Q E h => ?_) (fun cdv A outer s H vs Q E hr h => ?_)
  · obtain ⟨_, _, _, rfl, _⟩ := h; rfl
  · obtain ⟨i, lo, hi, rfl, h1, h2, k⟩ := h
    refine ⟨_, pss_one (ps_ret (pe_and (pe_call GWhole hr rfl hWhole kWhole bWhole .nil pass0 (pa_cons (pv 0) pa_nil)) (pe_one (pe_chain op_le op_le (pv 1) (pv 0) (pv 2))))), ?_⟩
    refine ⟨_, rfl, i, rfl, _, rfl, iteT ⟨_, rfl, _, rfl, _, _, rfl, rfl, _, rfl, ?_⟩⟩
    rw [decide_eq_true h1]
    refine iteT ⟨_, rfl, _, _, rfl, rfl, ?_⟩
    show Q (.bl (decide (i ≤ hi))) H
    rw [decide_eq_true h2]
    exact k
theorem scStays : FnScope ["tops", "one", "other", "more"] ["tops", "one", "other"] (defScope sStays) := ⟨rfl, rfl, rfl, by decide +kernel, rfl, by decide +kernel, by decide +kernel⟩
theorem ok_Stays {f : Addr} {fd : FuncData} (F : Fun K "stays" "stays" sStays f fd) (T : Txt K mg C I) :
    FnOk P w K mg base CX0 1 f fd ["tops", "one", "other"] (spStays K) := by
  refine F.ok scStays (fun vs H Q E h => ?_) (fun cdv A outer s H vs Q E hr h => ?_)
  · obtain ⟨_, _, _, _, rfl, _⟩ := h; rfl
  · obtain ⟨t, tops, a, b, rfl, ht, k⟩ := h
    refine ⟨_, pss_cons (ps_set (i := 3) scStays.nd rfl (Or.inl rfl) (pe_op op_sub (pe_bm PySem.F.plainAttrs_tuple PySem.F.slot_tuple_count PySem.F.type_tuple_count mt_countT (pv 0) (pa_cons (pv 1) pa_nil)) (pe_bm PySem.F.plainAttrs_tuple PySem.F.slot_tuple_count PySem.F.type_tuple_count mt_countT (pv 0) (pa_cons (pv 2) pa_nil))))
      (pss_one (ps_ret (pe_or (pe_cmpR op_gt (pv 3) pe_int (nomark _)) (pe_one (pe_and (pe_cmpR op_eq (pv 3) pe_int (nomark _)) (pe_one (pe_cmpR op_lt (pv 1) (pv 2) (nomark _)))))))), ?_⟩
    refine ⟨_, rfl, .inr (.inl ⟨rfl, .inr ⟨_, ht⟩⟩), _, rfl, t, tops, a, rfl, rfl, SqT.of ht, _, rfl, .inr (.inl ⟨rfl, .inr ⟨_, ht⟩⟩), _, rfl, t, tops, b, rfl, rfl, SqT.of ht, _, _, rfl, rfl, ?_⟩
    refine ⟨_, rfl, _, _, rfl, rfl, _, rfl, ite2 (fun c => ?_) fun c => ?_⟩
    · have e : staysB tops a b = true := by unfold staysB; rw [c]; rfl
      rw [e] at k
      exact k
    · have c : decide (0 < (tops.count a : Int) - (tops.count b : Int)) = false := by simpa using c
      refine ⟨_, rfl, rfl, _, rfl, ite2 (fun c2 => ?_) fun c2 => ?_⟩
      · have c2 : (tops.count a : Int) - (tops.count b : Int) = 0 := by simpa using c2
        have e : staysB tops a b = decide (a < b) := by unfold staysB; rw [c, decide_eq_true c2]; rfl
        rw [e] at k
        exact ⟨_, rfl, _, rfl, _, _, rfl, rfl, k⟩
      · have c2 : ¬ (tops.count a : Int) - (tops.count b : Int) = 0 := by simpa using c2
        have e : staysB tops a b = false := by unfold staysB; rw [c, decide_eq_false c2]; rfl
        rw [e] at k
        exact k
def tTail : TS := fun D σ H => ∃ (t s : Addr) (tops sides : List Int) (i j kept taken turn : Int) (n : Nat), σ = [some (.ref t), some (.ref s), some (.int i), some (.int j), some (.int kept), some (.int taken), some (.int turn), none, none] ∧ H t = some (.tup (tops.map V.int)) ∧ H s = some (.tup (sides.map V.int)) ∧ tops.length = n ∧ sides.length = n ∧ n ≤ 24 ∧
  ∀ (r a b : Addr) (H' : Hp), Same H H' → H' r = some (.tup [.ref a, .ref b]) → H' a = some (.tup ((newTops tops kept taken).map V.int)) → H' b = some (.tup ((newSides tops sides taken turn).map V.int)) → D.rt (.ref r) H'
theorem int_of {ms : List Int} {j : Nat} {x : V} (h : (ms.map V.int)[j]? = some x) : ∃ c, ms[j]? = some c ∧ x = .int c := by
  rw [List.getElem?_map] at h
  cases hq : ms[j]? with
  | none => rw [hq] at h; cases h
  | some z => rw [hq] at h; exact ⟨z, rfl, (Option.some.inj h).symm⟩
theorem scJp : FnScope ["tops", "sides", "one", "other", "kept", "taken", "turn", "new_tops", "new_sides"] ["tops", "sides", "one", "other"] (defScope sJp) := ⟨rfl, rfl, rfl, by decide +kernel, rfl, by decide +kernel, by decide +kernel⟩
theorem ok_Jp {f : Addr} {fd : FuncData} (F : Fun K "joined_parts" "joined_parts" sJp f fd) (T : Txt K mg C I)
    {gStays : Addr} {fStays : FuncData} (kStays : PySem.W.keepIn K (.ref gStays) = true) (bStays : Binds K fStays ["tops", "one", "other"] []) (hStays : mg "stays" = some (.ref gStays)) (GStays : FnOk P w K mg base CX0 1 gStays fStays ["tops", "one", "other"] (spStays K)) :
    FnOk P w K mg base CX0 2 f fd ["tops", "sides", "one", "other"] (spJp K) := by
  refine F.ok scJp (fun vs H Q E h => ?_) (fun cdv A outer s H vs Q E hr h => ?_)
  · obtain ⟨_, _, _, _, _, _, rfl, _⟩ := h; rfl
  · obtain ⟨t, s', st, n, i, j, rfl, ht, hs, ok, hi, hj, k⟩ := h
    refine ⟨_, pss_cons (ps_asg (pe_tup (pa_cons (pe_ix ix_tup (pv 0) (pv 2) (fun _ _ => rfl)) (pa_cons (pe_ix ix_tup (pv 0) (pv 3) (fun _ _ => rfl)) pa_nil))) (pg_tup rfl (pgs_cons (pg_name (i := 4) scJp.nd rfl (Or.inr rfl)) (pgs_cons (pg_name (i := 5) scJp.nd rfl (Or.inr rfl)) pgs_nil))))
      (pss_cons (ps_if (pt_not (pt_val (pe_call GStays hr rfl hStays kStays bStays .nil pass0 (pa_cons (pv 0) (pa_cons (pv 4) (pa_cons (pv 5) pa_nil)))))) (pss_one (ps_asg (pe_tup (pa_cons (pv 5) (pa_cons (pv 4) pa_nil))) (pg_tup rfl (pgs_cons (pg_name (i := 4) scJp.nd rfl (Or.inr rfl)) (pgs_cons (pg_name (i := 5) scJp.nd rfl (Or.inr rfl)) pgs_nil))))) pss_nil)
      (pss_cons (ps_set (i := 6) scJp.nd rfl (Or.inr rfl) (pe_ifExp (pt_cmpR op_eq (pe_ix ix_tup (pv 1) (pv 2) (fun _ _ => rfl)) (pe_ix ix_tup (pv 1) (pv 3) (fun _ _ => rfl)) (nomark _)) pe_int pe_int))
      (PSs.imp' (t' := tTail) (pss_cons (ps_comp (i := 7) (T := ["top"]) (F := ["kept", "taken"]) (js := [4, 5]) scJp.nd rfl (Or.inl rfl) (CS.to (osc := defScope sJp) ⟨by rfl, by decide +kernel, by decide +kernel, by decide +kernel, by decide +kernel, by decide +kernel, by decide +kernel⟩ rfl rfl) rfl (pi_tup (pv 0)) (fun _ _ _ _ _ => pg_name (i := 0) (show (["top", "kept", "taken"] : List Str).Nodup by decide +kernel) rfl (Or.inl rfl)) (fun _ _ _ _ _ => pif_nil) (fun _ _ _ _ _ => pe_ifExp (pt_cmpR op_eq (pv 0) (pv 2) (nomark _)) (pv 1) (pv 0)))
      (pss_cons (ps_comp (i := 8) (T := ["top", "side"]) (F := ["taken", "turn"]) (js := [5, 6]) scJp.nd rfl (Or.inl rfl) (CS.to (osc := defScope sJp) ⟨by rfl, by decide +kernel, by decide +kernel, by decide +kernel, by decide +kernel, by decide +kernel, by decide +kernel⟩ rfl rfl) rfl (pi_zip rfl T.zip (pa_cons (pv 0) (pa_cons (pv 1) pa_nil))) (fun _ _ _ _ _ => pg_tupK K 2 rfl rfl (pgs_cons (pg_name (i := 0) (show (["top", "side", "taken", "turn"] : List Str).Nodup by decide +kernel) rfl (Or.inl rfl)) (pgs_cons (pg_name (i := 1) (show (["top", "side", "taken", "turn"] : List Str).Nodup by decide +kernel) rfl (Or.inl rfl)) pgs_nil))) (fun _ _ _ _ _ => pif_nil) (fun _ _ _ _ _ => pe_ifExp (pt_cmpR op_eq (pv 0) (pv 2) (nomark _)) (pe_op op_xor (pv 1) (pv 3)) (pv 1)))
      (pss_one (ps_ret (pe_tup (pa_cons (pe_callTy call_tuple_of (by rfl) T.tuple (by decide +kernel) (pa_cons (pv 7) pa_nil)) (pa_cons (pe_callTy call_tuple_of (by rfl) T.tuple (by decide +kernel) (pa_cons (pv 8) pa_nil)) pa_nil))))))) ?tail))), ?_⟩
    case tail =>
      rintro D σ H ⟨t, s', tops, sides, i, j, kept, taken, turn, n, rfl, ht, hs, tl, sl, n2, k⟩
      refine ⟨_, rfl, t, rfl, ⟨_, SqT.of ht⟩, fun D1 hD1 => comp_tup (K := K) (a := t) (xs := tops.map V.int) (fun j σ ys H2 => ∃ u : Option V, σ = [u, some (.int kept), some (.int taken)] ∧ Same H H2 ∧ H2 D1 = some (.lst ys) ∧ ys = ((newTops tops kept taken).take j).map V.int)
        ⟨none, rfl, same_new hD1, upd_same, rfl⟩ (fun j σ ys H2 _ ⟨_, _, s2, e, _⟩ => ⟨SqT.of (s2 _ _ ht), e⟩) ?_ ?_⟩
      · rintro m x σ ys H2 hx ⟨u, rfl, s2, e2, rfl⟩
        obtain ⟨c, hc, rfl⟩ := int_of hx
        have ml : m < tops.length := (List.getElem?_eq_some_iff.mp hc).1
        have nx : (newTops tops kept taken)[m]? = some (if c = taken then kept else c) := by unfold newTops; rw [List.getElem?_map, hc]; rfl
        refine ⟨_, rfl, _, rfl, rfl, _, rfl, ite2 (fun g => ?_) fun g => ?_⟩
        · have g : c = taken := by simpa using g
          rw [if_pos g] at nx
          exact ⟨_, rfl, e2, small1000 (by simp; omega), _, rfl, fun b o e => by rw [upd_ne (ne_of_none e hD1)]; exact s2 _ _ e, upd_same, by rw [List.take_add_one, nx]; simp⟩
        · have g : ¬ c = taken := by simpa using g
          rw [if_neg g] at nx
          exact ⟨_, rfl, e2, small1000 (by simp; omega), _, rfl, fun b o e => by rw [upd_ne (ne_of_none e hD1)]; exact s2 _ _ e, upd_same, by rw [List.take_add_one, nx]; simp⟩
      rintro σ ys H2 ⟨u, rfl, s2, e2, rfl⟩
      rw [List.take_of_length_le (by simp [newTops])] at e2
      refine ⟨_, rfl, _, rfl, t, s', _, _, rfl, SqT.of (s2 _ _ ht), SqT.of (s2 _ _ hs), fun D2 hD2 => comp_zip (K := K) (a := t) (b := s') (xs := tops.map V.int) (ys := sides.map V.int) (fun j σ ys H3 => ∃ u1 u2 : Option V, σ = [u1, u2, some (.int taken), some (.int turn)] ∧ Same H2 H3 ∧ H3 D2 = some (.lst ys) ∧ ys = ((newSides tops sides taken turn).take j).map V.int)
        ⟨none, none, rfl, same_new hD2, upd_same, rfl⟩ (fun j σ ys H3 _ _ ⟨_, _, _, s3, e, _⟩ => ⟨SqT.of (s3 _ _ (s2 _ _ ht)), SqT.of (s3 _ _ (s2 _ _ hs)), e⟩) ?_ ?_⟩
      · rintro m x y σ ys H3 T' hx hy ⟨u1, u2, rfl, s3, e3, rfl⟩ hT
        obtain ⟨c, hc, rfl⟩ := int_of hx
        obtain ⟨d, hd, rfl⟩ := int_of hy
        have ml : m < tops.length := (List.getElem?_eq_some_iff.mp hc).1
        have nx : (newSides tops sides taken turn)[m]? = some (if c = taken then Builtin.bitXor d turn else d) := by unfold newSides; rw [List.getElem?_zipWith, hc, hd]
        have s4 := s3.trans (same_new (o := .tup [.int c, .int d]) hT)
        have T4 := upd_same (H := H3) (a := T') (o := .tup [.int c, .int d])
        have D4 := same_new (o := .tup [.int c, .int d]) hT _ _ e3
        generalize upd H3 T' (.tup [.int c, .int d]) = H4 at s4 T4 D4
        refine ⟨T', _, rfl, SqT.of T4, rfl, _, _, rfl, _, _, rfl, rfl, ?_⟩
        have ll : (((newSides tops sides taken turn).take m).map V.int).length ≤ 24 := by simp [newSides]; omega
        refine ⟨_, rfl, _, rfl, rfl, _, rfl, ite2 (fun g => ?_) fun g => ?_⟩
        · have g : c = taken := by simpa using g
          rw [if_pos g] at nx
          exact ⟨_, rfl, _, rfl, _, _, rfl, rfl, D4, small1000 (by omega), _, _, rfl, fun b o e => by rw [upd_ne (ne_of_none e hD2)]; exact s4 _ _ e, upd_same, by rw [List.take_add_one, nx]; simp⟩
        · have g : ¬ c = taken := by simpa using g
          rw [if_neg g] at nx
          exact ⟨_, rfl, D4, small1000 (by omega), _, _, rfl, fun b o e => by rw [upd_ne (ne_of_none e hD2)]; exact s4 _ _ e, upd_same, by rw [List.take_add_one, nx]; simp⟩
      rintro m σ ys H3 hm ⟨u1, u2, rfl, s3, e3, rfl⟩
      rw [List.take_of_length_le (by simp [newSides, hm])] at e3
      refine ⟨_, rfl, D1, _, rfl, .inl ⟨SqL.of (s3 _ _ e2), fun q hq => ⟨_, rfl, D2, _, rfl, .inl ⟨SqL.of (same_new hq _ _ e3), fun q2 hq2 => ⟨small (by simp), fun r hr' => ?_⟩⟩⟩⟩⟩
      exact k r q q2 _ (((s2.trans s3).trans (same_new hq)).trans ((same_new hq2).trans (same_new hr'))) upd_same (same_new hr' _ _ (same_new hq2 _ _ upd_same)) (same_new hr' _ _ upd_same)
    have gi := getD_at (ns := st.tops) (i := i) (by rw [ok.t]; exact hi)
    have gj := getD_at (ns := st.tops) (i := j) (by rw [ok.t]; exact hj)
    have si := getD_at (ns := st.sides) (i := i) (by rw [ok.s]; exact hi)
    have sj := getD_at (ns := st.sides) (i := j) (by rw [ok.s]; exact hj)
    refine ⟨_, rfl, _, rfl, t, _, _, _, rfl, rfl, SqT.of ht, gi, _, rfl, _, rfl, t, _, _, _, rfl, rfl, SqT.of ht, gj, small (by simp), fun p hp => ⟨p, _, rfl, SqT.of upd_same, rfl, _, _, rfl, _, _, rfl, rfl, ?_⟩⟩
    have s1 := same_new (o := .tup [.int (st.tops.getD i 0), .int (st.tops.getD j 0)]) hp
    generalize upd H p (.tup [.int (st.tops.getD i 0), .int (st.tops.getD j 0)]) = H1 at s1
    refine ⟨_, rfl, _, rfl, _, rfl, t, st.tops, _, _, rfl, s1 _ _ ht, _, rfl, ite2 (fun c => ?_) fun c => ?_⟩
    · have c : staysB st.tops (st.tops.getD i 0) (st.tops.getD j 0) = false := by simpa using c
      have ek : kt st.tops (st.tops.getD i 0) (st.tops.getD j 0) = (st.tops.getD j 0, st.tops.getD i 0) := by unfold kt; rw [c]; rfl
      rw [ek] at k
      refine ⟨_, rfl, _, rfl, small (by simp), fun p2 hp2 => ⟨p2, _, rfl, SqT.of upd_same, rfl, _, _, rfl, _, _, rfl, rfl, ?_⟩⟩
      have s2 := s1.trans (same_new (o := .tup [.int (st.tops.getD j 0), .int (st.tops.getD i 0)]) hp2)
      generalize upd H1 p2 (.tup [.int (st.tops.getD j 0), .int (st.tops.getD i 0)]) = H2 at s2
      refine ⟨_, rfl, _, rfl, s', _, _, _, rfl, rfl, SqT.of (s2 _ _ hs), si, _, rfl, _, rfl, s', _, _, _, rfl, rfl, SqT.of (s2 _ _ hs), sj, rfl, _, rfl, ite2 (fun g => ?_) fun g => ?_⟩
      · have g : st.sides.getD i 0 = st.sides.getD j 0 := by simpa using g
        have eg : turnOf (st.sides.getD i 0) (st.sides.getD j 0) = 1 := by unfold turnOf; rw [if_pos g]
        rw [eg] at k
        exact ⟨t, s', st.tops, st.sides, _, _, _, _, 1, n, rfl, s2 _ _ ht, s2 _ _ hs, ok.t, ok.s, ok.n2, fun r a b H' s3 => k r a b H' (s2.trans s3)⟩
      · have g : ¬ st.sides.getD i 0 = st.sides.getD j 0 := by simpa using g
        have eg : turnOf (st.sides.getD i 0) (st.sides.getD j 0) = 0 := by unfold turnOf; rw [if_neg g]
        rw [eg] at k
        exact ⟨t, s', st.tops, st.sides, _, _, _, _, 0, n, rfl, s2 _ _ ht, s2 _ _ hs, ok.t, ok.s, ok.n2, fun r a b H' s3 => k r a b H' (s2.trans s3)⟩
    · have c : staysB st.tops (st.tops.getD i 0) (st.tops.getD j 0) = true := by simpa using c
      have ek : kt st.tops (st.tops.getD i 0) (st.tops.getD j 0) = (st.tops.getD i 0, st.tops.getD j 0) := by unfold kt; rw [c]; rfl
      rw [ek] at k
      dsimp only [tNext]
      refine ⟨_, rfl, _, rfl, s', _, _, _, rfl, rfl, SqT.of (s1 _ _ hs), si, _, rfl, _, rfl, s', _, _, _, rfl, rfl, SqT.of (s1 _ _ hs), sj, rfl, _, rfl, ite2 (fun g => ?_) fun g => ?_⟩
      · have g : st.sides.getD i 0 = st.sides.getD j 0 := by simpa using g
        have eg : turnOf (st.sides.getD i 0) (st.sides.getD j 0) = 1 := by unfold turnOf; rw [if_pos g]
        rw [eg] at k
        exact ⟨t, s', st.tops, st.sides, _, _, _, _, 1, n, rfl, s1 _ _ ht, s1 _ _ hs, ok.t, ok.s, ok.n2, fun r a b H' s3 => k r a b H' (s1.trans s3)⟩
      · have g : ¬ st.sides.getD i 0 = st.sides.getD j 0 := by simpa using g
        have eg : turnOf (st.sides.getD i 0) (st.sides.getD j 0) = 0 := by unfold turnOf; rw [if_neg g]
        rw [eg] at k
        exact ⟨t, s', st.tops, st.sides, _, _, _, _, 0, n, rfl, s1 _ _ ht, s1 _ _ hs, ok.t, ok.s, ok.n2, fun r a b H' s3 => k r a b H' (s1.trans s3)⟩
end
end K22
set_option maxHeartbeats 4000000
namespace K22
open PySem L2 Wk
theorem tupS_same {H H' : Hp} (s : Same H H') : TupS H H' := fun b xs e => s _ _ e
theorem TkAt.same {C : Addr} {H H' : Hp} {x S : Addr} {sts : List S3} (h : TkAt C H x S sts) (s : Same H H') : TkAt C H' x S sts := by
  obtain ⟨⟨dx, e1⟩, ⟨rs, e2, e3⟩, l⟩ := h
  exact ⟨⟨dx, s _ _ e1⟩, ⟨rs, s _ _ e2, e3.tup (tupS_same s)⟩, l⟩
theorem at0 {x : V} {xs : List V} : atI (x :: xs) 0 = some x := atI_nat (j := 0) rfl
theorem at1 {x y : V} {xs : List V} : atI (x :: y :: xs) 1 = some y := atI_nat (j := 1) rfl
theorem at2 {x y z : V} {xs : List V} : atI (x :: y :: z :: xs) 2 = some z := atI_nat (j := 2) rfl
def tTailJ (C : Addr) : TS := fun D σ H => ∃ (x S a b : Addr) (sts : List S3) (nw : S3) (i j : Int) (bb : Bool), σ = [some (.ref x), some (.int i), some (.int j), some (.ref a), some (.ref b), some (.int nw.odds), some (.bl bb)] ∧ TkAt C H x S sts ∧ sts.length ≤ 160 ∧ H a = some (.tup (nw.tops.map V.int)) ∧ H b = some (.tup (nw.sides.map V.int)) ∧
  ∀ H', (∀ c o, H c = some o → c ≠ S → H' c = some o) → TkAt C H' x S (sts ++ [nw]) → D.rt (.bl bb) H'
section
variable {P : Program} {w : World} {K : PySem.W.Frag} {mg : Str → Option Value} {base : Heap} {C I : Addr}
theorem scInit : FnScope ["self", "many"] ["self", "many"] (defScope sInit) := ⟨rfl, rfl, rfl, by decide +kernel, rfl, by decide +kernel, by decide +kernel⟩
theorem ok_Init {f : Addr} {fd : FuncData} (F : Fun K "__init__" "Takes.__init__" sInit f fd) (T : Txt K mg C I) :
    FnOk P w K mg base CX0 1 f fd ["self", "many"] (spInit C) := by
  refine F.ok scInit (fun vs H Q E h => ?_) (fun cdv A outer s H vs Q E hr h => ?_)
  · obtain ⟨_, _, _, rfl, _⟩ := h; rfl
  · obtain ⟨x, dx, m, rfl, hx, m1, m2, k⟩ := h
    refine ⟨_, pss_one (ps_fld (pv 0) (pe_lst (pa_cons (pe_tup (pa_cons (pe_callTy (call_tuple_rng rfl) (by rfl) T.tuple (by decide +kernel) (pa_cons (pe_callTy call_range1 (by rfl) T.range (by decide +kernel) (pa_cons (pv 1) pa_nil)) pa_nil)) (pa_cons (pe_op op_repT2 (pe_tup (pa_cons pe_int pa_nil)) (pv 1)) (pa_cons pe_int pa_nil)))) pa_nil)) rfl), ?_⟩
    refine ⟨_, rfl, m, rfl, fun g hg => ⟨g, m, rfl, upd_same, by omega, by omega, fun a H1 s1 e1 => ?_⟩⟩
    have s1' := (same_new (o := .rng 0 m) hg).trans s1
    refine ⟨small (by simp), fun z hz => ⟨_, rfl, z, .int 0, m, rfl, rfl, upd_same, m1, by omega, fun b H2 s2 e2 => ⟨small (by simp), fun r hr' => ⟨small (by simp), fun S hS => ?_⟩⟩⟩⟩
    have sA := (s1'.trans (same_new (o := .tup [.int 0]) hz)).trans s2
    have sB := sA.trans (same_new (o := .tup [.ref a, .ref b, .int 0]) hr')
    have sC := sB.trans (same_new (o := .lst [.ref r]) hS)
    have eS := upd_same (H := upd H2 r (.tup [.ref a, .ref b, .int 0])) (a := S) (o := .lst [.ref r])
    have er := same_new (o := .lst [.ref r]) hS _ _ (upd_same (H := H2) (a := r) (o := .tup [.ref a, .ref b, .int 0]))
    have ea := same_new (o := .lst [.ref r]) hS _ _ (same_new (o := .tup [.ref a, .ref b, .int 0]) hr' _ _ (s2 _ _ (same_new (o := .tup [.int 0]) hz _ _ e1)))
    have eb := same_new (o := .lst [.ref r]) hS _ _ (same_new (o := .tup [.ref a, .ref b, .int 0]) hr' _ _ e2)
    have nS : H S = none := none_of sB hS
    generalize upd (upd H2 r (.tup [.ref a, .ref b, .int 0])) S (.lst [.ref r]) = H3 at sC eS er ea eb
    have x3 := sC _ _ hx
    have xS : x ≠ S := ne_of x3 eS (by intro z; cases z)
    have xr : x ≠ r := ne_of x3 er (by intro z; cases z)
    have xa : x ≠ a := ne_of x3 ea (by intro z; cases z)
    have xb : x ≠ b := ne_of x3 eb (by intro z; cases z)
    refine ⟨_, rfl, x, C, dx, [], rfl, x3, T.cl, T.nS, by simp, ?_⟩
    refine k S _ nS ⟨⟨dx, upd_same⟩, ⟨[r], by rw [upd_ne xS.symm]; exact eS, ⟨a, b, by rw [upd_ne xr.symm]; exact er, by rw [upd_ne xa.symm]; exact ea, by rw [upd_ne xb.symm, eb]; simp [start3]⟩, trivial⟩, by simp⟩ fun c o e n => by rw [upd_ne n]; exact sC _ _ e
theorem scShown : FnScope ["self"] ["self"] (defScope sShown) := ⟨rfl, rfl, rfl, by decide +kernel, rfl, by decide +kernel, by decide +kernel⟩
theorem ok_Shown {f : Addr} {fd : FuncData} (F : Fun K "shown" "Takes.shown" sShown f fd) (T : Txt K mg C I) :
    FnOk P w K mg base CX0 1 f fd ["self"] (spShown C) := by
  refine F.ok scShown (fun vs H Q E h => ?_) (fun cdv A outer s H vs Q E hr h => ?_)
  · obtain ⟨_, _, _, _, rfl, _⟩ := h; rfl
  · obtain ⟨x, S, pre, st, rfl, hT, k⟩ := h
    refine ⟨_, pss_one (ps_ret (pe_ix ix_list (pe_fld (pv 0) rfl) (pe_un un_neg pe_int) (fun _ _ => rfl))), ?_⟩
    obtain ⟨⟨dx, e1⟩, ⟨rs, e2, e3⟩, l⟩ := id hT
    obtain ⟨rs', r, rfl, h1, h2⟩ := e3.last
    refine ⟨_, rfl, x, C, dx, _, _, rfl, e1, T.cl, T.nS, flds_at S, _, rfl, S, _, -1, _, rfl, rfl, SqL.of e2, ?_, k r h1⟩
    rw [List.map_append]
    exact at_last
theorem scTop : FnScope ["self", "place"] ["self", "place"] (defScope sTop) := ⟨rfl, rfl, rfl, by decide +kernel, rfl, by decide +kernel, by decide +kernel⟩
theorem ok_Top {f : Addr} {fd : FuncData} (F : Fun K "top" "Takes.top" sTop f fd) (T : Txt K mg C I)
    {gShown : Addr} {fShown : FuncData} (bShown : Binds K fShown ["self"] []) (hShown : Meth K C "shown" gShown) (GShown : FnOk P w K mg base CX0 1 gShown fShown ["self"] (spShown C)) :
    FnOk P w K mg base CX0 2 f fd ["self", "place"] (spTop C) := by
  refine F.ok scTop (fun vs H Q E h => ?_) (fun cdv A outer s H vs Q E hr h => ?_)
  · obtain ⟨_, _, _, _, _, _, rfl, _⟩ := h; rfl
  · obtain ⟨x, S, pre, st, n, i, rfl, hT, ok, hi, k⟩ := h
    refine ⟨_, pss_one (ps_ret (pe_ix ix_tup (pe_ix ix_tup (pe_meth0 (pv 0) T.cl hShown GShown hr bShown .nil pass0) pe_int (fun _ _ => rfl)) (pv 1) (fun _ _ => rfl))), ?_⟩
    obtain ⟨⟨dx, e1⟩, _, _⟩ := id hT
    refine ⟨_, rfl, x, dx, _, rfl, e1, flds_no S (by decide +kernel), x, S, pre, st, rfl, hT, fun r hst => ?_⟩
    obtain ⟨a, b, h1, h2, h3⟩ := hst
    exact ⟨r, _, 0, _, rfl, rfl, SqT.of h1, at0, _, rfl, _, _, _, _, rfl, rfl, SqT.of h2, getD_at (by rw [ok.t]; exact hi), k⟩
theorem scSide : FnScope ["self", "place"] ["self", "place"] (defScope sSide) := ⟨rfl, rfl, rfl, by decide +kernel, rfl, by decide +kernel, by decide +kernel⟩
theorem ok_Side {f : Addr} {fd : FuncData} (F : Fun K "side" "Takes.side" sSide f fd) (T : Txt K mg C I)
    {gShown : Addr} {fShown : FuncData} (bShown : Binds K fShown ["self"] []) (hShown : Meth K C "shown" gShown) (GShown : FnOk P w K mg base CX0 1 gShown fShown ["self"] (spShown C)) :
    FnOk P w K mg base CX0 2 f fd ["self", "place"] (spSide C) := by
  refine F.ok scSide (fun vs H Q E h => ?_) (fun cdv A outer s H vs Q E hr h => ?_)
  · obtain ⟨_, _, _, _, _, _, rfl, _⟩ := h; rfl
  · obtain ⟨x, S, pre, st, n, i, rfl, hT, ok, hi, k⟩ := h
    refine ⟨_, pss_one (ps_ret (pe_ix ix_tup (pe_ix ix_tup (pe_meth0 (pv 0) T.cl hShown GShown hr bShown .nil pass0) pe_int (fun _ _ => rfl)) (pv 1) (fun _ _ => rfl))), ?_⟩
    obtain ⟨⟨dx, e1⟩, _, _⟩ := id hT
    refine ⟨_, rfl, x, dx, _, rfl, e1, flds_no S (by decide +kernel), x, S, pre, st, rfl, hT, fun r hst => ?_⟩
    obtain ⟨a, b, h1, h2, h3⟩ := hst
    exact ⟨r, _, 1, _, rfl, rfl, SqT.of h1, at1, _, rfl, _, _, _, _, rfl, rfl, SqT.of h3, getD_at (by rw [ok.s]; exact hi), k⟩
theorem scOdd : FnScope ["self"] ["self"] (defScope sOdd) := ⟨rfl, rfl, rfl, by decide +kernel, rfl, by decide +kernel, by decide +kernel⟩
theorem ok_Odd {f : Addr} {fd : FuncData} (F : Fun K "odd" "Takes.odd" sOdd f fd) (T : Txt K mg C I)
    {gShown : Addr} {fShown : FuncData} (bShown : Binds K fShown ["self"] []) (hShown : Meth K C "shown" gShown) (GShown : FnOk P w K mg base CX0 1 gShown fShown ["self"] (spShown C)) :
    FnOk P w K mg base CX0 2 f fd ["self"] (spOdd C) := by
  refine F.ok scOdd (fun vs H Q E h => ?_) (fun cdv A outer s H vs Q E hr h => ?_)
  · obtain ⟨_, _, _, _, rfl, _⟩ := h; rfl
  · obtain ⟨x, S, pre, st, rfl, hT, k⟩ := h
    refine ⟨_, pss_one (ps_ret (pe_ix ix_tup (pe_meth0 (pv 0) T.cl hShown GShown hr bShown .nil pass0) pe_int (fun _ _ => rfl))), ?_⟩
    obtain ⟨⟨dx, e1⟩, _, _⟩ := id hT
    refine ⟨_, rfl, x, dx, _, rfl, e1, flds_no S (by decide +kernel), x, S, pre, st, rfl, hT, fun r hst => ?_⟩
    obtain ⟨a, b, h1, h2, h3⟩ := hst
    exact ⟨r, _, 2, _, rfl, rfl, SqT.of h1, at2, k⟩
theorem scJoins : FnScope ["self"] ["self"] (defScope sJoins) := ⟨rfl, rfl, rfl, by decide +kernel, rfl, by decide +kernel, by decide +kernel⟩
theorem ok_Joins {f : Addr} {fd : FuncData} (F : Fun K "joins" "Takes.joins" sJoins f fd) (T : Txt K mg C I) :
    FnOk P w K mg base CX0 1 f fd ["self"] (spJoins C) := by
  refine F.ok scJoins (fun vs H Q E h => ?_) (fun cdv A outer s H vs Q E hr h => ?_)
  · obtain ⟨_, _, _, rfl, _⟩ := h; rfl
  · obtain ⟨x, S, sts, rfl, hT, k⟩ := h
    refine ⟨_, pss_one (ps_ret (pe_op op_sub (pe_callB call_len_seq (by rfl) T.len PySem.boot_len (pa_cons (pe_fld (pv 0) rfl) pa_nil)) pe_int)), ?_⟩
    obtain ⟨⟨dx, e1⟩, ⟨rs, e2, e3⟩, l⟩ := id hT
    refine ⟨_, rfl, x, C, dx, _, _, rfl, e1, T.cl, T.nS, flds_at S, S, _, rfl, .inl (SqL.of e2), _, _, rfl, rfl, ?_⟩
    show Q (.int (((rs.map V.ref).length : Int) - 1)) H
    rw [List.length_map, e3.len]
    exact k
theorem scSize : FnScope ["self", "place"] ["self", "place"] (defScope sSize) := ⟨rfl, rfl, rfl, by decide +kernel, rfl, by decide +kernel, by decide +kernel⟩
theorem ok_Size {f : Addr} {fd : FuncData} (F : Fun K "size" "Takes.size" sSize f fd) (T : Txt K mg C I)
    {gShown : Addr} {fShown : FuncData} (bShown : Binds K fShown ["self"] []) (hShown : Meth K C "shown" gShown) (GShown : FnOk P w K mg base CX0 2 gShown fShown ["self"] (spShown C))
    {gTop : Addr} {fTop : FuncData} (bTop : Binds K fTop ["self", "place"] []) (hTop : Meth K C "top" gTop) (GTop : FnOk P w K mg base CX0 2 gTop fTop ["self", "place"] (spTop C)) :
    FnOk P w K mg base CX0 3 f fd ["self", "place"] (spSize C) := by
  refine F.ok scSize (fun vs H Q E h => ?_) (fun cdv A outer s H vs Q E hr h => ?_)
  · obtain ⟨_, _, _, _, _, _, rfl, _⟩ := h; rfl
  · obtain ⟨x, S, pre, st, n, i, rfl, hT, ok, hi, k⟩ := h
    refine ⟨_, pss_one (ps_ret (pe_bm PySem.F.plainAttrs_tuple PySem.F.slot_tuple_count PySem.F.type_tuple_count mt_countT (pe_ix ix_tup (pe_meth0 (pv 0) T.cl hShown GShown hr bShown .nil pass0) pe_int (fun _ _ => rfl)) (pa_cons (pe_meth (pv 0) T.cl hTop GTop hr bTop .nil pass0 (pa_cons (pv 1) pa_nil)) pa_nil))), ?_⟩
    obtain ⟨⟨dx, e1⟩, _, _⟩ := id hT
    refine ⟨_, rfl, x, dx, _, rfl, e1, flds_no S (by decide +kernel), x, S, pre, st, rfl, hT, fun r hst => ?_⟩
    obtain ⟨a, b, h1, h2, h3⟩ := hst
    refine ⟨r, _, 0, _, rfl, rfl, SqT.of h1, at0, .inr (.inl ⟨rfl, .inr ⟨_, h2⟩⟩), _, rfl, x, dx, _, rfl, e1, flds_no S (by decide +kernel), _, rfl, x, S, pre, st, n, i, rfl, hT, ok, hi, ?_⟩
    exact ⟨a, st.tops, _, rfl, rfl, SqT.of h2, k⟩
theorem scParts : FnScope ["self"] ["self"] (defScope sParts) := ⟨rfl, rfl, rfl, by decide +kernel, rfl, by decide +kernel, by decide +kernel⟩
theorem ok_Parts {f : Addr} {fd : FuncData} (F : Fun K "parts" "Takes.parts" sParts f fd) (T : Txt K mg C I)
    {gShown : Addr} {fShown : FuncData} (bShown : Binds K fShown ["self"] []) (hShown : Meth K C "shown" gShown) (GShown : FnOk P w K mg base CX0 1 gShown fShown ["self"] (spShown C)) :
    FnOk P w K mg base CX0 2 f fd ["self"] (spParts C) := by
  refine F.ok scParts (fun vs H Q E h => ?_) (fun cdv A outer s H vs Q E hr h => ?_)
  · obtain ⟨_, _, _, _, _, rfl, _⟩ := h; rfl
  · obtain ⟨x, S, pre, st, n, rfl, hT, ok, k⟩ := h
    refine ⟨_, pss_one (ps_ret (pe_callB call_len_seq (by rfl) T.len PySem.boot_len (pa_cons (pe_comp (T := ["place", "top"]) (F := []) (js := []) (CS.to (osc := defScope sParts) ⟨by rfl, by decide +kernel, by decide +kernel, by decide +kernel, by decide +kernel, by decide +kernel, by decide +kernel⟩ rfl rfl) rfl (pi_enumT rfl T.enumerate (pa_cons (pe_ix ix_tup (pe_meth0 (pv 0) T.cl hShown GShown hr bShown .nil pass0) pe_int (fun _ _ => rfl)) pa_nil)) (fun _ _ _ _ _ => pg_tupK K 2 rfl rfl (pgs_cons (pg_name (i := 0) (show (["place", "top"] : List Str).Nodup by decide +kernel) rfl (Or.inl rfl)) (pgs_cons (pg_name (i := 1) (show (["place", "top"] : List Str).Nodup by decide +kernel) rfl (Or.inl rfl)) pgs_nil))) (fun _ _ _ _ _ => pif_one (pt_cmpR op_eq (pv 1) (pv 0) (nomark _))) (fun _ _ _ _ _ => pv 0)) pa_nil))), ?_⟩
    obtain ⟨⟨dx, e1⟩, _, _⟩ := id hT
    refine ⟨_, rfl, x, dx, _, rfl, e1, flds_no S (by decide +kernel), x, S, pre, st, rfl, hT, fun r hst => ?_⟩
    obtain ⟨a, b, h1, h2, h3⟩ := hst
    refine ⟨r, _, 0, _, rfl, rfl, SqT.of h1, at0, a, _, rfl, SqT.of h2, fun D hD => comp_enumT (K := K) (a := a) (xs := st.tops.map V.int) (fun j σ ys H2 => ∃ u1 u2 : Option V, σ = [u1, u2] ∧ Same H H2 ∧ H2 D = some (.lst ys) ∧ ys = ((List.range j).filter fun p => decide (st.tops.getD p 0 = (p : Nat))).map fun p => V.int (p : Nat))
      ⟨none, none, rfl, same_new hD, upd_same, rfl⟩ (fun j σ ys H2 _ ⟨_, _, _, s2, e, _⟩ => ⟨SqT.of (s2 _ _ h2), e⟩) ?_ ?_⟩
    · rintro j v σ ys H2 T' hv ⟨u1, u2, rfl, s2, e2, rfl⟩ hT'
      obtain ⟨c, hc, rfl⟩ := int_of hv
      have jl : j < st.tops.length := (List.getElem?_eq_some_iff.mp hc).1
      have gd : st.tops.getD j 0 = c := by simp [List.getD, hc]
      have s4 := s2.trans (same_new (o := .tup [.int (j : Nat), .int c]) hT')
      have T4 := upd_same (H := H2) (a := T') (o := .tup [.int (j : Nat), .int c])
      have D4 := same_new (o := .tup [.int (j : Nat), .int c]) hT' _ _ e2
      generalize upd H2 T' (.tup [.int (j : Nat), .int c]) = H4 at s4 T4 D4
      refine ⟨T', _, rfl, SqT.of T4, rfl, _, _, rfl, _, _, rfl, rfl, ?_⟩
      have ll : (((List.range j).filter fun p => decide (st.tops.getD p 0 = (p : Nat))).map fun p => V.int ((p : Nat) : Int)).length ≤ 24 := by
        rw [List.length_map]
        refine Nat.le_trans (List.length_filter_le _ _) ?_
        have := ok.t
        have := ok.n2
        simp; omega
      refine ⟨_, rfl, _, rfl, rfl, _, rfl, ite2 (fun g => ?_) fun g => ?_⟩
      · have g : c = (j : Int) := by simpa using g
        refine ⟨_, rfl, D4, small1000 (by omega), _, _, rfl, fun b o e => by rw [upd_ne (ne_of_none e hD)]; exact s4 _ _ e, upd_same, ?_⟩
        rw [List.range_succ, List.filter_append, List.map_append]
        have f1 : List.filter (fun p => decide (st.tops.getD p 0 = ((p : Nat) : Int))) [j] = [j] := by rw [List.filter_cons, if_pos (by rw [gd, g]; simp)]; rfl
        rw [f1]
        rfl
      · have g : ¬ c = (j : Int) := by simpa using g
        refine ⟨_, _, rfl, s4, D4, ?_⟩
        rw [List.range_succ, List.filter_append, List.map_append]
        have f1 : List.filter (fun p => decide (st.tops.getD p 0 = ((p : Nat) : Int))) [j] = [] := by rw [List.filter_cons, if_neg (by rw [gd]; simpa using g)]; rfl
        rw [f1]
        simp
    rintro σ ys H2 ⟨u1, u2, rfl, s2, e2, rfl⟩
    refine ⟨D, _, rfl, .inl (SqL.of e2), ?_⟩
    show Q (.int _) H2
    rw [List.length_map, List.length_map]
    exact k H2 s2
theorem scJoin : FnScope ["self", "one", "other", "tops", "sides", "odds", "is_new"] ["self", "one", "other"] (defScope sJoin) := ⟨rfl, rfl, rfl, by decide +kernel, rfl, by decide +kernel, by decide +kernel⟩
theorem ok_Join {f : Addr} {fd : FuncData} (F : Fun K "join" "Takes.join" sJoin f fd) (T : Txt K mg C I)
    {gShown : Addr} {fShown : FuncData} (bShown : Binds K fShown ["self"] []) (hShown : Meth K C "shown" gShown) (GShown : FnOk P w K mg base CX0 2 gShown fShown ["self"] (spShown C))
    {gJp : Addr} {fJp : FuncData} (kJp : PySem.W.keepIn K (.ref gJp) = true) (bJp : Binds K fJp ["tops", "sides", "one", "other"] []) (hJp : mg "joined_parts" = some (.ref gJp)) (GJp : FnOk P w K mg base CX0 2 gJp fJp ["tops", "sides", "one", "other"] (spJp K)) :
    FnOk P w K mg base CX0 3 f fd ["self", "one", "other"] (spJoin C) := by
  refine F.ok scJoin (fun vs H Q E h => ?_) (fun cdv A outer s H vs Q E hr h => ?_)
  · obtain ⟨_, _, _, _, _, _, _, rfl, _⟩ := h; rfl
  · obtain ⟨x, S, pre, st, n, i, j, rfl, hT, pl, ok, hi, hj, k⟩ := h
    refine ⟨_, pss_cons (ps_asg (pe_meth0 (pv 0) T.cl hShown GShown hr bShown .nil pass0) (pg_tup rfl (pgs_cons (pg_name (i := 3) scJoin.nd rfl (Or.inl rfl)) (pgs_cons (pg_name (i := 4) scJoin.nd rfl (Or.inl rfl)) (pgs_cons (pg_name (i := 5) scJoin.nd rfl (Or.inl rfl)) pgs_nil)))))
      (pss_cons (ps_set (i := 6) scJoin.nd rfl (Or.inl rfl) (pe_cmpR op_ne (pe_ix ix_tup (pv 3) (pv 1) (fun _ _ => rfl)) (pe_ix ix_tup (pv 3) (pv 2) (fun _ _ => rfl)) (nomark _)))
      (pss_cons (ps_if (pt_val (pv 6)) (pss_one (ps_asg (pe_call GJp hr rfl hJp kJp bJp .nil pass0 (pa_cons (pv 3) (pa_cons (pv 4) (pa_cons (pv 1) (pa_cons (pv 2) pa_nil))))) (pg_tup rfl (pgs_cons (pg_name (i := 3) scJoin.nd rfl (Or.inl rfl)) (pgs_cons (pg_name (i := 4) scJoin.nd rfl (Or.inl rfl)) pgs_nil))))) (pss_one (ps_if (pt_cmpR op_eq (pe_ix ix_tup (pv 4) (pv 1) (fun _ _ => rfl)) (pe_ix ix_tup (pv 4) (pv 2) (fun _ _ => rfl)) (nomark _)) (pss_one (ps_aug (i := 5) scJoin.nd rfl (Or.inl rfl) pe_int ip_add)) pss_nil)))
      (PSs.imp' (t' := tTailJ C) (pss_cons (ps_expr (pe_bm PySem.F.plainAttrs_list PySem.F.slot_list_append PySem.F.type_list_append mt_append (pe_fld (pv 0) rfl) (pa_cons (pe_tup (pa_cons (pv 3) (pa_cons (pv 4) (pa_cons (pv 5) pa_nil)))) pa_nil)))
      (pss_one (ps_ret (pv 6)))) ?tail))), ?_⟩
    case tail =>
      rintro D σ H ⟨x, S, a, b, sts, nw, i, j, bb, rfl, hT, sl, ha, hb, k⟩
      obtain ⟨⟨dx, e1⟩, ⟨rs, e2, e3⟩, l⟩ := id hT
      have rl := e3.len
      refine ⟨_, rfl, x, C, dx, _, _, rfl, e1, T.cl, T.nS, flds_at S, .inl ⟨rfl, _, SqL.of e2⟩, _, rfl, _, rfl, _, rfl, small (by simp), fun r hr' => ?_⟩
      have s1 := same_new (o := .tup [.ref a, .ref b, .int nw.odds]) hr'
      have r1 := upd_same (H := H) (a := r) (o := .tup [.ref a, .ref b, .int nw.odds])
      have S1 := s1 _ _ e2
      generalize upd H r (.tup [.ref a, .ref b, .int nw.odds]) = H1 at s1 r1 S1
      refine ⟨S, _, _, rfl, rfl, S1, small1000 (by simp; omega), ?_⟩
      have up : ∀ c o, H c = some o → c ≠ S → upd H1 S (.lst (rs.map V.ref ++ [.ref r])) c = some o := fun c o e nc => by rw [upd_ne nc]; exact s1 _ _ e
      have tup : TupS H1 (upd H1 S (.lst (rs.map V.ref ++ [.ref r]))) := fun c xs e => by rw [upd_ne (ne_of e S1 (by intro z; cases z))]; exact e
      refine ⟨_, rfl, k _ up ⟨⟨dx, up _ _ e1 (ne_of e1 e2 (by intro z; cases z))⟩, ⟨rs ++ [r], by rw [upd_same, List.map_append]; rfl, StsAt.snoc ⟨a, b, tup _ _ r1, tup _ _ (s1 _ _ ha), tup _ _ (s1 _ _ hb)⟩ ((e3.tup (tupS_same s1)).tup tup)⟩, by simp; omega⟩⟩
    obtain ⟨⟨dx, e1⟩, _, _⟩ := id hT
    refine ⟨_, rfl, x, dx, _, rfl, e1, flds_no S (by decide +kernel), x, S, pre, st, rfl, hT, fun r hst => ?_⟩
    obtain ⟨a, b, h1, h2, h3⟩ := id hst
    refine ⟨r, _, rfl, SqT.of h1, rfl, _, _, rfl, _, _, rfl, _, _, rfl, rfl, ?_⟩
    have gi := getD_at (ns := st.tops) (i := i) (by rw [ok.t]; exact hi)
    have gj := getD_at (ns := st.tops) (i := j) (by rw [ok.t]; exact hj)
    have si := getD_at (ns := st.sides) (i := i) (by rw [ok.s]; exact hi)
    have sj := getD_at (ns := st.sides) (i := j) (by rw [ok.s]; exact hj)
    refine ⟨_, rfl, _, rfl, a, _, _, _, rfl, rfl, SqT.of h2, gi, _, rfl, _, rfl, a, _, _, _, rfl, rfl, SqT.of h2, gj, rfl, ?_⟩
    by_cases hab : st.tops.getD i 0 = st.tops.getD j 0
    · have ej : joinS st i j = (⟨st.tops, st.sides, st.odds + turnOf (st.sides.getD i 0) (st.sides.getD j 0)⟩, false) := by unfold joinS; simp only; rw [if_pos hab]
      rw [ej] at k
      rw [hab, decide_eq_true rfl]
      refine ⟨_, rfl, false, rfl, iteF ?_⟩
      refine ⟨_, rfl, _, rfl, b, _, _, _, rfl, rfl, SqT.of h3, si, _, rfl, _, rfl, b, _, _, _, rfl, rfl, SqT.of h3, sj, rfl, _, rfl, ite2 (fun g => ?_) fun g => ?_⟩
      · have g : st.sides.getD i 0 = st.sides.getD j 0 := by simpa using g
        have eg : turnOf (st.sides.getD i 0) (st.sides.getD j 0) = 1 := by unfold turnOf; rw [if_pos g]
        rw [eg] at k
        exact ⟨_, rfl, _, _, rfl, rfl, x, S, a, b, _, ⟨st.tops, st.sides, st.odds + 1⟩, _, _, false, rfl, hT, by simp; omega, h2, h3, k⟩
      · have g : ¬ st.sides.getD i 0 = st.sides.getD j 0 := by simpa using g
        have eg : turnOf (st.sides.getD i 0) (st.sides.getD j 0) = 0 := by unfold turnOf; rw [if_neg g]
        rw [eg, Int.add_zero] at k
        exact ⟨x, S, a, b, _, ⟨st.tops, st.sides, st.odds⟩, _, _, false, rfl, hT, by simp; omega, h2, h3, k⟩
    · have ej : joinS st i j = (⟨newTops st.tops (kt st.tops (st.tops.getD i 0) (st.tops.getD j 0)).1 (kt st.tops (st.tops.getD i 0) (st.tops.getD j 0)).2, newSides st.tops st.sides (kt st.tops (st.tops.getD i 0) (st.tops.getD j 0)).2 (turnOf (st.sides.getD i 0) (st.sides.getD j 0)), st.odds⟩, true) := by unfold joinS; simp only; rw [if_neg hab]
      rw [ej] at k
      rw [decide_eq_false (show ¬ V.int (st.tops.getD i 0) = V.int (st.tops.getD j 0) by simpa using hab)]
      refine ⟨_, rfl, true, rfl, iteT ?_⟩
      refine ⟨_, rfl, _, rfl, _, rfl, _, rfl, a, b, st, n, i, j, rfl, h2, h3, ok, hi, hj, fun r2 a2 b2 H1 s1 g1 g2 g3 => ?_⟩
      refine ⟨r2, _, rfl, SqT.of g1, rfl, _, _, rfl, _, _, rfl, rfl, ?_⟩
      exact ⟨x, S, a2, b2, _, ⟨newTops st.tops (kt st.tops (st.tops.getD i 0) (st.tops.getD j 0)).1 (kt st.tops (st.tops.getD i 0) (st.tops.getD j 0)).2, newSides st.tops st.sides (kt st.tops (st.tops.getD i 0) (st.tops.getD j 0)).2 (turnOf (st.sides.getD i 0) (st.sides.getD j 0)), st.odds⟩, _, _, true, rfl, hT.same s1, by simp; omega, g2, g3, fun H' u T' => k H' (fun c o e nc => u c o (s1 _ _ e) nc) T'⟩
theorem scBack : FnScope ["self", "thing"] ["self", "thing"] (defScope sBack) := ⟨rfl, rfl, rfl, by decide +kernel, rfl, by decide +kernel, by decide +kernel⟩
theorem ok_Back {f : Addr} {fd : FuncData} (F : Fun K "back" "Takes.back" sBack f fd) (T : Txt K mg C I)
    {gWithin : Addr} {fWithin : FuncData} (kWithin : PySem.W.keepIn K (.ref gWithin) = true) (bWithin : Binds K fWithin ["thing", "low", "high"] []) (hWithin : mg "is_within" = some (.ref gWithin)) (GWithin : FnOk P w K mg base CX0 2 gWithin fWithin ["thing", "low", "high"] spWithin)
    {gJoins : Addr} {fJoins : FuncData} (bJoins : Binds K fJoins ["self"] []) (hJoins : Meth K C "joins" gJoins) (GJoins : FnOk P w K mg base CX0 2 gJoins fJoins ["self"] (spJoins C)) :
    FnOk P w K mg base CX0 3 f fd ["self", "thing"] (spBack C) := by
  refine F.ok scBack (fun vs H Q E h => ?_) (fun cdv A outer s H vs Q E hr h => ?_)
  · obtain ⟨_, _, _, _, rfl, _⟩ := h; rfl
  · obtain ⟨x, S, sts, kk, rfl, hT, hk, k⟩ := h
    refine ⟨_, pss_cons (ps_if (pt_not (pt_val (pe_call GWithin hr rfl hWithin kWithin bWithin .nil pass0 (pa_cons (pv 1) (pa_cons pe_int (pa_cons (pe_meth0 (pv 0) T.cl hJoins GJoins hr bJoins .nil pass0) pa_nil)))))) (pss_one ps_never) pss_nil)
      (pss_one (ps_fld (pv 0) (pe_slice sl_list (pe_fld (pv 0) rfl) po_none (po_some (pe_op op_add (pv 1) pe_int))) rfl)), ?_⟩
    obtain ⟨⟨dx, e1⟩, ⟨rs, e2, e3⟩, l⟩ := id hT
    have rl := e3.len
    refine ⟨_, rfl, _, rfl, x, dx, _, rfl, e1, flds_no S (by decide +kernel), x, S, sts, rfl, hT, _, _, _, rfl, by omega, by omega, true, rfl, iteF ?_⟩
    dsimp only [tNext]
    refine ⟨_, rfl, x, C, dx, _, _, rfl, e1, T.cl, T.nS, flds_at S, _, rfl, _, _, rfl, rfl, _, rfl, S, _, rfl, SqL.of e2, fun p hp => ?_⟩
    have cut : cutV (rs.map V.ref) none (some ((kk : Int) + 1)) = (rs.take (kk + 1)).map V.ref := by
      unfold cutV
      simp only [HT.sIx, List.drop_zero, Nat.sub_zero]
      rw [if_neg (by omega), List.map_take, show min ((kk : Int) + 1).toNat (rs.map V.ref).length = kk + 1 by simp; omega]
    rw [cut]
    have s1 := same_new (o := .lst ((rs.take (kk + 1)).map V.ref)) hp
    have p1 := upd_same (H := H) (a := p) (o := .lst ((rs.take (kk + 1)).map V.ref))
    generalize upd H p (.lst ((rs.take (kk + 1)).map V.ref)) = H1 at s1 p1
    have x1 := s1 _ _ e1
    refine ⟨_, rfl, x, C, dx, _, rfl, x1, T.cl, T.nS, (show 1 < 1000 by decide), ?_⟩
    have tup : TupS H (upd H1 x (.ins C dx (flds p))) := fun c xs e => by rw [upd_ne (ne_of (s1 _ _ e) x1 (by intro z; cases z))]; exact s1 _ _ e
    rw [flds_put]
    exact k p _ hp (fun c o e nc => by rw [upd_ne nc]; exact s1 _ _ e) ⟨⟨dx, upd_same⟩, ⟨rs.take (kk + 1), by rw [upd_ne (ne_of p1 x1 (by intro z; cases z))]; exact p1, (e3.take _).tup tup⟩, by rw [List.length_take]; omega⟩
end
end K22
set_option maxHeartbeats 1000000
namespace K22
open PySem L2 Wk
def DeckAt (H : Hp) (d : Addr) (b : Nat) : Prop := ∃ x S k : Int, H d = some (.lst [.int x, .int S, .int k]) ∧ 0 ≤ k ∧ k + b ≤ 2 ^ 32
theorem DeckAt.mono {H : Hp} {d : Addr} {b b' : Nat} (h : DeckAt H d b) (l : b' ≤ b) : DeckAt H d b' := by
  obtain ⟨x, S, k, h1, h2, h3⟩ := h
  exact ⟨x, S, k, h1, h2, by omega⟩
def But (d : Addr) (H H' : Hp) : Prop := ∀ b o, H b = some o → b ≠ d → H' b = some o
theorem But.trans {d : Addr} {H H1 H2 : Hp} (h : But d H H1) (h' : But d H1 H2) : But d H H2 := fun b o e n => h' b o (h b o e n) n
theorem But.of {d : Addr} {H H' : Hp} (s : Same H H') : But d H H' := fun b o e _ => s b o e
theorem But.tup {d : Addr} {H H' : Hp} (h : But d H H') {n : Nat} (D : DeckAt H d n) {b : Addr} {xs : List V} (e : H b = some (.tup xs)) : H' b = some (.tup xs) := by
  obtain ⟨_, _, _, h1, _⟩ := D
  exact h b _ e fun z => by rw [z, h1] at e; cases e
theorem DeckAt.same {H H' : Hp} {d : Addr} {n : Nat} (h : DeckAt H d n) (s : Same H H') : DeckAt H' d n := by
  obtain ⟨x, S, k, h1, r⟩ := h
  exact ⟨x, S, k, s _ _ h1, r⟩
theorem DeckAt.ne {H : Hp} {d b : Addr} {n : Nat} (h : DeckAt H d n) (e : H b = none) : b ≠ d := by
  obtain ⟨_, _, _, h1, _⟩ := h
  exact (ne_of_none h1 e).symm
theorem DeckAt.upd {H : Hp} {d b : Addr} {o : HO} {m : Nat} (h : DeckAt H d m) (n : b ≠ d) : DeckAt (upd H b o) d m := by
  obtain ⟨x, S, k, h1, r⟩ := h
  exact ⟨x, S, k, by rw [upd_ne n.symm]; exact h1, r⟩
theorem But.set {d : Addr} {H H1 : Hp} {b : Addr} {o : HO} (h : But d H H1) (hb : H b = none) : But d H (upd H1 b o) := fun x u e n => by
  rw [upd_ne (ne_of_none e hb)]; exact h x u e n
theorem But.none {d : Addr} {H H' : Hp} {b : Addr} {n : Nat} (h : But d H H') (w : DeckAt H' d n) (hb : H' b = none) : H b = none := by
  cases e : H b with
  | none => rfl
  | some o => rw [h b o e (w.ne hb)] at hb; cases hb
def spCell (K : PySem.W.Frag) : Sp := fun vs H Q _ => ∃ (s : Addr) (ns : List Int) (k : Nat), vs = [.ref s, .int (k : Int)] ∧ SqL K H s (ns.map V.int) ∧ ∀ v, Q (.int v) H
def spOpened : Sp := fun vs H Q _ => ∃ v : Int, vs = [.int v] ∧ ∀ d H', Same H H' → H d = none → DeckAt H' d 100000 → Q (.ref d) H'
def spDraw : Sp := fun vs H Q _ => ∃ (d : Addr) (m : Int) (b : Nat), vs = [.ref d, .int m] ∧ DeckAt H d (b + 1) ∧ 0 < m ∧ m < 1073741824 ∧ ∀ (v : Int) (H' : Hp), 0 ≤ v → v < m → But d H H' → DeckAt H' d b → Q (.int v) H'
def spRare : Sp := fun vs H Q _ => ∃ (d : Addr) (x y : Int) (b : Nat), vs = [.ref d, .int x, .int y] ∧ DeckAt H d (b + 1) ∧ ∀ (v : Int) (H' : Hp), v = x ∨ v = y → But d H H' → DeckAt H' d b → Q (.int v) H'
def spTwo : Sp := fun vs H Q _ => ∃ (d : Addr) (N b : Nat), vs = [.ref d, .int (N : Int)] ∧ DeckAt H d (b + 2) ∧ 2 ≤ N ∧ N ≤ 60 ∧ ∀ (p q : Nat) (r : Addr) (H' : Hp), But d H H' → DeckAt H' d b → p < N → q < N → p ≠ q → H' r = some (.tup [.int (p : Int), .int (q : Int)]) → Q (.ref r) H'
section
variable {P : Program} {w : World} {K : PySem.W.Frag} {mg : Str → Option Value} {base : Heap} {C I : Addr}
theorem scCell : FnScope ["_law_script", "_law_k"] ["_law_script", "_law_k"] (defScope sCell) := ⟨rfl, rfl, rfl, by decide +kernel, rfl, by decide +kernel, by decide +kernel⟩
theorem ok_Cell {f : Addr} {fd : FuncData} (F : Fun K "_law_cell_at" "_law_cell_at" sCell f fd) (T : Txt K mg C I) :
    FnOk P w K mg base CX0 1 f fd ["_law_script", "_law_k"] (spCell K) := by
  refine F.ok scCell (fun vs H Q E h => ?_) (fun cdv A outer s H vs Q E hr h => ?_)
  · obtain ⟨_, _, _, rfl, _⟩ := h; rfl
  · obtain ⟨s, ns, k0, rfl, hS, k⟩ := h
    refine ⟨_, pss_cons (ps_if (pt_cmpR op_lt (pv 1) (pe_callB call_len_seq (by rfl) T.len PySem.boot_len (pa_cons (pv 0) pa_nil)) (nomark _)) (pss_one (ps_ret (pe_ix ix_list (pv 0) (pv 1) (fun _ _ => rfl)))) pss_nil)
      (pss_one (ps_ret (pe_op op_add (pe_op op_mul pe_int (pv 1)) pe_int))), ?_⟩
    refine ⟨_, rfl, _, rfl, s, _, rfl, .inl hS, _, _, rfl, rfl, _, rfl, ite2 (fun g => ?_) fun g => ?_⟩
    · rw [List.length_map] at g
      have g := of_decide_eq_true g
      exact ⟨_, rfl, _, rfl, s, _, _, .int (ns[k0]'(by omega)), rfl, rfl, hS, atI_nat (by rw [List.getElem?_map, List.getElem?_eq_getElem (by omega)]; rfl), k _⟩
    · dsimp only [tNext]
      exact ⟨_, rfl, _, _, rfl, rfl, .inl ⟨by decide, by decide⟩, _, _, rfl, rfl, k _⟩
theorem scOpened : FnScope ["_law_cell"] ["_law_cell"] (defScope sOpened) := ⟨rfl, rfl, rfl, by decide +kernel, rfl, by decide +kernel, by decide +kernel⟩
theorem ok_Opened {f : Addr} {fd : FuncData} (F : Fun K "_law_opened" "_law_opened" sOpened f fd) (T : Txt K mg C I) :
    FnOk P w K mg base CX0 1 f fd ["_law_cell"] spOpened := by
  refine F.ok scOpened (fun vs H Q E h => ?_) (fun cdv A outer s H vs Q E hr h => ?_)
  · obtain ⟨_, rfl, _⟩ := h; rfl
  · obtain ⟨v, rfl, k⟩ := h
    refine ⟨_, pss_one (ps_ret (pe_lst (pa_cons (pe_ix ix_list (pe_lst (pa_cons pe_int (pa_cons (pv 0) pa_nil))) (pe_callTy call_int1 (by rfl) T.int (by decide +kernel) (pa_cons (pe_cmpR op_ge (pv 0) (pe_op op_pow pe_int pe_int) (nomark _)) pa_nil)) (fun _ _ => rfl)) (pa_cons (pe_op op_mod (pv 0) pe_int) (pa_cons pe_int pa_nil))))), ?_⟩
    refine ⟨_, rfl, small (by simp), fun q hq => ?_⟩
    have sq := same_new (o := .lst [.int 0, .int v]) hq
    have q1 := upd_same (H := H) (a := q) (o := .lst [.int 0, .int v])
    generalize upd H q (.lst [.int 0, .int v]) = H1 at sq q1
    refine ⟨_, rfl, _, _, rfl, rfl, ⟨by decide, by decide, by decide⟩, _, _, rfl, rfl, .inr ⟨_, rfl, ?_⟩⟩
    obtain ⟨x, an⟩ : ∃ x : Int, atI [V.int 0, .int v] (if decide ((10 : Int) ^ (18 : Int).toNat ≤ v) = true then 1 else 0) = some (.int x) := by
      split
      · exact ⟨v, rfl⟩
      · exact ⟨0, rfl⟩
    refine ⟨q, _, _, .int x, rfl, rfl, SqL.of q1, an, _, rfl, _, _, rfl, rfl, (by show (0 : Int) < 2147483629; decide), small (by simp), fun d hd => k d _ (sq.trans (same_new hd)) (none_of sq hd) ⟨_, _, _, upd_same, by decide, by decide⟩⟩
theorem scDraw : FnScope ["_law_deck", "_law_most", "_law_got", "_law_number"] ["_law_deck", "_law_most"] (defScope sDraw) := ⟨rfl, rfl, rfl, by decide +kernel, rfl, by decide +kernel, by decide +kernel⟩
theorem ok_Draw {f : Addr} {fd : FuncData} (F : Fun K "_law_draw" "_law_draw" sDraw f fd) (T : Txt K mg C I) :
    FnOk P w K mg base CX0 1 f fd ["_law_deck", "_law_most"] spDraw := by
  refine F.ok scDraw (fun vs H Q E h => ?_) (fun cdv A outer s H vs Q E hr h => ?_)
  · obtain ⟨_, _, _, rfl, _⟩ := h; rfl
  · obtain ⟨d, m, b, rfl, ⟨x, S, k0, hd, k00, kb⟩, m0, m1, k⟩ := h
    refine ⟨_, pss_cons (ps_if (pt_cmpR op_gt (pe_ix ix_list (pv 0) pe_int (fun _ _ => rfl)) pe_int (nomark _)) (pss_cons (ps_set (i := 2) scDraw.nd rfl (Or.inl rfl) (pe_op op_mod (pe_ix ix_list (pv 0) pe_int (fun _ _ => rfl)) (pv 1)))
      (pss_cons (ps_asg (pe_op op_fdiv (pe_ix ix_list (pv 0) pe_int (fun _ _ => rfl)) (pv 1)) (pg_sub (pv 0) (pe_int) set_list))
      (pss_one (ps_ret (pv 2))))) pss_nil)
      (pss_cons (ps_asg (pe_op op_add (pe_ix ix_list (pv 0) pe_int (fun _ _ => rfl)) pe_int) (pg_sub (pv 0) (pe_int) set_list))
      (pss_cons (ps_set (i := 3) scDraw.nd rfl (Or.inl rfl) (pe_op op_mod (pe_op op_mul (pe_op op_add (pe_ix ix_list (pv 0) pe_int (fun _ _ => rfl)) (pe_op op_mul (pe_op op_mul pe_int (pe_ix ix_list (pv 0) pe_int (fun _ _ => rfl))) (pe_ix ix_list (pv 0) pe_int (fun _ _ => rfl)))) pe_int) pe_int))
      (pss_cons (ps_set (i := 3) scDraw.nd rfl (Or.inl rfl) (pe_op op_mod (pe_op op_add (pe_op op_add (pe_op op_mul (pv 3) (pv 3)) (pe_op op_mul pe_int (pv 3))) pe_int) pe_int))
      (pss_one (ps_ret (pe_op op_mod (pe_op op_fdiv (pe_op op_mod (pe_op op_mul (pv 3) pe_int) pe_int) pe_int) (pv 1))))))), ?_⟩
    refine ⟨_, rfl, d, _, 0, _, rfl, rfl, SqL.of hd, atI_nat (j := 0) rfl, _, _, rfl, rfl, _, rfl, ite2 (fun g => ?_) fun g => ?_⟩
    · refine ⟨_, rfl, d, _, 0, _, rfl, rfl, SqL.of hd, atI_nat (j := 0) rfl, _, rfl, _, _, rfl, rfl, m0, ?_⟩
      refine ⟨_, rfl, d, _, 0, _, rfl, rfl, SqL.of hd, atI_nat (j := 0) rfl, _, rfl, _, _, rfl, rfl, ⟨m0, by omega⟩, _, rfl, d, _, 0, 0, rfl, rfl, hd, rfl, ?_⟩
      exact ⟨_, rfl, k _ _ (Int.emod_nonneg _ (by omega)) (Int.emod_lt_of_pos _ m0) (fun c o e n => by rw [upd_ne n]; exact e) ⟨_, S, k0, upd_same, k00, by omega⟩⟩
    · dsimp only [tNext]
      refine ⟨_, rfl, d, _, 2, _, rfl, rfl, SqL.of hd, atI_nat (j := 2) rfl, _, _, rfl, rfl, _, rfl, d, _, 2, 2, rfl, rfl, hd, rfl, ?_⟩
      have h1 : upd H d (.lst (([.int x, .int S, .int k0] : List V).set 2 (.int (k0 + 1)))) d = some (.lst [.int x, .int S, .int (k0 + 1)]) := upd_same
      have b1 : But d H (upd H d (.lst (([.int x, .int S, .int k0] : List V).set 2 (.int (k0 + 1))))) := fun c o e n => by rw [upd_ne n]; exact e
      generalize hH1 : upd H d _ = H1
      rw [hH1] at h1 b1
      clear hH1
      refine ⟨_, rfl, d, _, 1, _, rfl, rfl, SqL.of h1, atI_nat (j := 1) rfl, _, rfl, d, _, 2, _, rfl, rfl, SqL.of h1, atI_nat (j := 2) rfl, _, _, rfl, rfl, .inl ⟨by decide, by decide⟩, _, rfl, d, _, 2, _, rfl, rfl, SqL.of h1, atI_nat (j := 2) rfl, _, _, rfl, rfl, .inr ⟨by omega, by omega⟩, _, _, rfl, rfl, _, _, rfl, rfl, .inr ⟨by decide, by decide⟩, _, _, rfl, rfl, (by show (0 : Int) < 2147483647; decide), ?_⟩
      dsimp only
      have y0 := Int.emod_nonneg ((S + 7919 * (k0 + 1) * (k0 + 1)) * 48271) (show (2147483647 : Int) ≠ 0 by decide)
      have y1 := Int.emod_lt_of_pos ((S + 7919 * (k0 + 1) * (k0 + 1)) * 48271) (show (0 : Int) < 2147483647 by decide)
      generalize (S + 7919 * (k0 + 1) * (k0 + 1)) * 48271 % 2147483647 = z2 at y0 y1
      refine ⟨_, rfl, _, rfl, _, _, rfl, rfl, .inl ⟨by omega, by omega⟩, _, rfl, _, _, rfl, rfl, .inl ⟨by decide, by decide⟩, _, _, rfl, rfl, _, _, rfl, rfl, _, _, rfl, rfl, (by show (0 : Int) < 2147483587; decide), ?_⟩
      dsimp only
      generalize (z2 * z2 + 69621 * z2 + 17) % 2147483587 = z3
      refine ⟨_, rfl, _, _, rfl, rfl, .inr ⟨by decide, by decide⟩, _, _, rfl, rfl, (by show (0 : Int) < 2147483629; decide), _, _, rfl, rfl, ⟨by decide, by decide⟩, _, rfl, _, _, rfl, rfl, m0, ?_⟩
      exact k _ _ (Int.emod_nonneg _ (by omega)) (Int.emod_lt_of_pos _ m0) b1 ⟨_, _, _, h1, by omega, by omega⟩
theorem scRare : FnScope ["_law_deck", "_law_often", "_law_great"] ["_law_deck", "_law_often", "_law_great"] (defScope sRare) := ⟨rfl, rfl, rfl, by decide +kernel, rfl, by decide +kernel, by decide +kernel⟩
theorem ok_Rare {f : Addr} {fd : FuncData} (F : Fun K "_law_rare" "_law_rare" sRare f fd) (T : Txt K mg C I)
    {gDraw : Addr} {fDraw : FuncData} (kDraw : PySem.W.keepIn K (.ref gDraw) = true) (bDraw : Binds K fDraw ["_law_deck", "_law_most"] []) (hDraw : mg "_law_draw" = some (.ref gDraw)) (GDraw : FnOk P w K mg base CX0 1 gDraw fDraw ["_law_deck", "_law_most"] spDraw) :
    FnOk P w K mg base CX0 2 f fd ["_law_deck", "_law_often", "_law_great"] spRare := by
  refine F.ok scRare (fun vs H Q E h => ?_) (fun cdv A outer s H vs Q E hr h => ?_)
  · obtain ⟨_, _, _, _, rfl, _⟩ := h; rfl
  · obtain ⟨d, x, y, b, rfl, hD, k⟩ := h
    refine ⟨_, pss_one (ps_ret (pe_ix ix_list (pe_lst (pa_cons (pv 1) (pa_cons (pv 2) pa_nil))) (pe_callTy call_int1 (by rfl) T.int (by decide +kernel) (pa_cons (pe_cmpR op_eq (pe_call GDraw hr rfl hDraw kDraw bDraw .nil pass0 (pa_cons (pv 0) (pa_cons pe_int pa_nil))) pe_int (nomark _)) pa_nil)) (fun _ _ => rfl))), ?_⟩
    refine ⟨_, rfl, _, rfl, small (by simp), fun q hq => ?_⟩
    have sq := same_new (o := .lst [.int x, .int y]) hq
    have q1 := upd_same (H := H) (a := q) (o := .lst [.int x, .int y])
    have nq := hD.ne hq
    have D1 := hD.same sq
    generalize upd H q (.lst [.int x, .int y]) = H1 at sq q1 D1
    refine ⟨_, rfl, d, 8, b, rfl, D1, by decide, by decide, fun v H2 _ _ b2 D2 => ⟨rfl, .inr ⟨_, rfl, ?_⟩⟩⟩
    obtain ⟨z, an, hz⟩ : ∃ z : Int, atI [V.int x, .int y] (if decide (V.int v = V.int 5) = true then 1 else 0) = some (.int z) ∧ (z = x ∨ z = y) := by
      split
      · exact ⟨y, rfl, .inr rfl⟩
      · exact ⟨x, rfl, .inl rfl⟩
    exact ⟨q, _, _, .int z, rfl, rfl, SqL.of (b2 _ _ q1 nq), an, k z H2 hz ((But.of sq).trans b2) D2⟩
theorem scTwo : FnScope ["_law_deck", "_law_many", "_law_one"] ["_law_deck", "_law_many"] (defScope sTwo) := ⟨rfl, rfl, rfl, by decide +kernel, rfl, by decide +kernel, by decide +kernel⟩
theorem ok_Two {f : Addr} {fd : FuncData} (F : Fun K "_law_two_of" "_law_two_of" sTwo f fd) (T : Txt K mg C I)
    {gDraw : Addr} {fDraw : FuncData} (kDraw : PySem.W.keepIn K (.ref gDraw) = true) (bDraw : Binds K fDraw ["_law_deck", "_law_most"] []) (hDraw : mg "_law_draw" = some (.ref gDraw)) (GDraw : FnOk P w K mg base CX0 1 gDraw fDraw ["_law_deck", "_law_most"] spDraw) :
    FnOk P w K mg base CX0 2 f fd ["_law_deck", "_law_many"] spTwo := by
  refine F.ok scTwo (fun vs H Q E h => ?_) (fun cdv A outer s H vs Q E hr h => ?_)
  · obtain ⟨_, _, _, rfl, _⟩ := h; rfl
  · obtain ⟨d, N, b, rfl, hD, N2, N60, k⟩ := h
    refine ⟨_, pss_cons (ps_set (i := 2) scTwo.nd rfl (Or.inl rfl) (pe_call GDraw hr rfl hDraw kDraw bDraw .nil pass0 (pa_cons (pv 0) (pa_cons (pv 1) pa_nil))))
      (pss_one (ps_ret (pe_tup (pa_cons (pv 2) (pa_cons (pe_op op_mod (pe_op op_add (pe_op op_add (pv 2) pe_int) (pe_call GDraw hr rfl hDraw kDraw bDraw .nil pass0 (pa_cons (pv 0) (pa_cons (pe_op op_sub (pv 1) pe_int) pa_nil)))) (pv 1)) pa_nil))))), ?_⟩
    refine ⟨_, rfl, _, rfl, d, (N : Int), b + 1, rfl, hD, by omega, by omega, fun p H1 p0 p1 b1 D1 => ?_⟩
    obtain ⟨p, rfl⟩ := nat_of p0
    refine ⟨_, rfl, _, rfl, _, _, rfl, rfl, _, rfl, _, rfl, _, _, rfl, rfl, d, _, b, rfl, D1, by omega, by omega, fun x H2 x0 x1 b2 D2 => ⟨_, _, rfl, rfl, _, rfl, _, _, rfl, rfl, (by show (0 : Int) < N; omega), small (by simp), fun r hr' => ?_⟩⟩
    obtain ⟨x, rfl⟩ := nat_of x0
    have om := mod_ne (N := N) (a := p) (v := x) (by omega) (by omega)
    have oe : ((p : Int) + 1 + (x : Int)) % (N : Int) = (((p + 1 + x) % N : Nat) : Int) := by rw [← mod_int]; simp
    refine k p ((p + 1 + x) % N) r _ ((b1.trans b2).trans (But.of (same_new hr'))) (D2.upd (D2.ne hr')) (by omega) om.2 (Ne.symm om.1) ?_
    rw [upd_same, ← oe]
end
end K22
set_option maxHeartbeats 1000000
namespace K22
open PySem L2 Wk
theorem flat_strs (ns : List Str) : (ns.map V.str).all flatV = true := by
  induction ns with
  | nil => rfl
  | cons n ns ih => exact ih
def nmA (a : Nat) : Str := (⟨#[97 + a % 26]⟩ : Str) ++ (⟨#[97 + a / 26 % 26]⟩ : Str)
theorem nmA_inj {a b : Nat} (ha : 52 ≤ a) (ha' : a ≤ 200) (hb : 52 ≤ b) (hb' : b ≤ 200) (e : nmA a = nmA b) : a = b := by
  have e := congrArg (fun z : Str => z.cps.toList) e
  simp only [nmA] at e
  rw [cat_cps, cat_cps] at e
  have e : [97 + a % 26, 97 + a / 26 % 26] = [97 + b % 26, 97 + b / 26 % 26] := e
  injection e with e1 e2
  injection e2 with e2 _
  omega
theorem nmA_few {zs : List Str} {at0 : Nat} (h : ∀ a, 52 ≤ a → a < at0 → nmA a ∈ zs) (hl : zs.length ≤ 90) (ha : at0 ≤ 160) : at0 ≤ 52 + zs.length := by
  have := nodup_le ((List.range (at0 - 52)).map fun k => nmA (52 + k)) zs ?_ ?_
  · rw [List.length_map, List.length_range] at this; omega
  · rw [List.nodup_iff_pairwise_ne, List.pairwise_map]
    refine List.Pairwise.imp_of_mem ?_ List.pairwise_lt_range
    intro x y hx hy hxy e
    have hx := List.mem_range.mp hx
    have hy := List.mem_range.mp hy
    have := nmA_inj (by omega) (by omega) (by omega) (by omega) e
    omega
  · intro x hx
    obtain ⟨k, hk, rfl⟩ := List.mem_map.mp hx
    have := List.mem_range.mp hk
    exact h _ (by omega) (by omega)
theorem cat_len (x y : Str) : (x ++ y).length = x.length + y.length := by
  rw [len_cps, len_cps, len_cps, cat_cps, List.length_append]
def spNamed : Sp := fun vs H Q _ => ∃ (d : Addr) (M b : Nat), vs = [.ref d, .int (M : Int)] ∧ M ≤ 84 ∧ DeckAt H d (b + 9 * M) ∧ ∀ (l : Addr) (zs : List Str) (H' : Hp), But d H H' → DeckAt H' d b → l ≠ d → H l = none → H' l = some (.lst (zs.map V.str)) → zs.length = M → zs.Nodup → Q (.ref l) H'
section
variable {P : Program} {w : World} {K : PySem.W.Frag} {mg : Str → Option Value} {base : Heap} {C I : Addr}
theorem scNamed : FnScope ["_law_deck", "_law_many", "_law_letters", "_law_found", "_law_long", "_law_tail", "_law_at"] ["_law_deck", "_law_many"] (defScope sNamed) := ⟨rfl, rfl, rfl, by decide +kernel, rfl, by decide +kernel, by decide +kernel⟩
theorem ok_Named {f : Addr} {fd : FuncData} (F : Fun K "_law_named" "_law_named" sNamed f fd) (T : Txt K mg C I)
    {gDraw : Addr} {fDraw : FuncData} (kDraw : PySem.W.keepIn K (.ref gDraw) = true) (bDraw : Binds K fDraw ["_law_deck", "_law_most"] []) (hDraw : mg "_law_draw" = some (.ref gDraw)) (GDraw : FnOk P w K mg base CX0 1 gDraw fDraw ["_law_deck", "_law_most"] spDraw) :
    FnOk P w K mg base CX0 2 f fd ["_law_deck", "_law_many"] spNamed := by
  refine F.ok scNamed (fun vs H Q E h => ?_) (fun cdv A outer s H vs Q E hr h => ?_)
  · obtain ⟨_, _, _, rfl, _⟩ := h; rfl
  · obtain ⟨d, M, b, rfl, M84, hD, k⟩ := h
    refine ⟨_, pss_cons (ps_set (i := 2) scNamed.nd rfl (Or.inr rfl) pe_str)
      (pss_cons (ps_set (i := 3) scNamed.nd rfl (Or.inl rfl) (pe_lst pa_nil))
      (pss_cons (ps_while PassesOwn.never (pt_cmpR op_lt (pe_callB call_len_seq (by rfl) T.len PySem.boot_len (pa_cons (pv 3) pa_nil)) (pv 1) (nomark _)) (pss_cons (ps_set (i := 4) scNamed.nd rfl (Or.inl rfl) (pe_call GDraw hr rfl hDraw kDraw bDraw .nil pass0 (pa_cons (pv 0) (pa_cons pe_int pa_nil))))
      (pss_cons (ps_set (i := 5) scNamed.nd rfl (Or.inl rfl) (pe_bm PySem.F.plainAttrs_str PySem.F.slot_str_join PySem.F.type_str_join mt_join pe_str (pa_cons (pe_comp (T := ["_law_k"]) (F := ["_law_letters", "_law_deck"]) (js := [2, 0]) (CS.to (osc := defScope sNamed) ⟨by rfl, by decide +kernel, by decide +kernel, by decide +kernel, by decide +kernel, by decide +kernel, by decide +kernel⟩ rfl rfl) rfl (pi_range1 rfl T.range (pa_cons (pv 4) pa_nil)) (fun _ _ _ _ _ => pg_name (i := 0) (show (["_law_k", "_law_letters", "_law_deck"] : List Str).Nodup by decide +kernel) rfl (Or.inl rfl)) (fun _ _ _ _ _ => pif_nil) (fun _ _ _ _ _ => pe_ix ix_str (pv 1) (pe_call GDraw hr rfl hDraw kDraw bDraw .nil pass0 (pa_cons (pv 2) (pa_cons pe_int pa_nil))) (fun _ _ => rfl))) pa_nil)))
      (pss_cons (ps_set (i := 6) scNamed.nd rfl (Or.inl rfl) (pe_call GDraw hr rfl hDraw kDraw bDraw .nil pass0 (pa_cons (pv 0) (pa_cons pe_int pa_nil))))
      (pss_cons (ps_while PassesOwn.never (pt_cmpR op_in_seq (pe_op op_add_str (pe_ix ix_str (pv 2) (pe_op op_mod (pv 6) pe_int) (fun _ _ => rfl)) (pv 5)) (pv 3) (by rfl)) (pss_cons (ps_set (i := 6) scNamed.nd rfl (Or.inl rfl) (pe_op op_add (pv 6) pe_int))
      (pss_one (ps_if (pt_cmpR op_gt (pv 6) pe_int (nomark _)) (pss_one (ps_set (i := 5) scNamed.nd rfl (Or.inl rfl) (pe_ix ix_str (pv 2) (pe_op op_mod (pe_op op_fdiv (pv 6) pe_int) pe_int) (fun _ _ => rfl)))) pss_nil))))
      (pss_one (ps_expr (pe_bm PySem.F.plainAttrs_list PySem.F.slot_list_append PySem.F.type_list_append mt_append (pv 3) (pa_cons (pe_op op_add_str (pe_ix ix_str (pv 2) (pe_op op_mod (pv 6) pe_int) (fun _ _ => rfl)) (pv 5)) pa_nil)))))))))
      (pss_one (ps_ret (pv 3))))), ?_⟩
    refine ⟨small (by simp), fun l hl => ?_⟩
    have s1 := same_new (o := .lst []) hl
    have l1 := upd_same (H := H) (a := l) (o := .lst [])
    have nl := hD.ne hl
    have D1 := hD.same s1
    have B1 : But d H (upd H l (.lst [])) := But.of s1
    generalize upd H l (.lst []) = H1 at s1 l1 D1 B1
    dsimp only [gName, tSeq]
    refine while_gh (fun m σ H5 => ∃ (u4 u5 u6 : Option V) (zs : List Str), σ = [some (.ref d), some (.int (M : Int)), some (.str LS), some (.ref l), u4, u5, u6] ∧ But d H H5 ∧ DeckAt H5 d (b + 9 * (M - zs.length)) ∧ H5 l = some (.lst (zs.map V.str)) ∧ zs.length ≤ M ∧ zs.Nodup ∧ m = M - zs.length) (m0 := M) ⟨_, _, _, [], rfl, B1, D1, l1, Nat.zero_le _, List.nodup_nil, rfl⟩ ?_ ?_
    rotate_left
    · rintro σ H Q Q' f ⟨v3, e3, l, xs, el, hl, v1, e1, i, j, ei, ej, b, eb, q⟩
      exact ⟨v3, e3, l, xs, el, hl, v1, e1, i, j, ei, ej, b, eb, f _ _ q⟩
    rintro m σ H5 ⟨u4, u5, u6, zs, rfl, b5, D5, l5, zl, znd, hm⟩
    refine ⟨_, rfl, l, _, rfl, .inl (SqL.of l5), _, rfl, _, _, rfl, rfl, _, rfl, ?_⟩
    rw [List.length_map]
    refine ite2 (fun g => ?_) fun g => ?_
    rotate_left
    · have hzM : zs.length = M := by
        have : ¬ ((zs.length : Int) < (M : Int)) := fun h => g (decide_eq_true h)
        omega
      exact ⟨_, rfl, k l zs H5 b5 (D5.mono (by omega)) nl hl l5 hzM znd⟩
    have hz : zs.length < M := by have := of_decide_eq_true g; omega
    obtain ⟨B, hB⟩ : ∃ B, B = b + 9 * (M - (zs.length + 1)) := ⟨_, rfl⟩
    have D5 : DeckAt H5 d (B + 8 + 1) := D5.mono (by omega)
    refine ⟨_, rfl, d, 8, B + 8, rfl, D5, by decide, by decide, fun lg H6 lg0 lg1 b6 D6 => ?_⟩
    obtain ⟨lg, rfl⟩ := nat_of lg0
    refine ⟨rfl, _, rfl, (lg : Int), rfl, by omega, by omega, fun D hD' => comp_range (lo := 0) (n := (lg : Int).toNat) (fun j σ ys H7 => ∃ (u : Option V) (ws : List Nat), σ = [u, some (.str LS), some (.ref d)] ∧ But d H6 H7 ∧ DeckAt H7 d (B + 8 - j) ∧ H7 D = some (.lst ys) ∧ ys = ws.map sg ∧ ws.length = j) ⟨none, [], rfl, But.of (same_new hD'), D6.same (same_new hD'), upd_same, rfl, rfl⟩ (fun j σ ys H7 _ ⟨_, _, _, _, _, e, _⟩ => e) ?_ ?_⟩
    · rintro j σ ys H7 hj ⟨u, ws, rfl, b7, D7, e7, rfl, wl⟩
      have hj : j < lg := by simpa using hj
      have nD : D ≠ d := D6.ne hD'
      refine ⟨_, rfl, _, rfl, d, 26, B + 8 - (j + 1), rfl, D7.mono (by omega), by decide, by decide, fun x H8 x0 x1 b8 D8 => ?_⟩
      have e8 := b8 _ _ e7 nD
      exact ⟨_, x, _, rfl, rfl, small (by decide +kernel), LS_at x0 x1, e8, small1000 (by simp; omega), _, ws ++ [97 + x.toNat], rfl, (b7.trans b8).set hD', D8.upd nD, upd_same, by rw [List.map_append]; rfl, by simp [wl]⟩
    rintro σ ys H7 ⟨u, ws, rfl, b7, D7, e7, rfl, wl⟩
    have wl : ws.length = lg := by simpa using wl
    have D7 : DeckAt H7 d (B + 1) := D7.mono (by simp; omega)
    have hzc := join_cps ws
    rw [sg_map] at e7
    refine ⟨_, D, _, rfl, rfl, SqL.of e7, ?_, ?_⟩
    · rw [sg_sum, List.length_map]; show _ + _ * 0 ≤ _; omega
    generalize Txt.join (Str.ofString "") (ws.map fun c => (⟨#[c]⟩ : Str)) = z at hzc
    have zlen : z.length ≤ 8 := by rw [len_cps, hzc, wl]; omega
    refine ⟨_, rfl, d, 26, B, rfl, D7, by decide, by decide, fun a0 H8 a00 a01 b8 D8 => ?_⟩
    obtain ⟨a0, rfl⟩ := nat_of a00
    have B8 : But d H H8 := ((b5.trans b6).trans b7).trans b8
    have l8 : H8 l = some (.lst (zs.map V.str)) := b8 _ _ (b7 _ _ (b6 _ _ l5 nl) nl) nl
    dsimp only [gName, tSeq]
    have m26 : ∀ x : Nat, ((x : Int) % 26) = ((x % 26 : Nat) : Int) := fun x => by simp
    refine while_gh (fun m' σ H9 => ∃ (t : Str) (at0 : Nat), σ = [some (.ref d), some (.int (M : Int)), some (.str LS), some (.ref l), some (.int (lg : Int)), some (.str t), some (.int (at0 : Int))] ∧ H9 = H8 ∧ t.length ≤ 8 ∧ (52 ≤ at0 → t = ⟨#[97 + at0 / 26 % 26]⟩) ∧ (∀ a', 52 ≤ a' → a' < at0 → nmA a' ∈ zs) ∧ m' = 300 - at0 ∧ at0 ≤ 150) (m0 := 300 - a0) ⟨z, a0, rfl, rfl, zlen, fun h => absurd h (by omega), fun a' h h' => absurd h' (by omega), rfl, by omega⟩ ?_ ?_
    rotate_left
    · rintro σ H Q Q' f ⟨v2, e2, v6, e6, i, j, ei, ej, hpos, z, n, ch, ez, en, hsm, hat, v5, e5, x, y, ex, ey, hs2, v3, e3, l, xs, el, hl, h1, h2, b, eb, q⟩
      exact ⟨v2, e2, v6, e6, i, j, ei, ej, hpos, z, n, ch, ez, en, hsm, hat, v5, e5, x, y, ex, ey, hs2, v3, e3, l, xs, el, hl, h1, h2, b, eb, f _ _ q⟩
    rintro m' σ H9 ⟨t, at0, rfl, rfl, tl, ht, hin, hm', a150⟩
    have r0 := Int.emod_nonneg (at0 : Int) (show (26 : Int) ≠ 0 by decide)
    have r1 := Int.emod_lt_of_pos (at0 : Int) (show (0 : Int) < 26 by decide)
    have e26 : (((at0 : Int) % 26).toNat) = at0 % 26 := by rw [m26]; rfl
    have lat := LS_at r0 r1
    rw [e26] at lat
    have ylen : ((⟨#[97 + at0 % 26]⟩ : Str) ++ t).length ≤ 9 := by rw [cat_len]; show 1 + _ ≤ 9; omega
    refine ⟨_, rfl, _, rfl, _, _, rfl, rfl, (by show (0 : Int) < 26; decide), LS, _, _, rfl, rfl, small (by decide +kernel), lat, _, rfl, _, _, rfl, rfl, small (by show 1 + _ ≤ 10000; omega), _, rfl, l, _, rfl, .inl (SqL.of l8), rfl, flat_strs _, _, rfl, ?_⟩
    show if (inV (.str ((⟨#[97 + at0 % 26]⟩ : Str) ++ t)) (zs.map V.str)) = true then _ else _
    rw [inV_strs]
    by_cases gy : ((⟨#[97 + at0 % 26]⟩ : Str) ++ t) ∈ zs
    · rw [decide_eq_true gy]
      refine iteT ?_
      have hin' : ∀ a', 52 ≤ a' → a' < at0 + 1 → nmA a' ∈ zs := fun a' h h' => by
        by_cases e : a' = at0
        · subst e
          unfold nmA
          rw [ht h] at gy
          exact gy
        · exact hin a' h (by omega)
      have few := nmA_few hin' (by omega) (by omega)
      refine ⟨_, rfl, _, _, rfl, rfl, ?_⟩
      refine ⟨_, rfl, _, _, rfl, rfl, _, rfl, ite2 (fun g2 => ?_) fun g2 => ?_⟩
      · have q0 := Int.emod_nonneg (((at0 : Int) + 1) / 26) (show (26 : Int) ≠ 0 by decide)
        have q1 := Int.emod_lt_of_pos (((at0 : Int) + 1) / 26) (show (0 : Int) < 26 by decide)
        have lat2 := LS_at q0 q1
        have e27 : ((((at0 : Int) + 1) / 26 % 26).toNat) = (at0 + 1) / 26 % 26 := by omega
        rw [e27] at lat2
        refine ⟨_, rfl, _, rfl, _, _, rfl, rfl, ⟨by decide, by decide⟩, _, _, rfl, rfl, (by show (0 : Int) < 26; decide), LS, _, _, rfl, rfl, small (by decide +kernel), lat2, ?_⟩
        exact ⟨300 - (at0 + 1), by omega, _, at0 + 1, rfl, rfl, by show 1 ≤ 8; omega, fun _ => rfl, hin', rfl, by omega⟩
      · have g2 : ¬ (51 < (at0 : Int) + 1) := fun h => g2 (decide_eq_true h)
        exact ⟨300 - (at0 + 1), by omega, t, at0 + 1, rfl, rfl, tl, fun h => absurd h (by omega), hin', rfl, by omega⟩
    · rw [decide_eq_false gy]
      refine iteF ?_
      refine ⟨_, rfl, .inl ⟨rfl, _, SqL.of l8⟩, _, rfl, _, rfl, _, _, rfl, rfl, (by show (0 : Int) < 26; decide), LS, _, _, rfl, rfl, small (by decide +kernel), lat, _, rfl, _, _, rfl, rfl, small (by show 1 + _ ≤ 10000; omega), l, _, _, rfl, rfl, l8, small1000 (by rw [List.length_map]; omega), ?_⟩
      refine ⟨M - (zs.length + 1), by omega, _, _, _, zs ++ [(⟨#[97 + at0 % 26]⟩ : Str) ++ t], rfl, B8.set hl, ?_, by rw [upd_same, List.map_append]; rfl, by simp; omega, ?_, by simp⟩
      · have : (zs ++ [(⟨#[97 + at0 % 26]⟩ : Str) ++ t]).length = zs.length + 1 := by simp
        rw [this, ← hB]
        exact D8.upd nl
      · refine List.nodup_append.mpr ⟨znd, List.nodup_cons.mpr ⟨by simp, List.nodup_nil⟩, fun x hx y hy e => ?_⟩
        rw [List.mem_singleton.mp hy] at e
        exact gy (e ▸ hx)
end
end K22
set_option maxHeartbeats 1000000
namespace K22
open PySem L2 Wk
def rLenX (K : PySem.W.Frag) : List V → Hp → VK → Prop := fun xs H Q => ∃ p ys, xs = [.ref p] ∧ (SqL K H p ys ∨ SqT K H p ys) ∧ Q (.int ys.length) H
theorem seqIx {v : Int} {n : Nat} (h0 : 0 ≤ v) (h1 : v < (n : Int)) : seqIndex? v n = some v.toNat := by
  have h2 : ¬ v < 0 := by omega
  unfold seqIndex?
  simp [h2, h0, h1]
theorem perm_pop {α : Type} {zs rem xs : List α} {k : Nat} {y : α} (h : (zs ++ rem).Perm xs) (e : rem[k]? = some y) : (zs ++ [y] ++ rem.eraseIdx k).Perm xs := by
  refine List.Perm.trans ?_ h
  rw [List.append_assoc]
  refine List.Perm.append_left zs ?_
  obtain ⟨hk, rfl⟩ := List.getElem?_eq_some_iff.mp e
  exact (perm_erase hk).symm
def spOrder : Sp := fun vs H Q _ => ∃ (a L : Addr) (b : Nat) (xs : List V), vs = [.ref a, .ref L] ∧ DeckAt H a (b + xs.length) ∧ H L = some (.lst xs) ∧ xs.length ≤ 100 ∧ ∀ (r : Addr) (ys : List V) (H' : Hp), But a H H' → DeckAt H' a b → H r = none → H' r = some (.lst ys) → ys.Perm xs → Q (.ref r) H'
section
variable {P : Program} {w : World} {K : PySem.W.Frag} {mg : Str → Option Value} {base : Heap} {C I : Addr}
theorem scOrder : FnScope ["_law_deck", "_law_things", "_law_left"] ["_law_deck", "_law_things"] (defScope sOrder) := ⟨rfl, rfl, rfl, by decide +kernel, rfl, by decide +kernel, by decide +kernel⟩
theorem ok_Order {f : Addr} {fd : FuncData} (F : Fun K "_law_order" "_law_order" sOrder f fd) (T : Txt K mg C I)
    {gDraw : Addr} {fDraw : FuncData} (kDraw : PySem.W.keepIn K (.ref gDraw) = true) (bDraw : Binds K fDraw ["_law_deck", "_law_most"] []) (hDraw : mg "_law_draw" = some (.ref gDraw)) (GDraw : FnOk P w K mg base CX0 1 gDraw fDraw ["_law_deck", "_law_most"] spDraw) :
    FnOk P w K mg base CX0 2 f fd ["_law_deck", "_law_things"] spOrder := by
  refine F.ok scOrder (fun vs H Q E h => ?_) (fun cdv A outer s H vs Q E hr h => ?_)
  · obtain ⟨_, _, _, _, rfl, _⟩ := h; rfl
  · obtain ⟨a, L, b, xs, rfl, hD, hL, hx, k⟩ := h
    refine ⟨_, pss_cons (ps_set (i := 2) scOrder.nd rfl (Or.inr rfl) (pe_callTy call_list_of (by rfl) T.list (by decide +kernel) (pa_cons (pv 1) pa_nil)))
      (pss_one (ps_ret (pe_comp (T := ["_law_k"]) (F := ["_law_left", "_law_deck"]) (js := [2, 0]) (CS.to (osc := defScope sOrder) ⟨by rfl, by decide +kernel, by decide +kernel, by decide +kernel, by decide +kernel, by decide +kernel, by decide +kernel⟩ rfl rfl) rfl (pi_range1 rfl T.range (pa_cons (pe_callB call_len_seq (by rfl) T.len PySem.boot_len (pa_cons (pv 2) pa_nil)) pa_nil)) (fun _ _ _ _ _ => pg_name (i := 0) (show (["_law_k", "_law_left", "_law_deck"] : List Str).Nodup by decide +kernel) rfl (Or.inl rfl)) (fun _ _ _ _ _ => pif_nil) (fun _ _ _ _ _ => pe_bmK K rfl PySem.F.plainAttrs_list PySem.F.slot_list_pop PySem.F.type_list_pop mt_popAt (pv 1) (pa_cons (pe_call GDraw hr rfl hDraw kDraw bDraw .nil pass0 (pa_cons (pv 2) (pa_cons (pe_callB (r := rLenX K) call_len_seq (by rfl) T.len PySem.boot_len (pa_cons (pv 1) pa_nil)) pa_nil))) pa_nil))))), ?_⟩
    refine ⟨_, rfl, L, _, rfl, .inl (SqL.of hL), fun l hl => ?_⟩
    have s1 := same_new (o := .lst xs) hl
    have l1 := upd_same (H := H) (a := l) (o := .lst xs)
    generalize upd H l (.lst xs) = H1 at s1 l1
    have la : l ≠ a := hD.ne hl
    refine ⟨_, rfl, l, _, rfl, .inl (SqL.of l1), xs.length, rfl, by omega, by omega, fun D hDn => ?_⟩
    have Dl : D ≠ l := (ne_of_none l1 hDn).symm
    have Da : D ≠ a := (hD.same s1).ne hDn
    refine comp_range (lo := 0) (n := xs.length) (fun j σ ys H2 => ∃ (u : Option V) (rem : List V), σ = [u, some (.ref l), some (.ref a)] ∧ But a H H2 ∧ DeckAt H2 a (b + (xs.length - j)) ∧ H2 D = some (.lst ys) ∧ H2 l = some (.lst rem) ∧ (ys ++ rem).Perm xs ∧ rem.length + j = xs.length)
      ⟨none, xs, rfl, fun b o e nb => by rw [upd_ne (ne_of_none (s1 _ _ e) hDn)]; exact s1 _ _ e, (hD.same s1).same (same_new hDn), upd_same, same_new hDn _ _ l1, .refl _, rfl⟩ (fun j σ ys H2 _ ⟨_, _, _, _, _, e, _⟩ => e) ?_ ?_
    · rintro j σ ys H2 hj ⟨u, rem, rfl, b2, D2, eD, el, pm, ln⟩
      have hj : j < xs.length := by simpa using hj
      refine ⟨_, rfl, .inl ⟨rfl, _, SqL.of el⟩, _, rfl, _, rfl, l, _, rfl, .inl (SqL.of el), a, _, b + (xs.length - (j + 1)), rfl, D2.mono (by omega), by omega, by omega, fun v H3 v0 v1 b3 D3 => ?_⟩
      have el3 := b3 _ _ el la
      have eD3 := b3 _ _ eD Da
      have vl : v.toNat < rem.length := by omega
      have ey : rem[v.toNat]? = some rem[v.toNat] := List.getElem?_eq_getElem vl
      refine ⟨l, rem, v, v.toNat, _, rfl, rfl, el3, by omega, by omega, ?_, ey, ?_⟩
      · exact seqIx v0 (by omega)
      have lD : l ≠ D := Dl.symm
      have eD4 : upd H3 l (.lst (rem.eraseIdx v.toNat)) D = some (.lst ys) := by rw [upd_ne Dl]; exact eD3
      have hln : ys.length + rem.length = xs.length := by have := pm.length_eq; rw [List.length_append] at this; exact this
      refine ⟨eD4, small1000 (by omega), _, rem.eraseIdx v.toNat, rfl, fun b o e nb => ?_, ?_, upd_same, by rw [upd_ne lD, upd_same], perm_pop pm ey, by rw [List.length_eraseIdx, if_pos vl]; omega⟩
      · have n1 : b ≠ l := ne_of_none e hl
        have n2 : b ≠ D := ne_of_none (s1 _ _ e) hDn
        rw [upd_ne n2, upd_ne n1]
        exact b3 _ _ (b2 _ _ e nb) nb
      · exact (D3.upd la).upd Da
    rintro σ ys H2 ⟨u, rem, rfl, b2, D2, eD, el, pm, ln⟩
    have : rem = [] := List.length_eq_zero_iff.mp (by simp at ln; simpa using ln)
    subst this
    rw [List.append_nil] at pm
    exact k D ys H2 b2 (D2.mono (by omega)) (none_of s1 hDn) eD pm
end
end K22
set_option maxHeartbeats 1000000
namespace K22
open PySem L2 Wk
def StandAt (H : Hp) (st : Addr) (S : List T4) : Prop := ∃ rs : List Addr, H st = some (.tup (rs.map V.ref)) ∧ TiesAt H rs S
theorem StandAt.same {H H' : Hp} {st : Addr} {S : List T4} (h : StandAt H st S) (s : Same H H') : StandAt H' st S := let ⟨rs, a, b⟩ := h; ⟨rs, s _ _ a, b.same s⟩
def spBeside : Sp := fun vs H Q _ => ∃ (N : Nat) (st : Addr) (S : List T4), vs = [.int (N : Int), .ref st] ∧ StandAt H st S ∧ InN N S ∧ N ≤ 60 ∧ S.length ≤ 100 ∧ ∀ b H', Same H H' → BesAt H' b N (nbrs S) → Q (.ref b) H'
def spWays : Sp := fun vs H Q _ => ∃ (N : Nat) (st : Addr) (S : List T4) (p : Nat), vs = [.int (N : Int), .ref st, .int (p : Int)] ∧ StandAt H st S ∧ InN N S ∧ N ≤ 60 ∧ S.length ≤ 100 ∧ p < N ∧ ∀ a H', Same H H' → WaysAt H' a (waysF N S p) → Q (.ref a) H'
def spPart : Sp := fun vs H Q _ => ∃ (N : Nat) (st : Addr) (S : List T4) (p : Nat), vs = [.int (N : Int), .ref st, .int (p : Int)] ∧ StandAt H st S ∧ InN N S ∧ N ≤ 60 ∧ S.length ≤ 100 ∧ p < N ∧ ∀ a H', Same H H' → H' a = some (.tup (((partF N S p).map Int.ofNat).map V.int)) → Q (.ref a) H'
def spJoined : Sp := fun vs H Q _ => ∃ (N : Nat) (st : Addr) (S : List T4) (p q : Nat), vs = [.int (N : Int), .ref st, .int (p : Int), .int (q : Int)] ∧ StandAt H st S ∧ InN N S ∧ N ≤ 60 ∧ S.length ≤ 100 ∧ p < N ∧ ∀ H', Same H H' → Q (.bl (decide (q ∈ partF N S p))) H'
def nV (ps : List Nat) : List V := (ps.map Int.ofNat).map V.int
theorem nV_at {ps : List Nat} {k v : Nat} (h : ps[k]? = some v) : atI (nV ps) (k : Int) = some (.int (v : Int)) := atI_nat (by unfold nV; rw [List.getElem?_map, List.getElem?_map, h]; rfl)
def PtsAt (H : Hp) (as : List Addr) (N : Nat) (S : List T4) (ls : List Nat) : Prop := as.length = ls.length ∧ ∀ (i : Nat) r p, as[i]? = some r → ls[i]? = some p → H r = some (.tup (nV (partF N S p)))
def spPartsOf : Sp := fun vs H Q _ => ∃ (N : Nat) (st : Addr) (S : List T4), vs = [.int (N : Int), .ref st] ∧ StandAt H st S ∧ InN N S ∧ N ≤ 60 ∧ S.length ≤ 100 ∧ ∀ a as H', Same H H' → H' a = some (.tup (as.map V.ref)) → PtsAt H' as N S (lsF N S) → Q (.ref a) H'
theorem pts_snoc {H : Hp} {as : List Addr} {N p : Nat} {S : List T4} {ls : List Nat} {r : Addr} (h : PtsAt H as N S ls) (hr : H r = some (.tup (nV (partF N S p)))) : PtsAt H (as ++ [r]) N S (ls ++ [p]) := by
  refine ⟨by rw [List.length_append, List.length_append, h.1]; rfl, fun i r0 p0 e1 e2 => ?_⟩
  rw [List.getElem?_append] at e1 e2
  rw [h.1] at e1
  split at e1
  · rename_i z
    rw [if_pos z] at e2
    exact h.2 i r0 p0 e1 e2
  · rename_i z
    rw [if_neg z] at e2
    have hz : i - ls.length = 0 := by
      have := (List.getElem?_eq_some_iff.mp e1).1
      simp only [List.length_cons, List.length_nil] at this
      omega
    rw [hz] at e1 e2
    cases e1
    cases e2
    exact hr
theorem PtsAt.mono {H H' : Hp} {as : List Addr} {N : Nat} {S : List T4} {ls : List Nat} (h : PtsAt H as N S ls) (f : ∀ r zs, H r = some (.tup zs) → H' r = some (.tup zs)) : PtsAt H' as N S ls := ⟨h.1, fun i r p a b => f _ _ (h.2 i r p a b)⟩
section
variable {P : Program} {w : World} {K : PySem.W.Frag} {mg : Str → Option Value} {base : Heap} {C I : Addr}
theorem scBeside : FnScope ["many", "stand", "beside", "name", "one", "other", "weight"] ["many", "stand"] (defScope sBeside) := ⟨rfl, rfl, rfl, by decide +kernel, rfl, by decide +kernel, by decide +kernel⟩
theorem ok_Beside {f : Addr} {fd : FuncData} (F : Fun K "beside_of" "beside_of" sBeside f fd) (T : Txt K mg C I) :
    FnOk P w K mg base CX0 1 f fd ["many", "stand"] spBeside := by
  refine F.ok scBeside (fun vs H Q E h => ?_) (fun cdv A outer s H vs Q E hr h => ?_)
  · obtain ⟨_, _, _, rfl, _⟩ := h; rfl
  · obtain ⟨N, st, S, rfl, ⟨rs, hst, hrs⟩, hN, N60, S100, k⟩ := h
    refine ⟨_, pss_cons (ps_comp (i := 2) (T := ["place"]) (F := []) (js := []) scBeside.nd rfl (Or.inl rfl) (CS.to (osc := defScope sBeside) ⟨by rfl, by decide +kernel, by decide +kernel, by decide +kernel, by decide +kernel, by decide +kernel, by decide +kernel⟩ rfl rfl) rfl (pi_range1 rfl T.range (pa_cons (pv 0) pa_nil)) (fun _ _ _ _ _ => pg_name (i := 0) (show (["place"] : List Str).Nodup by decide +kernel) rfl (Or.inl rfl)) (fun _ _ _ _ _ => pif_nil) (fun _ _ _ _ _ => pe_lst pa_nil))
      (pss_cons (ps_for PassesOwn.never rfl (pi_tup (pv 1)) (pg_tup rfl (pgs_cons (pg_name (i := 3) scBeside.nd rfl (Or.inl rfl)) (pgs_cons (pg_name (i := 4) scBeside.nd rfl (Or.inl rfl)) (pgs_cons (pg_name (i := 5) scBeside.nd rfl (Or.inl rfl)) (pgs_cons (pg_name (i := 6) scBeside.nd rfl (Or.inl rfl)) pgs_nil))))) (pss_cons (ps_expr (pe_bm PySem.F.plainAttrs_list PySem.F.slot_list_append PySem.F.type_list_append mt_append (pe_ix ix_list (pv 2) (pv 4) (fun _ _ => rfl)) (pa_cons (pe_tup (pa_cons (pv 3) (pa_cons (pv 5) pa_nil))) pa_nil)))
      (pss_one (ps_expr (pe_bm PySem.F.plainAttrs_list PySem.F.slot_list_append PySem.F.type_list_append mt_append (pe_ix ix_list (pv 2) (pv 5) (fun _ _ => rfl)) (pa_cons (pe_tup (pa_cons (pv 3) (pa_cons (pv 4) pa_nil))) pa_nil))))))
      (pss_one (ps_ret (pv 2)))), ?_⟩
    refine ⟨_, rfl, (N : Int), rfl, by omega, by omega, fun D hD => comp_range (lo := 0) (n := (N : Int).toNat) (fun j σ ys H2 => ∃ (u : Option V) (ls : List Addr), σ = [u] ∧ ys = ls.map V.ref ∧ Same H H2 ∧ H2 D = some (.lst ys) ∧ ls.length = j ∧ ls.Nodup ∧ ∀ l ∈ ls, H l = none ∧ l ≠ D ∧ H2 l = some (.lst [])) ⟨none, [], rfl, rfl, same_new hD, upd_same, rfl, List.nodup_nil, by simp⟩ (fun j σ ys H2 _ ⟨_, _, _, _, _, e, _⟩ => e) ?_ ?_⟩
    · rintro j σ ys H2 hj ⟨u, ls, rfl, rfl, s2, d2, ll, nd, hl⟩
      have hj : j < N := by simpa using hj
      refine ⟨small (by simp), fun p hp => ?_⟩
      have pD : p ≠ D := (ne_of_none d2 hp).symm
      refine ⟨by rw [upd_ne pD.symm]; exact d2, small1000 (by simp; omega), _, ls ++ [p], rfl, by rw [List.map_append]; rfl, same_set (s2.trans (same_new hp)) hD, upd_same, by simp [ll], ?_, fun l hl' => ?_⟩
      · refine List.nodup_append.mpr ⟨nd, List.nodup_cons.mpr ⟨by simp, List.nodup_nil⟩, fun x hx y hy => ?_⟩
        rw [List.mem_singleton.mp hy]
        exact ne_of_none (hl x hx).2.2 hp
      · rcases List.mem_append.mp hl' with q | q
        · obtain ⟨h1, h2, h3⟩ := hl l q
          exact ⟨h1, h2, by rw [upd_ne h2, upd_ne (ne_of_none h3 hp)]; exact h3⟩
        · rw [List.mem_singleton.mp q]
          exact ⟨none_of s2 hp, pD, by rw [upd_ne pD]; exact upd_same⟩
    rintro σ ys H2 ⟨u, ls, rfl, rfl, s2, d2, ll, nd, hl⟩
    have ll : ls.length = N := by simpa using ll
    have B0 : Bes H H2 D ls N (nbrs []) := ⟨s2, d2, ll, nd, fun l h => ⟨(hl l h).1, (hl l h).2.1⟩, fun v l h => ⟨[], (hl l (List.mem_of_getElem? h)).2.2, rfl, fun i r q e => (by simp at e)⟩⟩
    refine ⟨_, rfl, st, rfl, ⟨_, SqT.of (s2 _ _ hst)⟩, for_tup (K := K) (a := st) (xs := rs.map V.ref) (fun i σ H3 => ∃ (u3 u4 u5 u6 : Option V), σ = [some (.int (N : Int)), some (.ref st), some (.ref D), u3, u4, u5, u6] ∧ Bes H H3 D ls N (nbrs (S.take i))) ⟨_, _, _, _, rfl, B0⟩ (fun i σ H3 _ ⟨_, _, _, _, _, B⟩ => SqT.of (B.same _ _ hst)) ?_ ?_⟩
    · rintro i x σ H3 hx ⟨u3, u4, u5, u6, rfl, B⟩
      obtain ⟨r, hr', rfl⟩ := map_some hx
      obtain ⟨t, ht, er⟩ := hrs.get hr'
      have er3 := B.same _ _ er
      have tN := hN t (List.mem_of_getElem? ht)
      have h1 : t.2.1 < ls.length := by omega
      have h2 : t.2.2.1 < ls.length := by omega
      have tk : S.take (i + 1) = S.take i ++ [t] := by rw [List.take_add_one, ht]; rfl
      have nl : ∀ v, (nbrs (S.take i) v).length ≤ 200 := fun v => Nat.le_trans (nbrs_len _ _) (by rw [List.length_take]; omega)
      have l1 := getq h1
      have l2 := getq h2
      obtain ⟨rs1, e1, n1, _⟩ := B.prs _ _ l1
      refine ⟨r, _, rfl, SqT.of er3, rfl, _, _, rfl, _, _, rfl, _, _, rfl, _, _, rfl, rfl, ?_⟩
      refine ⟨_, rfl, _, rfl, D, _, _, .ref ls[t.2.1], rfl, rfl, SqL.of B.hb, atI_nat (by rw [List.getElem?_map, l1]; rfl), .inl ⟨rfl, _, SqL.of e1⟩, _, rfl, _, rfl, small (by simp), fun p hp => ?_⟩
      refine ⟨_, _, _, rfl, rfl, same_new hp _ _ e1, small1000 (by rw [List.length_map]; have := nl t.2.1; omega), ?_⟩
      have B1 := B.app (n := t.1) (u := t.2.2.1) l1 hp e1
      generalize upd (upd H3 p _) _ _ = H4 at B1
      obtain ⟨rs2, e2, n2, _⟩ := B1.prs _ _ l2
      refine ⟨_, rfl, _, rfl, D, _, _, .ref ls[t.2.2.1], rfl, rfl, SqL.of B1.hb, atI_nat (by rw [List.getElem?_map, l2]; rfl), .inl ⟨rfl, _, SqL.of e2⟩, _, rfl, _, rfl, small (by simp), fun p' hp' => ?_⟩
      have n3 : rs2.length ≤ 201 := by
        rw [n2]
        split
        · rw [List.length_append]; have := nl t.2.1; simp only [List.length_cons, List.length_nil]; omega
        · have := nl t.2.2.1; omega
      refine ⟨_, _, _, rfl, rfl, same_new hp' _ _ e2, small1000 (by rw [List.length_map]; omega), _, _, _, _, rfl, ?_⟩
      have B2 := B1.app (n := t.1) (u := t.2.1) l2 hp' e2
      rw [nb_two, ← tk] at B2
      exact B2
    · rintro σ H3 ⟨u3, u4, u5, u6, rfl, B⟩
      rw [List.length_map, hrs.1, List.take_length] at B
      exact ⟨_, rfl, k D H3 B.same ⟨ls, B.hb, B.len, B.prs⟩⟩
theorem scWays : FnScope ["many", "stand", "place", "beside", "ways", "waiting", "here", "name", "there"] ["many", "stand", "place"] (defScope sWays) := ⟨rfl, rfl, rfl, by decide +kernel, rfl, by decide +kernel, by decide +kernel⟩
theorem ok_Ways {f : Addr} {fd : FuncData} (F : Fun K "ways_from" "ways_from" sWays f fd) (T : Txt K mg C I)
    {gBeside : Addr} {fBeside : FuncData} (kBeside : PySem.W.keepIn K (.ref gBeside) = true) (bBeside : Binds K fBeside ["many", "stand"] []) (hBeside : mg "beside_of" = some (.ref gBeside)) (GBeside : FnOk P w K mg base CX0 1 gBeside fBeside ["many", "stand"] spBeside) :
    FnOk P w K mg base CX0 2 f fd ["many", "stand", "place"] spWays := by
  refine F.ok scWays (fun vs H Q E h => ?_) (fun cdv A outer s H vs Q E hr h => ?_)
  · obtain ⟨_, _, _, _, rfl, _⟩ := h; rfl
  · obtain ⟨N, st, S, p, rfl, hst, hN, N60, S100, pN, k⟩ := h
    refine ⟨_, pss_cons (ps_set (i := 3) scWays.nd rfl (Or.inl rfl) (pe_call GBeside hr rfl hBeside kBeside bBeside .nil pass0 (pa_cons (pv 0) (pa_cons (pv 1) pa_nil))))
      (pss_cons (ps_set (i := 4) scWays.nd rfl (Or.inl rfl) (pe_op op_rep (pe_lst (pa_cons pe_non pa_nil)) (pv 0)))
      (pss_cons (ps_asg (pe_tup pa_nil) (pg_sub (pv 4) (pv 2) set_list))
      (pss_cons (ps_set (i := 5) scWays.nd rfl (Or.inl rfl) (pe_lst (pa_cons (pv 2) pa_nil)))
      (pss_cons (ps_while PassesOwn.never (pt_truth (pv 5) (fun _ => rfl)) (pss_cons (ps_set (i := 6) scWays.nd rfl (Or.inl rfl) (pe_bm PySem.F.plainAttrs_list PySem.F.slot_list_pop PySem.F.type_list_pop mt_popAt (pv 5) (pa_cons pe_int pa_nil)))
      (pss_one (ps_for PassesOwn.never rfl (pi_list (pe_ix ix_list (pv 3) (pv 6) (fun _ _ => rfl))) (pg_tup rfl (pgs_cons (pg_name (i := 7) scWays.nd rfl (Or.inl rfl)) (pgs_cons (pg_name (i := 8) scWays.nd rfl (Or.inl rfl)) pgs_nil))) (pss_one (ps_if (pt_cmpR op_isN (pe_ix ix_list (pv 4) (pv 8) (fun _ _ => rfl)) pe_non (nomark _)) (pss_cons (ps_asg (pe_op op_catTT (pe_ix ix_list (pv 4) (pv 6) (fun _ _ => rfl)) (pe_tup (pa_cons (pv 7) pa_nil))) (pg_sub (pv 4) (pv 8) set_list))
      (pss_one (ps_expr (pe_bm PySem.F.plainAttrs_list PySem.F.slot_list_append PySem.F.type_list_append mt_append (pv 5) (pa_cons (pv 8) pa_nil))))) pss_nil))))))
      (pss_one (ps_ret (pv 4))))))), ?_⟩
    refine ⟨_, rfl, _, rfl, N, st, S, rfl, hst, hN, N60, S100, fun b H1 s1 hb => ?_⟩
    refine ⟨small (by simp), fun q hq => ⟨_, rfl, q, _, _, rfl, rfl, upd_same, by omega, by omega, small (by simp only [List.length_cons, List.length_nil]; omega), fun ws hws => ?_⟩⟩
    have fl : (List.replicate (N : Int).toNat [V.non]).flatten = List.replicate N V.non := by rw [List.flatten_replicate_singleton]; rfl
    rw [fl]
    have s2 := (same_new (H := H1) (o := .lst [.non]) hq).trans (same_new (o := .lst (List.replicate N V.non)) hws)
    have nw : H1 ws = none := none_of (same_new (H := H1) (o := .lst [.non]) hq) hws
    have e2 := upd_same (H := upd H1 q (.lst [.non])) (a := ws) (o := .lst (List.replicate N V.non))
    generalize upd (upd H1 q (.lst [.non])) ws (.lst (List.replicate N V.non)) = H2 at s2 e2
    have W2 : WaysAt H2 ws (List.replicate N none) := ⟨_, e2, by simp, fun i x o hx ho => by
      rw [List.getElem?_replicate] at hx ho
      split at hx
      · rename_i hi
        rw [if_pos hi] at ho
        cases hx
        cases ho
        rfl
      · cases hx⟩
    refine ⟨small (by simp), fun e he => ?_⟩
    have s3 := same_new (o := .tup []) he
    have W3 := W2.same s3
    have e3 := s3 _ _ e2
    have t3 := upd_same (H := H2) (a := e) (o := .tup [])
    generalize upd H2 e (.tup []) = H3 at s3 W3 e3 t3
    have W4 : WaysAt (upd H3 ws (.lst ((List.replicate N V.non).set p (.ref e)))) ws (binit N p).1 := WaysAt.set (w := []) W3 e3 t3
    have s4 : Same H1 (upd H3 ws (.lst ((List.replicate N V.non).set p (.ref e)))) := same_set (s2.trans s3) nw
    refine ⟨_, rfl, _, rfl, ws, _, _, p, rfl, rfl, e3, (by have h : ixN (List.replicate N V.non).length (p : Int) = some p := ixN_nat (by simpa using pN); exact h), ?_⟩
    generalize upd H3 ws _ = H4 at W4 s4
    refine ⟨_, rfl, small (by simp), fun wt hwt => ?_⟩
    have s5 := s4.trans (same_new (o := .lst [.int (p : Int)]) hwt)
    have nt : H1 wt = none := none_of s4 hwt
    have W5 := W4.same (same_new (o := .lst [.int (p : Int)]) hwt)
    have t5 := upd_same (H := H4) (a := wt) (o := .lst [.int (p : Int)])
    have wwt : ws ≠ wt := by obtain ⟨xs, hx, _⟩ := W4; exact ne_of_none hx hwt
    generalize upd H4 wt (.lst [.int (p : Int)]) = H5 at s5 W5 t5
    dsimp only [gName, tSeq]
    refine while_gh (fun m σ H6 => ∃ (i : Nat) (u6 u7 u8 : Option V) (wl : Ws) (tl : List Nat), σ = [some (.int (N : Int)), some (.ref st), some (.int (p : Int)), some (.ref b), some (.ref ws), some (.ref wt), u6, u7, u8] ∧ Same H1 H6 ∧ H6 wt = some (.lst ((tl.map Int.ofNat).map V.int)) ∧ WaysAt H6 ws wl ∧ iter S i (binit N p) = (wl, tl) ∧ BInv S N p (wl, tl) ∧ m = nones wl + tl.length ∧ i + m ≤ 64 ∧ tl.length ≤ 64 ∧ ∀ v x, Wk.Vis wl v x → x.length ≤ i)
      (m0 := nones (binit N p).1 + 1) ⟨0, _, _, _, (binit N p).1, [p], rfl, s5, t5, W5, rfl, binv0 pN, rfl, ?_, by simp, fun v x q => by rw [binit_vis pN q]; simp⟩ ?_ ?_
    · have : nones (binit N p).1 ≤ (binit N p).1.length := List.countP_le_length
      simp only [binit, List.length_set, List.length_replicate] at this ⊢
      omega
    · rintro m σ H6 ⟨i, u6, u7, u8, wl, tl, rfl, s6, t6, W6, it6, I6, hm, hi, tl6, sh6⟩
      refine ⟨_, rfl, _, .inl ⟨_, SqL.of t6, rfl⟩, ?_⟩
      cases tl with
      | nil =>
        refine iteF ?_
        rw [← ways_of it6 (by omega)] at W6
        exact ⟨_, rfl, k ws H6 (s1.trans s6) W6⟩
      | cons h rest =>
        refine iteT ?_
        obtain ⟨w0, hv0, J⟩ := pinv_of I6
        have hh : h < N := by have := (List.getElem?_eq_some_iff.mp hv0).1; rw [← I6.len]; exact this
        refine ⟨_, rfl, .inl ⟨rfl, _, SqL.of t6⟩, wt, _, 0, 0, .int (h : Int), rfl, rfl, t6, by decide, by decide, by simp [seqIndex?], rfl, ?_⟩
        have W7 := W6.keep (zs := (rest.map Int.ofNat).map V.int) t6 wwt
        have s7 : Same H1 (upd H6 wt (.lst ((rest.map Int.ofNat).map V.int))) := same_set s6 nt
        have t7 := upd_same (H := H6) (a := wt) (o := .lst ((rest.map Int.ofNat).map V.int))
        have eH : upd H6 wt (.lst (List.eraseIdx (List.map V.int (List.map Int.ofNat (h :: rest))) 0)) = upd H6 wt (.lst ((rest.map Int.ofNat).map V.int)) := rfl
        rw [eH]
        generalize upd H6 wt (.lst ((rest.map Int.ofNat).map V.int)) = H7 at W7 s7 t7
        obtain ⟨ls, hls, lls, hpr⟩ := hb.same s7
        have hl := getq (l := ls) (i := h) (by omega)
        obtain ⟨rs, er, lr, hr3⟩ := hpr h _ hl
        have w0len : w0.length ≤ 64 := by have := sh6 h w0 hv0; omega
        refine ⟨_, rfl, _, rfl, b, _, _, .ref ls[h], rfl, rfl, SqL.of hls, atI_nat (by rw [List.getElem?_map, hl]; rfl), _, rfl, ⟨_, SqL.of er⟩, ?_⟩
        have key : ∀ H8, Same H1 H8 → H8 ls[h] = some (.lst (rs.map V.ref)) ∧ ∀ (i : Nat) r q, rs[i]? = some r → (nbrs S h)[i]? = some q → H8 r = some (.tup [.str q.1, .int (q.2 : Int)]) := by
          intro H8 s8
          obtain ⟨ls', hls', _, hpr'⟩ := hb
          have e1 : ls' = ls := by
            have := s7 _ _ hls'
            rw [hls] at this
            injection this with this
            injection this with this
            exact (refs_inj this).symm
          subst e1
          obtain ⟨rs', er', lr', hr'⟩ := hpr' h _ hl
          have e2 : rs' = rs := by
            have := s7 _ _ er'
            rw [er] at this
            injection this with this
            injection this with this
            exact (refs_inj this).symm
          subst e2
          exact ⟨s8 _ _ er', fun i r q e f => s8 _ _ (hr' i r q e f)⟩
        refine for_list (K := K) (a := ls[h]) (xs := rs.map V.ref) (fun j σ H8 => ∃ (u7 u8 : Option V), σ = [some (.int (N : Int)), some (.ref st), some (.int (p : Int)), some (.ref b), some (.ref ws), some (.ref wt), some (.int (h : Int)), u7, u8] ∧ Same H1 H8 ∧ H8 wt = some (.lst (((visit w0 ((nbrs S h).take j) (wl, rest)).2.map Int.ofNat).map V.int)) ∧ WaysAt H8 ws (visit w0 ((nbrs S h).take j) (wl, rest)).1)
          ⟨_, _, rfl, s7, t7, W7⟩ (fun j σ H8 _ ⟨_, _, _, s8, _⟩ => SqL.of (key H8 s8).1) ?_ ?_
        · rintro j x σ H8 hx ⟨u7', u8', rfl, s8, t8, W8⟩
          obtain ⟨r, hr', rfl⟩ := map_some hx
          have hj : j < (nbrs S h).length := by rw [← lr]; exact (List.getElem?_eq_some_iff.mp hr').1
          have hq := getq hj
          have er8 := (key H8 s8).2 j r _ hr' hq
          have tk : (nbrs S h).take (j + 1) = (nbrs S h).take j ++ [(nbrs S h)[j]] := by rw [List.take_add_one, hq]; rfl
          have qN : ((nbrs S h)[j]).2 < N := nb_lt hN (List.getElem_mem hj)
          have jl : j < 201 := by have := nbrs_len S h; omega
          obtain ⟨vl1, vl2⟩ := visit_len w0 ((nbrs S h).take j) (wl, rest)
          have vh := visit_vis w0 ((nbrs S h).take j) (wl, rest) hv0
          rw [tk, visit_snoc]
          generalize (nbrs S h)[j] = q at er8 qN
          generalize visit w0 ((nbrs S h).take j) (wl, rest) = st' at *
          obtain ⟨wl', tl'⟩ := st'
          dsimp only at *
          have qw : q.2 < wl'.length := by rw [vl1]; show _ < wl.length; rw [I6.len]; exact qN
          refine ⟨r, _, rfl, SqT.of er8, rfl, _, _, rfl, _, _, rfl, rfl, ?_⟩
          obtain ⟨xs, x, hxs, hx', lxs, hxo⟩ := W8.get (getq qw)
          refine ⟨_, rfl, _, rfl, ws, _, _, x, rfl, rfl, SqL.of hxs, atI_nat hx', rfl, _, rfl, ?_⟩
          cases ho : wl'[q.2] with
          | some z =>
            rw [ho] at hxo
            obtain ⟨rz, rfl, _⟩ := hxo
            rw [vis1_no (by dsimp only; rw [getq qw, ho]; simp)]
            refine ite2 (fun g => absurd g (by simp)) fun _ => ?_
            exact ⟨_, _, rfl, s8, t8, W8⟩
          | none =>
            rw [ho] at hxo
            have hxo : x = .non := hxo
            subst hxo
            rw [vis1_yes (by dsimp only; rw [getq qw, ho])]
            refine ite2 (fun _ => ?_) fun g => absurd (by simp) g
            obtain ⟨xs2, x2, hxs2, hx2, _, hxo2⟩ := W8.get vh
            obtain ⟨r0, rfl, er0⟩ := hxo2
            rw [hxs] at hxs2
            injection hxs2 with hxs2
            injection hxs2 with hxs2
            subst hxs2
            have tl9 : ((tl'.map Int.ofNat).map V.int).length ≤ 1000 := by
              simp only [List.length_map, List.length_take, List.length_cons] at vl2 tl6 ⊢
              omega
            refine ⟨_, rfl, _, rfl, ws, _, _, .ref r0, rfl, rfl, SqL.of hxs, atI_nat hx2, _, rfl, small (by simp), fun p1 hp1 => ?_⟩
            have s9 := same_new (o := .tup [.str q.1]) hp1
            have p9 := upd_same (H := H8) (a := p1) (o := .tup [.str q.1])
            have w9 : w0.length ≤ 100 := by
              have := (J.ht h w0 J.hv); have := w0len; omega
            generalize upd H8 p1 (.tup [.str q.1]) = H9 at s9 p9
            refine ⟨r0, p1, _, _, rfl, rfl, SqT.of (s9 _ _ er0), SqT.of p9, small (by simp; omega), fun e => ?_, fun _ e => absurd e (by simp), fun _ _ p2 hp2 => ?_⟩
            · have e0 : w0 = [] := by simpa using e
              have e9 : H9 p1 = some (.tup ((w0 ++ [q.1]).map V.str)) := by rw [e0]; exact p9
              have hxs9 := s9 _ _ hxs
              have W9 := (W8.same s9).set (u := q.2) hxs9 e9
              have t9 := s9 _ _ t8
              refine ⟨_, rfl, _, rfl, ws, _, _, q.2, rfl, rfl, hxs9, ixN_nat (by omega), ?_⟩
              have s10 : Same H1 (upd H9 ws (.lst (xs.set q.2 (.ref p1)))) := same_set (s8.trans s9) nw
              have t10 : upd H9 ws (.lst (xs.set q.2 (.ref p1))) wt = some (.lst ((tl'.map Int.ofNat).map V.int)) := by rw [upd_ne wwt.symm]; exact t9
              generalize upd H9 ws (.lst (xs.set q.2 (.ref p1))) = H10 at W9 s10 t10
              refine ⟨_, rfl, .inl ⟨rfl, _, SqL.of t10⟩, _, rfl, wt, _, _, rfl, rfl, t10, small1000 tl9, _, _, rfl, same_set s10 nt, ?_, W9.keep t10 wwt⟩
              rw [upd_same, List.map_append, List.map_append]; rfl
            · have e9 : upd H9 p2 (.tup (w0.map V.str ++ [.str q.1])) p2 = some (.tup ((w0 ++ [q.1]).map V.str)) := by rw [upd_same, List.map_append]; rfl
              have s9 := s9.trans (same_new (o := .tup (w0.map V.str ++ [.str q.1])) hp2)
              generalize upd H9 p2 (.tup (w0.map V.str ++ [.str q.1])) = H9 at s9 e9
              have hxs9 := s9 _ _ hxs
              have W9 := (W8.same s9).set (u := q.2) hxs9 e9
              have t9 := s9 _ _ t8
              refine ⟨_, rfl, _, rfl, ws, _, _, q.2, rfl, rfl, hxs9, ixN_nat (by omega), ?_⟩
              have s10 : Same H1 (upd H9 ws (.lst (xs.set q.2 (.ref p2)))) := same_set (s8.trans s9) nw
              have t10 : upd H9 ws (.lst (xs.set q.2 (.ref p2))) wt = some (.lst ((tl'.map Int.ofNat).map V.int)) := by rw [upd_ne wwt.symm]; exact t9
              generalize upd H9 ws (.lst (xs.set q.2 (.ref p2))) = H10 at W9 s10 t10
              refine ⟨_, rfl, .inl ⟨rfl, _, SqL.of t10⟩, _, rfl, wt, _, _, rfl, rfl, t10, small1000 tl9, _, _, rfl, same_set s10 nt, ?_, W9.keep t10 wwt⟩
              rw [upd_same, List.map_append, List.map_append]; rfl
        · rintro σ H8 ⟨u7', u8', rfl, s8, t8, W8⟩
          rw [List.length_map, lr, List.take_length] at t8 W8
          have eb : bstep S (wl, h :: rest) = visit w0 (nbrs S h) (wl, rest) := by
            show visit ((wl[h]?.join).getD []) (nbrs S h) (wl, rest) = _
            unfold Wk.Vis at hv0
            rw [hv0]; rfl
          obtain ⟨I8, m8⟩ := bstep_ok hN I6
          have sh8 := bstep_short hN I6 sh6
          have it8 : iter S (i + 1) (binit N p) = visit w0 (nbrs S h) (wl, rest) := by rw [iter_snoc, it6, eb]
          rw [eb] at I8 m8 sh8
          generalize visit w0 (nbrs S h) (wl, rest) = st' at *
          obtain ⟨wl', tl'⟩ := st'
          dsimp only at *
          refine ⟨nones wl' + tl'.length, by omega, i + 1, _, _, _, wl', tl', rfl, s8, t8, W8, it8, I8, rfl, by omega, by omega, sh8⟩
    · rintro σ H6 Q Q' f ⟨v, e, b', h', q⟩
      exact ⟨v, e, b', h', f _ _ q⟩
theorem scPart : FnScope ["many", "stand", "place", "ways"] ["many", "stand", "place"] (defScope sPart) := ⟨rfl, rfl, rfl, by decide +kernel, rfl, by decide +kernel, by decide +kernel⟩
theorem ok_Part {f : Addr} {fd : FuncData} (F : Fun K "part_of" "part_of" sPart f fd) (T : Txt K mg C I)
    {gWays : Addr} {fWays : FuncData} (kWays : PySem.W.keepIn K (.ref gWays) = true) (bWays : Binds K fWays ["many", "stand", "place"] []) (hWays : mg "ways_from" = some (.ref gWays)) (GWays : FnOk P w K mg base CX0 2 gWays fWays ["many", "stand", "place"] spWays) :
    FnOk P w K mg base CX0 3 f fd ["many", "stand", "place"] spPart := by
  refine F.ok scPart (fun vs H Q E h => ?_) (fun cdv A outer s H vs Q E hr h => ?_)
  · obtain ⟨_, _, _, _, rfl, _⟩ := h; rfl
  · obtain ⟨N, st, S, p, rfl, hst, hN, N60, S100, pN, k⟩ := h
    refine ⟨_, pss_cons (ps_set (i := 3) scPart.nd rfl (Or.inr rfl) (pe_call GWays hr rfl hWays kWays bWays .nil pass0 (pa_cons (pv 0) (pa_cons (pv 1) (pa_cons (pv 2) pa_nil)))))
      (pss_one (ps_ret (pe_callTy call_tuple_of (by rfl) T.tuple (by decide +kernel) (pa_cons (pe_comp (T := ["there"]) (F := ["ways"]) (js := [3]) (CS.to (osc := defScope sPart) ⟨by rfl, by decide +kernel, by decide +kernel, by decide +kernel, by decide +kernel, by decide +kernel, by decide +kernel⟩ rfl rfl) rfl (pi_range1 rfl T.range (pa_cons (pv 0) pa_nil)) (fun _ _ _ _ _ => pg_name (i := 0) (show (["there", "ways"] : List Str).Nodup by decide +kernel) rfl (Or.inl rfl)) (fun _ _ _ _ _ => pif_one (pt_cmpR op_notN (pe_ix (r := rIxL K) ix_list (pv 1) (pv 0) (fun _ _ => rfl)) pe_non (nomark _))) (fun _ _ _ _ _ => pv 0)) pa_nil)))), ?_⟩
    refine ⟨_, rfl, _, rfl, _, rfl, N, st, S, p, rfl, hst, hN, N60, S100, pN, fun a H1 s1 W1 => ?_⟩
    have wl := ways_len hN pN N60
    refine ⟨_, rfl, (N : Int), rfl, by omega, by omega, fun D hD => comp_range (lo := 0) (n := (N : Int).toNat) (fun j σ ys H2 => ∃ (u : Option V), σ = [u, some (.ref a)] ∧ ys = ((((List.range j).filter fun v => ((waysF N S p)[v]?.join).isSome).map Int.ofNat).map V.int) ∧ H2 = upd H1 D (.lst ys)) ⟨none, rfl, rfl, rfl⟩ (fun j σ ys H2 _ ⟨_, _, _, e⟩ => by rw [e]; exact upd_same) ?_ ?_⟩
    · rintro j σ ys H2 hj ⟨u, rfl, rfl, rfl⟩
      have hj : j < N := by simpa using hj
      have hjw : j < (waysF N S p).length := by omega
      obtain ⟨xs, x, hxs, hx, lx, hxo⟩ := (W1.same (same_new (o := .lst ((((List.range j).filter fun v => ((waysF N S p)[v]?.join).isSome).map Int.ofNat).map V.int)) hD)).get (getq hjw)
      refine ⟨_, rfl, _, rfl, a, _, _, x, rfl, rfl, SqL.of hxs, by rw [Int.zero_add]; exact atI_nat hx, rfl, _, rfl, ?_⟩
      have lf : ((List.range j).filter fun v => ((waysF N S p)[v]?.join).isSome).length ≤ 60 := Nat.le_trans (List.length_filter_le _ _) (by rw [List.length_range]; omega)
      cases ho : (waysF N S p)[j] with
      | none =>
        rw [ho] at hxo
        have hxo : x = .non := hxo
        subst hxo
        refine ite2 (fun g => absurd g (by simp)) fun _ => ⟨_, rfl, ?_, ?_⟩
        · rw [List.range_succ, List.filter_append]; simp [getq hjw, ho]
        · rfl
      | some z =>
        rw [ho] at hxo
        obtain ⟨r, rfl, _⟩ := hxo
        refine ite2 (fun _ => ⟨_, rfl, upd_same, small1000 (by simp only [List.length_map]; omega), _, rfl, ?_, by rw [upd_upd]⟩) fun g => absurd (by simp) g
        rw [List.range_succ, List.filter_append, List.map_append, List.map_append]
        simp [getq hjw, ho]
    · rintro σ ys H2 ⟨u, rfl, rfl, rfl⟩
      exact ⟨D, _, rfl, .inl ⟨SqL.of upd_same, fun l hl => k l _ (s1.trans ((same_new hD).trans (same_new hl))) upd_same⟩⟩
theorem scJoined : FnScope ["many", "stand", "one", "other"] ["many", "stand", "one", "other"] (defScope sJoined) := ⟨rfl, rfl, rfl, by decide +kernel, rfl, by decide +kernel, by decide +kernel⟩
theorem ok_Joined {f : Addr} {fd : FuncData} (F : Fun K "are_joined" "are_joined" sJoined f fd) (T : Txt K mg C I)
    {gPart : Addr} {fPart : FuncData} (kPart : PySem.W.keepIn K (.ref gPart) = true) (bPart : Binds K fPart ["many", "stand", "place"] []) (hPart : mg "part_of" = some (.ref gPart)) (GPart : FnOk P w K mg base CX0 3 gPart fPart ["many", "stand", "place"] spPart) :
    FnOk P w K mg base CX0 4 f fd ["many", "stand", "one", "other"] spJoined := by
  refine F.ok scJoined (fun vs H Q E h => ?_) (fun cdv A outer s H vs Q E hr h => ?_)
  · obtain ⟨_, _, _, _, _, rfl, _⟩ := h; rfl
  · obtain ⟨N, st, S, p, q, rfl, hst, hN, N60, S100, pN, k⟩ := h
    refine ⟨_, pss_one (ps_ret (pe_cmpR op_in_seq (pv 3) (pe_call GPart hr rfl hPart kPart bPart .nil pass0 (pa_cons (pv 0) (pa_cons (pv 1) (pa_cons (pv 2) pa_nil)))) (by rfl))), ?_⟩
    refine ⟨_, rfl, _, rfl, _, rfl, _, rfl, N, st, S, p, rfl, hst, hN, N60, S100, pN, fun a H1 s1 e1 => ⟨a, _, rfl, .inr (SqT.of e1), rfl, flat_ints _, ?_⟩⟩
    have e : inV (.int (q : Int)) (((partF N S p).map Int.ofNat).map V.int) = decide (q ∈ partF N S p) := by
      rw [inV_ints, Bool.eq_iff_iff, decide_eq_true_eq, decide_eq_true_eq, List.mem_map]
      constructor
      · rintro ⟨x, hx, e⟩
        have : x = q := by have : (x : Int) = q := e; omega
        rw [← this]; exact hx
      · intro h; exact ⟨q, h, rfl⟩
    show Q (.bl (inV (.int (q : Int)) (((partF N S p).map Int.ofNat).map V.int))) H1
    rw [e]
    exact k _ s1
theorem scPartsOf : FnScope ["many", "stand", "parts"] ["many", "stand"] (defScope sPartsOf) := ⟨rfl, rfl, rfl, by decide +kernel, rfl, by decide +kernel, by decide +kernel⟩
theorem ok_PartsOf {f : Addr} {fd : FuncData} (F : Fun K "parts_of" "parts_of" sPartsOf f fd) (T : Txt K mg C I)
    {gPart : Addr} {fPart : FuncData} (kPart : PySem.W.keepIn K (.ref gPart) = true) (bPart : Binds K fPart ["many", "stand", "place"] []) (hPart : mg "part_of" = some (.ref gPart)) (GPart : FnOk P w K mg base CX0 3 gPart fPart ["many", "stand", "place"] spPart) :
    FnOk P w K mg base CX0 4 f fd ["many", "stand"] spPartsOf := by
  refine F.ok scPartsOf (fun vs H Q E h => ?_) (fun cdv A outer s H vs Q E hr h => ?_)
  · obtain ⟨_, _, _, rfl, _⟩ := h; rfl
  · obtain ⟨N, st, S, rfl, hst, hN, N60, S100, k⟩ := h
    refine ⟨_, pss_cons (ps_comp (i := 2) (T := ["place"]) (F := ["many", "stand"]) (js := [0, 1]) scPartsOf.nd rfl (Or.inl rfl) (CS.to (osc := defScope sPartsOf) ⟨by rfl, by decide +kernel, by decide +kernel, by decide +kernel, by decide +kernel, by decide +kernel, by decide +kernel⟩ rfl rfl) rfl (pi_range1 rfl T.range (pa_cons (pv 0) pa_nil)) (fun _ _ _ _ _ => pg_name (i := 0) (show (["place", "many", "stand"] : List Str).Nodup by decide +kernel) rfl (Or.inl rfl)) (fun _ _ _ _ _ => pif_nil) (fun _ _ _ _ _ => pe_call GPart hr rfl hPart kPart bPart .nil pass0 (pa_cons (pv 1) (pa_cons (pv 2) (pa_cons (pv 0) pa_nil)))))
      (pss_one (ps_ret (pe_callTy call_tuple_of (by rfl) T.tuple (by decide +kernel) (pa_cons (pe_comp (T := ["place", "part"]) (F := []) (js := []) (CS.to (osc := defScope sPartsOf) ⟨by rfl, by decide +kernel, by decide +kernel, by decide +kernel, by decide +kernel, by decide +kernel, by decide +kernel⟩ rfl rfl) rfl (pi_enumL rfl T.enumerate (pa_cons (pv 2) pa_nil)) (fun _ _ _ _ _ => pg_tupK K 2 rfl rfl (pgs_cons (pg_name (i := 0) (show (["place", "part"] : List Str).Nodup by decide +kernel) rfl (Or.inl rfl)) (pgs_cons (pg_name (i := 1) (show (["place", "part"] : List Str).Nodup by decide +kernel) rfl (Or.inl rfl)) pgs_nil))) (fun _ _ _ _ _ => pif_one (pt_cmpR op_eq (pe_ix (r := rIxT K) ix_tup (pv 1) pe_int (fun _ _ => rfl)) (pv 0) (nomark _))) (fun _ _ _ _ _ => pv 1)) pa_nil)))), ?_⟩
    refine ⟨_, rfl, (N : Int), rfl, by omega, by omega, fun D hD => comp_range (lo := 0) (n := (N : Int).toNat) (fun j σ ys H2 => ∃ (u : Option V) (ls : List Addr), σ = [u, some (.int (N : Int)), some (.ref st)] ∧ ys = ls.map V.ref ∧ Same H H2 ∧ H2 D = some (.lst ys) ∧ PtsAt H2 ls N S (List.range j)) ⟨none, [], rfl, rfl, same_new hD, upd_same, rfl, fun i r p e => by simp at e⟩ (fun j σ ys H2 _ ⟨_, _, _, _, _, e, _⟩ => e) ?_ ?_⟩
    · rintro j σ ys H2 hj ⟨u, ls, rfl, rfl, s2, d2, p2⟩
      have hj : j < N := by simpa using hj
      have ll : ls.length = j := by rw [p2.1, List.length_range]
      refine ⟨_, rfl, _, rfl, _, rfl, N, st, S, j, by rw [Int.zero_add]; rfl, hst.same s2, hN, N60, S100, hj, fun r H3 s3 e3 => ?_⟩
      have d3 := s3 _ _ d2
      refine ⟨d3, small1000 (by rw [List.length_map]; omega), _, ls ++ [r], rfl, by rw [List.map_append]; rfl, same_set (s2.trans s3) hD, upd_same, ?_⟩
      rw [List.range_succ]
      have kp : ∀ (r : Addr) (zs : List V) (o : HO), H3 r = some (.tup zs) → upd H3 D o r = some (.tup zs) := fun r zs o e => by rw [upd_ne (ne_of e d3 (by intro z; cases z))]; exact e
      exact pts_snoc ((p2.mono fun r zs e => s3 _ _ e).mono fun r zs e => kp r zs _ e) (kp _ _ _ e3)
    rintro σ ys H2 ⟨u, ls, rfl, rfl, s2, d2, p2⟩
    have en : (N : Int).toNat = N := by omega
    rw [en] at p2
    have ll : ls.length = N := by rw [p2.1, List.length_range]
    refine ⟨_, rfl, D, _, rfl, SqL.of d2, fun E hE => comp_enum (K := K) (a := D) (xs := ls.map V.ref) (fun j σ ys H5 => ∃ (u v : Option V) (qs : List Addr), σ = [u, v] ∧ Same H2 H5 ∧ H5 E = some (.lst ys) ∧ ys = qs.map V.ref ∧ PtsAt H5 qs N S ((List.range j).filter fun p => decide ((partF N S p)[0]? = some p))) ⟨none, none, [], rfl, same_new hE, upd_same, rfl, rfl, fun i r p e => by simp at e⟩ (fun j σ ys H5 _ ⟨_, _, _, _, s5, e, _⟩ => ⟨SqL.of (s5 _ _ d2), e⟩) ?_ ?_⟩
    · rintro j x σ ys H5 T hx ⟨u, v, qs, rfl, s5, e5, rfl, p5⟩ hT
      obtain ⟨r, er, rfl⟩ := map_some hx
      have hj : j < N := by rw [← ll]; exact (List.getElem?_eq_some_iff.mp er).1
      have s6 := same_new (o := .tup [.int (j : Int), .ref r]) hT
      have T6 := upd_same (H := H5) (a := T) (o := .tup [.int (j : Int), .ref r])
      have e6 := s6 _ _ e5
      have p6 := p5.mono fun r zs e => s6 _ _ e
      generalize upd H5 T (.tup [.int (j : Int), .ref r]) = H6 at s6 T6 e6 p6
      have S6 := s5.trans s6
      have r6 := S6 _ _ (p2.2 j r j er (List.getElem?_range hj))
      refine ⟨T, _, rfl, SqT.of T6, rfl, _, _, rfl, _, _, rfl, rfl, ?_⟩
      have h0 : 0 < (partF N S j).length := List.length_pos_of_mem (part_self hN hj N60)
      have hg := getq h0
      generalize (partF N S j)[0] = q at hg
      refine ⟨_, rfl, r, _, 0, _, rfl, rfl, SqT.of r6, nV_at (k := 0) hg, _, rfl, rfl, _, rfl, ?_⟩
      have ql : qs.length ≤ 100 := by
        rw [p5.1]
        refine Nat.le_trans (List.length_filter_le _ _) ?_
        rw [List.length_range]; omega
      by_cases g : q = j
      · rw [show decide (V.int (q : Int) = V.int (j : Int)) = true from decide_eq_true (by rw [g])]
        have ef : (List.range (j + 1)).filter (fun p => decide ((partF N S p)[0]? = some p)) = (List.range j).filter (fun p => decide ((partF N S p)[0]? = some p)) ++ [j] := by
          rw [List.range_succ, List.filter_append, List.filter_cons_of_pos (by rw [decide_eq_true_eq, hg, g]), List.filter_nil]
        have kp : ∀ (r : Addr) (zs : List V) (o : HO), H6 r = some (.tup zs) → upd H6 E o r = some (.tup zs) := fun r zs o e => by rw [upd_ne (ne_of e e6 (by intro z; cases z))]; exact e
        refine iteT ⟨_, rfl, e6, small1000 (by rw [List.length_map]; omega), _, _, qs ++ [r], rfl, same_set S6 hE, upd_same, by rw [List.map_append]; rfl, ?_⟩
        rw [ef]
        exact pts_snoc (p6.mono fun r zs e => kp r zs _ e) (kp _ _ _ r6)
      · rw [show decide (V.int (q : Int) = V.int (j : Int)) = false from decide_eq_false (fun e => g (by injection e with e; omega))]
        have ef : (List.range (j + 1)).filter (fun p => decide ((partF N S p)[0]? = some p)) = (List.range j).filter (fun p => decide ((partF N S p)[0]? = some p)) := by
          rw [List.range_succ, List.filter_append, List.filter_cons_of_neg (by rw [decide_eq_true_eq, hg]; intro z; exact g (Option.some.inj z)), List.filter_nil, List.append_nil]
        refine iteF ⟨_, _, qs, rfl, S6, e6, rfl, ?_⟩
        rw [ef]; exact p6
    · rintro σ ys H5 ⟨u, v, qs, rfl, s5, e5, rfl, p5⟩
      rw [List.length_map, ll] at p5
      refine ⟨E, _, rfl, .inl ⟨SqL.of e5, fun l hl => ?_⟩⟩
      exact k l qs _ ((s2.trans s5).trans (same_new hl)) upd_same (p5.mono fun r zs e => same_new hl _ _ e)
end
end K22
set_option maxHeartbeats 1000000
namespace Wk
open PySem L2
noncomputable def leastB (P : List T4) (v : Nat) : Bool := @decide (∀ u, u < v → ¬ Reach P u v) (Classical.propDecidable _)
noncomputable def clsF (N : Nat) (P : List T4) : Nat := (List.range N).countP (leastB P)
theorem least_iff {P : List T4} {v : Nat} : leastB P v = true ↔ ∀ u, u < v → ¬ Reach P u v := by
  unfold leastB
  exact @decide_eq_true_iff _ (Classical.propDecidable _)
theorem cls_congr {N : Nat} {P R : List T4} (h : ∀ a b, a < N → b < N → (Reach P a b ↔ Reach R a b)) : clsF N P = clsF N R := by
  unfold clsF
  refine List.countP_congr fun v hv => ?_
  have hv := List.mem_range.mp hv
  rw [least_iff, least_iff]
  exact ⟨fun q u hu r => q u hu ((h u v (by omega) hv).mpr r), fun q u hu r => q u hu ((h u v (by omega) hv).mp r)⟩
theorem cls_nil (N : Nat) : clsF N [] = N := by
  unfold clsF
  have : ∀ v ∈ List.range N, leastB [] v = true := fun v _ => by
    rw [least_iff]
    rintro u hu ⟨x, hx⟩
    cases hx with
    | nil => omega
    | snoc _ q => simp [nbrs] at q
  rw [List.countP_eq_length.mpr this, List.length_range]
theorem least_of {P : List T4} : ∀ v : Nat, ∃ m, m ≤ v ∧ Reach P m v ∧ leastB P m = true := by
  intro v
  induction v using Nat.strongRecOn with
  | _ v ih =>
    by_cases h : leastB P v = true
    · exact ⟨v, Nat.le_refl _, .refl, h⟩
    · rw [least_iff] at h
      simp only [Classical.not_forall, Classical.not_not] at h
      obtain ⟨u, hu, r⟩ := h
      obtain ⟨m, hm, rm, lm⟩ := ih u hu
      exact ⟨m, by omega, rm.trans r, lm⟩
theorem least_uniq {P : List T4} {m n : Nat} (hm : leastB P m = true) (hn : leastB P n = true) (r : Reach P m n) : m = n := by
  rw [least_iff] at hm hn
  rcases Nat.lt_trichotomy m n with h | h | h
  · exact absurd r (hn m h)
  · exact h
  · exact absurd r.symm (hm n h)
theorem reach_snoc {P : List T4} {t : T4} {a b : Nat} : Reach (P ++ [t]) a b ↔ Reach P a b ∨ (Reach P a t.2.1 ∧ Reach P t.2.2.1 b) ∨ (Reach P a t.2.2.1 ∧ Reach P t.2.1 b) := by
  have mono : ∀ {a b}, Reach P a b → Reach (P ++ [t]) a b := fun r => r.mono fun x hx => List.mem_append_left _ hx
  have tie : Reach (P ++ [t]) t.2.1 t.2.2.1 := .step (nb_of (List.mem_append_right _ (List.mem_singleton.mpr rfl)))
  constructor
  · rintro ⟨x, hx⟩
    induction hx with
    | nil => exact .inl .refl
    | @snoc ws b c n _ q ih =>
      obtain ⟨t', ht', _, hh⟩ := nb_elim q
      rcases List.mem_append.mp ht' with ht' | ht'
      · have st : Reach P b c := by
          rcases hh with ⟨rfl, rfl⟩ | ⟨rfl, rfl⟩
          · exact .step (nb_of ht')
          · exact (Reach.step (nb_of ht')).symm
        rcases ih with h | ⟨h1, h2⟩ | ⟨h1, h2⟩
        · exact .inl (h.trans st)
        · exact .inr (.inl ⟨h1, h2.trans st⟩)
        · exact .inr (.inr ⟨h1, h2.trans st⟩)
      · rw [List.mem_singleton.mp ht'] at hh
        rcases hh with ⟨e1, e2⟩ | ⟨e1, e2⟩
        · subst e1; subst e2
          rcases ih with h | ⟨h1, h2⟩ | ⟨h1, h2⟩
          · exact .inr (.inl ⟨h, .refl⟩)
          · exact .inr (.inl ⟨h1, .refl⟩)
          · exact .inl h1
        · subst e1; subst e2
          rcases ih with h | ⟨h1, h2⟩ | ⟨h1, h2⟩
          · exact .inr (.inr ⟨h, .refl⟩)
          · exact .inl h1
          · exact .inr (.inr ⟨h1, .refl⟩)
  · rintro (h | ⟨h1, h2⟩ | ⟨h1, h2⟩)
    · exact mono h
    · exact ((mono h1).trans tie).trans (mono h2)
    · exact ((mono h1).trans tie.symm).trans (mono h2)
theorem cls_same {N : Nat} {P : List T4} {t : T4} (h : Reach P t.2.1 t.2.2.1) : clsF N (P ++ [t]) = clsF N P := by
  refine cls_congr fun a b _ _ => ?_
  rw [reach_snoc]
  constructor
  · rintro (q | ⟨q1, q2⟩ | ⟨q1, q2⟩)
    · exact q
    · exact (q1.trans h).trans q2
    · exact (q1.trans h.symm).trans q2
  · exact .inl
theorem countP_one {p q : Nat → Bool} {x N : Nat} (hx : x < N) (px : p x = true) (h : ∀ v, v < N → (q v = true ↔ p v = true ∧ v ≠ x)) : (List.range N).countP q + 1 = (List.range N).countP p := by
  induction N with
  | zero => omega
  | succ N ih =>
    rw [List.range_succ, List.countP_append, List.countP_append, List.countP_singleton, List.countP_singleton]
    by_cases e : x = N
    · subst e
      have hq : q x = false := by
        cases z : q x with
        | false => rfl
        | true => exact absurd rfl ((h x hx).mp z).2
      have : (List.range x).countP q = (List.range x).countP p := List.countP_congr fun v hv => by
        have hv := List.mem_range.mp hv
        rw [h v (by omega)]
        exact ⟨fun z => z.1, fun z => ⟨z, by omega⟩⟩
      rw [this, hq, px]; simp
    · have := ih (by omega) fun v hv => h v (by omega)
      have e2 : q N = p N := by
        rw [Bool.eq_iff_iff, h N (by omega)]
        exact ⟨fun z => z.1, fun z => ⟨z, Ne.symm e⟩⟩
      rw [e2]; omega
theorem cls_less {N : Nat} {P : List T4} {t : T4} (h1 : t.2.1 < N) (h2 : t.2.2.1 < N) (h : ¬ Reach P t.2.1 t.2.2.1) : clsF N (P ++ [t]) + 1 = clsF N P := by
  obtain ⟨m1, l1, r1, k1⟩ := least_of (P := P) t.2.1
  obtain ⟨m2, l2, r2, k2⟩ := least_of (P := P) t.2.2.1
  have hne : m1 ≠ m2 := fun e => h (r1.symm.trans (e ▸ r2))
  have mono : ∀ {a b}, Reach P a b → Reach (P ++ [t]) a b := fun r => r.mono fun x hx => List.mem_append_left _ hx
  have tie : Reach (P ++ [t]) t.2.1 t.2.2.1 := .step (nb_of (List.mem_append_right _ (List.mem_singleton.mpr rfl)))
  have r12 : Reach (P ++ [t]) m1 m2 := ((mono r1).trans tie).trans (mono r2).symm
  refine countP_one (x := max m1 m2) (by omega) ?_ fun v hv => ?_
  · rcases Nat.le_total m1 m2 with q | q
    · rw [Nat.max_eq_right q]; exact k2
    · rw [Nat.max_eq_left q]; exact k1
  constructor
  · intro q
    rw [least_iff] at q
    refine ⟨least_iff.mpr fun u hu r => q u hu (mono r), fun e => ?_⟩
    rcases Nat.lt_or_gt_of_ne hne with z | z
    · rw [Nat.max_eq_right (by omega)] at e
      exact q m1 (by omega) (e ▸ r12)
    · rw [Nat.max_eq_left (by omega)] at e
      exact q m2 (by omega) (e ▸ r12.symm)
  · rintro ⟨q, hx⟩
    have q' := q
    rw [least_iff] at q ⊢
    intro u hu r
    rcases reach_snoc.mp r with z | ⟨z1, z2⟩ | ⟨z1, z2⟩
    · exact q u hu z
    · -- v is the least of the other's class, u of the one's
      have ev : m2 = v := least_uniq k2 q' (r2.trans z2)
      have : m1 ≤ u := by
        obtain ⟨m, lm, rm, km⟩ := least_of (P := P) u
        have : m1 = m := least_uniq k1 km (r1.trans (z1.symm.trans rm.symm))
        omega
      omega
    · have ev : m1 = v := least_uniq k1 q' (r1.trans z2)
      have : m2 ≤ u := by
        obtain ⟨m, lm, rm, km⟩ := least_of (P := P) u
        have : m2 = m := least_uniq k2 km (r2.trans (z1.symm.trans rm.symm))
        omega
      omega
end Wk
set_option maxHeartbeats 4000000
namespace K22
open PySem L2 Wk
def tau (st : S3) (i : Nat) : Int := st.tops.getD i 0
def sig (st : S3) (i : Nat) : Int := st.sides.getD i 0
structure UF (N : Nat) (P : List T4) (st : S3) : Prop where
  inn : InN N P
  lt : st.tops.length = N
  ls : st.sides.length = N
  tp : ∀ i, i < N → ∃ r, r < N ∧ tau st i = (r : Int) ∧ tau st r = (r : Int)
  rc : ∀ i j, i < N → j < N → (tau st i = tau st j ↔ Reach P i j)
  sd : ∀ i, sig st i = 0 ∨ sig st i = 1
  od : st.odds = (P.countP (fun t => decide (sig st t.2.1 = sig st t.2.2.1)) : Nat)
  co : ∀ f : Nat → Int, (∀ v, f v = 0 ∨ f v = 1) → (∀ t ∈ P, f t.2.1 ≠ f t.2.2.1) → ∀ i j, i < N → j < N → tau st i = tau st j → (sig st i = sig st j ↔ f i = f j)
  pn : partsN st.tops = clsF N P
theorem rints_getD {N i : Nat} (h : i < N) : (rints 0 N).getD i 0 = (i : Int) := by
  simp [rints, List.getD, h]
theorem start_tau {N i : Nat} (h : i < N) : tau (start3 N) i = (i : Int) := by
  unfold tau start3
  exact rints_getD h
theorem start_sig {N i : Nat} : sig (start3 N) i = 0 := by
  unfold sig start3
  by_cases h : i < N <;> simp [List.getD, List.getElem?_replicate, h]
theorem reach_nil {a b : Nat} (h : Reach [] a b) : a = b := by
  obtain ⟨x, hx⟩ := h
  cases hx with
  | nil => rfl
  | snoc _ q => simp [nbrs] at q
theorem uf_start (N : Nat) : UF N [] (start3 N) := by
  refine ⟨fun t h => by simp at h, by simp [start3, rints], by simp [start3], fun i h => ⟨i, h, start_tau h, start_tau h⟩, fun i j hi hj => ?_, fun i => .inl start_sig, rfl, fun f _ _ i j hi hj e => ?_, ?_⟩
  · rw [start_tau hi, start_tau hj]
    constructor
    · intro e
      have : i = j := by omega
      subst this
      exact .refl
    · intro r
      rw [reach_nil r]
  · rw [start_tau hi, start_tau hj] at e
    have : i = j := by omega
    subst this
    simp
  · rw [cls_nil]
    unfold partsN
    have e1 : (start3 N).tops.length = N := by simp [start3, rints]
    rw [e1]
    have : ((List.range N).filter fun p => decide ((start3 (N : Int)).tops.getD p 0 = ((p : Nat) : Int))) = List.range N := by
      rw [List.filter_eq_self]
      intro p hp
      have := start_tau (List.mem_range.mp hp)
      unfold tau at this
      rw [this]
      simp
    rw [this, List.length_range]
theorem partsN_eq (tops : List Int) : partsN tops = (List.range tops.length).countP fun p => decide (tops.getD p 0 = (p : Nat)) := by
  unfold partsN
  rw [List.countP_eq_length_filter]
theorem newTops_getD {tops : List Int} {k t : Int} {i : Nat} (h : i < tops.length) : (newTops tops k t).getD i 0 = if tops.getD i 0 = t then k else tops.getD i 0 := by
  simp [newTops, List.getD, h]
theorem newSides_getD {tops sides : List Int} {t u : Int} {i : Nat} (h : i < tops.length) (h' : i < sides.length) : (newSides tops sides t u).getD i 0 = if tops.getD i 0 = t then Builtin.bitXor (sides.getD i 0) u else sides.getD i 0 := by
  simp [newSides, List.getD, List.getElem?_zipWith, h, h']
theorem newSides_off {tops sides : List Int} {t u : Int} {i : Nat} (h : ¬ i < tops.length) : (newSides tops sides t u).getD i 0 = 0 := by
  simp [newSides, List.getD, List.getElem?_zipWith, List.getElem?_eq_none (Nat.le_of_not_lt h)]
theorem xor_bits : Builtin.bitXor 0 0 = 0 ∧ Builtin.bitXor 0 1 = 1 ∧ Builtin.bitXor 1 0 = 1 ∧ Builtin.bitXor 1 1 = 0 := by decide +kernel
theorem xor_bit {s u : Int} (hs : s = 0 ∨ s = 1) (hu : u = 0 ∨ u = 1) : (Builtin.bitXor s u = 0 ∨ Builtin.bitXor s u = 1) ∧ (Builtin.bitXor s u = 0 ↔ s = u) := by
  obtain ⟨a, b, c, d⟩ := xor_bits
  rcases hs with rfl | rfl <;> rcases hu with rfl | rfl
  · rw [a]; simp
  · rw [b]; simp
  · rw [c]; simp
  · rw [d]; simp
theorem turn_bit {s t : Int} : (turnOf s t = 0 ∨ turnOf s t = 1) ∧ (turnOf s t = 1 ↔ s = t) := by
  unfold turnOf
  split
  · rename_i h; simp [h]
  · rename_i h; simp [h]
theorem uf_snoc {N : Nat} {P : List T4} {st : S3} {t : T4} (U : UF N P st) (h1 : t.2.1 < N) (h2 : t.2.2.1 < N) (N24 : N ≤ 24) : UF N (P ++ [t]) (joinS st t.2.1 t.2.2.1).1 := by
  have inn' : InN N (P ++ [t]) := fun u hu => by
    rcases List.mem_append.mp hu with q | q
    · exact U.inn u q
    · rw [List.mem_singleton.mp q]; exact ⟨h1, h2⟩
  by_cases e : tau st t.2.1 = tau st t.2.2.1
  · have hj : (joinS st t.2.1 t.2.2.1).1 = ⟨st.tops, st.sides, st.odds + turnOf (sig st t.2.1) (sig st t.2.2.1)⟩ := by
      unfold joinS
      have e' : st.tops.getD t.2.1 0 = st.tops.getD t.2.2.1 0 := e
      simp only [e', if_true]
      rfl
    rw [hj]
    have hr := (U.rc _ _ h1 h2).mp e
    have sn : ∀ a b, Reach (P ++ [t]) a b ↔ Reach P a b := fun a b => by
      rw [reach_snoc]
      constructor
      · rintro (h | ⟨h, h'⟩ | ⟨h, h'⟩)
        · exact h
        · exact (h.trans hr).trans h'
        · exact (h.trans hr.symm).trans h'
      · exact .inl
    refine ⟨inn', U.lt, U.ls, U.tp, fun i j hi hj => by rw [sn]; exact U.rc i j hi hj, U.sd, ?_, fun f f2 fp => U.co f f2 (fun u hu => fp u (List.mem_append_left _ hu)), ?_⟩
    · show st.odds + turnOf (sig st t.2.1) (sig st t.2.2.1) = _
      rw [List.countP_append, U.od]
      show _ = (((P.countP fun t => decide (sig st t.2.1 = sig st t.2.2.1)) + _ : Nat) : Int)
      rw [List.countP_singleton]
      unfold turnOf
      by_cases g : sig st t.2.1 = sig st t.2.2.1
      · rw [if_pos g, if_pos (decide_eq_true (by exact g))]; rfl
      · rw [if_neg g, if_neg (by exact fun z => g (of_decide_eq_true z))]; rfl
    · rw [cls_same hr]; exact U.pn
  · have hkt : (kt st.tops (tau st t.2.1) (tau st t.2.2.1) = (tau st t.2.1, tau st t.2.2.1) ∨ kt st.tops (tau st t.2.1) (tau st t.2.2.1) = (tau st t.2.2.1, tau st t.2.1)) := by
      unfold kt
      split
      · exact .inl rfl
      · exact .inr rfl
    obtain ⟨kp, tk, hk, hK⟩ : ∃ kp tk, kt st.tops (tau st t.2.1) (tau st t.2.2.1) = (kp, tk) ∧ ((kp = tau st t.2.1 ∧ tk = tau st t.2.2.1) ∨ (kp = tau st t.2.2.1 ∧ tk = tau st t.2.1)) := by
      rcases hkt with h | h
      · exact ⟨_, _, h, .inl ⟨rfl, rfl⟩⟩
      · exact ⟨_, _, h, .inr ⟨rfl, rfl⟩⟩
    obtain ⟨u, hu⟩ : ∃ u, u = turnOf (sig st t.2.1) (sig st t.2.2.1) := ⟨_, rfl⟩
    obtain ⟨u2, u1⟩ := turn_bit (s := sig st t.2.1) (t := sig st t.2.2.1)
    rw [← hu] at u2 u1
    obtain ⟨st', hst⟩ : ∃ st', st' = (joinS st t.2.1 t.2.2.1).1 := ⟨_, rfl⟩
    have hj : st' = ⟨newTops st.tops kp tk, newSides st.tops st.sides tk u, st.odds⟩ := by
      rw [hst, hu]
      unfold joinS
      have e' : ¬ (st.tops.getD t.2.1 0 = st.tops.getD t.2.2.1 0) := e
      have hk' : kt st.tops (st.tops.getD t.2.1 0) (st.tops.getD t.2.2.1 0) = (kp, tk) := hk
      simp only [if_neg e', hk']
      rfl
    rw [← hst]
    have T' : ∀ i, i < N → tau st' i = if tau st i = tk then kp else tau st i := fun i hi => by
      rw [hj]
      exact newTops_getD (by rw [U.lt]; exact hi)
    have S' : ∀ i, i < N → sig st' i = if tau st i = tk then Builtin.bitXor (sig st i) u else sig st i := fun i hi => by
      rw [hj]
      exact newSides_getD (by rw [U.lt]; exact hi) (by rw [U.ls]; exact hi)
    have O' : ∀ i, ¬ i < N → sig st' i = 0 := fun i hi => by
      rw [hj]
      exact newSides_off (by rw [U.lt]; exact hi)
    have odds' : st'.odds = st.odds := by rw [hj]
    have l1 : st'.tops.length = N := by rw [hj]; simp [newTops, U.lt]
    have l2 : st'.sides.length = N := by rw [hj]; simp [newSides, U.lt, U.ls]
    have tops' : st'.tops = newTops st.tops kp tk := by rw [hj]
    clear hj hst
    have kne : kp ≠ tk := by rcases hK with ⟨a, b⟩ | ⟨a, b⟩ <;> rw [a, b] <;> intro z <;> first | exact e z | exact e z.symm
    have rc' : ∀ i j, i < N → j < N → (tau st' i = tau st' j ↔ (tau st i = tau st j ∨ (tau st i = tau st t.2.1 ∧ tau st t.2.2.1 = tau st j) ∨ (tau st i = tau st t.2.2.1 ∧ tau st t.2.1 = tau st j))) := fun i j hi hj => by
      rw [T' i hi, T' j hj]
      rcases hK with ⟨rfl, rfl⟩ | ⟨rfl, rfl⟩ <;> split <;> split <;> omega
    have nr : ¬ Reach P t.2.1 t.2.2.1 := fun r => e ((U.rc _ _ h1 h2).mpr r)
    have x2 := U.sd
    have sd' : ∀ i, sig st' i = 0 ∨ sig st' i = 1 := fun i => by
      by_cases hi : i < N
      · rw [S' i hi]
        split
        · exact (xor_bit (U.sd i) u2).1
        · exact U.sd i
      · exact .inl (O' i hi)
    have same' : ∀ i j, i < N → j < N → tau st i = tau st j → (sig st' i = sig st' j ↔ sig st i = sig st j) := fun i j hi hj q => by
      rw [S' i hi, S' j hj, q]
      split
      · have a := xor_bit (U.sd i) u2
        have b := xor_bit (U.sd j) u2
        have := U.sd i
        have := U.sd j
        omega
      · exact Iff.rfl
    have new' : ∀ i j, i < N → j < N → tau st i = tau st t.2.1 → tau st j = tau st t.2.2.1 → (sig st' i = sig st' j ↔ ((sig st i = sig st t.2.1) ↔ ¬ (sig st j = sig st t.2.2.1))) := fun i j hi hj p q => by
      have s1 := U.sd i
      have s2 := U.sd j
      have s3 := U.sd t.2.1
      have s4 := U.sd t.2.2.1
      rw [S' i hi, S' j hj, p, q]
      rcases hK with ⟨rfl, rfl⟩ | ⟨rfl, rfl⟩
      · rw [if_neg e, if_pos rfl]
        have b := xor_bit s2 u2
        omega
      · rw [if_pos rfl, if_neg (fun z => e z.symm)]
        have b := xor_bit s1 u2
        omega
    have inP : ∀ u ∈ P, tau st u.2.1 = tau st u.2.2.1 := fun u hu => (U.rc _ _ (U.inn u hu).1 (U.inn u hu).2).mpr (.step (nb_of hu))
    refine ⟨inn', l1, l2, fun i hi => ?_, fun i j hi hj => ?_, sd', ?_, fun f f2 fp i j hi hj q => ?_, ?_⟩
    · obtain ⟨r, hr, e1, e2⟩ := U.tp i hi
      by_cases g : tau st i = tk
      · obtain ⟨k, hk1, ek1, ek2⟩ : ∃ k, k < N ∧ kp = (k : Int) ∧ tau st k = (k : Int) := by
          rcases hK with ⟨a, _⟩ | ⟨a, _⟩
          · obtain ⟨k, x, y, z⟩ := U.tp _ h1
            exact ⟨k, x, a.trans y, z⟩
          · obtain ⟨k, x, y, z⟩ := U.tp _ h2
            exact ⟨k, x, a.trans y, z⟩
        refine ⟨k, hk1, by rw [T' i hi, if_pos g, ek1], ?_⟩
        rw [T' k hk1, if_neg (by rw [ek2, ← ek1]; exact kne), ek2]
      · refine ⟨r, hr, by rw [T' i hi, if_neg g, e1], ?_⟩
        rw [T' r hr, if_neg (by rw [e2, ← e1]; exact g), e2]
    · rw [rc' i j hi hj, reach_snoc, U.rc i j hi hj, U.rc i _ hi h1, U.rc _ j h2 hj, U.rc i _ hi h2, U.rc _ j h1 hj]
    · rw [odds', U.od, List.countP_append, List.countP_singleton, if_neg (fun z => ?_)]
      · rw [Nat.add_zero]
        congr 1
        refine List.countP_congr fun u hu => ?_
        rw [decide_eq_true_eq, decide_eq_true_eq]
        exact (same' _ _ (U.inn u hu).1 (U.inn u hu).2 (inP u hu)).symm
      · have := (new' _ _ h1 h2 rfl rfl).mp (of_decide_eq_true z)
        simp at this
    · have ft := fp t (List.mem_append_right _ (List.mem_singleton.mpr rfl))
      have fP : ∀ u ∈ P, f u.2.1 ≠ f u.2.2.1 := fun u hu => fp u (List.mem_append_left _ hu)
      have co := U.co f f2 fP
      have a1 := f2 i
      have a2 := f2 j
      have a3 := f2 t.2.1
      have a4 := f2 t.2.2.1
      rcases (rc' i j hi hj).mp q with g | ⟨g, g'⟩ | ⟨g, g'⟩
      · rw [same' i j hi hj g]; exact co i j hi hj g
      · rw [new' i j hi hj g g'.symm, co i _ hi h1 g, co j _ hj h2 g'.symm]
        omega
      · rw [eq_comm, new' j i hj hi g'.symm g, co j _ hj h1 g'.symm, co i _ hi h2 g]
        omega
    · have c := cls_less (N := N) h1 h2 nr
      have p := U.pn
      rw [partsN_eq, U.lt] at p
      rw [partsN_eq, l1]
      obtain ⟨k, hk1, ek1, ek2⟩ : ∃ k, k < N ∧ tk = (k : Int) ∧ tau st k = (k : Int) := by
        rcases hK with ⟨_, a⟩ | ⟨_, a⟩
        · obtain ⟨k, x, y, z⟩ := U.tp _ h2
          exact ⟨k, x, a.trans y, z⟩
        · obtain ⟨k, x, y, z⟩ := U.tp _ h1
          exact ⟨k, x, a.trans y, z⟩
      obtain ⟨k', hk', ek', ek''⟩ : ∃ k, k < N ∧ kp = (k : Int) ∧ tau st k = (k : Int) := by
        rcases hK with ⟨a, _⟩ | ⟨a, _⟩
        · obtain ⟨k, x, y, z⟩ := U.tp _ h1
          exact ⟨k, x, a.trans y, z⟩
        · obtain ⟨k, x, y, z⟩ := U.tp _ h2
          exact ⟨k, x, a.trans y, z⟩
      have := countP_one (p := fun p => decide (st.tops.getD p 0 = (p : Nat))) (q := fun p => decide (st'.tops.getD p 0 = (p : Nat))) (x := k) (N := N) hk1 (decide_eq_true ek2) (fun v hv => ?_)
      · omega
      · rw [decide_eq_true_eq, decide_eq_true_eq]
        have := T' v hv
        unfold tau at this ek2 ek''
        rw [this]
        split
        · rename_i g
          constructor
          · intro z
            have : v = k' := by omega
            subst this
            rw [ek''] at g
            omega
          · intro z; omega
        · rename_i g
          constructor
          · intro z
            exact ⟨z, fun w => by subst w; omega⟩
          · exact fun z => z.1
def stF (N : Nat) (P : List T4) : S3 := P.foldl (fun st t => (joinS st t.2.1 t.2.2.1).1) (start3 N)
theorem stF_snoc {N : Nat} {P : List T4} {t : T4} : stF N (P ++ [t]) = (joinS (stF N P) t.2.1 t.2.2.1).1 := by
  unfold stF
  rw [List.foldl_append]; rfl
theorem uf_more {N : Nat} (N24 : N ≤ 24) : ∀ {T P : List T4} {st : S3}, UF N P st → InN N T → UF N (P ++ T) (T.foldl (fun st t => (joinS st t.2.1 t.2.2.1).1) st)
  | [], P, st, U, _ => by rw [List.append_nil]; exact U
  | t :: T, P, st, U, h => by
    have ht := h t (List.mem_cons_self ..)
    have := uf_more N24 (uf_snoc U ht.1 ht.2 N24) (T := T) fun u hu => h u (List.mem_cons_of_mem _ hu)
    rw [List.append_assoc] at this
    exact this
theorem uf_fin {N : Nat} (N24 : N ≤ 24) {P : List T4} (h : InN N P) : UF N P (stF N P) := uf_more (T := P) N24 (uf_start N) h
theorem UF.two {N : Nat} {P : List T4} {st : S3} (U : UF N P st) : st.odds = 0 ↔ Two P := by
  constructor
  · intro h
    have h0 : P.countP (fun t => decide (sig st t.2.1 = sig st t.2.2.1)) = 0 := by have := U.od; omega
    refine ⟨sig st, U.sd, fun t ht e => ?_⟩
    have := List.countP_eq_zero.mp h0 t ht
    exact this (decide_eq_true e)
  · rintro ⟨f, f2, fp⟩
    rw [U.od, List.countP_eq_zero.mpr]
    · rfl
    intro t ht z
    have ht' := U.inn t ht
    have e := (U.rc _ _ ht'.1 ht'.2).mpr (.step (nb_of ht))
    exact fp t ht ((U.co f f2 fp _ _ ht'.1 ht'.2 e).mp (of_decide_eq_true z))
theorem tops_map {N : Nat} {P : List T4} {st : S3} (U : UF N P st) : st.tops = (List.range N).map (tau st) := by
  apply List.ext_getElem
  · rw [U.lt]; simp
  · intro i h h'
    simp [tau, List.getD, h]
theorem UF.size {N p : Nat} {P S : List T4} {st : S3} (U : UF N P st) (hm : ∀ u, u ∈ P ↔ u ∈ S) (hp : p < N) (hN : N ≤ 60) : st.tops.count (tau st p) = (partF N S p).length := by
  have hS : InN N S := fun u hu => U.inn u ((hm u).mpr hu)
  rw [tops_map U, List.count_eq_countP, List.countP_map]
  have e : partF N S p = (List.range N).filter fun v => decide (v ∈ partF N S p) := by
    unfold partF
    refine List.filter_congr fun v hv => ?_
    simp [hv, List.mem_range.mp hv]
  rw [e, ← List.countP_eq_length_filter]
  refine List.countP_congr fun v hv => ?_
  have hv := List.mem_range.mp hv
  have h1 := mem_part (v := v) hS hp hN
  rw [decide_eq_true_eq, h1]
  show (tau st v == tau st p) = true ↔ _
  rw [beq_iff_eq, U.rc v p hv hp]
  have sw : Reach P v p ↔ Reach S p v := ⟨fun r => r.symm.mono fun t => (hm t).mp, fun r => (r.mono fun t => (hm t).mpr).symm⟩
  rw [sw]
  exact ⟨fun r => ⟨hv, r⟩, fun r => r.2⟩
theorem UF.top {N p : Nat} {P S : List T4} {st : S3} (U : UF N P st) (hm : ∀ u, u ∈ P ↔ u ∈ S) (hp : p < N) (hN : N ≤ 60) : ∃ r : Nat, tau st p = (r : Int) ∧ r ∈ partF N S p := by
  have hS : InN N S := fun u hu => U.inn u ((hm u).mpr hu)
  obtain ⟨r, hr, e1, e2⟩ := U.tp p hp
  refine ⟨r, e1, (mem_part hS hp hN).mpr ⟨hr, ?_⟩⟩
  exact ((U.rc p r hp hr).mp (e1.trans e2.symm)).mono fun t => (hm t).mp
theorem UF.joined {N p q : Nat} {P S : List T4} {st : S3} (U : UF N P st) (hm : ∀ u, u ∈ P ↔ u ∈ S) (hp : p < N) (hq : q < N) (hN : N ≤ 60) : tau st p = tau st q ↔ q ∈ partF N S p := by
  have hS : InN N S := fun u hu => U.inn u ((hm u).mpr hu)
  rw [U.rc p q hp hq, mem_part hS hp hN]
  exact ⟨fun r => ⟨hq, r.mono fun t => (hm t).mp⟩, fun r => r.2.mono fun t => (hm t).mpr⟩
theorem part_least {N p q u : Nat} {S : List T4} (h : (partF N S p)[0]? = some q) (hu : u ∈ partF N S p) : ¬ u < q := by
  intro hlt
  have pw : (partF N S p).Pairwise (· < ·) := List.Pairwise.filter _ List.pairwise_lt_range
  generalize partF N S p = l at h hu pw
  cases l with
  | nil => simp at hu
  | cons x l =>
    simp at h
    subst h
    rcases List.mem_cons.mp hu with rfl | hu
    · omega
    · have := (List.pairwise_cons.mp pw).1 u hu
      omega
theorem ls_cls {N : Nat} {S : List T4} (hS : InN N S) (hN : N ≤ 60) : (lsF N S).length = clsF N S := by
  unfold lsF clsF
  rw [← List.countP_eq_length_filter]
  refine List.countP_congr fun p hp => ?_
  have hp := List.mem_range.mp hp
  rw [decide_eq_true_eq, least_iff]
  obtain ⟨q, hq, hl, hr⟩ := part_head hS hp hN
  have qN := ls_lt hl
  constructor
  · intro h u hu r
    rw [h] at hq
    cases hq
    have ep := part_eq hS (Nat.lt_trans hu hp) hp hN r
    have hu' : u ∈ partF N S p := ep ▸ part_self hS (Nat.lt_trans hu hp) hN
    exact part_least h hu' hu
  · intro h
    have : ¬ q < p := fun z => h q z hr
    have hp' : p ∈ partF N S p := part_self hS hp hN
    rw [hq]
    by_cases e : q = p
    · rw [e]
    · exact absurd (part_least hq hp') (by omega)
theorem UF.parts {N : Nat} {P S : List T4} {st : S3} (U : UF N P st) (hm : ∀ u, u ∈ P ↔ u ∈ S) (hN : N ≤ 60) : partsN st.tops = (lsF N S).length := by
  have hS : InN N S := fun u hu => U.inn u ((hm u).mpr hu)
  rw [U.pn, ls_cls hS hN]
  exact cls_congr fun a b _ _ => ⟨fun r => r.mono fun t => (hm t).mp, fun r => r.mono fun t => (hm t).mpr⟩
end K22
set_option maxHeartbeats 1000000
namespace K22
open PySem L2 Wk
theorem in_ends (v a b : Nat) : inV (.int (v : Int)) [.int (a : Int), .int (b : Int)] = decide (v = a ∨ v = b) := by
  have := inV_ints (v : Int) [(a : Int), (b : Int)]
  rw [show ([(a : Int), (b : Int)].map V.int) = [.int (a : Int), .int (b : Int)] from rfl] at this
  rw [this, Bool.eq_iff_iff, decide_eq_true_eq, decide_eq_true_eq]
  simp only [List.mem_cons, List.not_mem_nil, or_false]
  omega
theorem ties_snoc {H : Hp} {as : List Addr} {S : List T4} (h : TiesAt H as S) {r : Addr} {t : T4} (hr : H r = some (.tup (tieV t))) : TiesAt H (as ++ [r]) (S ++ [t]) := by
  refine ⟨by rw [List.length_append, List.length_append, h.1]; rfl, fun i r0 t0 e1 e2 => ?_⟩
  rw [List.getElem?_append] at e1 e2
  rw [h.1] at e1
  split at e1
  · rename_i z
    rw [if_pos z] at e2
    exact h.2 i r0 t0 e1 e2
  · rename_i z
    rw [if_neg z] at e2
    have hz : i - S.length = 0 := by
      have := (List.getElem?_eq_some_iff.mp e1).1
      simp only [List.length_cons, List.length_nil] at this
      omega
    rw [hz] at e1 e2
    cases e1
    cases e2
    exact hr
theorem ties_mono {H H' : Hp} {as : List Addr} {S : List T4} (h : TiesAt H as S) (f : ∀ r zs, H r = some (.tup zs) → H' r = some (.tup zs)) : TiesAt H' as S := ⟨h.1, fun i r t a b => f _ _ (h.2 i r t a b)⟩
def TK (H H' : Hp) : Prop := ∀ r zs, H r = some (.tup zs) → H' r = some (.tup zs)
theorem TK.of {H H' : Hp} (s : Same H H') : TK H H' := fun r zs e => s _ _ e
theorem TK.lst {H : Hp} {l : Addr} {xs : List V} {o : HO} (h : H l = some (.lst xs)) : TK H (upd H l o) := fun r zs e => by rw [upd_ne (ne_of e h (by intro z; cases z))]; exact e
theorem TK.dk {H : Hp} {l : Addr} {xs : List (Key × V)} {o : HO} (h : H l = some (.dK xs)) : TK H (upd H l o) := fun r zs e => by rw [upd_ne (ne_of e h (by intro z; cases z))]; exact e
abbrev Ks := List (Nat × Int)
def ksK (ks : Ks) : List (Key × V) := ks.map fun p => (Sum.inl (p.1 : Int), V.int p.2)
structure KsOk (N : Nat) (ks : Ks) : Prop where
  nd : (ks.map (·.1)).Nodup
  ok : ∀ p ∈ ks, p.1 < N ∧ (p.2 = 0 ∨ p.2 = 1)
def sdV : Ks → Nat → Int
  | [], _ => 0
  | p :: ks, v => if p.1 = v then p.2 else sdV ks v
theorem ks_none {ks : Ks} {v : Nat} (h : v ∉ ks.map (·.1)) : valV (ksK ks) (Sum.inl (v : Int)) = none := by
  unfold ksK
  induction ks with
  | nil => rfl
  | cons p ks ih =>
    rw [List.map_cons, List.mem_cons, not_or] at h
    rw [List.map_cons, valV_neg (by intro e; exact h.1 (by injection e with e; omega))]
    exact ih h.2
theorem ks_some {ks : Ks} {v : Nat} (h : v ∈ ks.map (·.1)) : valV (ksK ks) (Sum.inl (v : Int)) = some (.int (sdV ks v)) := by
  unfold ksK
  induction ks with
  | nil => cases h
  | cons p ks ih =>
    rw [List.map_cons]
    by_cases e : p.1 = v
    · rw [valV_pos (by rw [e])]; unfold sdV; rw [if_pos e]
    · rw [valV_neg (by intro z; injection z with z; omega)]
      rw [List.map_cons] at h
      unfold sdV; rw [if_neg e]
      exact ih ((List.mem_cons.mp h).resolve_left (Ne.symm e))
theorem ks_two {N : Nat} {ks : Ks} {v : Nat} (h : KsOk N ks) (hv : v ∈ ks.map (·.1)) : sdV ks v = 0 ∨ sdV ks v = 1 := by
  have ok := h.ok
  clear h
  induction ks with
  | nil => cases hv
  | cons p ks ih =>
    unfold sdV
    split
    · exact (ok p (List.mem_cons_self ..)).2
    · rename_i e
      rw [List.map_cons] at hv
      exact ih ((List.mem_cons.mp hv).resolve_left (Ne.symm e)) fun p hp => ok p (List.mem_cons_of_mem _ hp)
theorem ks_put {ks : Ks} {v : Nat} {s : Int} (h : v ∉ ks.map (·.1)) : putK (ksK ks) (Sum.inl (v : Int)) (.int s) = ksK (ks ++ [(v, s)]) := by
  rw [putK_new _ (ks_none h)]
  unfold ksK
  rw [List.map_append]; rfl
theorem KsOk.len {N : Nat} {ks : Ks} (h : KsOk N ks) : ks.length ≤ N := by
  have := nodup_le (ks.map (·.1)) (List.range N) h.nd fun v hv => by
    obtain ⟨p, hp, rfl⟩ := List.mem_map.mp hv
    exact List.mem_range.mpr (h.ok p hp).1
  rwa [List.length_map, List.length_range] at this
theorem KsOk.snoc {N : Nat} {ks : Ks} {v : Nat} {s : Int} (h : KsOk N ks) (hv : v ∉ ks.map (·.1)) (vN : v < N) (s2 : s = 0 ∨ s = 1) : KsOk N (ks ++ [(v, s)]) := by
  refine ⟨?_, fun p hp => ?_⟩
  · rw [List.map_append]
    refine List.nodup_append.mpr ⟨h.nd, List.nodup_cons.mpr ⟨by simp, List.nodup_nil⟩, fun x hx z hz e => ?_⟩
    rw [List.mem_singleton.mp hz] at e
    have e : x = v := e
    exact hv (e ▸ hx)
  · rcases List.mem_append.mp hp with h1 | h1
    · exact h.ok p h1
    · rw [List.mem_singleton.mp h1]; exact ⟨vN, s2⟩
def RowOk (N : Nat) (S : List T4) (ks : Ks) (H : Hp) (r : Addr) : Prop := ∃ (p : Nat) (s : Int), p < N ∧ (s = 0 ∨ s = 1) ∧ (p ∈ ks.map (·.1) ∨ Par N S p s) ∧ H r = some (.tup [.int (p : Int), .int s])
theorem RowOk.tk {N : Nat} {S : List T4} {ks : Ks} {H H' : Hp} {r : Addr} (h : RowOk N S ks H r) (f : TK H H') : RowOk N S ks H' r := let ⟨p, s, a, b, d, c⟩ := h; ⟨p, s, a, b, d, f _ _ c⟩
theorem RowOk.more {N : Nat} {S : List T4} {ks : Ks} {H : Hp} {r : Addr} {x : Nat × Int} (h : RowOk N S ks H r) : RowOk N S (ks ++ [x]) H r := let ⟨p, s, a, b, d, c⟩ := h; ⟨p, s, a, b, d.imp (fun z => by rw [List.map_append]; exact List.mem_append_left _ z) id, c⟩
def Nb (S : List T4) (ks : Ks) (v : Nat) : Prop := ∃ t ∈ S, (t.2.1 ∈ ks.map (·.1) ∧ v = t.2.2.1) ∨ (t.2.2.1 ∈ ks.map (·.1) ∧ v = t.2.1)
def Bs (L : List T4) (p v : Nat) : Prop := ∃ t ∈ L, (p = t.2.1 ∧ v = t.2.2.1) ∨ (p = t.2.2.1 ∧ v = t.2.1)
theorem Nb.snoc {S : List T4} {ks : Ks} {p v : Nat} {s : Int} (h : Nb S (ks ++ [(p, s)]) v) : Nb S ks v ∨ Bs S p v := by
  obtain ⟨t, ht, ⟨a, b⟩ | ⟨a, b⟩⟩ := h
  · rw [List.map_append] at a
    rcases List.mem_append.mp a with z | z
    · exact .inl ⟨t, ht, .inl ⟨z, b⟩⟩
    · exact .inr ⟨t, ht, .inl ⟨(List.mem_singleton.mp z).symm, b⟩⟩
  · rw [List.map_append] at a
    rcases List.mem_append.mp a with z | z
    · exact .inl ⟨t, ht, .inr ⟨z, b⟩⟩
    · exact .inr ⟨t, ht, .inr ⟨(List.mem_singleton.mp z).symm, b⟩⟩
theorem sd_par {N : Nat} {S : List T4} {ks : Ks} {v : Nat} (h : ∀ p ∈ ks, Par N S p.1 p.2) (hv : v ∈ ks.map (·.1)) : Par N S v (sdV ks v) := by
  induction ks with
  | nil => cases hv
  | cons p ks ih =>
    unfold sdV
    split
    · rename_i e
      rw [← e]; exact h p (List.mem_cons_self ..)
    · rename_i e
      rw [List.map_cons] at hv
      exact ih (fun p hp => h p (List.mem_cons_of_mem _ hp)) ((List.mem_cons.mp hv).resolve_left (Ne.symm e))
theorem meas {N k s : Nat} (h : k < N) : (N - (k + 1)) * (s + 1) + (s + 1) = (N - k) * (s + 1) := by
  have e : N - k = N - (k + 1) + 1 := by omega
  rw [e, Nat.succ_mul]
theorem last_rows {rs : List Addr} {r : Addr} (h : rs[rs.length - 1]? = some r) (q : Addr) (hq : q ∈ rs) : q ∈ rs.dropLast ∨ q = r := by
  have hn : rs ≠ [] := fun e => by subst e; cases hq
  have e := List.dropLast_concat_getLast hn
  rw [← e] at hq
  rcases List.mem_append.mp hq with h1 | h1
  · exact .inl h1
  · refine .inr ?_
    rw [List.mem_singleton.mp h1, List.getLast_eq_getElem]
    have hl : rs.length - 1 < rs.length := by cases rs with | nil => exact absurd rfl hn | cons a l => simp
    rw [getq hl] at h
    exact Option.some.inj h
theorem small5 {n : Nat} (h : n ≤ 5000) : n < sizeLine := Nat.lt_of_le_of_lt h (by decide)
def TsL (H : Hp) (L : Addr) (S : List T4) : Prop := ∃ rs : List Addr, H L = some (.lst (rs.map V.ref)) ∧ TiesAt H rs S
def spDTies : Sp := fun vs H Q _ => ∃ (d : Addr) (N b : Nat), vs = [.ref d, .int (N : Int)] ∧ DeckAt H d (b + 900) ∧ 2 ≤ N ∧ N ≤ 60 ∧ ∀ (L : Addr) (S : List T4) (H' : Hp), But d H H' → DeckAt H' d b → H L = none → L ≠ d → TsL H' L S → InN N S → S.length ≤ 60 → Q (.ref L) H'
def spEven : Sp := fun vs H Q _ => ∃ (N : Nat) (st : Addr) (S : List T4), vs = [.int (N : Int), .ref st] ∧ TsL H st S ∧ InN N S ∧ S.length ≤ 60 ∧ N ≤ 60 ∧ ∀ (b : Bool) (H' : Hp), Same H H' → (b = true ↔ Two S) → Q (.bl b) H'
section
variable {P : Program} {w : World} {K : PySem.W.Frag} {mg : Str → Option Value} {base : Heap} {C I : Addr}
theorem scDTies : FnScope ["_law_deck", "_law_many", "_law_found", "_law_name", "_law_one", "_law_other", "_law_weight"] ["_law_deck", "_law_many"] (defScope sDTies) := ⟨rfl, rfl, rfl, by decide +kernel, rfl, by decide +kernel, by decide +kernel⟩
theorem ok_DTies {f : Addr} {fd : FuncData} (F : Fun K "_law_drawn_ties" "_law_drawn_ties" sDTies f fd) (T : Txt K mg C I)
    {gNamed : Addr} {fNamed : FuncData} (kNamed : PySem.W.keepIn K (.ref gNamed) = true) (bNamed : Binds K fNamed ["_law_deck", "_law_many"] []) (hNamed : mg "_law_named" = some (.ref gNamed)) (GNamed : FnOk P w K mg base CX0 2 gNamed fNamed ["_law_deck", "_law_many"] spNamed)
    {gRare : Addr} {fRare : FuncData} (kRare : PySem.W.keepIn K (.ref gRare) = true) (bRare : Binds K fRare ["_law_deck", "_law_often", "_law_great"] []) (hRare : mg "_law_rare" = some (.ref gRare)) (GRare : FnOk P w K mg base CX0 2 gRare fRare ["_law_deck", "_law_often", "_law_great"] spRare)
    {gDraw : Addr} {fDraw : FuncData} (kDraw : PySem.W.keepIn K (.ref gDraw) = true) (bDraw : Binds K fDraw ["_law_deck", "_law_most"] []) (hDraw : mg "_law_draw" = some (.ref gDraw)) (GDraw : FnOk P w K mg base CX0 2 gDraw fDraw ["_law_deck", "_law_most"] spDraw)
    {gTwo : Addr} {fTwo : FuncData} (kTwo : PySem.W.keepIn K (.ref gTwo) = true) (bTwo : Binds K fTwo ["_law_deck", "_law_many"] []) (hTwo : mg "_law_two_of" = some (.ref gTwo)) (GTwo : FnOk P w K mg base CX0 2 gTwo fTwo ["_law_deck", "_law_many"] spTwo) :
    FnOk P w K mg base CX0 3 f fd ["_law_deck", "_law_many"] spDTies := by
  refine F.ok scDTies (fun vs H Q E h => ?_) (fun cdv A outer s H vs Q E hr h => ?_)
  · obtain ⟨_, _, _, rfl, _⟩ := h; rfl
  · obtain ⟨d, N, b, rfl, hD, N2, N60, k⟩ := h
    refine ⟨_, pss_cons (ps_set (i := 2) scDTies.nd rfl (Or.inl rfl) (pe_lst pa_nil))
      (pss_cons (ps_for PassesOwn.never rfl (pi_list (pe_call GNamed hr rfl hNamed kNamed bNamed .nil pass0 (pa_cons (pv 0) (pa_cons (pe_call GRare hr rfl hRare kRare bRare .nil pass0 (pa_cons (pv 0) (pa_cons (pe_call GDraw hr rfl hDraw kDraw bDraw .nil pass0 (pa_cons (pv 0) (pa_cons pe_int pa_nil))) (pa_cons pe_int pa_nil)))) pa_nil)))) (pg_name (i := 3) scDTies.nd rfl (Or.inl rfl)) (pss_cons (ps_asg (pe_call GTwo hr rfl hTwo kTwo bTwo .nil pass0 (pa_cons (pv 0) (pa_cons (pv 1) pa_nil))) (pg_tup rfl (pgs_cons (pg_name (i := 4) scDTies.nd rfl (Or.inl rfl)) (pgs_cons (pg_name (i := 5) scDTies.nd rfl (Or.inl rfl)) pgs_nil))))
      (pss_cons (ps_set (i := 6) scDTies.nd rfl (Or.inl rfl) (pe_lst (pa_cons (pe_call GDraw hr rfl hDraw kDraw bDraw .nil pass0 (pa_cons (pv 0) (pa_cons pe_int pa_nil))) (pa_cons (pe_call GDraw hr rfl hDraw kDraw bDraw .nil pass0 (pa_cons (pv 0) (pa_cons (pe_op op_add (pe_op op_pow pe_int pe_int) pe_int) pa_nil))) pa_nil))))
      (pss_one (ps_expr (pe_bm PySem.F.plainAttrs_list PySem.F.slot_list_append PySem.F.type_list_append mt_append (pv 2) (pa_cons (pe_tup (pa_cons (pv 3) (pa_cons (pv 4) (pa_cons (pv 5) (pa_cons (pe_ix ix_list (pv 6) (pe_call GDraw hr rfl hDraw kDraw bDraw .nil pass0 (pa_cons (pv 0) (pa_cons pe_int pa_nil))) (fun _ _ => rfl)) pa_nil))))) pa_nil)))))))
      (pss_one (ps_ret (pv 2)))), ?_⟩
    refine ⟨small (by simp), fun L hL => ?_⟩
    have s1 := same_new (o := .lst []) hL
    have L1 := upd_same (H := H) (a := L) (o := .lst [])
    have nL := hD.ne hL
    have D1 := hD.same s1
    have B1 : But d H (upd H L (.lst [])) := But.of s1
    generalize upd H L (.lst []) = H1 at s1 L1 D1 B1
    refine ⟨_, rfl, _, rfl, _, rfl, d, 11, b + 899, rfl, D1, by decide, by decide, fun v H2 v0 v1 b2 D2 => ?_⟩
    refine ⟨d, v, 60, b + 898, rfl, D2, fun m H3 hm b3 D3 => ?_⟩
    obtain ⟨M, rfl⟩ := nat_of (show 0 ≤ m by omega)
    have M60 : M ≤ 60 := by omega
    refine ⟨d, M, b + 5 * M, rfl, by omega, D3.mono (by omega), fun l zs H4 b4 D4 nl hl l4 zl znd => ?_⟩
    have L4 := b4 _ _ (b3 _ _ (b2 _ _ L1 nL) nL) nL
    have B4 : But d H H4 := ((B1.trans b2).trans b3).trans b4
    have lL : l ≠ L := (ne_of_none (b3 _ _ (b2 _ _ L1 nL) nL) hl).symm
    refine ⟨l, rfl, ⟨_, SqL.of l4⟩, for_list (K := K) (a := l) (xs := zs.map V.str) (fun j σ H5 => ∃ (u3 u4 u5 u6 : Option V) (as : List Addr) (S : List T4), σ = [some (.ref d), some (.int (N : Int)), some (.ref L), u3, u4, u5, u6] ∧ But d H H5 ∧ DeckAt H5 d (b + 5 * (M - j)) ∧ H5 L = some (.lst (as.map V.ref)) ∧ H5 l = some (.lst (zs.map V.str)) ∧ TiesAt H5 as S ∧ as.length = j ∧ InN N S) ⟨_, _, _, _, [], [], rfl, B4, D4, L4, l4, ⟨rfl, fun i r t e => by simp at e⟩, rfl, fun t h => by simp at h⟩ (fun j σ H5 _ ⟨_, _, _, _, _, _, _, _, _, _, e, _⟩ => SqL.of e) ?_ ?_⟩
    · rintro j x σ H5 hx ⟨u3, u4, u5, u6, as, S, rfl, b5, D5, L5, l5, t5, al, inn⟩
      obtain ⟨z, hz, rfl⟩ := map_some hx
      have hj : j < M := by rw [← zl]; exact (List.getElem?_eq_some_iff.mp hz).1
      obtain ⟨B, hB⟩ : ∃ B, B = b + 5 * (M - (j + 1)) := ⟨_, rfl⟩
      refine ⟨_, rfl, _, rfl, d, N, B + 3, rfl, D5.mono (by omega), N2, N60, fun p q r H6 b6 D6 pN qN pq r6 => ?_⟩
      refine ⟨r, _, rfl, SqT.of r6, rfl, _, _, rfl, _, _, rfl, rfl, ?_⟩
      refine ⟨_, rfl, d, 9, B + 2, rfl, D6, by decide, by decide, fun x H7 x0 x1 b7 D7 => ?_⟩
      refine ⟨_, rfl, _, _, rfl, rfl, ⟨by decide, by decide, by decide⟩, _, _, rfl, rfl, d, _, B + 1, rfl, D7, by decide, by decide, fun y H8 y0 y1 b8 D8 => ⟨small (by simp), fun wl hwl => ?_⟩⟩
      have L8 := b8 _ _ (b7 _ _ (b6 _ _ L5 nL) nL) nL
      have l8 := b8 _ _ (b7 _ _ (b6 _ _ l5 nl) nl) nl
      have B8 : But d H H8 := ((b5.trans b6).trans b7).trans b8
      have t8 := ties_mono t5 fun r zs e => b8.tup D7 (b7.tup D6 (b6.tup D5 e))
      have s9 := same_new (o := .lst [.int x, .int y]) hwl
      have w9 := upd_same (H := H8) (a := wl) (o := .lst [.int x, .int y])
      have nw := D8.ne hwl
      have D9 := D8.same s9
      generalize upd H8 wl (.lst [.int x, .int y]) = H9 at s9 w9 D9
      have L9 := s9 _ _ L8
      refine ⟨_, rfl, .inl ⟨rfl, _, SqL.of L9⟩, _, rfl, _, rfl, _, rfl, _, rfl, _, rfl, d, 2, B, rfl, D9, by decide, by decide, fun v H10 v0 v1 b10 D10 => ?_⟩
      obtain ⟨c, an⟩ : ∃ c : Int, atI [V.int x, .int y] v = some (.int c) := by
        rcases (show v = 0 ∨ v = 1 by omega) with rfl | rfl
        · exact ⟨x, rfl⟩
        · exact ⟨y, rfl⟩
      refine ⟨wl, _, v, .int c, rfl, rfl, SqL.of (b10 _ _ w9 nw), an, small (by simp), fun n hn => ?_⟩
      have L10 := b10 _ _ L9 nL
      have l10 := b10 _ _ (s9 _ _ l8) nl
      have B10 : But d H H10 := (B8.trans (But.of s9)).trans b10
      have t10 := ties_mono t8 fun r zs e => b10.tup D9 (s9 _ _ e)
      have s11 := same_new (o := .tup [.str z, .int (p : Int), .int (q : Int), .int c]) hn
      have n11 : upd H10 n (.tup [.str z, .int (p : Int), .int (q : Int), .int c]) n = some (.tup (tieV (z, p, q, c))) := upd_same
      have D11 := D10.same s11
      have L11 := s11 _ _ L10
      have l11 := s11 _ _ l10
      have t11 := ties_mono t10 fun r zs e => s11 _ _ e
      have B11 := B10.trans (But.of s11)
      generalize upd H10 n (.tup [.str z, .int (p : Int), .int (q : Int), .int c]) = H11 at s11 n11 D11 L11 l11 t11 B11
      refine ⟨L, _, _, rfl, rfl, L11, small1000 (by rw [List.length_map]; omega), _, _, _, _, as ++ [n], S ++ [(z, p, q, c)], rfl, B11.set hL, D11.upd nL |>.mono (by omega), by rw [upd_same, List.map_append]; rfl, by rw [upd_ne lL]; exact l11, ?_, by simp [al], fun u hu => ?_⟩
      · have kp := TK.lst (o := .lst (as.map V.ref ++ [.ref n])) L11
        exact ties_snoc (ties_mono t11 fun r zs e => kp r zs e) (kp _ _ n11)
      · rcases List.mem_append.mp hu with h | h
        · exact inn u h
        · rw [List.mem_singleton.mp h]; exact ⟨pN, qN⟩
    · rintro σ H5 ⟨u3, u4, u5, u6, as, S, rfl, b5, D5, L5, l5, t5, al, inn⟩
      rw [List.length_map, zl] at al
      exact ⟨_, rfl, k L S H5 b5 (D5.mono (by omega)) hL nL ⟨as, L5, t5⟩ inn (by rw [← t5.1, al]; exact M60)⟩
end
end K22
set_option maxHeartbeats 1000000
namespace K22
open PySem L2 Wk
section
variable {P : Program} {w : World} {K : PySem.W.Frag} {mg : Str → Option Value} {base : Heap} {C I : Addr}
theorem scEven : FnScope ["_law_many", "_law_ties", "_law_sides", "_law_begin", "_law_line", "_law_place", "_law_side", "_law_name", "_law_one", "_law_other", "_law_weight"] ["_law_many", "_law_ties"] (defScope sEven) := ⟨rfl, rfl, rfl, by decide +kernel, rfl, by decide +kernel, by decide +kernel⟩
theorem ok_Even {f : Addr} {fd : FuncData} (F : Fun K "_law_is_even" "_law_is_even" sEven f fd) (T : Txt K mg C I) :
    FnOk P w K mg base CX0 1 f fd ["_law_many", "_law_ties"] spEven := by
  refine F.ok scEven (fun vs H Q E h => ?_) (fun cdv A outer s H vs Q E hr h => ?_)
  · obtain ⟨_, _, _, rfl, _⟩ := h; rfl
  · obtain ⟨N, st, S, rfl, ⟨rs, hst, hrs⟩, SN, S60, N60, k⟩ := h
    refine ⟨_, pss_cons (ps_set (i := 2) scEven.nd rfl (Or.inr rfl) pe_dnewK)
      (pss_cons (ps_for PassesOwn.never rfl (pi_range1 rfl T.range (pa_cons (pv 0) pa_nil)) (pg_name (i := 3) scEven.nd rfl (Or.inl rfl)) (pss_cons (ps_set (i := 4) scEven.nd rfl (Or.inl rfl) (pe_lst (pa_cons (pe_tup (pa_cons (pv 3) (pa_cons pe_int pa_nil))) pa_nil)))
      (pss_one (ps_while PassesOwn.never (pt_cmpR (op_neNil hr.units) (pv 4) (pe_lst pa_nil) (nomark _)) (pss_cons (ps_asg (pe_bm0 PySem.F.plainAttrs_list PySem.F.slot_list_pop PySem.F.type_list_pop mt_pop (pv 4)) (pg_tup rfl (pgs_cons (pg_name (i := 5) scEven.nd rfl (Or.inl rfl)) (pgs_cons (pg_name (i := 6) scEven.nd rfl (Or.inl rfl)) pgs_nil))))
      (pss_one (ps_if (pt_cmp (pc_dnotin (hu_of hr) (pv 5) (pv 2))) (pss_cons (ps_dput (hu_of hr) (pv 2) (pv 5) (pv 6) rfl)
      (pss_one (ps_for PassesOwn.never rfl (pi_list (pv 1)) (pg_tup rfl (pgs_cons (pg_name (i := 7) scEven.nd rfl (Or.inl rfl)) (pgs_cons (pg_name (i := 8) scEven.nd rfl (Or.inl rfl)) (pgs_cons (pg_name (i := 9) scEven.nd rfl (Or.inl rfl)) (pgs_cons (pg_name (i := 10) scEven.nd rfl (Or.inl rfl)) pgs_nil))))) (pss_one (ps_if (pt_cmpR op_in_seq (pv 5) (pe_tup (pa_cons (pv 8) (pa_cons (pv 9) pa_nil))) (by rfl)) (pss_one (ps_expr (pe_bm PySem.F.plainAttrs_list PySem.F.slot_list_append PySem.F.type_list_append mt_append (pv 4) (pa_cons (pe_tup (pa_cons (pe_op op_sub (pe_op op_add (pv 8) (pv 9)) (pv 5)) (pa_cons (pe_op op_sub pe_int (pv 6)) pa_nil))) pa_nil)))) pss_nil))))) pss_nil)))))))
      (pss_one (ps_ret (pe_cmpR (op_eqNil hr.units) (pe_comp (T := ["_law_tie"]) (F := ["_law_sides"]) (js := [2]) (CS.to (osc := defScope sEven) ⟨by rfl, by decide +kernel, by decide +kernel, by decide +kernel, by decide +kernel, by decide +kernel, by decide +kernel⟩ rfl rfl) rfl (pi_list (pv 1)) (fun _ _ _ _ _ => pg_name (i := 0) (show (["_law_tie", "_law_sides"] : List Str).Nodup by decide +kernel) rfl (Or.inl rfl)) (fun _ _ _ _ _ => pif_one (pt_cmpR op_eq (pe_dget (hu_of hr) (pv 1) (pe_ix (r := rIxT K) ix_tup (pv 0) pe_int (fun _ _ => rfl)) (fun _ _ => rfl)) (pe_dget (hu_of hr) (pv 1) (pe_ix (r := rIxT K) ix_tup (pv 0) pe_int (fun _ _ => rfl)) (fun _ _ => rfl)) (nomark _))) (fun _ _ _ _ _ => pv 0)) (pe_lst pa_nil) (nomark _))))), ?_⟩
    intro d hd
    have s1 := same_new (o := .dK []) hd
    have d1 := upd_same (H := H) (a := d) (o := .dK [])
    generalize upd H d (.dK []) = H1 at s1 d1
    refine ⟨_, rfl, (N : Int), rfl, by omega, by omega, for_range (lo := 0) (n := (N : Int).toNat) (fun i σ H5 => ∃ (u3 u4 u5 u6 u7 u8 u9 u10 : Option V) (ks : Ks), σ = [some (.int (N : Int)), some (.ref st), some (.ref d), u3, u4, u5, u6, u7, u8, u9, u10] ∧ Same H H5 ∧ H5 d = some (.dK (ksK ks)) ∧ KsOk N ks ∧ (∀ p ∈ ks, Par N S p.1 p.2) ∧ (∀ v, Nb S ks v → v ∈ ks.map (·.1)) ∧ ∀ v, v < i → v ∈ ks.map (·.1)) ⟨_, _, _, _, _, _, _, _, [], rfl, s1, d1, ⟨by simp, by simp⟩, by simp, (fun v ⟨t, _, h⟩ => by rcases h with ⟨z, _⟩ | ⟨z, _⟩ <;> cases z), fun v h => absurd h (by omega)⟩ ?_ ?_⟩
    · rintro i σ H5 hi ⟨u3, u4, u5, u6, u7, u8, u9, u10, ks, rfl, s5, d5, K5, q5, c5, m5⟩
      have hi : i < N := by simpa using hi
      refine ⟨_, rfl, small (by simp), fun t0 ht0 => ?_⟩
      have s6 := same_new (o := .tup [.int (0 + (i : Int)), .int 0]) ht0
      have t6 : upd H5 t0 (.tup [.int (0 + (i : Int)), .int 0]) t0 = some (.tup [.int (i : Int), .int 0]) := by rw [upd_same, Int.zero_add]
      generalize upd H5 t0 (.tup [.int (0 + (i : Int)), .int 0]) = H6 at s6 t6
      refine ⟨small (by simp), fun l hl => ?_⟩
      have s7 := same_new (o := .lst [.ref t0]) hl
      have l7 := upd_same (H := H6) (a := l) (o := .lst [.ref t0])
      have t7 := s7 _ _ t6
      have S7 := (s5.trans s6).trans s7
      have d7 := s7 _ _ (s6 _ _ d5)
      have hl0 : H l = none := none_of (s5.trans s6) hl
      generalize upd H6 l (.lst [.ref t0]) = H7 at s7 l7 t7 S7 d7
      have nld : l ≠ d := (ne_of d7 l7 (by intro z; cases z)).symm
      have low : i ∈ ks.map (·.1) ∨ Par N S i 0 := by
        by_cases hik : i ∈ ks.map (·.1)
        · exact .inl hik
        · exact .inr (Par.least (next_least (M := fun v => v ∈ ks.map (·.1)) SN N60 hi (fun t ht => ⟨fun h => c5 _ ⟨t, ht, .inl ⟨h, rfl⟩⟩, fun h => c5 _ ⟨t, ht, .inr ⟨h, rfl⟩⟩⟩) m5 hik))
      dsimp only [gName, tSeq]
      refine while_gh (fun m σ H8 => ∃ (u5 u6 u7 u8 u9 u10 : Option V) (ks : Ks) (qs : List Addr), σ = [some (.int (N : Int)), some (.ref st), some (.ref d), some (.int (0 + (i : Int))), some (.ref l), u5, u6, u7, u8, u9, u10] ∧ Same H H8 ∧ H8 d = some (.dK (ksK ks)) ∧ KsOk N ks ∧ H8 l = some (.lst (qs.map V.ref)) ∧ (∀ q ∈ qs, RowOk N S ks H8 q) ∧ (∀ p ∈ ks, Par N S p.1 p.2) ∧ (∀ v, v < i → v ∈ ks.map (·.1)) ∧ (∀ v, (v = i ∨ Nb S ks v) → v ∈ ks.map (·.1) ∨ ∃ q ∈ qs, ∃ s : Int, H8 q = some (.tup [.int (v : Int), .int s])) ∧ m = (N - ks.length) * (S.length + 1) + qs.length ∧ m ≤ 4000) (m0 := (N - ks.length) * (S.length + 1) + 1) ⟨_, _, _, _, _, _, ks, [t0], rfl, S7, d7, K5, l7, fun q hq => by rw [List.mem_singleton.mp hq]; exact ⟨i, 0, hi, .inl rfl, low, t7⟩, q5, m5, fun v hv => hv.elim (fun e => .inr ⟨t0, List.mem_singleton.mpr rfl, 0, by rw [e]; exact t7⟩) fun nb => .inl (c5 v nb), rfl, ?_⟩ ?_ ?_
      · have : (N - ks.length) * (S.length + 1) ≤ 60 * 61 := Nat.mul_le_mul (by omega) (by omega)
        omega
      rotate_left
      · rintro σ H Q Q' f ⟨v4, e4, z0, h⟩
        exact ⟨v4, e4, z0, fun p hp => let ⟨a, b, xs, ea, eb, sa, sb, bb, ebb, q⟩ := h p hp; ⟨a, b, xs, ea, eb, sa, sb, bb, ebb, f _ _ q⟩⟩
      rintro m σ H8 ⟨u5, u6, u7, u8, u9, u10, ks, qs, rfl, s8, d8, K8, l8, r8, q8, m8, i8, hm, m4⟩
      refine ⟨_, rfl, small (by simp), fun e he => ?_⟩
      have s9 := same_new (o := .lst []) he
      have e9 := upd_same (H := H8) (a := e) (o := .lst [])
      have S9 := s8.trans s9
      have d9 := s9 _ _ d8
      have l9 := s9 _ _ l8
      have r9 : ∀ q ∈ qs, RowOk N S ks (upd H8 e (.lst [])) q := fun q hq => (r8 q hq).tk (TK.of s9)
      have i9 : ∀ v, (v = i ∨ Nb S ks v) → v ∈ ks.map (·.1) ∨ ∃ q ∈ qs, ∃ s : Int, upd H8 e (.lst []) q = some (.tup [.int (v : Int), .int s]) := fun v hv => (i8 v hv).imp id fun ⟨q, hq, s, h⟩ => ⟨q, hq, s, s9 _ _ h⟩
      clear r8 i8
      generalize upd H8 e (.lst []) = H9 at s9 e9 S9 d9 l9 r9 i9
      refine ⟨l, e, _, rfl, rfl, SqL.of l9, SqL.of e9, _, rfl, ?_⟩
      by_cases g : qs = []
      · subst g
        refine iteF ⟨_, _, _, _, _, _, _, _, ks, rfl, S9, d9, K8, q8, (fun v nb => (i9 v (.inr nb)).resolve_right fun ⟨q, hq, _⟩ => by cases hq), fun v hv => ?_⟩
        by_cases ev : v = i
        · rw [ev]
          exact (i9 i (.inl rfl)).resolve_right fun ⟨q, hq, _⟩ => by cases hq
        · exact m8 v (by omega)
      rw [show (!(qs.map V.ref).isEmpty) = true by cases qs with | nil => exact absurd rfl g | cons a b => rfl]
      refine iteT ?_
      have hlq : qs.length - 1 < qs.length := by cases qs with | nil => exact absurd rfl g | cons a b => simp
      have hlast := getq hlq
      generalize qs[qs.length - 1] = r at hlast
      obtain ⟨p, s, pN, s2, par, er⟩ := r9 r (List.mem_of_getElem? hlast)
      refine ⟨_, rfl, .inl ⟨rfl, _, SqL.of l9⟩, l, _, _, rfl, rfl, l9, (by rw [List.length_map, List.getElem?_map, hlast]; rfl), ?_⟩
      have tkA := TK.lst (o := .lst (qs.map V.ref).dropLast) l9
      have lA : upd H9 l (.lst (qs.map V.ref).dropLast) l = some (.lst (qs.dropLast.map V.ref)) := by rw [upd_same, List.map_dropLast]
      have SA : Same H (upd H9 l (.lst (qs.map V.ref).dropLast)) := same_set S9 hl0
      have dA : upd H9 l (.lst (qs.map V.ref).dropLast) d = some (.dK (ksK ks)) := by rw [upd_ne nld.symm]; exact d9
      generalize upd H9 l (.lst (qs.map V.ref).dropLast) = HA at tkA lA SA dA
      have rA : ∀ q ∈ qs.dropLast, RowOk N S ks HA q := fun q hq => (r9 q (List.dropLast_subset _ hq)).tk tkA
      have erA := tkA _ _ er
      have iA : ∀ v, (v = i ∨ Nb S ks v) → (v ∈ ks.map (·.1) ∨ p = v) ∨ ∃ q ∈ qs.dropLast, ∃ s : Int, HA q = some (.tup [.int (v : Int), .int s]) := fun v hv => by
        rcases i9 v hv with h | ⟨q, hq, s', h⟩
        · exact .inl (.inl h)
        · rcases last_rows hlast q hq with h1 | rfl
          · exact .inr ⟨q, h1, s', tkA _ _ h⟩
          · rw [er] at h
            injection h with h
            injection h with h
            injection h with h _
            injection h with h
            exact .inl (.inr (by omega))
      have lq : qs.dropLast.length + 1 = qs.length := by rw [List.length_dropLast]; omega
      generalize qs.dropLast = qs' at lA rA iA lq
      refine ⟨r, _, rfl, SqT.of erA, rfl, _, _, rfl, _, _, rfl, rfl, ?_⟩
      by_cases hp : p ∈ ks.map (·.1)
      · refine ⟨_, rfl, _, rfl, d, _, rfl, DGet.k (k := Sum.inl (p : Int)) dA, _, rfl, ?_⟩
        rw [ks_some hp]
        refine iteF ⟨m - 1, by omega, _, _, _, _, _, _, ks, qs', rfl, SA, dA, K8, lA, rA, q8, m8, fun v hv => ?_, by omega, by omega⟩
        rcases iA v hv with (h | h) | h
        · exact .inl h
        · exact .inl (h ▸ hp)
        · exact .inr h
      refine ⟨_, rfl, _, rfl, d, _, rfl, DGet.k (k := Sum.inl (p : Int)) dA, _, rfl, ?_⟩
      rw [ks_none hp]
      refine iteT ?_
      have par := par.resolve_left hp
      have qB : ∀ x ∈ ks ++ [(p, s)], Par N S x.1 x.2 := fun x hx => by
        rcases List.mem_append.mp hx with z | z
        · exact q8 x z
        · rw [List.mem_singleton.mp z]; exact par
      have KB := K8.snoc hp pN s2
      have kl := KB.len
      rw [List.length_append] at kl
      have kl : ks.length + 1 ≤ N := kl
      refine ⟨_, rfl, _, rfl, _, rfl, d, _, rfl, DPut.k (k := Sum.inl (p : Int)) dA (small1000 (by unfold ksK; rw [List.length_map]; omega)), ?_⟩
      rw [ks_put hp]
      have tkB := TK.dk (o := .dK (ksK (ks ++ [(p, s)]))) dA
      have dB := upd_same (H := HA) (a := d) (o := .dK (ksK (ks ++ [(p, s)])))
      have SB : Same H (upd HA d (.dK (ksK (ks ++ [(p, s)])))) := same_set SA hd
      have lB : upd HA d (.dK (ksK (ks ++ [(p, s)]))) l = some (.lst (qs'.map V.ref)) := by rw [upd_ne nld]; exact lA
      have rB : ∀ q ∈ qs', RowOk N S (ks ++ [(p, s)]) (upd HA d (.dK (ksK (ks ++ [(p, s)])))) q := fun q hq => (rA q hq).more.tk tkB
      have iB : ∀ v, (v = i ∨ Nb S ks v) → v ∈ (ks ++ [(p, s)]).map (·.1) ∨ ∃ q ∈ qs', ∃ s' : Int, upd HA d (.dK (ksK (ks ++ [(p, s)]))) q = some (.tup [.int (v : Int), .int s']) := fun v hv => by
        rw [List.map_append]
        rcases iA v hv with (h | h) | ⟨q, hq, s', h⟩
        · exact .inl (List.mem_append_left _ h)
        · exact .inl (List.mem_append_right _ (by rw [h]; exact List.mem_singleton.mpr rfl))
        · exact .inr ⟨q, hq, s', tkB _ _ h⟩
      have mB : ∀ v, v < i → v ∈ (ks ++ [(p, s)]).map (·.1) := fun v hv => by rw [List.map_append]; exact List.mem_append_left _ (m8 v hv)
      generalize upd HA d (.dK (ksK (ks ++ [(p, s)]))) = HB at tkB dB SB lB rB iB
      have hmB : (N - (ks.length + 1)) * (S.length + 1) + (S.length + 1) + qs'.length + 1 = m := by rw [meas (by omega)]; omega
      have stB := SB _ _ hst
      refine ⟨_, rfl, st, rfl, ⟨_, SqL.of stB⟩, for_list (K := K) (a := st) (xs := rs.map V.ref) (fun j σ HC => ∃ (u7 u8 u9 u10 : Option V) (qs : List Addr), σ = [some (.int (N : Int)), some (.ref st), some (.ref d), some (.int (0 + (i : Int))), some (.ref l), some (.int (p : Int)), some (.int s), u7, u8, u9, u10] ∧ Same H HC ∧ HC d = some (.dK (ksK (ks ++ [(p, s)]))) ∧ HC l = some (.lst (qs.map V.ref)) ∧ (∀ q ∈ qs, RowOk N S (ks ++ [(p, s)]) HC q) ∧ (∀ v, ((v = i ∨ Nb S ks v) ∨ Bs (S.take j) p v) → v ∈ (ks ++ [(p, s)]).map (·.1) ∨ ∃ q ∈ qs, ∃ s' : Int, HC q = some (.tup [.int (v : Int), .int s'])) ∧ qs.length ≤ qs'.length + j) ⟨_, _, _, _, qs', rfl, SB, dB, lB, rB, fun v hv => iB v (hv.resolve_right fun ⟨t, ht, _⟩ => by simp at ht), Nat.le_refl _⟩ (fun j σ HC _ ⟨_, _, _, _, _, _, s, _⟩ => SqL.of (s _ _ hst)) ?_ ?_⟩
      · rintro j x σ HC hx ⟨u7, u8, u9, u10, ps, rfl, sC, dC, lC, rC, iC, pl⟩
        obtain ⟨r2, hr', rfl⟩ := map_some hx
        obtain ⟨t, ht, er2⟩ := hrs.get hr'
        have tN := SN t (List.mem_of_getElem? ht)
        have hj : j < S.length := (List.getElem?_eq_some_iff.mp ht).1
        have erC := sC _ _ er2
        have tk : S.take (j + 1) = S.take j ++ [t] := by rw [List.take_add_one, ht]; rfl
        refine ⟨r2, _, rfl, SqT.of erC, rfl, _, _, rfl, _, _, rfl, _, _, rfl, _, _, rfl, rfl, ?_⟩
        refine ⟨_, rfl, _, rfl, _, rfl, small (by simp), fun c2 hc2 => ?_⟩
        have sD := same_new (o := .tup [.int (t.2.1 : Int), .int (t.2.2.1 : Int)]) hc2
        have cD := upd_same (H := HC) (a := c2) (o := .tup [.int (t.2.1 : Int), .int (t.2.2.1 : Int)])
        have SD := sC.trans sD
        have dD := sD _ _ dC
        have lD := sD _ _ lC
        have rD : ∀ q ∈ ps, RowOk N S (ks ++ [(p, s)]) (upd HC c2 (.tup [.int (t.2.1 : Int), .int (t.2.2.1 : Int)])) q := fun q hq => (rC q hq).tk (TK.of sD)
        have iD : ∀ v, ((v = i ∨ Nb S ks v) ∨ Bs (S.take j) p v) → v ∈ (ks ++ [(p, s)]).map (·.1) ∨ ∃ q ∈ ps, ∃ s' : Int, upd HC c2 (.tup [.int (t.2.1 : Int), .int (t.2.2.1 : Int)]) q = some (.tup [.int (v : Int), .int s']) := fun v hv => (iC v hv).imp id fun ⟨q, hq, s', h⟩ => ⟨q, hq, s', sD _ _ h⟩
        have erD := sD _ _ erC
        generalize upd HC c2 (.tup [.int (t.2.1 : Int), .int (t.2.2.1 : Int)]) = HD at sD cD SD dD lD rD iD erD
        refine ⟨c2, _, rfl, .inr (SqT.of cD), rfl, rfl, _, rfl, ?_⟩
        show if (inV (.int (p : Int)) [.int (t.2.1 : Int), .int (t.2.2.1 : Int)]) = true then _ else _
        rw [in_ends]
        by_cases gv : p = t.2.1 ∨ p = t.2.2.1
        rotate_left
        · rw [decide_eq_false gv]
          refine iteF ?_
          refine ⟨_, _, _, _, ps, rfl, SD, dD, lD, rD, fun v hv => iD v (hv.imp id fun ⟨t', ht', h⟩ => ?_), by omega⟩
          rw [tk] at ht'
          rcases List.mem_append.mp ht' with z | z
          · exact ⟨t', z, h⟩
          · rw [List.mem_singleton.mp z] at h
            exact absurd (h.imp And.left And.left) gv
        rw [decide_eq_true gv]
        refine iteT ?_
        obtain ⟨y, ey, yN, yp⟩ : ∃ y : Nat, (t.2.1 : Int) + (t.2.2.1 : Int) - (p : Int) = (y : Int) ∧ y < N ∧ Par N S y (1 - s) := by
          rcases gv with e | e
          · exact ⟨t.2.2.1, by omega, tN.2, (Par.step (List.mem_of_getElem? ht)).1 (e ▸ par)⟩
          · exact ⟨t.2.1, by omega, tN.1, (Par.step (List.mem_of_getElem? ht)).2 (e ▸ par)⟩
        refine ⟨_, rfl, .inl ⟨rfl, _, SqL.of lD⟩, _, rfl, _, rfl, _, _, rfl, rfl, _, rfl, _, _, rfl, rfl, _, rfl, _, _, rfl, rfl, small (by simp), fun n hn => ?_⟩
        have sE := same_new (o := .tup [.int ((t.2.1 : Int) + (t.2.2.1 : Int) - (p : Int)), .int (1 - s)]) hn
        have nE := upd_same (H := HD) (a := n) (o := .tup [.int ((t.2.1 : Int) + (t.2.2.1 : Int) - (p : Int)), .int (1 - s)])
        have SE := SD.trans sE
        have dE := sE _ _ dD
        have lE := sE _ _ lD
        have rE : ∀ q ∈ ps, RowOk N S (ks ++ [(p, s)]) (upd HD n (.tup [.int ((t.2.1 : Int) + (t.2.2.1 : Int) - (p : Int)), .int (1 - s)])) q := fun q hq => (rD q hq).tk (TK.of sE)
        have iE : ∀ v, ((v = i ∨ Nb S ks v) ∨ Bs (S.take j) p v) → v ∈ (ks ++ [(p, s)]).map (·.1) ∨ ∃ q ∈ ps, ∃ s' : Int, upd HD n (.tup [.int ((t.2.1 : Int) + (t.2.2.1 : Int) - (p : Int)), .int (1 - s)]) q = some (.tup [.int (v : Int), .int s']) := fun v hv => (iD v hv).imp id fun ⟨q, hq, s', h⟩ => ⟨q, hq, s', sE _ _ h⟩
        generalize upd HD n (.tup [.int ((t.2.1 : Int) + (t.2.2.1 : Int) - (p : Int)), .int (1 - s)]) = HE at sE nE SE dE lE rE iE
        rw [ey] at nE
        refine ⟨l, _, _, rfl, rfl, lE, small5 (by rw [List.length_map]; omega), _, _, _, _, ps ++ [n], rfl, same_set SE hl0, by rw [upd_ne nld.symm]; exact dE, by rw [upd_same, List.map_append]; rfl, fun q hq => ?_, fun v hv => ?_, by rw [List.length_append]; show _ + 1 ≤ _; omega⟩
        · rcases List.mem_append.mp hq with h | h
          · exact (rE q h).tk (TK.lst lE)
          · rw [List.mem_singleton.mp h]
            exact ⟨y, 1 - s, yN, by omega, .inr yp, TK.lst lE _ _ nE⟩
        · have old : ((v = i ∨ Nb S ks v) ∨ Bs (S.take j) p v) ∨ v = y := by
            rcases hv with h | ⟨t', ht', h⟩
            · exact .inl (.inl h)
            · rw [tk] at ht'
              rcases List.mem_append.mp ht' with z | z
              · exact .inl (.inr ⟨t', z, h⟩)
              · rw [List.mem_singleton.mp z] at h
                exact .inr (by omega)
          rcases old with h | rfl
          · exact (iE v h).imp id fun ⟨q, hq, s', h⟩ => ⟨q, List.mem_append_left _ hq, s', TK.lst lE _ _ h⟩
          · exact .inr ⟨n, List.mem_append_right _ (List.mem_singleton.mpr rfl), _, TK.lst lE _ _ nE⟩
      · rintro σ HC ⟨u7, u8, u9, u10, ps, rfl, sC, dC, lC, rC, iC, pl⟩
        rw [List.length_map, hrs.1] at pl iC
        rw [List.take_length] at iC
        exact ⟨(N - (ks.length + 1)) * (S.length + 1) + ps.length, by omega, _, _, _, _, _, _, ks ++ [(p, s)], ps, rfl, sC, dC, KB, lC, rC, qB, mB, fun v hv => iC v (hv.elim (fun e => .inl (.inl e)) fun nb => nb.snoc.imp .inr id), by rw [List.length_append]; rfl, by omega⟩
    · rintro σ H5 ⟨u3, u4, u5, u6, u7, u8, u9, u10, ks, rfl, s5, d5, K5, q5, c5, m5⟩
      have m5 : ∀ v, v < N → v ∈ ks.map (·.1) := fun v hv => m5 v (by simpa using hv)
      have st5 := s5 _ _ hst
      refine ⟨_, rfl, st, rfl, ⟨_, SqL.of st5⟩, fun D hD => comp_list (K := K) (a := st) (xs := rs.map V.ref) (fun j σ ys H6 => ∃ (u : Option V) (fs : List Addr), σ = [u, some (.ref d)] ∧ ys = fs.map V.ref ∧ Same H5 H6 ∧ H6 D = some (.lst ys) ∧ fs.length ≤ j ∧ (fs = [] → ∀ t ∈ S.take j, sdV ks t.2.1 ≠ sdV ks t.2.2.1) ∧ (fs ≠ [] → ∃ t ∈ S, sdV ks t.2.1 = sdV ks t.2.2.1)) ⟨none, [], rfl, rfl, same_new hD, upd_same, Nat.le_refl _, (fun _ t ht => by simp at ht), fun h => absurd rfl h⟩ (fun j σ ys H6 _ ⟨_, _, _, _, e, f, _⟩ => ⟨SqL.of (e _ _ st5), f⟩) ?_ ?_⟩
      · rintro j x σ ys H6 hx ⟨u, fs, rfl, rfl, s6, D6, fl, fa, fx⟩
        obtain ⟨r, hr', rfl⟩ := map_some hx
        obtain ⟨t, ht, er⟩ := hrs.get hr'
        have tN := SN t (List.mem_of_getElem? ht)
        have tk : S.take (j + 1) = S.take j ++ [t] := by rw [List.take_add_one, ht]; rfl
        have er6 := s6 _ _ (s5 _ _ er)
        have d6 := s6 _ _ d5
        have hj : j < S.length := (List.getElem?_eq_some_iff.mp ht).1
        have g1 := DGet.k (k := Sum.inl (t.2.1 : Int)) d6
        have g2 := DGet.k (k := Sum.inl (t.2.2.1 : Int)) d6
        rw [ks_some (m5 _ tN.1)] at g1
        rw [ks_some (m5 _ tN.2)] at g2
        refine ⟨_, rfl, _, rfl, r, _, 1, _, rfl, rfl, SqT.of er6, atI_nat (j := 1) rfl, d, _, rfl, g1, _, rfl, _, rfl, r, _, 2, _, rfl, rfl, SqT.of er6, atI_nat (j := 2) rfl, d, _, rfl, g2, rfl, _, rfl, ?_⟩
        by_cases g : sdV ks t.2.1 = sdV ks t.2.2.1
        · rw [show decide (V.int (sdV ks t.2.1) = V.int (sdV ks t.2.2.1)) = true from decide_eq_true (by rw [g])]
          refine iteT ⟨_, rfl, D6, small1000 (by rw [List.length_map]; omega), _, fs ++ [r], rfl, by rw [List.map_append]; rfl, same_set s6 hD, upd_same, by simp; omega, (fun e => absurd e (by simp)), fun _ => ⟨t, List.mem_of_getElem? ht, g⟩⟩
        · rw [show decide (V.int (sdV ks t.2.1) = V.int (sdV ks t.2.2.1)) = false from decide_eq_false (fun e => g (by injection e))]
          refine iteF ⟨_, fs, rfl, rfl, s6, D6, by omega, fun e t' ht' => ?_, fx⟩
          rw [tk] at ht'
          rcases List.mem_append.mp ht' with h | h
          · exact fa e t' h
          · rw [List.mem_singleton.mp h]; exact g
      rintro σ ys H6 ⟨u, fs, rfl, rfl, s6, D6, fl, fa, fx⟩
      rw [List.length_map, hrs.1, List.take_length] at fa
      refine ⟨small (by simp), fun e he => ?_⟩
      have se := same_new (o := .lst []) he
      have e7 := upd_same (H := H6) (a := e) (o := .lst [])
      have S7 := s6.trans se
      have D7 := se _ _ D6
      generalize upd H6 e (.lst []) = H7 at se e7 S7 D7
      refine ⟨D, e, _, rfl, rfl, SqL.of D7, SqL.of e7, k _ H7 (s5.trans S7) ?_⟩
      by_cases g : fs = []
      rotate_left
      · obtain ⟨t, tm, et⟩ := fx g
        have nt := Par.bad SN N60 tm (sd_par q5 (m5 _ (SN t tm).1)) (by rw [et]; exact sd_par q5 (m5 _ (SN t tm).2))
        have : (fs.map V.ref).isEmpty = false := by cases fs with | nil => exact absurd rfl g | cons a b => rfl
        rw [this]
        exact ⟨fun z => (by cases z), fun z => absurd z nt⟩
      have fb := fa g
      subst g
      refine ⟨fun _ => ⟨fun v => if v ∈ ks.map (·.1) then sdV ks v else 0, fun v => ?_, fun t ht => ?_⟩, fun _ => rfl⟩
      · show (if v ∈ ks.map (·.1) then sdV ks v else 0) = 0 ∨ (if v ∈ ks.map (·.1) then sdV ks v else 0) = 1
        split
        · rename_i h; exact ks_two K5 h
        · exact .inl rfl
      · show (if t.2.1 ∈ ks.map (·.1) then sdV ks t.2.1 else 0) ≠ (if t.2.2.1 ∈ ks.map (·.1) then sdV ks t.2.2.1 else 0)
        rw [if_pos (m5 _ (SN t ht).1), if_pos (m5 _ (SN t ht).2)]
        exact fb t ht
end
end K22
set_option maxHeartbeats 1000000
namespace L2
open PySem
theorem vals_refsD : ∀ {as : List Addr} {us : List Value}, Vals (as.map V.ref) us → us = as.map Value.ref
  | [], _, h => by cases h; rfl
  | a :: as, _, h => by
    cases h with
    | cons r t => cases r; rw [vals_refsD t]; rfl
def refB (e : Addr → Bool) : Value → Bool
  | .ref a => e a
  | _ => false
theorem any_refB (e : Addr → Bool) (as : List Addr) : (as.map Value.ref).any (refB e) = as.any e := by
  rw [List.any_map]; rfl
inductive RNotInDP (K : PySem.W.Frag) (x : V) (y : V) (H : Hp) (Q : VK) : Prop
  | mk (p : Addr) (as : List Addr) (e : Addr → Bool) (n : Nat) : (y = .ref p) → (SqT K H p (as.map V.ref)) → (n ≤ 30) → (∀ a ∈ as, Eqs K H n (.ref a) x (e a)) → (Q (.bl (!as.any e)) H) → RNotInDP K x y H Q
def rNotInD (K : PySem.W.Frag) : R2 := fun x y H Q => RNotInDP K x y H Q
theorem op_notInD {X : Cx} (hu : X.A.units + 64 < cLine) : OpR X (compareOp .NotIn) (rNotInD X.K) := by
  intro pins s σ H x y v u Q I rx ry h
  obtain ⟨p, as, e, n, rfl, hq, hn, he, q⟩ := h
  cases ry
  obtain ⟨its, r, pl, hz⟩ := I.tuple hq
  have hi := vals_refsD r
  subst hi
  refine SeqAt.notIn_tupleAt (refB e) pl (fun w hw => ?_) ⟨.bl _, H, I, rfl, ?_⟩
  · have hw : w ∈ as.map Value.ref := by simpa using hw
    obtain ⟨a, ha, rfl⟩ := List.mem_map.mp hw
    refine eqs_at I n (A := X.A.in1) ?_ (he a ha) rfl rx
    have e1 : X.A.in1.units ≤ X.A.units + 1 := Nat.le_refl _
    omega
  · rw [show (as.map Value.ref).toArray.any (refB e) = (as.map Value.ref).any (refB e) by simp, any_refB]
    exact q
end L2
set_option maxHeartbeats 1000000
namespace K22
open PySem L2 Wk
theorem rows_stand {H H' : Hp} {qs qs' : List Srt.Row} {S : List T4} {st : Addr} (hat : ∀ q ∈ qs, IsTie q.2 ∧ H q.1 = some (.tup (q.2.map kV))) (hS : (qs.map fun q => tieOf q.2).Perm S) (perm : qs'.Perm qs) (srt : qs'.Pairwise fun a b => Srt.ltR b.2 a.2 = false) (s : Same H H') (hst : H' st = some (.tup (qs'.map Srt.rRef))) :
    StandAt H' st (qs'.map fun q => tieOf q.2) ∧ Srtd (qs'.map fun q => tieOf q.2) S := by
  have hk : ∀ q ∈ qs', keysOf (tieOf q.2) = q.2 := fun q hq => by
    obtain ⟨⟨t, e⟩, _⟩ := hat q (perm.mem_iff.mp hq)
    rw [e, tieOf_keys]
  refine ⟨⟨qs'.map (·.1), ?_, ?_⟩, (perm.map _).trans hS, ?_⟩
  · have : (qs'.map (·.1)).map V.ref = qs'.map Srt.rRef := by rw [List.map_map]; rfl
    rw [this]; exact hst
  · refine ⟨by simp, fun i a t ha ht => ?_⟩
    obtain ⟨q, hq, rfl⟩ := map_some ha
    rw [List.getElem?_map, hq] at ht
    cases ht
    obtain ⟨⟨t, e⟩, h9⟩ := hat q (perm.mem_iff.mp (List.mem_of_getElem? hq))
    show _ = some (HO.tup (tieV (tieOf q.2)))
    rw [e, tieOf_keys, ← keys_tieV, ← e]
    exact s _ _ h9
  · rw [List.pairwise_map]
    refine srt.imp_of_mem fun {a b} ha hb h => ?_
    rw [hk a ha, hk b hb]; exact h
theorem nms_of {S T : List T4} (h : Srtd S T) : NmS (S.map (·.1)) := by
  unfold NmS
  rw [List.pairwise_map]
  refine h.2.imp fun {a b} e => ?_
  unfold keysOf at e
  unfold Srt.ltR at e
  split at e
  · rename_i z; rw [z]; exact Srt.ltK_irr _
  · exact e
theorem zip_rows {H : Hp} {as : List Addr} {S : List T4} (f : T4 → List Key) (hl : as.length = S.length) (h : ∀ (i : Nat) r t, as[i]? = some r → S[i]? = some t → H r = some (.tup ((f t).map kV))) :
    ((as.zip S).map fun q => ((q.1, f q.2) : Srt.Row)).map Srt.rRef = as.map V.ref ∧ (∀ q ∈ (as.zip S).map fun q => ((q.1, f q.2) : Srt.Row), (∃ t ∈ S, q.2 = f t) ∧ H q.1 = some (.tup (q.2.map kV))) ∧ (as.zip S).map Prod.snd = S := by
  refine ⟨?_, fun q hq => ?_, List.map_snd_zip (Nat.le_of_eq hl.symm)⟩
  · rw [List.map_map]
    have e : (as.zip S).map Prod.fst = as := List.map_fst_zip (Nat.le_of_eq hl)
    have : (Srt.rRef ∘ fun q : Addr × T4 => ((q.1, f q.2) : Srt.Row)) = V.ref ∘ Prod.fst := by funext q; rfl
    rw [this, ← List.map_map, e]
  · obtain ⟨p, hp, rfl⟩ := List.mem_map.mp hq
    obtain ⟨i, hi, e⟩ := List.mem_iff_getElem.mp hp
    rw [List.length_zip] at hi
    rw [List.getElem_zip] at e
    rw [← e]
    exact ⟨⟨_, List.getElem_mem (by omega), rfl⟩, h i _ _ (getq (by omega)) (getq (by omega))⟩
theorem sort_rows {K : PySem.W.Frag} {H : Hp} {as : List Addr} {S : List T4} (t5 : TiesAt H as S) (Sl : S.length ≤ 60) : ∃ qs : List Srt.Row, qs.map Srt.rRef = as.map V.ref ∧ Srt.RowsOk K H qs ∧
    ∀ (qs' : List Srt.Row) (H' : Hp) (st : Addr), qs'.Perm qs → qs'.Pairwise (fun a b => Srt.ltR b.2 a.2 = false) → Same H H' → H' st = some (.tup (qs'.map Srt.rRef)) → ∃ S' : List T4, StandAt H' st S' ∧ S'.Perm S ∧ NmS (S'.map (·.1)) := by
  obtain ⟨hz, hat, hsn⟩ := zip_rows keysOf t5.1 t5.2
  have hS : (((as.zip S).map fun q => ((q.1, keysOf q.2) : Srt.Row)).map (fun q => tieOf q.2)).Perm S := by
    rw [List.map_map]
    have : ((fun q : Srt.Row => tieOf q.2) ∘ fun q : Addr × T4 => ((q.1, keysOf q.2) : Srt.Row)) = Prod.snd := by funext q; exact tieOf_keys q.2
    rw [this, hsn]
  have hlz : ((as.zip S).map fun q => ((q.1, keysOf q.2) : Srt.Row)).length ≤ 60 := by rw [List.length_map, List.length_zip]; omega
  have hat' : ∀ q ∈ (as.zip S).map fun q => ((q.1, keysOf q.2) : Srt.Row), IsTie q.2 ∧ H q.1 = some (.tup (q.2.map kV)) := fun q hq => by
    obtain ⟨⟨t, _, e⟩, h⟩ := hat q hq
    exact ⟨⟨t, e⟩, h⟩
  generalize ((as.zip S).map fun q => ((q.1, keysOf q.2) : Srt.Row)) = qs at hz hat' hS hlz
  refine ⟨qs, hz, ⟨fun q hq => SqT.of (hat' q hq).2, fun q hq q' hq' => ?_, fun q hq => ?_, by omega⟩, fun qs' H' st perm srt s e => ?_⟩
  · obtain ⟨⟨t, e⟩, _⟩ := hat' q hq
    obtain ⟨⟨t', e'⟩, _⟩ := hat' q' hq'
    rw [e, e']; rfl
  · obtain ⟨⟨t, e⟩, _⟩ := hat' q hq
    rw [e]; simp [keysOf]
  · obtain ⟨x1, x2⟩ := rows_stand hat' hS perm srt s e
    exact ⟨_, x1, x2.1, nms_of x2⟩
theorem ifB {c : Bool} {A B : Prop} (h : c = false) (b : B) : if c = true then A else B := by rw [if_neg (by rw [h]; exact Bool.false_ne_true)]; exact b
theorem ne_no {x y : V} (h : x = y) : (!decide (x = y)) = false := by rw [decide_eq_true h]; rfl
theorem flat_nV (ps : List Nat) : (nV ps).all flatV = true := by
  unfold nV
  induction ps with
  | nil => rfl
  | cons p ps ih => exact ih
theorem in_nV {r : Nat} {ps : List Nat} (h : r ∈ ps) : inV (.int (r : Int)) (nV ps) = true := by
  unfold inV nV
  rw [List.any_eq_true]
  exact ⟨.int (r : Int), List.mem_map.mpr ⟨_, List.mem_map.mpr ⟨r, h, rfl⟩, rfl⟩, by simp [eqV]⟩
def eqTo (H : Hp) (zs : List V) (a : Addr) : Bool := match H a with
  | some (.tup ys) => decide (ys = zs)
  | _ => false
theorem eqTo_at {H : Hp} {zs ys : List V} {a : Addr} (h : H a = some (.tup ys)) : eqTo H zs a = decide (ys = zs) := by unfold eqTo; rw [h]
theorem flt_nV (ps qs : List Nat) : ∀ x ∈ nV ps, ∀ y ∈ nV qs, Flt x y = true := fun x hx y hy => by
  obtain ⟨_, _, rfl⟩ := List.mem_map.mp hx
  obtain ⟨_, _, rfl⟩ := List.mem_map.mp hy
  rfl
theorem among {K : PySem.W.Frag} {H : Hp} {as : List Addr} {N i : Nat} {S : List T4} {b : Addr} (pts : PtsAt H as N S (lsF N S)) (SN : InN N S) (hi : i < N) (hN : N ≤ 60) (hb : H b = some (.tup (nV (partF N S i)))) :
    (∀ a ∈ as, Eqs K H 1 (.ref a) (.ref b) (eqTo H (nV (partF N S i)) a)) ∧ (!as.any (eqTo H (nV (partF N S i)))) = false := by
  refine ⟨fun a ha => ?_, ?_⟩
  · obtain ⟨j, hj, e⟩ := List.mem_iff_getElem.mp ha
    have hj' : j < (lsF N S).length := by rw [← pts.1]; exact hj
    have h := pts.2 j a _ (by rw [List.getElem?_eq_getElem hj, e]) (List.getElem?_eq_getElem hj')
    rw [eqTo_at h]
    exact Eqs.flats (n := 0) (SqT.of h) (SqT.of hb) (flt_nV _ _)
  · obtain ⟨q, hq, hl, hr⟩ := part_head SN hi hN
    obtain ⟨j, hj', e⟩ := List.mem_iff_getElem.mp hl
    have hj : j < as.length := by rw [pts.1]; exact hj'
    have h := pts.2 j as[j] q (List.getElem?_eq_getElem hj) (by rw [List.getElem?_eq_getElem hj', e])
    have : as.any (eqTo H (nV (partF N S i))) = true := by
      rw [List.any_eq_true]
      refine ⟨as[j], List.getElem_mem hj, ?_⟩
      rw [eqTo_at h, part_eq SN (ls_lt hl) hi hN hr]
      exact decide_eq_true rfl
    rw [this]; rfl
def spRight (C : Addr) : Sp := fun vs H Q _ => ∃ (x S L : Addr) (N : Nat) (P : List T4) (pre : List S3) (st : S3), vs = [.ref x, .int (N : Int), .ref L] ∧ TkAt C H x S (pre ++ [st]) ∧ TsL H L P ∧ UF N P st ∧ pre.length = P.length ∧ P.length ≤ 60 ∧ 1 ≤ N ∧ N ≤ 24 ∧ ∀ H', Same H H' → Q (.bl true) H'
section
variable {P : Program} {w : World} {K : PySem.W.Frag} {mg : Str → Option Value} {base : Heap} {C I : Addr}
theorem scRight : FnScope ["_law_takes", "_law_many", "_law_ties", "_law_stand", "_law_parts", "_law_place", "_law_part", "_law_other", "_law_alike", "_law_like"] ["_law_takes", "_law_many", "_law_ties"] (defScope sRight) := ⟨rfl, rfl, rfl, by decide +kernel, rfl, by decide +kernel, by decide +kernel⟩
theorem ok_Right {f : Addr} {fd : FuncData} (F : Fun K "_law_right" "_law_right" sRight f fd) (T : Txt K mg C I)
    {gPartsOf : Addr} {fPartsOf : FuncData} (kPartsOf : PySem.W.keepIn K (.ref gPartsOf) = true) (bPartsOf : Binds K fPartsOf ["many", "stand"] []) (hPartsOf : mg "parts_of" = some (.ref gPartsOf)) (GPartsOf : FnOk P w K mg base CX0 4 gPartsOf fPartsOf ["many", "stand"] spPartsOf)
    {gParts : Addr} {fParts : FuncData} (bParts : Binds K fParts ["self"] []) (hParts : Meth K C "parts" gParts) (GParts : FnOk P w K mg base CX0 4 gParts fParts ["self"] (spParts C))
    {gJoins : Addr} {fJoins : FuncData} (bJoins : Binds K fJoins ["self"] []) (hJoins : Meth K C "joins" gJoins) (GJoins : FnOk P w K mg base CX0 4 gJoins fJoins ["self"] (spJoins C))
    {gOdd : Addr} {fOdd : FuncData} (bOdd : Binds K fOdd ["self"] []) (hOdd : Meth K C "odd" gOdd) (GOdd : FnOk P w K mg base CX0 4 gOdd fOdd ["self"] (spOdd C))
    {gEven : Addr} {fEven : FuncData} (kEven : PySem.W.keepIn K (.ref gEven) = true) (bEven : Binds K fEven ["_law_many", "_law_ties"] []) (hEven : mg "_law_is_even" = some (.ref gEven)) (GEven : FnOk P w K mg base CX0 4 gEven fEven ["_law_many", "_law_ties"] spEven)
    {gPart : Addr} {fPart : FuncData} (kPart : PySem.W.keepIn K (.ref gPart) = true) (bPart : Binds K fPart ["many", "stand", "place"] []) (hPart : mg "part_of" = some (.ref gPart)) (GPart : FnOk P w K mg base CX0 4 gPart fPart ["many", "stand", "place"] spPart)
    {gSize : Addr} {fSize : FuncData} (bSize : Binds K fSize ["self", "place"] []) (hSize : Meth K C "size" gSize) (GSize : FnOk P w K mg base CX0 4 gSize fSize ["self", "place"] (spSize C))
    {gTop : Addr} {fTop : FuncData} (bTop : Binds K fTop ["self", "place"] []) (hTop : Meth K C "top" gTop) (GTop : FnOk P w K mg base CX0 4 gTop fTop ["self", "place"] (spTop C))
    {gJoined : Addr} {fJoined : FuncData} (kJoined : PySem.W.keepIn K (.ref gJoined) = true) (bJoined : Binds K fJoined ["many", "stand", "one", "other"] []) (hJoined : mg "are_joined" = some (.ref gJoined)) (GJoined : FnOk P w K mg base CX0 4 gJoined fJoined ["many", "stand", "one", "other"] spJoined)
    {gSide : Addr} {fSide : FuncData} (bSide : Binds K fSide ["self", "place"] []) (hSide : Meth K C "side" gSide) (GSide : FnOk P w K mg base CX0 4 gSide fSide ["self", "place"] (spSide C)) :
    FnOk P w K mg base CX0 5 f fd ["_law_takes", "_law_many", "_law_ties"] (spRight C) := by
  refine F.ok scRight (fun vs H Q E h => ?_) (fun cdv A outer s H vs Q E hr h => ?_)
  · obtain ⟨_, _, _, _, _, _, _, rfl, _⟩ := h; rfl
  · obtain ⟨x, S, L, N, P, pre, st, rfl, hT, ⟨rs, hL, t0⟩, U, lp, P60, N1, N24, k⟩ := h
    refine ⟨_, pss_cons (ps_set (i := 3) scRight.nd rfl (Or.inl rfl) (pe_callTy call_tuple_of (by rfl) T.tuple (by decide +kernel) (pa_cons (pe_callB Srt.call_sortedT (by rfl) T.sorted (by decide +kernel) (pa_cons (pv 2) pa_nil)) pa_nil)))
      (pss_cons (ps_set (i := 4) scRight.nd rfl (Or.inl rfl) (pe_call GPartsOf hr rfl hPartsOf kPartsOf bPartsOf .nil pass0 (pa_cons (pv 1) (pa_cons (pv 3) pa_nil))))
      (pss_cons (ps_if (PW.pt (pw_or (pt_cmpR op_ne (pe_meth0 (pv 0) T.cl hParts GParts hr bParts .nil pass0) (pe_callB call_len_seq (by rfl) T.len PySem.boot_len (pa_cons (pv 4) pa_nil)) (nomark _)) (pw_or1 (pt_cmpR op_ne (pe_meth0 (pv 0) T.cl hJoins GJoins hr bJoins .nil pass0) (pe_callB call_len_seq (by rfl) T.len PySem.boot_len (pa_cons (pv 2) pa_nil)) (nomark _))))) (pss_one (ps_ret pe_bl)) pss_nil)
      (pss_cons (ps_if (pt_cmpR op_ne (pe_cmpR op_eq (pe_meth0 (pv 0) T.cl hOdd GOdd hr bOdd .nil pass0) pe_int (nomark _)) (pe_call GEven hr rfl hEven kEven bEven .nil pass0 (pa_cons (pv 1) (pa_cons (pv 2) pa_nil))) (nomark _)) (pss_one (ps_ret pe_bl)) pss_nil)
      (pss_cons (ps_for PassesOwn.never rfl (pi_range1 rfl T.range (pa_cons (pv 1) pa_nil)) (pg_name (i := 5) scRight.nd rfl (Or.inl rfl)) (pss_cons (ps_set (i := 6) scRight.nd rfl (Or.inl rfl) (pe_call GPart hr rfl hPart kPart bPart .nil pass0 (pa_cons (pv 1) (pa_cons (pv 3) (pa_cons (pv 5) pa_nil)))))
      (pss_cons (ps_if (PW.pt (pw_or (pt_cmpR op_ne (pe_meth (pv 0) T.cl hSize GSize hr bSize .nil pass0 (pa_cons (pv 5) pa_nil)) (pe_callB call_len_seq (by rfl) T.len PySem.boot_len (pa_cons (pv 6) pa_nil)) (nomark _)) (pw_or1 (pt_cmpR (op_notInD hr.units) (pv 6) (pv 4) (by rfl))))) (pss_one (ps_ret pe_bl)) pss_nil)
      (pss_cons (ps_set (i := 7) scRight.nd rfl (Or.inl rfl) (pe_op op_mod (pe_op op_add (pe_op op_mul (pv 5) pe_int) (pe_callB call_len_seq (by rfl) T.len PySem.boot_len (pa_cons (pv 2) pa_nil))) (pv 1)))
      (pss_cons (ps_set (i := 8) scRight.nd rfl (Or.inl rfl) (pe_cmpR op_eq (pe_meth (pv 0) T.cl hTop GTop hr bTop .nil pass0 (pa_cons (pv 5) pa_nil)) (pe_meth (pv 0) T.cl hTop GTop hr bTop .nil pass0 (pa_cons (pv 7) pa_nil)) (nomark _)))
      (pss_cons (ps_if (pt_cmpR op_notIn_seq (pe_meth (pv 0) T.cl hTop GTop hr bTop .nil pass0 (pa_cons (pv 5) pa_nil)) (pv 6) (by rfl)) (pss_one (ps_ret pe_bl)) pss_nil)
      (pss_one (ps_if (pt_cmpR op_ne (pv 8) (pe_call GJoined hr rfl hJoined kJoined bJoined .nil pass0 (pa_cons (pv 1) (pa_cons (pv 3) (pa_cons (pv 5) (pa_cons (pv 7) pa_nil))))) (nomark _)) (pss_one (ps_ret pe_bl)) pss_nil))))))))
      (pss_cons (ps_comp (i := 9) (T := ["_law_tie"]) (F := ["_law_takes"]) (js := [0]) scRight.nd rfl (Or.inl rfl) (CS.to (osc := defScope sRight) ⟨by rfl, by decide +kernel, by decide +kernel, by decide +kernel, by decide +kernel, by decide +kernel, by decide +kernel⟩ rfl rfl) rfl (pi_list (pv 2)) (fun _ _ _ _ _ => pg_name (i := 0) (show (["_law_tie", "_law_takes"] : List Str).Nodup by decide +kernel) rfl (Or.inl rfl)) (fun _ _ _ _ _ => pif_one (pt_cmpR op_eq (pe_meth (pv 1) T.cl hSide GSide hr bSide .nil pass0 (pa_cons (pe_ix (r := rIxT K) ix_tup (pv 0) pe_int (fun _ _ => rfl)) pa_nil)) (pe_meth (pv 1) T.cl hSide GSide hr bSide .nil pass0 (pa_cons (pe_ix (r := rIxT K) ix_tup (pv 0) pe_int (fun _ _ => rfl)) pa_nil)) (nomark _))) (fun _ _ _ _ _ => pe_int))
      (pss_one (ps_ret (pe_cmpR op_eq (pe_callB call_len_seq (by rfl) T.len PySem.boot_len (pa_cons (pv 9) pa_nil)) (pe_meth0 (pv 0) T.cl hOdd GOdd hr bOdd .nil pass0) (nomark _))))))))), ?_⟩
    have ok : Ok N st := ⟨U.lt, U.ls, N1, N24⟩
    obtain ⟨⟨dx, e0⟩, _, _⟩ := id hT
    obtain ⟨qs, eqs, rok, fin⟩ := sort_rows (K := K) t0 P60
    have hL' := hL
    rw [← eqs] at hL'
    refine ⟨_, rfl, L, qs, rfl, SqL.of hL', rok, fun l qs' hl perm srt => ?_⟩
    have s1 := same_new (o := .lst (qs'.map Srt.rRef)) hl
    have e1 := upd_same (H := H) (a := l) (o := .lst (qs'.map Srt.rRef))
    generalize upd H l (.lst (qs'.map Srt.rRef)) = H1 at s1 e1
    refine ⟨l, _, rfl, .inl ⟨SqL.of e1, fun bh hbh => ?_⟩⟩
    have s2 := same_new (o := .tup (qs'.map Srt.rRef)) hbh
    obtain ⟨S', hS0, hp, nm⟩ := fin qs' _ bh perm srt (s1.trans s2) upd_same
    generalize upd H1 bh (.tup (qs'.map Srt.rRef)) = H2 at s2 hS0
    have S2 := s1.trans s2
    clear fin e1 rok eqs hl hbh srt perm hL' s1 s2
    have hm : ∀ u, u ∈ P ↔ u ∈ S' := fun u => hp.mem_iff.symm
    have SN : InN N S' := fun u hu => U.inn u ((hm u).mpr hu)
    have Sl : S'.length ≤ 100 := by rw [hp.length_eq]; omega
    have N60 : N ≤ 60 := by omega
    refine ⟨_, rfl, _, rfl, N, bh, S', rfl, hS0, SN, N60, Sl, fun pa as H3 s3 pa3 pts3 => ?_⟩
    have S3' := S2.trans s3
    refine ⟨_, rfl, x, dx, _, rfl, S3' _ _ e0, flds_no S (by decide +kernel), x, S, pre, st, N, rfl, hT.same S3', ok, fun H4 s4 => ?_⟩
    have S4 := S3'.trans s4
    refine ⟨_, rfl, pa, _, rfl, .inr (SqT.of (s4 _ _ pa3)), rfl, _, rfl, ifB (ne_no ?_) ?_⟩
    · rw [List.length_map, pts3.1, U.parts hm N60]
    refine ⟨_, rfl, x, dx, _, rfl, S4 _ _ e0, flds_no S (by decide +kernel), x, S, pre ++ [st], rfl, hT.same S4, _, rfl, L, _, rfl, .inl (SqL.of (S4 _ _ hL)), rfl, _, rfl, ifB (ne_no ?_) ?_⟩
    · rw [List.length_map, t0.1, List.length_append, lp]
      congr 1
      simp only [List.length_cons, List.length_nil]
      omega
    dsimp only [tNext]
    refine ⟨_, rfl, x, dx, _, rfl, S4 _ _ e0, flds_no S (by decide +kernel), x, S, pre, st, rfl, hT.same S4, rfl, _, rfl, _, rfl, N, L, P, rfl, ⟨rs, S4 _ _ hL, ties_mono t0 fun r zs e => S4 _ _ e⟩, U.inn, P60, N60, fun b H5 s5 hb => ⟨rfl, _, rfl, ifB (ne_no ?_) ?_⟩⟩
    · congr 1
      rw [Bool.eq_iff_iff, decide_eq_true_eq, hb, ← U.two]
      exact ⟨fun z => by injection z, fun z => by rw [z]⟩
    dsimp only [tNext]
    have S5 := S4.trans s5
    have T5 := hT.same S5
    have o5 := S5 _ _ e0
    have L5 := S5 _ _ hL
    have pa5 := s5 _ _ (s4 _ _ pa3)
    have pts5 := (pts3.mono fun r zs e => s4 _ _ e).mono fun r zs e => s5 _ _ e
    have st5 := (hS0.same s3).same (s4.trans s5)
    have t5 := ties_mono t0 fun r zs e => S5 _ _ e
    have k5 : ∀ H', Same H5 H' → _ := fun H' s => k H' (S5.trans s)
    clear k hT e0 hL t0 S5 S4 S3' S2 s3 s4 s5 pa3 pts3 hS0
    refine ⟨_, rfl, (N : Int), rfl, by omega, by omega, for_range (lo := 0) (n := (N : Int).toNat) (fun i σ H6 => ∃ (u5 u6 u7 u8 u9 : Option V), σ = [some (.ref x), some (.int (N : Int)), some (.ref L), some (.ref bh), some (.ref pa), u5, u6, u7, u8, u9] ∧ Same H5 H6) ⟨_, _, _, _, _, rfl, fun _ _ e => e⟩ ?_ ?_⟩
    · rintro i σ H6 hi ⟨u5, u6, u7, u8, u9, rfl, s6⟩
      have hi : i < N := by simpa using hi
      rw [Int.zero_add]
      refine ⟨_, rfl, _, rfl, _, rfl, N, bh, S', i, rfl, st5.same s6, SN, N60, Sl, hi, fun q H7 s7 e7 => ?_⟩
      have S7 := s6.trans s7
      have e7 : H7 q = some (.tup (nV (partF N S' i))) := e7
      refine ⟨_, rfl, x, dx, _, rfl, S7 _ _ o5, flds_no S (by decide +kernel), _, rfl, x, S, pre, st, N, i, rfl, T5.same S7, ok, hi, _, rfl, q, _, rfl, .inr (SqT.of e7), rfl, _, rfl, ifB (ne_no ?_) ?_⟩
      · have := U.size hm hi N60
        unfold tau at this
        rw [this]
        unfold nV
        rw [List.length_map, List.length_map]
      obtain ⟨am1, am2⟩ := among (K := K) (pts5.mono fun r zs e => S7 _ _ e) SN hi N60 e7
      refine ⟨_, rfl, _, rfl, pa, as, _, 1, rfl, SqT.of (S7 _ _ pa5), by decide, am1, _, rfl, ifB am2 ?_⟩
      dsimp only [tNext]
      obtain ⟨o, ho⟩ : ∃ o, o = (i * 7 + rs.length) % N := ⟨_, rfl⟩
      have oN : o < N := by rw [ho]; exact Nat.mod_lt _ (by omega)
      have oe : ((i : Int) * 7 + ((rs.map V.ref).length : Int)) % (N : Int) = (o : Int) := by
        rw [List.length_map, ho]
        simp
      refine ⟨_, rfl, _, _, rfl, rfl, .inr ⟨by decide, by decide⟩, _, rfl, L, _, rfl, .inl (SqL.of (S7 _ _ L5)), _, _, rfl, rfl, _, rfl, _, _, rfl, rfl, (by show (0 : Int) < N; omega), ?_⟩
      dsimp only
      rw [oe]
      refine ⟨_, rfl, x, dx, _, rfl, S7 _ _ o5, flds_no S (by decide +kernel), _, rfl, x, S, pre, st, N, i, rfl, T5.same S7, ok, hi, _, rfl, x, dx, _, rfl, S7 _ _ o5, flds_no S (by decide +kernel), _, rfl, x, S, pre, st, N, o, rfl, T5.same S7, ok, oN, rfl, ?_⟩
      obtain ⟨r, er, rp⟩ := U.top hm hi N60
      have er : st.tops.getD i 0 = (r : Int) := er
      refine ⟨_, rfl, x, dx, _, rfl, S7 _ _ o5, flds_no S (by decide +kernel), _, rfl, x, S, pre, st, N, i, rfl, T5.same S7, ok, hi, _, rfl, q, _, rfl, .inr (SqT.of e7), rfl, flat_nV _, _, rfl, ifB ?_ ?_⟩
      · rw [er, in_nV rp]; rfl
      dsimp only [tNext]
      refine ⟨_, rfl, _, rfl, _, rfl, _, rfl, _, rfl, N, bh, S', i, o, rfl, st5.same S7, SN, N60, Sl, hi, fun H8 s8 => ⟨rfl, _, rfl, ifB (ne_no ?_) ⟨_, _, _, _, _, rfl, S7.trans s8⟩⟩⟩
      congr 1
      have := U.joined hm hi oN N60
      unfold tau at this
      rw [Bool.eq_iff_iff, decide_eq_true_eq, decide_eq_true_eq, ← this]
      exact ⟨fun z => by injection z, fun z => by rw [z]⟩
    rintro σ H6 ⟨u5, u6, u7, u8, u9, rfl, s6⟩
    have L6 := s6 _ _ L5
    refine ⟨_, rfl, L, rfl, ⟨_, SqL.of L6⟩, fun D hD => comp_list (K := K) (a := L) (xs := rs.map V.ref) (fun j σ ys H7 => ∃ (u : Option V), σ = [u, some (.ref x)] ∧ ys = List.replicate ((P.take j).countP (fun t => decide (sig st t.2.1 = sig st t.2.2.1))) (V.int 1) ∧ Same H6 H7 ∧ H7 D = some (.lst ys)) ⟨none, rfl, rfl, same_new hD, upd_same⟩ (fun j σ ys H7 _ ⟨_, _, _, e, f⟩ => ⟨SqL.of (e _ _ L6), f⟩) ?_ ?_⟩
    · rintro j y σ ys H7 hy ⟨u, rfl, rfl, s7, D7⟩
      obtain ⟨r, hr', rfl⟩ := map_some hy
      obtain ⟨t, ht, er⟩ := t5.get hr'
      have tN := U.inn t (List.mem_of_getElem? ht)
      have S7 := s6.trans s7
      have er7 := S7 _ _ er
      have cl : (P.take j).countP (fun t => decide (sig st t.2.1 = sig st t.2.2.1)) ≤ 60 := Nat.le_trans List.countP_le_length (by rw [List.length_take]; omega)
      have tk : (P.take (j + 1)).countP (fun t => decide (sig st t.2.1 = sig st t.2.2.1)) = (P.take j).countP (fun t => decide (sig st t.2.1 = sig st t.2.2.1)) + (if decide (sig st t.2.1 = sig st t.2.2.1) = true then 1 else 0) := by
        rw [List.take_add_one, ht, List.countP_append]
        show _ + List.countP _ [t] = _
        rw [List.countP_singleton]
      rw [tk]
      refine ⟨_, rfl, x, dx, _, rfl, S7 _ _ o5, flds_no S (by decide +kernel), _, rfl, r, _, 1, _, rfl, rfl, SqT.of er7, atI_nat (j := 1) rfl, x, S, pre, st, N, t.2.1, rfl, T5.same S7, ok, tN.1, _, rfl, x, dx, _, rfl, S7 _ _ o5, flds_no S (by decide +kernel), _, rfl, r, _, 2, _, rfl, rfl, SqT.of er7, atI_nat (j := 2) rfl, x, S, pre, st, N, t.2.2.1, rfl, T5.same S7, ok, tN.2, rfl, _, rfl, ?_⟩
      by_cases g : sig st t.2.1 = sig st t.2.2.1
      · rw [show decide (V.int (st.sides.getD t.2.1 0) = V.int (st.sides.getD t.2.2.1 0)) = true from decide_eq_true (congrArg V.int g), if_pos (decide_eq_true g)]
        exact iteT ⟨D7, small1000 (by rw [List.length_replicate]; omega), _, rfl, by rw [List.replicate_succ'], same_set s7 hD, upd_same⟩
      · rw [show decide (V.int (st.sides.getD t.2.1 0) = V.int (st.sides.getD t.2.2.1 0)) = false from decide_eq_false (fun z => g (by injection z)), if_neg (fun z => g (of_decide_eq_true z))]
        exact iteF ⟨_, rfl, rfl, s7, D7⟩
    rintro σ ys H7 ⟨u, rfl, rfl, s7, D7⟩
    rw [List.length_map, t5.1, List.take_length] at D7
    have S7 := s6.trans s7
    refine ⟨_, rfl, D, _, rfl, .inl (SqL.of D7), _, rfl, x, dx, _, rfl, S7 _ _ o5, flds_no S (by decide +kernel), x, S, pre, st, rfl, T5.same S7, rfl, ?_⟩
    rw [List.length_replicate, U.od, decide_eq_true rfl]
    exact k5 _ S7
end
end K22
set_option maxHeartbeats 1000000
namespace K22
open PySem L2 Wk
theorem cutV_to (xs : List V) (n : Nat) : cutV xs none (some (n : Int)) = xs.take n := by
  unfold cutV
  rw [HT.sIx_nat, HT.sIx_none, List.drop_zero, Nat.sub_zero]
  by_cases h : n ≤ xs.length
  · rw [Nat.min_eq_left h]
  · rw [Nat.min_eq_right (by omega), List.take_length, List.take_of_length_le (by omega)]
theorem perm_map {α β : Type} {f : α → β} {ys zs : List β} (h : ys.Perm zs) : ∀ {l : List α}, zs = l.map f → ∃ l' : List α, ys = l'.map f ∧ l'.Perm l := by
  induction h with
  | nil => intro l e; exact ⟨l, e, .refl _⟩
  | cons x _ ih =>
    intro l e
    cases l with
    | nil => cases e
    | cons b l =>
      rw [List.map_cons] at e
      injection e with e1 e2
      obtain ⟨l', e', p⟩ := ih e2
      exact ⟨b :: l', by rw [List.map_cons, ← e1, e'], p.cons b⟩
  | swap x y zs =>
    intro l e
    match l, e with
    | b :: c :: l, e =>
      simp only [List.map_cons] at e
      injection e with e1 e2
      injection e2 with e2 e3
      exact ⟨c :: b :: l, by simp only [List.map_cons]; rw [← e1, ← e2, e3], .swap _ _ _⟩
  | trans _ _ ih1 ih2 =>
    intro l e
    obtain ⟨l2, e2, p2⟩ := ih2 e
    obtain ⟨l1, e1, p1⟩ := ih1 e2
    exact ⟨l1, e1, p1.trans p2⟩
theorem ties_perm {H : Hp} {rs : List Addr} {S : List T4} {ys : List V} (h : TiesAt H rs S) (p : ys.Perm (rs.map V.ref)) : ∃ (rs' : List Addr) (S' : List T4), ys = rs'.map V.ref ∧ TiesAt H rs' S' ∧ S'.Perm S := by
  have e1 : rs.map V.ref = (rs.zip S).map (fun q => V.ref q.1) := by
    have e : (rs.zip S).map Prod.fst = rs := List.map_fst_zip (Nat.le_of_eq h.1)
    rw [show (fun q : Addr × T4 => V.ref q.1) = V.ref ∘ Prod.fst from rfl, ← List.map_map, e]
  obtain ⟨l, el, pl⟩ := perm_map p e1
  refine ⟨l.map Prod.fst, l.map Prod.snd, by rw [el, List.map_map]; rfl, ⟨by rw [List.length_map, List.length_map], fun i r t hr ht => ?_⟩, ?_⟩
  · rw [List.getElem?_map] at hr ht
    cases hq : l[i]? with
    | none => rw [hq] at hr; cases hr
    | some q =>
      rw [hq] at hr ht
      cases hr
      cases ht
      obtain ⟨j, hj, e⟩ := List.mem_iff_getElem.mp (pl.mem_iff.mp (List.mem_of_getElem? hq))
      rw [List.length_zip] at hj
      rw [List.getElem_zip] at e
      rw [← e]
      exact h.2 j _ _ (getq (by omega)) (getq (by omega))
  · have := pl.map Prod.snd
    rwa [List.map_snd_zip (Nat.le_of_eq h.1.symm)] at this
theorem ties_take {H : Hp} {rs : List Addr} {S : List T4} (h : TiesAt H rs S) (k : Nat) : TiesAt H (rs.take k) (S.take k) := by
  refine ⟨by rw [List.length_take, List.length_take, h.1], fun i r t hr ht => ?_⟩
  rw [List.getElem?_take] at hr ht
  split at hr
  · rename_i z
    rw [if_pos z] at ht
    exact h.2 i r t hr ht
  · cases hr
theorem ties_drop {H : Hp} {rs : List Addr} {S : List T4} (h : TiesAt H rs S) (k : Nat) : TiesAt H (rs.drop k) (S.drop k) := by
  refine ⟨by rw [List.length_drop, List.length_drop, h.1], fun i r t hr ht => ?_⟩
  rw [List.getElem?_drop] at hr ht
  exact h.2 _ r t hr ht
theorem ties_app {H : Hp} {rs rs' : List Addr} {S S' : List T4} (h : TiesAt H rs S) (h' : TiesAt H rs' S') : TiesAt H (rs ++ rs') (S ++ S') := by
  refine ⟨by rw [List.length_append, List.length_append, h.1, h'.1], fun i r t hr ht => ?_⟩
  rw [List.getElem?_append] at hr ht
  rw [h.1] at hr
  split at hr
  · rename_i z
    rw [if_pos z] at ht
    exact h.2 i r t hr ht
  · rename_i z
    rw [if_neg z] at ht
    exact h'.2 _ r t hr ht
def stsF (N : Nat) (Q : List T4) : List S3 := (List.range (Q.length + 1)).map fun i => stF N (Q.take i)
theorem sts_last (N : Nat) (Q : List T4) : ∃ pre : List S3, stsF N Q = pre ++ [stF N Q] ∧ pre.length = Q.length := by
  refine ⟨(List.range Q.length).map fun i => stF N (Q.take i), ?_, by rw [List.length_map, List.length_range]⟩
  unfold stsF
  rw [List.range_succ, List.map_append]
  simp
theorem sts_len (N : Nat) (Q : List T4) : (stsF N Q).length = Q.length + 1 := by unfold stsF; rw [List.length_map, List.length_range]
theorem sts_snoc {N : Nat} {Q : List T4} {t : T4} : stsF N (Q ++ [t]) = stsF N Q ++ [(joinS (stF N Q) t.2.1 t.2.2.1).1] := by
  unfold stsF
  rw [List.length_append, List.length_singleton, List.range_succ (n := Q.length + 1), List.map_append]
  congr 1
  · refine List.map_congr_left fun i hi => ?_
    have := List.mem_range.mp hi
    rw [List.take_append_of_le_length (by omega)]
  · rw [List.map_singleton, List.take_of_length_le (by simp), stF_snoc]
theorem sts_take {N k : Nat} {Q : List T4} (h : k ≤ Q.length) : (stsF N Q).take (k + 1) = stsF N (Q.take k) := by
  unfold stsF
  rw [← List.map_take, List.take_range, List.length_take, Nat.min_eq_left (by omega), Nat.min_eq_left h]
  refine List.map_congr_left fun i hi => ?_
  have := List.mem_range.mp hi
  rw [List.take_take, Nat.min_eq_left (by omega)]
structure RS (C : Addr) (H0 H : Hp) (d x S L : Addr) (N b : Nat) (rs : List Addr) (P Q : List T4) : Prop where
  tk : TkAt C H x S (stsF N Q)
  ll : H L = some (.lst (rs.map V.ref))
  tl : TiesAt H rs P
  inn : InN N P
  le : P.length ≤ 60
  dk : DeckAt H d b
  bt : But d H0 H
  Sd : S ≠ d
  Ld : L ≠ d
  LS : L ≠ S
  x0 : H0 x = none
  S0 : H0 S = none
theorem TkAt.mv {C : Addr} {H H' : Hp} {x S : Addr} {sts : List S3} (h : TkAt C H x S sts) (hx : ∀ o, H x = some o → H' x = some o) (hS : ∀ o, H S = some o → H' S = some o) (t : TupS H H') : TkAt C H' x S sts := by
  obtain ⟨⟨dx, e1⟩, ⟨rs, e2, e3⟩, l⟩ := h
  exact ⟨⟨dx, hx _ e1⟩, ⟨rs, hS _ e2, e3.tup t⟩, l⟩
theorem RS.same {C : Addr} {H0 H H' : Hp} {d x S L : Addr} {N b : Nat} {rs : List Addr} {P Q : List T4} (R : RS C H0 H d x S L N b rs P Q) (s : Same H H') : RS C H0 H' d x S L N b rs P Q :=
  ⟨R.tk.same s, s _ _ R.ll, R.tl.same s, R.inn, R.le, R.dk.same s, R.bt.trans (But.of s), R.Sd, R.Ld, R.LS, R.x0, R.S0⟩
theorem RS.xd {C : Addr} {H0 H : Hp} {d x S L : Addr} {N b : Nat} {rs : List Addr} {P Q : List T4} (R : RS C H0 H d x S L N b rs P Q) : x ≠ d := by
  obtain ⟨⟨dx, e1⟩, _, _⟩ := R.tk
  obtain ⟨_, _, _, hd, _⟩ := R.dk
  exact ne_of e1 hd (by intro z; cases z)
theorem RS.draw {C : Addr} {H0 H H' : Hp} {d x S L : Addr} {N b b' : Nat} {rs : List Addr} {P Q : List T4} (R : RS C H0 H d x S L N b rs P Q) (s : But d H H') (D : DeckAt H' d b') : RS C H0 H' d x S L N b' rs P Q :=
  ⟨R.tk.mv (fun o e => s _ _ e R.xd) (fun o e => s _ _ e R.Sd) (fun r zs e => s.tup R.dk e), s _ _ R.ll R.Ld, ties_mono R.tl fun r zs e => s.tup R.dk e, R.inn, R.le, D, R.bt.trans s, R.Sd, R.Ld, R.LS, R.x0, R.S0⟩
theorem RS.join {C : Addr} {H0 H H' : Hp} {d x S L : Addr} {N b : Nat} {rs : List Addr} {P Q : List T4} {t : T4} (R : RS C H0 H d x S L N b rs P Q) (f : ∀ b o, H b = some o → b ≠ S → H' b = some o) (T : TkAt C H' x S (stsF N Q ++ [(joinS (stF N Q) t.2.1 t.2.2.1).1])) : RS C H0 H' d x S L N b rs P (Q ++ [t]) := by
  obtain ⟨_, ⟨rs1, e2, _⟩, _⟩ := id R.tk
  refine ⟨by rw [sts_snoc]; exact T, f _ _ R.ll R.LS, ties_mono R.tl fun r zs e => f _ _ e (ne_of e e2 (by intro z; cases z)), R.inn, R.le, ?_, fun c o e n => f _ _ (R.bt _ _ e n) (fun z => by rw [z, R.S0] at e; cases e), R.Sd, R.Ld, R.LS, R.x0, R.S0⟩
  obtain ⟨a1, a2, a3, hd, a4, a5⟩ := R.dk
  exact ⟨a1, a2, a3, f _ _ hd (Ne.symm R.Sd), a4, a5⟩
theorem RS.back {C : Addr} {H0 H H' : Hp} {d x S S' L : Addr} {N b k : Nat} {rs : List Addr} {P Q : List T4} (R : RS C H0 H d x S L N b rs P Q) (hk : k ≤ Q.length) (hS : H S' = none) (f : ∀ b o, H b = some o → b ≠ x → H' b = some o) (T : TkAt C H' x S' ((stsF N Q).take (k + 1))) : RS C H0 H' d x S' L N b rs P (Q.take k) := by
  obtain ⟨⟨dx, e1⟩, _, _⟩ := id R.tk
  refine ⟨by rw [← sts_take hk]; exact T, f _ _ R.ll (ne_of R.ll e1 (by intro z; cases z)), ties_mono R.tl fun r zs e => f _ _ e (ne_of e e1 (by intro z; cases z)), R.inn, R.le, ?_, fun c o e n => f _ _ (R.bt _ _ e n) (fun z => by rw [z, R.x0] at e; cases e), R.dk.ne hS, R.Ld, ne_of_none R.ll hS, R.x0, ?_⟩
  · obtain ⟨a1, a2, a3, hd, a4, a5⟩ := R.dk
    exact ⟨a1, a2, a3, f _ _ hd (Ne.symm R.xd), a4, a5⟩
  · exact R.bt.none R.dk hS
def spGone : Sp := fun vs H Q _ => ∃ d : Addr, vs = [.ref d] ∧ DeckAt H d 100000 ∧ ∀ H', But d H H' → Q (.bl true) H'
def spLaw (K : PySem.W.Frag) : Sp := fun vs H Q _ => ∃ (s : Addr) (ns : List Int), vs = [.ref s] ∧ SqL K H s (ns.map V.int) ∧ ns.length ≤ 63 ∧ ∀ H', Q (.bl true) H'
section
variable {P : Program} {w : World} {K : PySem.W.Frag} {mg : Str → Option Value} {base : Heap} {C I : Addr}
theorem scGone : FnScope ["_law_deck", "_law_many", "_law_ties", "_law_takes", "_law_begun", "_law_turn", "_law_name", "_law_one", "_law_other", "_law_weight"] ["_law_deck"] (defScope sGone) := ⟨rfl, rfl, rfl, by decide +kernel, rfl, by decide +kernel, by decide +kernel⟩
theorem ok_Gone {f : Addr} {fd : FuncData} (F : Fun K "_law_gone" "_law_gone" sGone f fd) (T : Txt K mg C I)
    {gRare : Addr} {fRare : FuncData} (kRare : PySem.W.keepIn K (.ref gRare) = true) (bRare : Binds K fRare ["_law_deck", "_law_often", "_law_great"] []) (hRare : mg "_law_rare" = some (.ref gRare)) (GRare : FnOk P w K mg base CX0 5 gRare fRare ["_law_deck", "_law_often", "_law_great"] spRare)
    {gDraw : Addr} {fDraw : FuncData} (kDraw : PySem.W.keepIn K (.ref gDraw) = true) (bDraw : Binds K fDraw ["_law_deck", "_law_most"] []) (hDraw : mg "_law_draw" = some (.ref gDraw)) (GDraw : FnOk P w K mg base CX0 5 gDraw fDraw ["_law_deck", "_law_most"] spDraw)
    {gOrder : Addr} {fOrder : FuncData} (kOrder : PySem.W.keepIn K (.ref gOrder) = true) (bOrder : Binds K fOrder ["_law_deck", "_law_things"] []) (hOrder : mg "_law_order" = some (.ref gOrder)) (GOrder : FnOk P w K mg base CX0 5 gOrder fOrder ["_law_deck", "_law_things"] spOrder)
    {gDTies : Addr} {fDTies : FuncData} (kDTies : PySem.W.keepIn K (.ref gDTies) = true) (bDTies : Binds K fDTies ["_law_deck", "_law_many"] []) (hDTies : mg "_law_drawn_ties" = some (.ref gDTies)) (GDTies : FnOk P w K mg base CX0 5 gDTies fDTies ["_law_deck", "_law_many"] spDTies)
    {fInit : FuncData} (bInit : Binds K fInit ["self", "many"] []) (GInit : FnOk P w K mg base CX0 1 I fInit ["self", "many"] (spInit C))
    {gJoin : Addr} {fJoin : FuncData} (bJoin : Binds K fJoin ["self", "one", "other"] []) (hJoin : Meth K C "join" gJoin) (GJoin : FnOk P w K mg base CX0 5 gJoin fJoin ["self", "one", "other"] (spJoin C))
    {gRight : Addr} {fRight : FuncData} (kRight : PySem.W.keepIn K (.ref gRight) = true) (bRight : Binds K fRight ["_law_takes", "_law_many", "_law_ties"] []) (hRight : mg "_law_right" = some (.ref gRight)) (GRight : FnOk P w K mg base CX0 5 gRight fRight ["_law_takes", "_law_many", "_law_ties"] (spRight C))
    {gBack : Addr} {fBack : FuncData} (bBack : Binds K fBack ["self", "thing"] []) (hBack : Meth K C "back" gBack) (GBack : FnOk P w K mg base CX0 5 gBack fBack ["self", "thing"] (spBack C)) :
    FnOk P w K mg base CX0 6 f fd ["_law_deck"] spGone := by
  refine F.ok scGone (fun vs H Q E h => ?_) (fun cdv A outer s H vs Q E hr h => ?_)
  · obtain ⟨_, rfl, _⟩ := h; rfl
  · obtain ⟨d, rfl, hD, k⟩ := h
    refine ⟨_, pss_cons (ps_set (i := 1) scGone.nd rfl (Or.inl rfl) (pe_call GRare hr rfl hRare kRare bRare .nil pass0 (pa_cons (pv 0) (pa_cons (pe_op op_add pe_int (pe_call GDraw hr rfl hDraw kDraw bDraw .nil pass0 (pa_cons (pv 0) (pa_cons pe_int pa_nil)))) (pa_cons pe_int pa_nil)))))
      (pss_cons (ps_set (i := 2) scGone.nd rfl (Or.inl rfl) (pe_call GOrder hr rfl hOrder kOrder bOrder .nil pass0 (pa_cons (pv 0) (pa_cons (pe_call GDTies hr rfl hDTies kDTies bDTies .nil pass0 (pa_cons (pv 0) (pa_cons (pv 1) pa_nil))) pa_nil))))
      (pss_cons (ps_set (i := 3) scGone.nd rfl (Or.inl rfl) (pe_make T.mkC GInit (hr.mono (by decide)) rfl T.mgC bInit .nil pass0 (pa_cons (pv 1) pa_nil)))
      (pss_cons (ps_set (i := 4) scGone.nd rfl (Or.inl rfl) pe_int)
      (pss_cons (ps_for PassesOwn.never rfl (pi_range1 rfl T.range (pa_cons (pe_op op_add pe_int (pe_call GDraw hr rfl hDraw kDraw bDraw .nil pass0 (pa_cons (pv 0) (pa_cons pe_int pa_nil)))) pa_nil)) (pg_name (i := 5) scGone.nd rfl (Or.inl rfl)) (pss_cons (ps_for PassesOwn.never rfl (pi_list (pe_slice sl_list (pv 2) (po_some (pv 4)) po_none)) (pg_tup rfl (pgs_cons (pg_name (i := 6) scGone.nd rfl (Or.inl rfl)) (pgs_cons (pg_name (i := 7) scGone.nd rfl (Or.inl rfl)) (pgs_cons (pg_name (i := 8) scGone.nd rfl (Or.inl rfl)) (pgs_cons (pg_name (i := 9) scGone.nd rfl (Or.inl rfl)) pgs_nil))))) (pss_one (ps_expr (pe_meth (pv 3) T.cl hJoin GJoin hr bJoin .nil pass0 (pa_cons (pv 7) (pa_cons (pv 8) pa_nil))))))
      (pss_cons (ps_if (pt_not (pt_val (pe_call GRight hr rfl hRight kRight bRight .nil pass0 (pa_cons (pv 3) (pa_cons (pv 1) (pa_cons (pv 2) pa_nil)))))) (pss_one (ps_ret pe_bl)) pss_nil)
      (pss_cons (ps_set (i := 4) scGone.nd rfl (Or.inl rfl) (pe_call GDraw hr rfl hDraw kDraw bDraw .nil pass0 (pa_cons (pv 0) (pa_cons (pe_op op_add (pe_callB call_len_seq (by rfl) T.len PySem.boot_len (pa_cons (pv 2) pa_nil)) pe_int) pa_nil))))
      (pss_cons (ps_expr (pe_meth (pv 3) T.cl hBack GBack hr bBack .nil pass0 (pa_cons (pv 4) pa_nil)))
      (pss_cons (ps_if (pt_not (pt_val (pe_call GRight hr rfl hRight kRight bRight .nil pass0 (pa_cons (pv 3) (pa_cons (pv 1) (pa_cons (pe_slice sl_list (pv 2) po_none (po_some (pv 4))) pa_nil)))))) (pss_one (ps_ret pe_bl)) pss_nil)
      (pss_one (ps_set (i := 2) scGone.nd rfl (Or.inl rfl) (pe_op op_cat (pe_slice sl_list (pv 2) po_none (po_some (pv 4))) (pe_call GOrder hr rfl hOrder kOrder bOrder .nil pass0 (pa_cons (pv 0) (pa_cons (pe_slice sl_list (pv 2) (po_some (pv 4)) po_none) pa_nil))))))))))))
      (pss_one (ps_ret pe_bl)))))), ?_⟩
    refine ⟨_, rfl, _, rfl, d, 8, 99999, rfl, hD, by decide, by decide, fun v H1 v0 v1 b1 D1 => ⟨_, _, rfl, rfl, d, _, 24, 99998, rfl, D1, fun m H2 hm b2 D2 => ?_⟩⟩
    obtain ⟨N, rfl⟩ := nat_of (show 0 ≤ m by omega)
    have N2 : 2 ≤ N := by omega
    have N24 : N ≤ 24 := by omega
    clear hm v0 v1
    refine ⟨_, rfl, _, rfl, _, rfl, d, N, 99098, rfl, D2, N2, by omega, fun L0 P0 H3 b3 D3 hL0 nL0 ⟨rs0, L03, t03⟩ inn0 P60 => ?_⟩
    refine ⟨d, L0, 99000, rs0.map V.ref, rfl, D3.mono (by rw [List.length_map, t03.1]; omega), L03, by rw [List.length_map, t03.1]; omega, fun L ys H4 b4 D4 hL4 L4 pm => ?_⟩
    obtain ⟨rs, P, rfl, t3, pp⟩ := ties_perm t03 pm
    have t4 := ties_mono t3 fun r zs e => b4.tup D3 e
    have inn : InN N P := fun u hu => inn0 u (pp.mem_iff.mp hu)
    have P60 : P.length ≤ 60 := by rw [pp.length_eq]; exact P60
    have B4 : But d H H4 := ((b1.trans b2).trans b3).trans b4
    have nL := D3.ne hL4
    clear t3 t03 L03 pm pp inn0 hL4 hL0 b1 b2 b3 b4 D1 D2 D3 hD
    refine ⟨_, rfl, fun x dx hx hdx hxd => ⟨x, dx, (N : Int), rfl, upd_same, by omega, by omega, fun S H5 hS hT5 f5 => ⟨rfl, ?_⟩⟩⟩
    have s5 : Same H4 H5 := fun b o e => f5 b o (by rw [upd_ne (ne_of_none e hx), upd_ne (ne_of_none e hdx)]; exact e) (ne_of_none e hx)
    have S4 : H4 S = none := by
      cases e : H4 S with
      | none => rfl
      | some o =>
        rw [upd_ne (ne_of_none e hx), upd_ne (ne_of_none e hdx), e] at hS
        cases hS
    have R5 : RS C H H5 d x S L N 99000 rs P [] := ⟨hT5, s5 _ _ L4, t4.same s5, inn, P60, D4.same s5, B4.trans (But.of s5), D4.ne S4, nL, ne_of_none L4 S4, B4.none D4 hx, B4.none D4 S4⟩
    clear hT5 f5 s5 S4 hS hx hdx hxd t4 inn P60 B4 nL L4 D4
    refine ⟨_, rfl, d, 4, 98999, rfl, R5.dk, by decide, by decide, fun v H6 v0 v1 b6 D6 => ⟨_, _, rfl, rfl, ?_⟩⟩
    have R6 := R5.draw b6 D6
    refine ⟨1 + v, rfl, by omega, by omega, for_range (lo := 0) (n := (1 + v).toNat) (fun i σ H7 => ∃ (u5 u6 u7 u8 u9 : Option V) (S L : Addr) (rs : List Addr) (P : List T4) (g : Nat), σ = [some (.ref d), some (.int (N : Int)), some (.ref L), some (.ref x), some (.int (g : Int)), u5, u6, u7, u8, u9] ∧ g ≤ P.length ∧ RS C H H7 d x S L N (98999 - 100 * i) rs P (P.take g)) ⟨none, none, none, none, none, S, L, rs, P, 0, rfl, Nat.zero_le _, R6⟩ ?_ ?_⟩
    · clear R5 R6 b6 D6
      rintro i σ H7 hi ⟨u5, u6, u7, u8, u9, S, L, rs, P, g, rfl, gl, R7⟩
      have hi : i < 5 := by omega
      obtain ⟨B, hB⟩ : ∃ B, B = 98999 - 100 * i := ⟨_, rfl⟩
      rw [← hB] at R7
      have rl : rs.length = P.length := R7.tl.1
      have P60 := R7.le
      refine ⟨_, rfl, _, rfl, _, rfl, L, _, rfl, SqL.of R7.ll, fun c hc => ?_⟩
      rw [cutV_drop, ← List.map_drop]
      have s8 := same_new (o := .lst ((rs.drop g).map V.ref)) hc
      have c8 := upd_same (H := H7) (a := c) (o := .lst ((rs.drop g).map V.ref))
      have cS : c ≠ S := by
        obtain ⟨_, ⟨_, e2, _⟩, _⟩ := R7.tk
        exact (ne_of_none e2 hc).symm
      have R8 := R7.same s8
      generalize upd H7 c (.lst ((rs.drop g).map V.ref)) = H8 at s8 c8 R8
      clear R7 s8 hc
      refine ⟨c, rfl, ⟨_, SqL.of c8⟩, for_list (K := K) (a := c) (xs := (rs.drop g).map V.ref) (fun j σ H9 => ∃ (u6 u7 u8 u9 : Option V), σ = [some (.ref d), some (.int (N : Int)), some (.ref L), some (.ref x), some (.int (g : Int)), some (.int (0 + (i : Int))), u6, u7, u8, u9] ∧ RS C H H9 d x S L N B rs P (P.take (g + j)) ∧ H9 c = some (.lst ((rs.drop g).map V.ref))) ⟨_, _, _, _, rfl, R8, c8⟩ (fun j σ H9 _ ⟨_, _, _, _, _, _, e⟩ => SqL.of e) ?_ ?_⟩
      · clear R8 c8
        rintro j y σ H9 hy ⟨u6, u7, u8, u9, rfl, R9, c9⟩
        obtain ⟨r, hr', rfl⟩ := map_some hy
        rw [List.getElem?_drop] at hr'
        obtain ⟨t, ht, er⟩ := R9.tl.get hr'
        have tN := R9.inn t (List.mem_of_getElem? ht)
        have gj : g + j < P.length := (List.getElem?_eq_some_iff.mp ht).1
        obtain ⟨pre, ep, lp⟩ := sts_last N (P.take (g + j))
        have T9 := R9.tk
        rw [ep] at T9
        obtain ⟨⟨dx, o9⟩, _, _⟩ := id T9
        have U := uf_fin N24 (P := P.take (g + j)) fun u hu => R9.inn u (List.mem_of_mem_take hu)
        refine ⟨r, _, rfl, SqT.of er, rfl, _, _, rfl, _, _, rfl, _, _, rfl, _, _, rfl, rfl, ?_⟩
        refine ⟨_, rfl, x, dx, _, rfl, o9, flds_no S (by decide +kernel), _, rfl, _, rfl, x, S, pre, _, N, t.2.1, t.2.2.1, rfl, T9, by rw [lp, List.length_take]; omega, ⟨U.lt, U.ls, by omega, N24⟩, tN.1, tN.2, fun H10 f10 T10 => ?_⟩
        rw [← ep] at T10
        have R10 := R9.join f10 T10
        rw [show P.take (g + j) ++ [t] = P.take (g + (j + 1)) by rw [← Nat.add_assoc, List.take_add_one, ht]; rfl] at R10
        exact ⟨_, _, _, _, rfl, R10, f10 _ _ c9 cS⟩
      rintro σ H9 ⟨u6, u7, u8, u9, rfl, R9, c9⟩
      rw [List.length_map, List.length_drop, rl, show g + (P.length - g) = P.length by omega, List.take_length] at R9
      clear R8 c8 c9 cS
      obtain ⟨pre, ep, lp⟩ := sts_last N P
      have U := uf_fin N24 R9.inn
      have T9 := R9.tk
      rw [ep] at T9
      refine ⟨_, rfl, _, rfl, _, rfl, x, S, L, N, P, pre, _, rfl, T9, ⟨rs, R9.ll, R9.tl⟩, U, lp, P60, by omega, N24, fun H11 s11 => ⟨true, rfl, iteF ?_⟩⟩
      have R11 := R9.same s11
      clear R9 T9 U ep lp
      dsimp only [tNext]
      refine ⟨_, rfl, _, rfl, L, _, rfl, .inl (SqL.of R11.ll), _, _, rfl, rfl, ?_⟩
      rw [List.length_map, rl]
      refine ⟨d, _, B - 1, rfl, R11.dk.mono (by omega), by omega, by omega, fun v H12 v0 v1 b12 D12 => ?_⟩
      obtain ⟨g', rfl⟩ := nat_of v0
      have gl' : g' ≤ P.length := by omega
      have R12 := R11.draw b12 D12
      clear R11 b12 D12
      obtain ⟨⟨dx, o12⟩, _, _⟩ := id R12.tk
      refine ⟨_, rfl, x, dx, _, rfl, o12, flds_no S (by decide +kernel), _, rfl, x, S, _, g', rfl, R12.tk, by rw [sts_len]; omega, fun S' H13 hS' f13 T13 => ?_⟩
      have R13 := R12.back gl' hS' f13 T13
      clear R12 f13 T13 hS' o12
      refine ⟨_, rfl, _, rfl, _, rfl, _, rfl, _, rfl, L, _, rfl, SqL.of R13.ll, fun c hc => ?_⟩
      rw [cutV_to, ← List.map_take]
      have s14 := same_new (o := .lst ((rs.take g').map V.ref)) hc
      have c14 := upd_same (H := H13) (a := c) (o := .lst ((rs.take g').map V.ref))
      have R14 := R13.same s14
      generalize upd H13 c (.lst ((rs.take g').map V.ref)) = H14 at s14 c14 R14
      obtain ⟨pre, ep, lp⟩ := sts_last N (P.take g')
      have inn' : InN N (P.take g') := fun u hu => R14.inn u (List.mem_of_mem_take hu)
      have U := uf_fin N24 inn'
      have T14 := R14.tk
      rw [ep] at T14
      refine ⟨x, S', c, N, P.take g', pre, _, rfl, T14, ⟨rs.take g', c14, ties_take R14.tl g'⟩, U, lp, by rw [List.length_take]; omega, by omega, N24, fun H15 s15 => ⟨true, rfl, iteF ?_⟩⟩
      have R15 := R14.same s15
      clear R13 R14 T14 U ep lp s14 c14 hc
      dsimp only [tNext]
      refine ⟨_, rfl, _, rfl, _, rfl, L, _, rfl, SqL.of R15.ll, fun c1 hc1 => ?_⟩
      rw [cutV_to, ← List.map_take]
      have s16 := same_new (o := .lst ((rs.take g').map V.ref)) hc1
      have e16 := upd_same (H := H15) (a := c1) (o := .lst ((rs.take g').map V.ref))
      have n1 := R15.dk.ne hc1
      have R16 := R15.same s16
      generalize upd H15 c1 (.lst ((rs.take g').map V.ref)) = H16 at s16 e16 R16
      refine ⟨_, rfl, _, rfl, _, rfl, _, rfl, L, _, rfl, SqL.of R16.ll, fun c2 hc2 => ?_⟩
      rw [cutV_drop, ← List.map_drop]
      have s17 := same_new (o := .lst ((rs.drop g').map V.ref)) hc2
      have e17 := upd_same (H := H16) (a := c2) (o := .lst ((rs.drop g').map V.ref))
      have R17 := R16.same s17
      have e16 := s17 _ _ e16
      generalize upd H16 c2 (.lst ((rs.drop g').map V.ref)) = H17 at s17 e17 R17 e16
      have ld : ((rs.drop g').map V.ref).length ≤ 60 := by rw [List.length_map, List.length_drop]; omega
      refine ⟨d, c2, B - 61, _, rfl, R17.dk.mono (by omega), e17, by omega, fun r ys H18 b18 D18 hr18 r18 pm => ?_⟩
      have R18 := R17.draw b18 D18
      have e18 := b18 _ _ e16 n1
      obtain ⟨rs', P', rfl, t18, pp⟩ := ties_perm (ties_drop R18.tl g') pm
      have l18 : rs'.length ≤ 60 := by rw [← List.length_map (f := V.ref), pm.length_eq]; exact ld
      refine ⟨c1, r, _, _, rfl, rfl, e18, r18, ?_, fun L' hL' => ?_⟩
      · exact Nat.le_of_lt (small1000 (by rw [List.length_map, List.length_map, List.length_take]; omega))
      have s19 := same_new (o := .lst ((rs.take g').map V.ref ++ rs'.map V.ref)) hL'
      have e19 : upd H18 L' (.lst ((rs.take g').map V.ref ++ rs'.map V.ref)) L' = some (.lst ((rs.take g' ++ rs').map V.ref)) := by rw [upd_same, List.map_append]
      have R19 := R18.same s19
      have nL' := R18.dk.ne hL'
      have LS' : L' ≠ S' := by
        obtain ⟨_, ⟨_, e2, _⟩, _⟩ := R18.tk
        exact (ne_of_none e2 hL').symm
      have lt : (P.take g').length = g' := by rw [List.length_take]; omega
      have ln : (P.take g' ++ P').length = P.length := by rw [List.length_append, pp.length_eq, lt, List.length_drop]; omega
      refine ⟨_, _, _, _, _, S', L', rs.take g' ++ rs', P.take g' ++ P', g', rfl, by omega, ?_⟩
      refine ⟨?_, e19, ties_app (ties_take R19.tl g') (t18.same s19), fun u hu => ?_, by omega, R19.dk.mono (by omega), R19.bt, R19.Sd, nL', LS', R19.x0, R19.S0⟩
      · have et : (P.take g' ++ P').take g' = P.take g' := by rw [List.take_append_of_le_length (Nat.le_of_eq lt.symm), List.take_take, Nat.min_self]
        rw [et]
        exact R19.tk
      · rcases List.mem_append.mp hu with h | h
        · exact R19.inn u (List.mem_of_mem_take h)
        · exact R19.inn u (List.mem_of_mem_drop (pp.mem_iff.mp h))
    rintro σ H7 ⟨u5, u6, u7, u8, u9, S, L, rs, P, g, rfl, gl, R7⟩
    exact k H7 R7.bt
end
end K22
set_option maxHeartbeats 1000000
namespace K22
open PySem L2 Wk
section
variable {P : Program} {w : World} {K : PySem.W.Frag} {mg : Str → Option Value} {base : Heap} {C I : Addr}
theorem scLaw : FnScope ["_law_script", "_law_k"] ["_law_script"] (defScope sLaw) := ⟨rfl, rfl, rfl, by decide +kernel, rfl, by decide +kernel, by decide +kernel⟩
theorem ok_Law {f : Addr} {fd : FuncData} (F : Fun K "law" "law" sLaw f fd) (T : Txt K mg C I)
    {gGone : Addr} {fGone : FuncData} (kGone : PySem.W.keepIn K (.ref gGone) = true) (bGone : Binds K fGone ["_law_deck"] []) (hGone : mg "_law_gone" = some (.ref gGone)) (GGone : FnOk P w K mg base CX0 6 gGone fGone ["_law_deck"] spGone)
    {gOpened : Addr} {fOpened : FuncData} (kOpened : PySem.W.keepIn K (.ref gOpened) = true) (bOpened : Binds K fOpened ["_law_cell"] []) (hOpened : mg "_law_opened" = some (.ref gOpened)) (GOpened : FnOk P w K mg base CX0 6 gOpened fOpened ["_law_cell"] spOpened)
    {gCell : Addr} {fCell : FuncData} (kCell : PySem.W.keepIn K (.ref gCell) = true) (bCell : Binds K fCell ["_law_script", "_law_k"] []) (hCell : mg "_law_cell_at" = some (.ref gCell)) (GCell : FnOk P w K mg base CX0 6 gCell fCell ["_law_script", "_law_k"] (spCell K)) :
    FnOk P w K mg base CX0 7 f fd ["_law_script"] (spLaw K) := by
  refine F.ok scLaw (fun vs H Q E h => ?_) (fun cdv A outer s H vs Q E hr h => ?_)
  · obtain ⟨_, _, rfl, _⟩ := h; rfl
  · obtain ⟨s, ns, rfl, hS, hl, k⟩ := h
    refine ⟨_, pss_cons (ps_for PassesOwn.never rfl (pi_range1 rfl T.range (pa_cons (pe_callB (call_max2 rfl) (by rfl) T.max (by decide +kernel) (pa_cons pe_int (pa_cons (pe_callB (call_min2 rfl) (by rfl) T.min (by decide +kernel) (pa_cons pe_int (pa_cons (pe_callB call_len_seq (by rfl) T.len PySem.boot_len (pa_cons (pv 0) pa_nil)) pa_nil))) pa_nil))) pa_nil)) (pg_name (i := 1) scLaw.nd rfl (Or.inl rfl)) (pss_one (ps_if (pt_not (pt_val (pe_call GGone hr rfl hGone kGone bGone .nil pass0 (pa_cons (pe_call GOpened hr rfl hOpened kOpened bOpened .nil pass0 (pa_cons (pe_call GCell hr rfl hCell kCell bCell .nil pass0 (pa_cons (pv 0) (pa_cons (pv 1) pa_nil))) pa_nil)) pa_nil)))) (pss_one (ps_ret pe_bl)) pss_nil)))
      (pss_one (ps_ret pe_bl)), ?_⟩
    refine ⟨_, rfl, s, _, rfl, .inl hS, _, _, rfl, _, _, rfl, _, rfl, by split <;> split <;> omega, by split <;> split <;> omega, for_range (lo := 0) (fun i σ H5 => ∃ (u1 : Option V), σ = [some (.ref s), u1] ∧ Same H H5) ⟨_, rfl, same_refl _⟩ ?_ ?_⟩
    rotate_left
    · rintro σ H5 ⟨u1, rfl, s5⟩
      exact k H5
    rintro i σ H5 hi ⟨u1, rfl, s5⟩
    refine ⟨_, rfl, _, rfl, s, ns, i, by rw [Int.zero_add]; rfl, sqL_same hS s5, fun c => ⟨c, rfl, fun d H6 s6 dn D6 => ⟨d, rfl, D6, fun H7 b7 => ⟨true, rfl, iteF ⟨_, rfl, fun b o e => b7 b o (s6 b o (s5 b o e)) (ne_of_none (s5 _ _ e) dn)⟩⟩⟩⟩⟩
end
end K22
set_option maxHeartbeats 4000000
namespace K22
open PySem L2 Wk
theorem us1 {fd : FuncData} {ps : List Str} (hp : ps.length = 1) (h : ∀ a0 : Value, bindArgs fd ⟨[a0], []⟩ = pure (ps.zip [a0])) : ∀ us : List Value, us.length = ps.length → bindArgs fd ⟨us, []⟩ = pure (ps.zip us) := fun us hl => match us, hl.trans hp with | [a0], _ => h a0
theorem us2 {fd : FuncData} {ps : List Str} (hp : ps.length = 2) (h : ∀ a0 a1 : Value, bindArgs fd ⟨[a0, a1], []⟩ = pure (ps.zip [a0, a1])) : ∀ us : List Value, us.length = ps.length → bindArgs fd ⟨us, []⟩ = pure (ps.zip us) := fun us hl => match us, hl.trans hp with | [a0, a1], _ => h a0 a1
theorem us3 {fd : FuncData} {ps : List Str} (hp : ps.length = 3) (h : ∀ a0 a1 a2 : Value, bindArgs fd ⟨[a0, a1, a2], []⟩ = pure (ps.zip [a0, a1, a2])) : ∀ us : List Value, us.length = ps.length → bindArgs fd ⟨us, []⟩ = pure (ps.zip us) := fun us hl => match us, hl.trans hp with | [a0, a1, a2], _ => h a0 a1 a2
theorem us4 {fd : FuncData} {ps : List Str} (hp : ps.length = 4) (h : ∀ a0 a1 a2 a3 : Value, bindArgs fd ⟨[a0, a1, a2, a3], []⟩ = pure (ps.zip [a0, a1, a2, a3])) : ∀ us : List Value, us.length = ps.length → bindArgs fd ⟨us, []⟩ = pure (ps.zip us) := fun us hl => match us, hl.trans hp with | [a0, a1, a2, a3], _ => h a0 a1 a2 a3
theorem all_mk {l : PySem.W.OpenLaw} {w : World} {K : PySem.W.Frag} {h : Heap} {mg : Str → Option Value} {fa C f0 f1 f2 f3 f4 f5 f6 f7 f8 f9 f10 f11 f12 f13 f14 f15 f16 f17 f18 f19 f20 f21 f22 f23 f24 f25 f26 f27 f28 f29 f30 : Addr} (X : K.In h) (G : h.Ns mainGlobals mg) (hfa : mg "law" = some (.ref fa))
    {od0 an0 od1 an1 od2 an2 od3 an3 od4 an4 od5 an5 od6 an6 od7 an7 od8 an8 od9 an9 od10 an10 od11 an11 od12 an12 od13 an13 od14 an14 od15 an15 od16 an16 od17 an17 od18 an18 od19 an19 od20 an20 od21 an21 od22 an22 od23 an23 od24 an24 od25 an25 od26 an26 od27 an27 od28 an28 od29 an29 od30 an30 : Option Addr} {sl0 sl1 sl2 sl3 sl4 sl5 sl6 sl7 sl8 sl9 sl10 sl11 sl12 sl13 sl14 sl15 sl16 sl17 sl18 sl19 sl20 sl21 sl22 sl23 sl24 sl25 sl26 sl27 sl28 sl29 sl30 : Array (Option Value)} {oc0 kV0 dc0 pm0 cd0 ct0 oc1 kV1 dc1 pm1 cd1 ct1 oc2 kV2 dc2 pm2 cd2 ct2 oc3 kV3 dc3 pm3 cd3 ct3 oc4 kV4 dc4 pm4 cd4 ct4 oc5 kV5 dc5 pm5 cd5 ct5 oc6 kV6 dc6 pm6 cd6 ct6 oc7 kV7 dc7 pm7 cd7 ct7 oc8 kV8 dc8 pm8 cd8 ct8 oc9 kV9 dc9 pm9 cd9 ct9 oc10 kV10 dc10 pm10 cd10 ct10 oc11 kV11 dc11 pm11 cd11 ct11 oc12 kV12 dc12 pm12 cd12 ct12 oc13 kV13 dc13 pm13 cd13 ct13 oc14 kV14 dc14 pm14 cd14 ct14 oc15 kV15 dc15 pm15 cd15 ct15 oc16 kV16 dc16 pm16 cd16 ct16 oc17 kV17 dc17 pm17 cd17 ct17 oc18 kV18 dc18 pm18 cd18 ct18 oc19 kV19 dc19 pm19 cd19 ct19 oc20 kV20 dc20 pm20 cd20 ct20 oc21 kV21 dc21 pm21 cd21 ct21 oc22 kV22 dc22 pm22 cd22 ct22 oc23 kV23 dc23 pm23 cd23 ct23 oc24 kV24 dc24 pm24 cd24 ct24 oc25 kV25 dc25 pm25 cd25 ct25 oc26 kV26 dc26 pm26 cd26 ct26 oc27 kV27 dc27 pm27 cd27 ct27 oc28 kV28 dc28 pm28 cd28 ct28 oc29 kV29 dc29 pm29 cd29 ct29 oc30 kV30 dc30 pm30 cd30 ct30 : Value}
    (aC : PySem.W.nsIn K mainGlobals "Takes" = some (some (.ref C)))
    (a0 : PySem.W.nsIn K mainGlobals "is_whole" = some (some (.ref f0)))
    (l0 : K.lookup f0 = some ⟨oc0, od0, .func (PySem.W.fnOf "is_whole" "is_whole" (defArgs sWhole) (defBody sWhole) (defScope sWhole) .none kV0 dc0 pm0 an0 cd0 ct0), sl0⟩) (c0 : PySem.W.codeIn K cd0 "is_whole" = true) (k0 : PySem.W.keepIn K (.ref f0) = true)
    (a1 : PySem.W.nsIn K mainGlobals "is_within" = some (some (.ref f1)))
    (l1 : K.lookup f1 = some ⟨oc1, od1, .func (PySem.W.fnOf "is_within" "is_within" (defArgs sWithin) (defBody sWithin) (defScope sWithin) .none kV1 dc1 pm1 an1 cd1 ct1), sl1⟩) (c1 : PySem.W.codeIn K cd1 "is_within" = true) (k1 : PySem.W.keepIn K (.ref f1) = true)
    (a2 : PySem.W.nsIn K mainGlobals "stays" = some (some (.ref f2)))
    (l2 : K.lookup f2 = some ⟨oc2, od2, .func (PySem.W.fnOf "stays" "stays" (defArgs sStays) (defBody sStays) (defScope sStays) .none kV2 dc2 pm2 an2 cd2 ct2), sl2⟩) (c2 : PySem.W.codeIn K cd2 "stays" = true) (k2 : PySem.W.keepIn K (.ref f2) = true)
    (a3 : PySem.W.nsIn K mainGlobals "joined_parts" = some (some (.ref f3)))
    (l3 : K.lookup f3 = some ⟨oc3, od3, .func (PySem.W.fnOf "joined_parts" "joined_parts" (defArgs sJp) (defBody sJp) (defScope sJp) .none kV3 dc3 pm3 an3 cd3 ct3), sl3⟩) (c3 : PySem.W.codeIn K cd3 "joined_parts" = true) (k3 : PySem.W.keepIn K (.ref f3) = true)
    (a4 : PySem.W.findIn K (.ref C) "__init__" = some (some (.ref f4))) (i4 : PySem.W.isFn K (.ref f4) = true)
    (l4 : K.lookup f4 = some ⟨oc4, od4, .func (PySem.W.fnOf "__init__" "Takes.__init__" (defArgs sInit) (defBody sInit) (defScope sInit) .none kV4 dc4 pm4 an4 cd4 ct4), sl4⟩) (c4 : PySem.W.codeIn K cd4 "Takes.__init__" = true) (k4 : PySem.W.keepIn K (.ref f4) = true)
    (a5 : PySem.W.findIn K (.ref C) "shown" = some (some (.ref f5))) (i5 : PySem.W.isFn K (.ref f5) = true)
    (l5 : K.lookup f5 = some ⟨oc5, od5, .func (PySem.W.fnOf "shown" "Takes.shown" (defArgs sShown) (defBody sShown) (defScope sShown) .none kV5 dc5 pm5 an5 cd5 ct5), sl5⟩) (c5 : PySem.W.codeIn K cd5 "Takes.shown" = true) (k5 : PySem.W.keepIn K (.ref f5) = true)
    (a6 : PySem.W.findIn K (.ref C) "top" = some (some (.ref f6))) (i6 : PySem.W.isFn K (.ref f6) = true)
    (l6 : K.lookup f6 = some ⟨oc6, od6, .func (PySem.W.fnOf "top" "Takes.top" (defArgs sTop) (defBody sTop) (defScope sTop) .none kV6 dc6 pm6 an6 cd6 ct6), sl6⟩) (c6 : PySem.W.codeIn K cd6 "Takes.top" = true) (k6 : PySem.W.keepIn K (.ref f6) = true)
    (a7 : PySem.W.findIn K (.ref C) "side" = some (some (.ref f7))) (i7 : PySem.W.isFn K (.ref f7) = true)
    (l7 : K.lookup f7 = some ⟨oc7, od7, .func (PySem.W.fnOf "side" "Takes.side" (defArgs sSide) (defBody sSide) (defScope sSide) .none kV7 dc7 pm7 an7 cd7 ct7), sl7⟩) (c7 : PySem.W.codeIn K cd7 "Takes.side" = true) (k7 : PySem.W.keepIn K (.ref f7) = true)
    (a8 : PySem.W.findIn K (.ref C) "odd" = some (some (.ref f8))) (i8 : PySem.W.isFn K (.ref f8) = true)
    (l8 : K.lookup f8 = some ⟨oc8, od8, .func (PySem.W.fnOf "odd" "Takes.odd" (defArgs sOdd) (defBody sOdd) (defScope sOdd) .none kV8 dc8 pm8 an8 cd8 ct8), sl8⟩) (c8 : PySem.W.codeIn K cd8 "Takes.odd" = true) (k8 : PySem.W.keepIn K (.ref f8) = true)
    (a9 : PySem.W.findIn K (.ref C) "joins" = some (some (.ref f9))) (i9 : PySem.W.isFn K (.ref f9) = true)
    (l9 : K.lookup f9 = some ⟨oc9, od9, .func (PySem.W.fnOf "joins" "Takes.joins" (defArgs sJoins) (defBody sJoins) (defScope sJoins) .none kV9 dc9 pm9 an9 cd9 ct9), sl9⟩) (c9 : PySem.W.codeIn K cd9 "Takes.joins" = true) (k9 : PySem.W.keepIn K (.ref f9) = true)
    (a10 : PySem.W.findIn K (.ref C) "size" = some (some (.ref f10))) (i10 : PySem.W.isFn K (.ref f10) = true)
    (l10 : K.lookup f10 = some ⟨oc10, od10, .func (PySem.W.fnOf "size" "Takes.size" (defArgs sSize) (defBody sSize) (defScope sSize) .none kV10 dc10 pm10 an10 cd10 ct10), sl10⟩) (c10 : PySem.W.codeIn K cd10 "Takes.size" = true) (k10 : PySem.W.keepIn K (.ref f10) = true)
    (a11 : PySem.W.findIn K (.ref C) "parts" = some (some (.ref f11))) (i11 : PySem.W.isFn K (.ref f11) = true)
    (l11 : K.lookup f11 = some ⟨oc11, od11, .func (PySem.W.fnOf "parts" "Takes.parts" (defArgs sParts) (defBody sParts) (defScope sParts) .none kV11 dc11 pm11 an11 cd11 ct11), sl11⟩) (c11 : PySem.W.codeIn K cd11 "Takes.parts" = true) (k11 : PySem.W.keepIn K (.ref f11) = true)
    (a12 : PySem.W.findIn K (.ref C) "join" = some (some (.ref f12))) (i12 : PySem.W.isFn K (.ref f12) = true)
    (l12 : K.lookup f12 = some ⟨oc12, od12, .func (PySem.W.fnOf "join" "Takes.join" (defArgs sJoin) (defBody sJoin) (defScope sJoin) .none kV12 dc12 pm12 an12 cd12 ct12), sl12⟩) (c12 : PySem.W.codeIn K cd12 "Takes.join" = true) (k12 : PySem.W.keepIn K (.ref f12) = true)
    (a13 : PySem.W.findIn K (.ref C) "back" = some (some (.ref f13))) (i13 : PySem.W.isFn K (.ref f13) = true)
    (l13 : K.lookup f13 = some ⟨oc13, od13, .func (PySem.W.fnOf "back" "Takes.back" (defArgs sBack) (defBody sBack) (defScope sBack) .none kV13 dc13 pm13 an13 cd13 ct13), sl13⟩) (c13 : PySem.W.codeIn K cd13 "Takes.back" = true) (k13 : PySem.W.keepIn K (.ref f13) = true)
    (a14 : PySem.W.nsIn K mainGlobals "beside_of" = some (some (.ref f14)))
    (l14 : K.lookup f14 = some ⟨oc14, od14, .func (PySem.W.fnOf "beside_of" "beside_of" (defArgs sBeside) (defBody sBeside) (defScope sBeside) .none kV14 dc14 pm14 an14 cd14 ct14), sl14⟩) (c14 : PySem.W.codeIn K cd14 "beside_of" = true) (k14 : PySem.W.keepIn K (.ref f14) = true)
    (a15 : PySem.W.nsIn K mainGlobals "ways_from" = some (some (.ref f15)))
    (l15 : K.lookup f15 = some ⟨oc15, od15, .func (PySem.W.fnOf "ways_from" "ways_from" (defArgs sWays) (defBody sWays) (defScope sWays) .none kV15 dc15 pm15 an15 cd15 ct15), sl15⟩) (c15 : PySem.W.codeIn K cd15 "ways_from" = true) (k15 : PySem.W.keepIn K (.ref f15) = true)
    (a16 : PySem.W.nsIn K mainGlobals "part_of" = some (some (.ref f16)))
    (l16 : K.lookup f16 = some ⟨oc16, od16, .func (PySem.W.fnOf "part_of" "part_of" (defArgs sPart) (defBody sPart) (defScope sPart) .none kV16 dc16 pm16 an16 cd16 ct16), sl16⟩) (c16 : PySem.W.codeIn K cd16 "part_of" = true) (k16 : PySem.W.keepIn K (.ref f16) = true)
    (a17 : PySem.W.nsIn K mainGlobals "are_joined" = some (some (.ref f17)))
    (l17 : K.lookup f17 = some ⟨oc17, od17, .func (PySem.W.fnOf "are_joined" "are_joined" (defArgs sJoined) (defBody sJoined) (defScope sJoined) .none kV17 dc17 pm17 an17 cd17 ct17), sl17⟩) (c17 : PySem.W.codeIn K cd17 "are_joined" = true) (k17 : PySem.W.keepIn K (.ref f17) = true)
    (a18 : PySem.W.nsIn K mainGlobals "parts_of" = some (some (.ref f18)))
    (l18 : K.lookup f18 = some ⟨oc18, od18, .func (PySem.W.fnOf "parts_of" "parts_of" (defArgs sPartsOf) (defBody sPartsOf) (defScope sPartsOf) .none kV18 dc18 pm18 an18 cd18 ct18), sl18⟩) (c18 : PySem.W.codeIn K cd18 "parts_of" = true) (k18 : PySem.W.keepIn K (.ref f18) = true)
    (a19 : PySem.W.nsIn K mainGlobals "_law_cell_at" = some (some (.ref f19)))
    (l19 : K.lookup f19 = some ⟨oc19, od19, .func (PySem.W.fnOf "_law_cell_at" "_law_cell_at" (defArgs sCell) (defBody sCell) (defScope sCell) .none kV19 dc19 pm19 an19 cd19 ct19), sl19⟩) (c19 : PySem.W.codeIn K cd19 "_law_cell_at" = true) (k19 : PySem.W.keepIn K (.ref f19) = true)
    (a20 : PySem.W.nsIn K mainGlobals "_law_opened" = some (some (.ref f20)))
    (l20 : K.lookup f20 = some ⟨oc20, od20, .func (PySem.W.fnOf "_law_opened" "_law_opened" (defArgs sOpened) (defBody sOpened) (defScope sOpened) .none kV20 dc20 pm20 an20 cd20 ct20), sl20⟩) (c20 : PySem.W.codeIn K cd20 "_law_opened" = true) (k20 : PySem.W.keepIn K (.ref f20) = true)
    (a21 : PySem.W.nsIn K mainGlobals "_law_draw" = some (some (.ref f21)))
    (l21 : K.lookup f21 = some ⟨oc21, od21, .func (PySem.W.fnOf "_law_draw" "_law_draw" (defArgs sDraw) (defBody sDraw) (defScope sDraw) .none kV21 dc21 pm21 an21 cd21 ct21), sl21⟩) (c21 : PySem.W.codeIn K cd21 "_law_draw" = true) (k21 : PySem.W.keepIn K (.ref f21) = true)
    (a22 : PySem.W.nsIn K mainGlobals "_law_rare" = some (some (.ref f22)))
    (l22 : K.lookup f22 = some ⟨oc22, od22, .func (PySem.W.fnOf "_law_rare" "_law_rare" (defArgs sRare) (defBody sRare) (defScope sRare) .none kV22 dc22 pm22 an22 cd22 ct22), sl22⟩) (c22 : PySem.W.codeIn K cd22 "_law_rare" = true) (k22 : PySem.W.keepIn K (.ref f22) = true)
    (a23 : PySem.W.nsIn K mainGlobals "_law_two_of" = some (some (.ref f23)))
    (l23 : K.lookup f23 = some ⟨oc23, od23, .func (PySem.W.fnOf "_law_two_of" "_law_two_of" (defArgs sTwo) (defBody sTwo) (defScope sTwo) .none kV23 dc23 pm23 an23 cd23 ct23), sl23⟩) (c23 : PySem.W.codeIn K cd23 "_law_two_of" = true) (k23 : PySem.W.keepIn K (.ref f23) = true)
    (a24 : PySem.W.nsIn K mainGlobals "_law_named" = some (some (.ref f24)))
    (l24 : K.lookup f24 = some ⟨oc24, od24, .func (PySem.W.fnOf "_law_named" "_law_named" (defArgs sNamed) (defBody sNamed) (defScope sNamed) .none kV24 dc24 pm24 an24 cd24 ct24), sl24⟩) (c24 : PySem.W.codeIn K cd24 "_law_named" = true) (k24 : PySem.W.keepIn K (.ref f24) = true)
    (a25 : PySem.W.nsIn K mainGlobals "_law_order" = some (some (.ref f25)))
    (l25 : K.lookup f25 = some ⟨oc25, od25, .func (PySem.W.fnOf "_law_order" "_law_order" (defArgs sOrder) (defBody sOrder) (defScope sOrder) .none kV25 dc25 pm25 an25 cd25 ct25), sl25⟩) (c25 : PySem.W.codeIn K cd25 "_law_order" = true) (k25 : PySem.W.keepIn K (.ref f25) = true)
    (a26 : PySem.W.nsIn K mainGlobals "_law_drawn_ties" = some (some (.ref f26)))
    (l26 : K.lookup f26 = some ⟨oc26, od26, .func (PySem.W.fnOf "_law_drawn_ties" "_law_drawn_ties" (defArgs sDTies) (defBody sDTies) (defScope sDTies) .none kV26 dc26 pm26 an26 cd26 ct26), sl26⟩) (c26 : PySem.W.codeIn K cd26 "_law_drawn_ties" = true) (k26 : PySem.W.keepIn K (.ref f26) = true)
    (a27 : PySem.W.nsIn K mainGlobals "_law_is_even" = some (some (.ref f27)))
    (l27 : K.lookup f27 = some ⟨oc27, od27, .func (PySem.W.fnOf "_law_is_even" "_law_is_even" (defArgs sEven) (defBody sEven) (defScope sEven) .none kV27 dc27 pm27 an27 cd27 ct27), sl27⟩) (c27 : PySem.W.codeIn K cd27 "_law_is_even" = true) (k27 : PySem.W.keepIn K (.ref f27) = true)
    (a28 : PySem.W.nsIn K mainGlobals "_law_right" = some (some (.ref f28)))
    (l28 : K.lookup f28 = some ⟨oc28, od28, .func (PySem.W.fnOf "_law_right" "_law_right" (defArgs sRight) (defBody sRight) (defScope sRight) .none kV28 dc28 pm28 an28 cd28 ct28), sl28⟩) (c28 : PySem.W.codeIn K cd28 "_law_right" = true) (k28 : PySem.W.keepIn K (.ref f28) = true)
    (a29 : PySem.W.nsIn K mainGlobals "_law_gone" = some (some (.ref f29)))
    (l29 : K.lookup f29 = some ⟨oc29, od29, .func (PySem.W.fnOf "_law_gone" "_law_gone" (defArgs sGone) (defBody sGone) (defScope sGone) .none kV29 dc29 pm29 an29 cd29 ct29), sl29⟩) (c29 : PySem.W.codeIn K cd29 "_law_gone" = true) (k29 : PySem.W.keepIn K (.ref f29) = true)
    (a30 : PySem.W.nsIn K mainGlobals "law" = some (some (.ref f30)))
    (l30 : K.lookup f30 = some ⟨oc30, od30, .func (PySem.W.fnOf "law" "law" (defArgs sLaw) (defBody sLaw) (defScope sLaw) .none kV30 dc30 pm30 an30 cd30 ct30), sl30⟩) (c30 : PySem.W.codeIn K cd30 "law" = true) (k30 : PySem.W.keepIn K (.ref f30) = true)
    (pg : PySem.W.plainGet K C Str.empty = true) (hd : PySem.W.hasDictIn K C = true) (po : PySem.W.plainOver K C = true) (sa : PySem.W.findIn K (.ref C) "__setattr__" = some (some (.builtin "object.__setattr__"))) (mk : PySem.W.makesIn K C = true) (kc : PySem.W.keepIn K (.ref C) = true)
    (n0 : PySem.W.findIn K (.ref C) "states" = some none)
    (z0 : PySem.W.nsIn K mainGlobals "isinstance" = some none) (z1 : PySem.W.nsIn K mainGlobals "int" = some none) (z2 : PySem.W.nsIn K mainGlobals "bool" = some none) (z3 : PySem.W.nsIn K mainGlobals "tuple" = some none) (z4 : PySem.W.nsIn K mainGlobals "len" = some none) (z5 : PySem.W.nsIn K mainGlobals "range" = some none) (z6 : PySem.W.nsIn K mainGlobals "max" = some none) (z7 : PySem.W.nsIn K mainGlobals "min" = some none) (z8 : PySem.W.nsIn K mainGlobals "zip" = some none) (z9 : PySem.W.nsIn K mainGlobals "sorted" = some none) (z10 : PySem.W.nsIn K mainGlobals "list" = some none) (z11 : PySem.W.nsIn K mainGlobals "enumerate" = some none) :
    ∃ fd : FuncData, (∀ (s : Shared) (v : Value), BindsTo s fd ⟨[v], []⟩ [("_law_script", v)]) ∧ ∀ base : Heap, K.In base → base.Ns mainGlobals mg → FnOk l.prog w K mg base CX0 7 fa fd ["_law_script"] (spLaw K) := by
  have e := hfa.symm.trans (PySem.W.mg_of X G a30)
  cases e
  have T : Txt K mg C f4 := ⟨⟨pg, hd, po, sa⟩, n0, ⟨mk, a4, i4, kc⟩, PySem.W.mg_of X G aC, PySem.W.mg_none_of X G z0, PySem.W.mg_none_of X G z1, PySem.W.mg_none_of X G z2, PySem.W.mg_none_of X G z3, PySem.W.mg_none_of X G z4, PySem.W.mg_none_of X G z5, PySem.W.mg_none_of X G z6, PySem.W.mg_none_of X G z7, PySem.W.mg_none_of X G z8, PySem.W.mg_none_of X G z9, PySem.W.mg_none_of X G z10, PySem.W.mg_none_of X G z11⟩
  have F0 := fun_mk (st := sWhole) l0 c0 k0
  have b0 := F0.binds (ps := ["thing"]) fun _ _ _ _ _ _ => us1 rfl fun _ => rfl
  have m0 := PySem.W.mg_of X G a0
  have F1 := fun_mk (st := sWithin) l1 c1 k1
  have b1 := F1.binds (ps := ["thing", "low", "high"]) fun _ _ _ _ _ _ => us3 rfl fun _ _ _ => rfl
  have m1 := PySem.W.mg_of X G a1
  have F2 := fun_mk (st := sStays) l2 c2 k2
  have b2 := F2.binds (ps := ["tops", "one", "other"]) fun _ _ _ _ _ _ => us3 rfl fun _ _ _ => rfl
  have m2 := PySem.W.mg_of X G a2
  have F3 := fun_mk (st := sJp) l3 c3 k3
  have b3 := F3.binds (ps := ["tops", "sides", "one", "other"]) fun _ _ _ _ _ _ => us4 rfl fun _ _ _ _ => rfl
  have m3 := PySem.W.mg_of X G a3
  have F4 := fun_mk (st := sInit) l4 c4 k4
  have b4 := F4.binds (ps := ["self", "many"]) fun _ _ _ _ _ _ => us2 rfl fun _ _ => rfl
  have F5 := fun_mk (st := sShown) l5 c5 k5
  have b5 := F5.binds (ps := ["self"]) fun _ _ _ _ _ _ => us1 rfl fun _ => rfl
  have F6 := fun_mk (st := sTop) l6 c6 k6
  have b6 := F6.binds (ps := ["self", "place"]) fun _ _ _ _ _ _ => us2 rfl fun _ _ => rfl
  have F7 := fun_mk (st := sSide) l7 c7 k7
  have b7 := F7.binds (ps := ["self", "place"]) fun _ _ _ _ _ _ => us2 rfl fun _ _ => rfl
  have F8 := fun_mk (st := sOdd) l8 c8 k8
  have b8 := F8.binds (ps := ["self"]) fun _ _ _ _ _ _ => us1 rfl fun _ => rfl
  have F9 := fun_mk (st := sJoins) l9 c9 k9
  have b9 := F9.binds (ps := ["self"]) fun _ _ _ _ _ _ => us1 rfl fun _ => rfl
  have F10 := fun_mk (st := sSize) l10 c10 k10
  have b10 := F10.binds (ps := ["self", "place"]) fun _ _ _ _ _ _ => us2 rfl fun _ _ => rfl
  have F11 := fun_mk (st := sParts) l11 c11 k11
  have b11 := F11.binds (ps := ["self"]) fun _ _ _ _ _ _ => us1 rfl fun _ => rfl
  have F12 := fun_mk (st := sJoin) l12 c12 k12
  have b12 := F12.binds (ps := ["self", "one", "other"]) fun _ _ _ _ _ _ => us3 rfl fun _ _ _ => rfl
  have F13 := fun_mk (st := sBack) l13 c13 k13
  have b13 := F13.binds (ps := ["self", "thing"]) fun _ _ _ _ _ _ => us2 rfl fun _ _ => rfl
  have F14 := fun_mk (st := sBeside) l14 c14 k14
  have b14 := F14.binds (ps := ["many", "stand"]) fun _ _ _ _ _ _ => us2 rfl fun _ _ => rfl
  have m14 := PySem.W.mg_of X G a14
  have F15 := fun_mk (st := sWays) l15 c15 k15
  have b15 := F15.binds (ps := ["many", "stand", "place"]) fun _ _ _ _ _ _ => us3 rfl fun _ _ _ => rfl
  have m15 := PySem.W.mg_of X G a15
  have F16 := fun_mk (st := sPart) l16 c16 k16
  have b16 := F16.binds (ps := ["many", "stand", "place"]) fun _ _ _ _ _ _ => us3 rfl fun _ _ _ => rfl
  have m16 := PySem.W.mg_of X G a16
  have F17 := fun_mk (st := sJoined) l17 c17 k17
  have b17 := F17.binds (ps := ["many", "stand", "one", "other"]) fun _ _ _ _ _ _ => us4 rfl fun _ _ _ _ => rfl
  have m17 := PySem.W.mg_of X G a17
  have F18 := fun_mk (st := sPartsOf) l18 c18 k18
  have b18 := F18.binds (ps := ["many", "stand"]) fun _ _ _ _ _ _ => us2 rfl fun _ _ => rfl
  have m18 := PySem.W.mg_of X G a18
  have F19 := fun_mk (st := sCell) l19 c19 k19
  have b19 := F19.binds (ps := ["_law_script", "_law_k"]) fun _ _ _ _ _ _ => us2 rfl fun _ _ => rfl
  have m19 := PySem.W.mg_of X G a19
  have F20 := fun_mk (st := sOpened) l20 c20 k20
  have b20 := F20.binds (ps := ["_law_cell"]) fun _ _ _ _ _ _ => us1 rfl fun _ => rfl
  have m20 := PySem.W.mg_of X G a20
  have F21 := fun_mk (st := sDraw) l21 c21 k21
  have b21 := F21.binds (ps := ["_law_deck", "_law_most"]) fun _ _ _ _ _ _ => us2 rfl fun _ _ => rfl
  have m21 := PySem.W.mg_of X G a21
  have F22 := fun_mk (st := sRare) l22 c22 k22
  have b22 := F22.binds (ps := ["_law_deck", "_law_often", "_law_great"]) fun _ _ _ _ _ _ => us3 rfl fun _ _ _ => rfl
  have m22 := PySem.W.mg_of X G a22
  have F23 := fun_mk (st := sTwo) l23 c23 k23
  have b23 := F23.binds (ps := ["_law_deck", "_law_many"]) fun _ _ _ _ _ _ => us2 rfl fun _ _ => rfl
  have m23 := PySem.W.mg_of X G a23
  have F24 := fun_mk (st := sNamed) l24 c24 k24
  have b24 := F24.binds (ps := ["_law_deck", "_law_many"]) fun _ _ _ _ _ _ => us2 rfl fun _ _ => rfl
  have m24 := PySem.W.mg_of X G a24
  have F25 := fun_mk (st := sOrder) l25 c25 k25
  have b25 := F25.binds (ps := ["_law_deck", "_law_things"]) fun _ _ _ _ _ _ => us2 rfl fun _ _ => rfl
  have m25 := PySem.W.mg_of X G a25
  have F26 := fun_mk (st := sDTies) l26 c26 k26
  have b26 := F26.binds (ps := ["_law_deck", "_law_many"]) fun _ _ _ _ _ _ => us2 rfl fun _ _ => rfl
  have m26 := PySem.W.mg_of X G a26
  have F27 := fun_mk (st := sEven) l27 c27 k27
  have b27 := F27.binds (ps := ["_law_many", "_law_ties"]) fun _ _ _ _ _ _ => us2 rfl fun _ _ => rfl
  have m27 := PySem.W.mg_of X G a27
  have F28 := fun_mk (st := sRight) l28 c28 k28
  have b28 := F28.binds (ps := ["_law_takes", "_law_many", "_law_ties"]) fun _ _ _ _ _ _ => us3 rfl fun _ _ _ => rfl
  have m28 := PySem.W.mg_of X G a28
  have F29 := fun_mk (st := sGone) l29 c29 k29
  have b29 := F29.binds (ps := ["_law_deck"]) fun _ _ _ _ _ _ => us1 rfl fun _ => rfl
  have m29 := PySem.W.mg_of X G a29
  have F30 := fun_mk (st := sLaw) l30 c30 k30
  have b30 := F30.binds (ps := ["_law_script"]) fun _ _ _ _ _ _ => us1 rfl fun _ => rfl
  have m30 := PySem.W.mg_of X G a30
  refine ⟨PySem.W.fnOf "law" "law" (defArgs sLaw) (defBody sLaw) (defScope sLaw) .none kV30 dc30 pm30 an30 cd30 ct30, fun s v => .of_eq rfl, fun base _ _ => ?_⟩
  have Q0 : FnOk l.prog w K mg base CX0 1 f0 _ ["thing"] spWhole := ok_Whole F0 T 
  have Q1 : FnOk l.prog w K mg base CX0 2 f1 _ ["thing", "low", "high"] spWithin := ok_Within F1 T k0 b0 m0 (Q0.mono (by decide))
  have Q2 : FnOk l.prog w K mg base CX0 1 f2 _ ["tops", "one", "other"] (spStays K) := ok_Stays F2 T 
  have Q3 : FnOk l.prog w K mg base CX0 2 f3 _ ["tops", "sides", "one", "other"] (spJp K) := ok_Jp F3 T k2 b2 m2 (Q2.mono (by decide))
  have Q4 : FnOk l.prog w K mg base CX0 1 f4 _ ["self", "many"] (spInit C) := ok_Init F4 T 
  have Q5 : FnOk l.prog w K mg base CX0 1 f5 _ ["self"] (spShown C) := ok_Shown F5 T 
  have Q6 : FnOk l.prog w K mg base CX0 2 f6 _ ["self", "place"] (spTop C) := ok_Top F6 T b5 ⟨a5, i5, k5⟩ (Q5.mono (by decide))
  have Q7 : FnOk l.prog w K mg base CX0 2 f7 _ ["self", "place"] (spSide C) := ok_Side F7 T b5 ⟨a5, i5, k5⟩ (Q5.mono (by decide))
  have Q8 : FnOk l.prog w K mg base CX0 2 f8 _ ["self"] (spOdd C) := ok_Odd F8 T b5 ⟨a5, i5, k5⟩ (Q5.mono (by decide))
  have Q9 : FnOk l.prog w K mg base CX0 1 f9 _ ["self"] (spJoins C) := ok_Joins F9 T 
  have Q10 : FnOk l.prog w K mg base CX0 3 f10 _ ["self", "place"] (spSize C) := ok_Size F10 T b5 ⟨a5, i5, k5⟩ (Q5.mono (by decide)) b6 ⟨a6, i6, k6⟩ (Q6.mono (by decide))
  have Q11 : FnOk l.prog w K mg base CX0 2 f11 _ ["self"] (spParts C) := ok_Parts F11 T b5 ⟨a5, i5, k5⟩ (Q5.mono (by decide))
  have Q12 : FnOk l.prog w K mg base CX0 3 f12 _ ["self", "one", "other"] (spJoin C) := ok_Join F12 T b5 ⟨a5, i5, k5⟩ (Q5.mono (by decide)) k3 b3 m3 (Q3.mono (by decide))
  have Q13 : FnOk l.prog w K mg base CX0 3 f13 _ ["self", "thing"] (spBack C) := ok_Back F13 T k1 b1 m1 (Q1.mono (by decide)) b9 ⟨a9, i9, k9⟩ (Q9.mono (by decide))
  have Q14 : FnOk l.prog w K mg base CX0 1 f14 _ ["many", "stand"] spBeside := ok_Beside F14 T 
  have Q15 : FnOk l.prog w K mg base CX0 2 f15 _ ["many", "stand", "place"] spWays := ok_Ways F15 T k14 b14 m14 (Q14.mono (by decide))
  have Q16 : FnOk l.prog w K mg base CX0 3 f16 _ ["many", "stand", "place"] spPart := ok_Part F16 T k15 b15 m15 (Q15.mono (by decide))
  have Q17 : FnOk l.prog w K mg base CX0 4 f17 _ ["many", "stand", "one", "other"] spJoined := ok_Joined F17 T k16 b16 m16 (Q16.mono (by decide))
  have Q18 : FnOk l.prog w K mg base CX0 4 f18 _ ["many", "stand"] spPartsOf := ok_PartsOf F18 T k16 b16 m16 (Q16.mono (by decide))
  have Q19 : FnOk l.prog w K mg base CX0 1 f19 _ ["_law_script", "_law_k"] (spCell K) := ok_Cell F19 T 
  have Q20 : FnOk l.prog w K mg base CX0 1 f20 _ ["_law_cell"] spOpened := ok_Opened F20 T 
  have Q21 : FnOk l.prog w K mg base CX0 1 f21 _ ["_law_deck", "_law_most"] spDraw := ok_Draw F21 T 
  have Q22 : FnOk l.prog w K mg base CX0 2 f22 _ ["_law_deck", "_law_often", "_law_great"] spRare := ok_Rare F22 T k21 b21 m21 (Q21.mono (by decide))
  have Q23 : FnOk l.prog w K mg base CX0 2 f23 _ ["_law_deck", "_law_many"] spTwo := ok_Two F23 T k21 b21 m21 (Q21.mono (by decide))
  have Q24 : FnOk l.prog w K mg base CX0 2 f24 _ ["_law_deck", "_law_many"] spNamed := ok_Named F24 T k21 b21 m21 (Q21.mono (by decide))
  have Q25 : FnOk l.prog w K mg base CX0 2 f25 _ ["_law_deck", "_law_things"] spOrder := ok_Order F25 T k21 b21 m21 (Q21.mono (by decide))
  have Q26 : FnOk l.prog w K mg base CX0 3 f26 _ ["_law_deck", "_law_many"] spDTies := ok_DTies F26 T k24 b24 m24 (Q24.mono (by decide)) k22 b22 m22 (Q22.mono (by decide)) k21 b21 m21 (Q21.mono (by decide)) k23 b23 m23 (Q23.mono (by decide))
  have Q27 : FnOk l.prog w K mg base CX0 1 f27 _ ["_law_many", "_law_ties"] spEven := ok_Even F27 T 
  have Q28 : FnOk l.prog w K mg base CX0 5 f28 _ ["_law_takes", "_law_many", "_law_ties"] (spRight C) := ok_Right F28 T k18 b18 m18 (Q18.mono (by decide)) b11 ⟨a11, i11, k11⟩ (Q11.mono (by decide)) b9 ⟨a9, i9, k9⟩ (Q9.mono (by decide)) b8 ⟨a8, i8, k8⟩ (Q8.mono (by decide)) k27 b27 m27 (Q27.mono (by decide)) k16 b16 m16 (Q16.mono (by decide)) b10 ⟨a10, i10, k10⟩ (Q10.mono (by decide)) b6 ⟨a6, i6, k6⟩ (Q6.mono (by decide)) k17 b17 m17 (Q17.mono (by decide)) b7 ⟨a7, i7, k7⟩ (Q7.mono (by decide))
  have Q29 : FnOk l.prog w K mg base CX0 6 f29 _ ["_law_deck"] spGone := ok_Gone F29 T k22 b22 m22 (Q22.mono (by decide)) k21 b21 m21 (Q21.mono (by decide)) k25 b25 m25 (Q25.mono (by decide)) k26 b26 m26 (Q26.mono (by decide)) b4 Q4 b12 ⟨a12, i12, k12⟩ (Q12.mono (by decide)) k28 b28 m28 (Q28.mono (by decide)) b13 ⟨a13, i13, k13⟩ (Q13.mono (by decide))
  exact ok_Law F30 T k29 b29 m29 (Q29.mono (by decide)) k20 b20 m20 (Q20.mono (by decide)) k19 b19 m19 (Q19.mono (by decide))
theorem walk {l : PySem.W.OpenLaw} {q : Program} {loose : List Str} {XP : (Str → Option Value) → Heap → Prop} {YP : World → Heap → Prop} {d : DefRec} {K : Params → PySem.W.Frag} (hn : l.most = some 63) (hdf : d.params.defaults = [])
    (hY : ∀ (w : World) (h : Heap), YP w h → (K w.params).In h)
    (F : ∀ (w : World) (mg : Str → Option Value) (fa : Addr) (h : Heap), (K w.params).In h → h.Ns mainGlobals mg → mg d.name = some (.ref fa) →
      ∃ fd : FuncData, (∀ (s : Shared) (u : Value), BindsTo s fd ⟨[u], []⟩ [("_law_script", u)]) ∧ ∀ base : Heap, (K w.params).In base → base.Ns mainGlobals mg → FnOk l.prog w (K w.params) mg base CX0 7 fa fd ["_law_script"] (spLaw (K w.params))) :
    PySem.W.WalkO q loose XP YP l.row.toRowW d [] (fun f vs => PySem.call f vs) :=
  L2.walk_of (n := 63) (k := 7) (x := "_law_script") (CX := fun _ => CX0) (sp := fun w => spLaw (K w.params)) hn (by decide) hdf ⟨rfl, by decide, by decide, rfl⟩ hY F (fun _ _ a ns hl _ hS => ⟨a, ns, rfl, hS, hl, fun _ => rfl⟩) fun _ _ _ _ _ z => z
end K22
open PySem PySem.W PyProof.Rows
set_option maxRecDepth 100000 in
set_option maxHeartbeats 0 in
theorem PySem.Challenge.cw_joinedever_k22_whole_takes_of_stands_holds : PySem.Challenge.rw_joinedever_k22_whole_takes_of_stands.Holds := by
  w_on; o_law; k_head; (case hw => w_witness2)
  k_fill
  refine K22.walk (l := PySem.Challenge.rw_joinedever_k22_whole_takes_of_stands) rfl rfl (fun w h Y => PySem.W.kIn_of Y) ?F
  case F =>
    intro w mg fa h KX G hmg
    refine' K22.all_mk KX G hmg ?aC ?a0 ?l0 ?c0 ?k0 ?a1 ?l1 ?c1 ?k1 ?a2 ?l2 ?c2 ?k2 ?a3 ?l3 ?c3 ?k3 ?a4 ?i4 ?l4 ?c4 ?k4 ?a5 ?i5 ?l5 ?c5 ?k5 ?a6 ?i6 ?l6 ?c6 ?k6 ?a7 ?i7 ?l7 ?c7 ?k7 ?a8 ?i8 ?l8 ?c8 ?k8 ?a9 ?i9 ?l9 ?c9 ?k9 ?a10 ?i10 ?l10 ?c10 ?k10 ?a11 ?i11 ?l11 ?c11 ?k11 ?a12 ?i12 ?l12 ?c12 ?k12 ?a13 ?i13 ?l13 ?c13 ?k13 ?a14 ?l14 ?c14 ?k14 ?a15 ?l15 ?c15 ?k15 ?a16 ?l16 ?c16 ?k16 ?a17 ?l17 ?c17 ?k17 ?a18 ?l18 ?c18 ?k18 ?a19 ?l19 ?c19 ?k19 ?a20 ?l20 ?c20 ?k20 ?a21 ?l21 ?c21 ?k21 ?a22 ?l22 ?c22 ?k22 ?a23 ?l23 ?c23 ?k23 ?a24 ?l24 ?c24 ?k24 ?a25 ?l25 ?c25 ?k25 ?a26 ?l26 ?c26 ?k26 ?a27 ?l27 ?c27 ?k27 ?a28 ?l28 ?c28 ?k28 ?a29 ?l29 ?c29 ?k29 ?a30 ?l30 ?c30 ?k30 ?pg ?hd ?po ?sa ?mk ?kc ?n0 ?z0 ?z1 ?z2 ?z3 ?z4 ?z5 ?z6 ?z7 ?z8 ?z9 ?z10 ?z11
    (case aC => k_is)
    (case a0 => k_is)
    (case l0 => k_is)
    (case c0 => k_is)
    (case k0 => k_is)
    (case a1 => k_is)
    (case l1 => k_is)
    (case c1 => k_is)
    (case k1 => k_is)
    (case a2 => k_is)
    (case l2 => k_is)
    (case c2 => k_is)
    (case k2 => k_is)
    (case a3 => k_is)
    (case l3 => k_is)
    (case c3 => k_is)
    (case k3 => k_is)
    (case a4 => k_is)
    (case i4 => k_is)
    (case l4 => k_is)
    (case c4 => k_is)
    (case k4 => k_is)
    (case a5 => k_is)
    (case i5 => k_is)
    (case l5 => k_is)
    (case c5 => k_is)
    (case k5 => k_is)
    (case a6 => k_is)
    (case i6 => k_is)
    (case l6 => k_is)
    (case c6 => k_is)
    (case k6 => k_is)
    (case a7 => k_is)
    (case i7 => k_is)
    (case l7 => k_is)
    (case c7 => k_is)
    (case k7 => k_is)
    (case a8 => k_is)
    (case i8 => k_is)
    (case l8 => k_is)
    (case c8 => k_is)
    (case k8 => k_is)
    (case a9 => k_is)
    (case i9 => k_is)
    (case l9 => k_is)
    (case c9 => k_is)
    (case k9 => k_is)
    (case a10 => k_is)
    (case i10 => k_is)
    (case l10 => k_is)
    (case c10 => k_is)
    (case k10 => k_is)
    (case a11 => k_is)
    (case i11 => k_is)
    (case l11 => k_is)
    (case c11 => k_is)
    (case k11 => k_is)
    (case a12 => k_is)
    (case i12 => k_is)
    (case l12 => k_is)
    (case c12 => k_is)
    (case k12 => k_is)
    (case a13 => k_is)
    (case i13 => k_is)
    (case l13 => k_is)
    (case c13 => k_is)
    (case k13 => k_is)
    (case a14 => k_is)
    (case l14 => k_is)
    (case c14 => k_is)
    (case k14 => k_is)
    (case a15 => k_is)
    (case l15 => k_is)
    (case c15 => k_is)
    (case k15 => k_is)
    (case a16 => k_is)
    (case l16 => k_is)
    (case c16 => k_is)
    (case k16 => k_is)
    (case a17 => k_is)
    (case l17 => k_is)
    (case c17 => k_is)
    (case k17 => k_is)
    (case a18 => k_is)
    (case l18 => k_is)
    (case c18 => k_is)
    (case k18 => k_is)
    (case a19 => k_is)
    (case l19 => k_is)
    (case c19 => k_is)
    (case k19 => k_is)
    (case a20 => k_is)
    (case l20 => k_is)
    (case c20 => k_is)
    (case k20 => k_is)
    (case a21 => k_is)
    (case l21 => k_is)
    (case c21 => k_is)
    (case k21 => k_is)
    (case a22 => k_is)
    (case l22 => k_is)
    (case c22 => k_is)
    (case k22 => k_is)
    (case a23 => k_is)
    (case l23 => k_is)
    (case c23 => k_is)
    (case k23 => k_is)
    (case a24 => k_is)
    (case l24 => k_is)
    (case c24 => k_is)
    (case k24 => k_is)
    (case a25 => k_is)
    (case l25 => k_is)
    (case c25 => k_is)
    (case k25 => k_is)
    (case a26 => k_is)
    (case l26 => k_is)
    (case c26 => k_is)
    (case k26 => k_is)
    (case a27 => k_is)
    (case l27 => k_is)
    (case c27 => k_is)
    (case k27 => k_is)
    (case a28 => k_is)
    (case l28 => k_is)
    (case c28 => k_is)
    (case k28 => k_is)
    (case a29 => k_is)
    (case l29 => k_is)
    (case c29 => k_is)
    (case k29 => k_is)
    (case a30 => k_is)
    (case l30 => k_is)
    (case c30 => k_is)
    (case k30 => k_is)
    (case pg => k_is)
    (case hd => k_is)
    (case po => k_is)
    (case sa => k_is)
    (case mk => k_is)
    (case kc => k_is)
    (case n0 => k_is)
    (case z0 => k_is)
    (case z1 => k_is)
    (case z2 => k_is)
    (case z3 => k_is)
    (case z4 => k_is)
    (case z5 => k_is)
    (case z6 => k_is)
    (case z7 => k_is)
    (case z8 => k_is)
    (case z9 => k_is)
    (case z10 => k_is)
    (case z11 => k_is)
