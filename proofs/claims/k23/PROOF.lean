import PyProof.Rows.All
import Wide.All
import OpenK.AllK
import Wide.FinOn
import Lean
import PyProof.EqAt
import PyProof.EqKinds
import PyProof.TupleCall
import PySem.Challenge.RW_joinedever_k23_pieces_of_a_stretch
import PyProof.Draws
import PyProof.ZipIter
import PyProof.TupleIter
import PyProof.ListRange
import PyProof.CollectWalk
import KE.KSortTup
import KE.KDictSum
import PyProof.Rows.TupDisplay
import PyProof.Rows.Range3
import KE.KEqDict
import KE.KRevIter
import PyProof.EnumStmt
set_option Elab.async false
set_option linter.all false
set_option maxRecDepth 100000
namespace M24
def pin : Nat → Int → Int → Int → Int → List (Int × Int)
  | 0, f, l, lo, hi => if lo ≤ f ∧ l ≤ hi then [(f, l)] else []
  | n + 1, f, l, lo, hi => if lo ≤ f ∧ l ≤ hi then [(f, l)] else if l ≤ lo ∨ hi ≤ f then [] else pin n f ((f + l) / 2) lo hi ++ pin n ((f + l) / 2) l lo hi
def hv : Nat → Int → Int → List (Int × Int)
  | 0, f, l => [(f, l)]
  | n + 1, f, l => if l - f = 1 then [(f, l)] else ([(f, l)] ++ hv n f ((f + l) / 2)) ++ hv n ((f + l) / 2) l
theorem hv_in : ∀ (n : Nat) (f l : Int), f < l → l - f ≤ 2 ^ n → ∀ x ∈ hv n f l, f ≤ x.1 ∧ x.1 < x.2 ∧ x.2 ≤ l
  | 0, f, l, h, _, x, hx => by simp [hv] at hx; subst hx; simp; omega
  | n + 1, f, l, h, h2, x, hx => by
    unfold hv at hx
    have h2 : l - f ≤ 2 * 2 ^ n := by rw [Int.pow_succ] at h2; omega
    split at hx
    · simp at hx; subst hx; simp; omega
    · rcases List.mem_append.mp hx with hx | hx
      · rcases List.mem_append.mp hx with hx | hx
        · simp at hx; subst hx; simp; omega
        · have := hv_in n f ((f + l) / 2) (by omega) (by omega) x hx; omega
      · have := hv_in n ((f + l) / 2) l (by omega) (by omega) x hx; omega
theorem pin_in : ∀ (n : Nat) (f l lo hi : Int), f < l → l - f ≤ 2 ^ n → ∀ x ∈ pin n f l lo hi, f ≤ x.1 ∧ x.1 < x.2 ∧ x.2 ≤ l
  | 0, f, l, lo, hi, h, _, x, hx => by
    unfold pin at hx
    split at hx
    · simp at hx; subst hx; simp; omega
    · simp at hx
  | n + 1, f, l, lo, hi, h, h2, x, hx => by
    have h2 : l - f ≤ 2 * 2 ^ n := by rw [Int.pow_succ] at h2; omega
    unfold pin at hx
    split at hx
    · simp at hx; subst hx; simp; omega
    · split at hx
      · simp at hx
      · rcases List.mem_append.mp hx with hx | hx
        · have := pin_in n f ((f + l) / 2) lo hi (by omega) (by omega) x hx; omega
        · have := pin_in n ((f + l) / 2) l lo hi (by omega) (by omega) x hx; omega
theorem pin_len : ∀ (n : Nat) (f l lo hi : Int), (pin n f l lo hi).length ≤ 2 ^ n
  | 0, f, l, lo, hi => by unfold pin; split <;> simp
  | n + 1, f, l, lo, hi => by
    have p : 1 ≤ 2 ^ n := Nat.one_le_two_pow
    unfold pin
    split
    · simp; rw [Nat.pow_succ]; omega
    · split
      · simp
      · rw [List.length_append, Nat.pow_succ]
        have a := pin_len n f ((f + l) / 2) lo hi
        have b := pin_len n ((f + l) / 2) l lo hi
        omega
theorem hv_len : ∀ (n : Nat) (f l : Int), (hv n f l).length + 1 ≤ 2 ^ (n + 1)
  | 0, f, l => by simp [hv]
  | n + 1, f, l => by
    unfold hv
    have p : 1 ≤ 2 ^ (n + 1) := Nat.one_le_two_pow
    split
    · simp; rw [Nat.pow_succ]; omega
    · rw [List.length_append, List.length_append, Nat.pow_succ]
      have a := hv_len n f ((f + l) / 2)
      have b := hv_len n ((f + l) / 2) l
      simp; omega
def ri (a b : Int) : List Int := (List.range (b - a).toNat).map fun (k : Nat) => a + (k : Int)
theorem ri_nil {a b : Int} (h : b ≤ a) : ri a b = [] := by
  unfold ri; rw [show (b - a).toNat = 0 by omega]; rfl
theorem ri_cat {a b c : Int} (h1 : a ≤ b) (h2 : b ≤ c) : ri a b ++ ri b c = ri a c := by
  unfold ri
  rw [show (c - a).toNat = (b - a).toNat + (c - b).toNat by omega, List.range_add, List.map_append, List.map_map]
  congr 1
  refine List.map_congr_left fun k _ => ?_
  simp only [Function.comp]; omega
def nums (xs : List (Int × Int)) : List Int := xs.flatMap fun x => ri x.1 x.2
theorem nums_app (a b : List (Int × Int)) : nums (a ++ b) = nums a ++ nums b := by simp [nums]
theorem nums_pin : ∀ (n : Nat) (f l lo hi : Int), f < l → l - f ≤ 2 ^ n → nums (pin n f l lo hi) = ri (max f lo) (min l hi)
  | 0, f, l, lo, hi, h, h2 => by
    have h2 : l - f ≤ 1 := h2
    unfold pin
    by_cases c : lo ≤ f ∧ l ≤ hi
    · rw [if_pos c, show max f lo = f by omega, show min l hi = l by omega]; simp [nums]
    · rw [if_neg c, ri_nil (by omega)]; rfl
  | n + 1, f, l, lo, hi, h, h2 => by
    have h2 : l - f ≤ 2 * 2 ^ n := by rw [Int.pow_succ] at h2; omega
    unfold pin
    by_cases c : lo ≤ f ∧ l ≤ hi
    · rw [if_pos c, show max f lo = f by omega, show min l hi = l by omega]; simp [nums]
    · rw [if_neg c]
      by_cases d : l ≤ lo ∨ hi ≤ f
      · rw [if_pos d, ri_nil (by omega)]; rfl
      · have hp : (1 : Int) ≤ 2 ^ n := by
          have := Int.pow_pos (n := 2) (m := n) (by decide); omega
        have a1 : f < (f + l) / 2 := by omega
        have a2 : (f + l) / 2 < l := by omega
        rw [if_neg d, nums_app, nums_pin n f ((f + l) / 2) lo hi a1 (by omega), nums_pin n ((f + l) / 2) l lo hi a2 (by omega)]
        by_cases e1 : hi ≤ (f + l) / 2
        · rw [ri_nil (a := max ((f + l) / 2) lo) (by omega), List.append_nil]; congr 1; omega
        · by_cases e2 : (f + l) / 2 ≤ lo
          · rw [ri_nil (b := min ((f + l) / 2) hi) (by omega), List.nil_append]; congr 1; omega
          · rw [show min ((f + l) / 2) hi = (f + l) / 2 by omega, show max ((f + l) / 2) lo = (f + l) / 2 by omega, ri_cat (by omega) (by omega)]
end M24
namespace M24
def mid (x : Int × Int) : Int := (x.1 + x.2) / 2
def lef (x : Int × Int) : Int × Int := (x.1, mid x)
def rig (x : Int × Int) : Int × Int := (mid x, x.2)
theorem mid_in {x : Int × Int} (h : 1 < x.2 - x.1) : x.1 < mid x ∧ mid x < x.2 := by unfold mid; omega
theorem hv_self : ∀ (n : Nat) (f l : Int), (f, l) ∈ hv n f l
  | 0, f, l => by simp [hv]
  | n + 1, f, l => by unfold hv; split <;> simp
theorem hv_closed : ∀ (n : Nat) (f l : Int), f < l → l - f ≤ 2 ^ n → ∀ x ∈ hv n f l, 1 < x.2 - x.1 → lef x ∈ hv n f l ∧ rig x ∈ hv n f l
  | 0, f, l, h, h2, x, hx, hw => by
    have h2 : l - f ≤ 1 := h2
    simp [hv] at hx; subst hx; simp at hw; omega
  | n + 1, f, l, h, h2, x, hx, hw => by
    have h2 : l - f ≤ 2 * 2 ^ n := by rw [Int.pow_succ] at h2; omega
    unfold hv at hx ⊢
    split at hx
    · rename_i e; simp at hx; subst hx; simp at hw; omega
    · rename_i e
      rw [if_neg e]
      rcases List.mem_append.mp hx with hx | hx
      · rcases List.mem_append.mp hx with hx | hx
        · have : x = (f, l) := by simpa using hx
          subst this
          exact ⟨List.mem_append_left _ (List.mem_append_right _ (hv_self n f _)), List.mem_append_right _ (hv_self n _ l)⟩
        · obtain ⟨a, b⟩ := hv_closed n f ((f + l) / 2) (by omega) (by omega) x hx hw
          exact ⟨List.mem_append_left _ (List.mem_append_right _ a), List.mem_append_left _ (List.mem_append_right _ b)⟩
      · obtain ⟨a, b⟩ := hv_closed n ((f + l) / 2) l (by omega) (by omega) x hx hw
        exact ⟨List.mem_append_right _ a, List.mem_append_right _ b⟩
theorem pin_among {M : Int × Int → Prop} (cl : ∀ x, M x → 1 < x.2 - x.1 → M (lef x) ∧ M (rig x)) : ∀ (n : Nat) (f l lo hi : Int), f < l → l - f ≤ 2 ^ n → M (f, l) → ∀ x ∈ pin n f l lo hi, M x
  | 0, f, l, lo, hi, h, h2, hm, x, hx => by
    unfold pin at hx
    split at hx
    · have : x = (f, l) := by simpa using hx
      rw [this]; exact hm
    · cases hx
  | n + 1, f, l, lo, hi, h, h2, hm, x, hx => by
    have h2 : l - f ≤ 2 * 2 ^ n := by rw [Int.pow_succ] at h2; omega
    unfold pin at hx
    split at hx
    · have : x = (f, l) := by simpa using hx
      rw [this]; exact hm
    · rename_i c
      split at hx
      · cases hx
      · rename_i d
        have hw : 1 < l - f := by omega
        obtain ⟨a, b⟩ := cl (f, l) hm hw
        rcases List.mem_append.mp hx with hx | hx
        · exact pin_among cl n f ((f + l) / 2) lo hi (by omega) (by omega) a x hx
        · exact pin_among cl n ((f + l) / 2) l lo hi (by omega) (by omega) b x hx
theorem pin_top : ∀ (n : Nat) (f l lo hi : Int), f < l → l - f ≤ 2 ^ n → ∀ x ∈ pin n f l lo hi, ∀ p ∈ hv n f l, p.1 ≤ x.1 → x.2 ≤ p.2 → p ≠ x → ¬ (lo ≤ p.1 ∧ p.2 ≤ hi)
  | 0, f, l, lo, hi, h, h2, x, hx, p, hp, p1, p2, ne => by
    unfold pin at hx
    have ep : p = (f, l) := by simpa [hv] using hp
    split at hx
    · have : x = (f, l) := by simpa using hx
      exact absurd (ep.trans this.symm) ne
    · cases hx
  | n + 1, f, l, lo, hi, h, h2, x, hx, p, hp, p1, p2, ne => by
    have h2' : l - f ≤ 2 * 2 ^ n := by rw [Int.pow_succ] at h2; omega
    have pin' := hv_in (n + 1) f l h h2 p hp
    have xin := pin_in (n + 1) f l lo hi h h2 x hx
    unfold pin at hx
    split at hx
    · have ex : x = (f, l) := by simpa using hx
      have e1 : p.1 = x.1 := by rw [ex] at p1 ⊢; simp at p1 ⊢; omega
      have e2 : p.2 = x.2 := by rw [ex] at p2 ⊢; simp at p2 ⊢; omega
      exact absurd (Prod.ext e1 e2) ne
    · rename_i c
      split at hx
      · cases hx
      · rename_i d
        unfold hv at hp
        split at hp
        · have ep : p = (f, l) := by simpa using hp
          rw [ep]; exact c
        · rename_i e
          rcases List.mem_append.mp hp with hp | hp
          · rcases List.mem_append.mp hp with hp | hp
            · have ep : p = (f, l) := by simpa using hp
              rw [ep]; exact c
            · rcases List.mem_append.mp hx with hx | hx
              · exact pin_top n f ((f + l) / 2) lo hi (by omega) (by omega) x hx p hp p1 p2 ne
              · have a := pin_in n ((f + l) / 2) l lo hi (by omega) (by omega) x hx
                have b := hv_in n f ((f + l) / 2) (by omega) (by omega) p hp
                omega
          · rcases List.mem_append.mp hx with hx | hx
            · have a := pin_in n f ((f + l) / 2) lo hi (by omega) (by omega) x hx
              have b := hv_in n ((f + l) / 2) l (by omega) (by omega) p hp
              omega
            · exact pin_top n ((f + l) / 2) l lo hi (by omega) (by omega) x hx p hp p1 p2 ne
theorem pin_within : ∀ (n : Nat) (f l lo hi : Int), ∀ x ∈ pin n f l lo hi, lo ≤ x.1 ∧ x.2 ≤ hi
  | 0, f, l, lo, hi, x, hx => by
    unfold pin at hx
    split at hx
    · rename_i c
      have : x = (f, l) := by simpa using hx
      rw [this]; exact c
    · cases hx
  | n + 1, f, l, lo, hi, x, hx => by
    unfold pin at hx
    split at hx
    · rename_i c
      have : x = (f, l) := by simpa using hx
      rw [this]; exact c
    · split at hx
      · cases hx
      · rcases List.mem_append.mp hx with hx | hx
        · exact pin_within n f _ lo hi x hx
        · exact pin_within n _ l lo hi x hx
end M24
namespace L2
open PySem PySem.Spec PyProof.Rows
abbrev Key := Sum Int Str
def keyIs : Key → Value → Bool
  | .inl k, v => Value.isInt k v
  | .inr x, v => Value.isStrOf x v
def keyH (w : World) : Key → Int
  | .inl k => hashInt k
  | .inr x => hashStr w x
theorem keyIs_shape : ∀ {k : Key} {v : Value}, keyIs k v = true → (∃ i t, k = Sum.inl i ∧ v = Value.int i t) ∨ (∃ x t, k = Sum.inr x ∧ v = Value.str x t)
  | .inl i, v, h => by
    obtain ⟨t, e⟩ := Value.isInt_shape (k := i) (v := v) h
    exact .inl ⟨i, t, rfl, e⟩
  | .inr x, v, h => by
    obtain ⟨t, e⟩ := Value.isStrOf_shape (x := x) (v := v) h
    exact .inr ⟨x, t, rfl, e⟩
theorem keyIs_int (i : Int) (t : Tok) : keyIs (.inl i) (.int i t) = true := by simp [keyIs, Value.isInt]
theorem keyIs_str (x : Str) (t : Tok) : keyIs (.inr x) (.str x t) = true := by simp [keyIs, Value.isStrOf]
theorem key_ll (a b : Int) : decide ((Sum.inl a : Key) = Sum.inl b) = (a == b) := by
  by_cases e : a = b
  · subst e; simp
  · have h : ¬ (Sum.inl a : Key) = Sum.inl b := fun q => e (Sum.inl.inj q)
    rw [decide_eq_false h]
    exact (beq_eq_false_iff_ne.mpr e).symm
theorem key_rr (a b : Str) : decide ((Sum.inr a : Key) = Sum.inr b) = decide (a = b) := by
  by_cases e : a = b
  · subst e; simp
  · have h : ¬ (Sum.inr a : Key) = Sum.inr b := fun q => e (Sum.inr.inj q)
    rw [decide_eq_false h, decide_eq_false e]
theorem key_lr (a : Int) (b : Str) : decide ((Sum.inl a : Key) = Sum.inr b) = false := decide_eq_false (fun q => nomatch q)
theorem key_rl (a : Str) (b : Int) : decide ((Sum.inr a : Key) = Sum.inl b) = false := decide_eq_false (fun q => nomatch q)
def mixKind (prog : Program) (w : World) : PySem.KeyKind prog w Key where
  is := keyIs
  hash := keyH w
  inj := fun v a b ha hb => by
    rcases keyIs_shape ha with ⟨i, t, rfl, rfl⟩ | ⟨x, t, rfl, rfl⟩
    · rcases keyIs_shape hb with ⟨j, u, rfl, e⟩ | ⟨y, u, rfl, e⟩
      · injection e with e1 _; rw [e1]
      · exact nomatch e
    · rcases keyIs_shape hb with ⟨j, u, rfl, e⟩ | ⟨y, u, rfl, e⟩
      · exact nomatch e
      · injection e with e1 _; rw [e1]
  byValue := fun k v h => by
    rcases keyIs_shape h with ⟨i, t, rfl, rfl⟩ | ⟨x, t, rfl, rfl⟩ <;> rfl
  pyHash := fun hv h => by
    rcases keyIs_shape hv with ⟨i, t, rfl, rfl⟩ | ⟨x, t, rfl, rfl⟩
    · exact wpAny_pyHash_int h
    · exact wpAny_pyHash_str h
  eqBool := fun hu hv h => by
    rcases keyIs_shape hu with ⟨i, t, rfl, rfl⟩ | ⟨x, t, rfl, rfl⟩
    · rcases keyIs_shape hv with ⟨j, u, rfl, rfl⟩ | ⟨y, u, rfl, rfl⟩
      · rw [key_ll] at h; exact wpAny_eqBool_int h
      · rw [key_lr] at h; exact SeqAt.EqAt.int_str i t y u _ _ _ _ h
    · rcases keyIs_shape hv with ⟨j, u, rfl, rfl⟩ | ⟨y, u, rfl, rfl⟩
      · rw [key_rl] at h; exact SeqAt.EqAt.str_int x t j u _ _ _ _ h
      · rw [key_rr] at h; exact wpAny_eqBool_str h
  «strs» := fun k x t v h => by
    rcases keyIs_shape h with ⟨i, u, rfl, e⟩ | ⟨y, u, rfl, e⟩
    · exact nomatch e
    · injection e with e1 _
      subst e1
      cases v <;> rfl
theorem mixKind_int (prog : Program) (w : World) (i : Int) (t : Tok) : (mixKind prog w).is (.inl i) (.int i t) = true := keyIs_int i t
theorem mixKind_str (prog : Program) (w : World) (x : Str) (t : Tok) : (mixKind prog w).is (.inr x) (.str x t) = true := keyIs_str x t
end L2
namespace L2
open PySem PySem.Spec PyProof.Rows
inductive V where
  | non | bl (b : Bool) | int (i : Int) | str (x : Str) | byt (b : Array UInt8) | flt (b : UInt64) | ref (a : Addr) | ty (n : String)
  deriving DecidableEq
def RelV : V → Value → Prop
  | .non, u => u = Value.none
  | .bl b, u => u = Value.bool b
  | .int i, u => ∃ t, u = Value.int i t
  | .str x, u => ∃ t, u = Value.str x t
  | .byt b, u => ∃ t, u = Value.bytes b t
  | .flt b, u => ∃ t, u = Value.float b t
  | .ref a, u => u = Value.ref a
  | .ty n, u => u = Value.type n
abbrev Vals : List V → List Value → Prop := Paired RelV
theorem Vals.length {xs : List V} {us : List Value} (r : Vals xs us) : xs.length = us.length := Paired.length r
theorem Vals.get : ∀ {xs : List V} {us : List Value} {i : Nat} {x : V}, Vals xs us → xs[i]? = some x → ∃ u, us[i]? = some u ∧ RelV x u
  | _, _, _, _, .nil, e => by simp at e
  | _, _, 0, _, .cons r _, e => by simp at e; subst e; exact ⟨_, rfl, r⟩
  | _, _, i + 1, x, .cons _ t, e => by
    obtain ⟨u, h1, h2⟩ := Vals.get (i := i) (x := x) t (by simpa using e)
    exact ⟨u, by simpa using h1, h2⟩
theorem Vals.set {x : V} {u : Value} (r : RelV x u) : ∀ {xs : List V} {us : List Value} (i : Nat), Vals xs us → Vals (xs.set i x) (us.set i u)
  | _, _, _, .nil => .nil
  | _, _, 0, .cons _ t => .cons r t
  | _, _, i + 1, .cons q t => .cons q (Vals.set r i t)
theorem Vals.append : ∀ {xs ys : List V} {us ws : List Value}, Vals xs us → Vals ys ws → Vals (xs ++ ys) (us ++ ws)
  | _, _, _, _, .nil, s => s
  | _, _, _, _, .cons r t, s => .cons r (Vals.append t s)
theorem Vals.take : ∀ {xs : List V} {us : List Value} (n : Nat), Vals xs us → Vals (xs.take n) (us.take n)
  | _, _, 0, _ => .nil
  | _, _, _ + 1, .nil => .nil
  | _, _, n + 1, .cons r t => .cons r (Vals.take n t)
theorem Vals.drop : ∀ {xs : List V} {us : List Value} (n : Nat), Vals xs us → Vals (xs.drop n) (us.drop n)
  | _, _, 0, r => r
  | _, _, _ + 1, .nil => .nil
  | _, _, n + 1, .cons _ t => Vals.drop n t
def RelO : Option V → Option Value → Prop
  | some v, some u => RelV v u
  | none, none => True
  | _, _ => False
def KV {κ : Type} : List (κ × V) → List (κ × Value) → Prop := Paired fun (p : κ × V) (q : κ × Value) => p.1 = q.1 ∧ RelV p.2 q.2
def kV : Key → V
  | .inl i => .int i
  | .inr x => .str x
inductive HO where
  | lst (xs : List V)
  | tup (xs : List V)
  | dK (kvs : List (Key × V)) | dT (kvs : List (List Key × V))
  | set (S : Int → Bool) (n : Nat)
  | ins (C dx : Addr) (fs : List (Str × V))
  | own (x : Addr)
  | xd (fs : List (Str × V))
  | met (f x : Addr)
  | rng (lo hi : Int)
  | frz (o : Obj) (u : HO)
  | tbl (ps : Array Value)
  | ext (φ : Heap → Prop)
abbrev Hp := Addr → Option HO
def upd (H : Hp) (a : Addr) (o : HO) : Hp := fun b => if b = a then some o else H b
theorem upd_same {H : Hp} {a : Addr} {o : HO} : upd H a o a = some o := by unfold upd; rw [if_pos rfl]
theorem upd_ne {H : Hp} {a b : Addr} {o : HO} (h : b ≠ a) : upd H a o b = H b := by unfold upd; rw [if_neg h]
theorem ne_of {H : Hp} {a b : Addr} {o u : HO} (h : H a = some o) (h' : H b = some u) (d : o ≠ u) : a ≠ b := by
  intro e; subst e; rw [h] at h'; exact d (Option.some.inj h')
theorem ne_of_none {H : Hp} {a b : Addr} {o : HO} (h : H a = some o) (h' : H b = none) : a ≠ b := by
  intro e; subst e; rw [h] at h'; cases h'
def IsTupN (h : Heap) (a : Addr) (items : Array Value) : Prop := ∃ o, h.get? a = some o ∧ o.cls = .type "tuple" ∧ o.dict = none ∧ ∃ n, o.data = .seq items n
theorem IsTupN.new (h : Heap) (items : Array Value) : IsTupN (h.push { cls := .type "tuple", data := .seq items }) h.objs.size items := ⟨_, Heap.get?_push_size _ rfl, rfl, rfl, _, rfl⟩
theorem IsTupN.tup {h : Heap} {a : Addr} {items : Array Value} (x : IsTupN h a items) : IsTup h a items := let ⟨o, e, c, _, n, d⟩ := x; ⟨o, e, c, n, d⟩
section
variable (P : Program) (w : World)
def ObjOk (H : Hp) (h : Heap) (a : Addr) : HO → Prop
  | .lst xs => xs.length ≤ sizeLine ∧ ∃ (its : List Value) (n : Nat), Vals xs its ∧ h.get? a = some { cls := .type "list", data := .seq its.toArray n }
  | .tup xs => xs.length ≤ sizeLine ∧ ∃ its : List Value, Vals xs its ∧ IsTupN h a its.toArray
  | .dK kvs => kvs.length ≤ sizeLine ∧ (a == sysModules) = false ∧ ∃ vs, KV kvs vs ∧ h.DictOf (mixKind P w) a vs
  | .dT kvs => kvs.length ≤ sizeLine ∧ (a == sysModules) = false ∧ ∃ xs : List (List Key × Addr × Value),
      Paired (fun (p : List Key × V) (q : List Key × Addr × Value) => p.1 = q.1 ∧ H q.2.1 = some (.tup (p.1.map kV)) ∧ RelV p.2 q.2.2) kvs xs ∧
      ∃ o es ep, h.get? a = some o ∧ o.ExactDict ∧ o.data = .dict es ep ∧ es.toList = xs.map (entryOfKey (tupleKind (mixKind P w))) ∧ (xs.map (·.1)).Nodup
  | .set S n => h.SetOf (intKind P w) a S n
  | .ins C dx fs => H dx = some (.own a) ∧ fs.length ≤ 1000 ∧ dx ≠ a ∧ h.get? a = some (PySem.W.instObj C dx) ∧
      ∃ mA, h.Ns1 dx mA ∧ (∀ f, RelO (fs.lookup f) (mA f)) ∧ PySem.Within mA (fs.map (·.1))
  | .own _ => ∃ o, h.get? a = some o
  | .xd fs => ∃ mA, h.Ns1 a mA ∧ ∀ f, RelO (fs.lookup f) (mA f)
  | .rng lo hi => ∃ t u v, h.get? a = some { cls := .type "range", data := .fields #[.int lo t, .int hi u, .int 1 v] }
  | .frz o u => h.get? a = some o ∧ ObjOk H h a u
  | .tbl ps => h.get? a = some { cls := .none, data := .fields ps }
  | .met f x => h.get? a = some (PySem.W.methodObj (.ref f) (.ref x))
  | .ext φ => φ h ∧ (∃ o, h.get? a = some o) ∧ ∀ h1 h2 : Heap, φ h1 → (∀ o, h1.get? a = some o → h2.get? a = some o) → φ h2
def HOk (H : Hp) (h : Heap) : Prop := ∀ a o, H a = some o → ObjOk P w H h a o
end
section
variable {P : Program} {w : World} {H H' : Hp} {h h' : Heap} {a : Addr} {o : HO}
theorem ObjOk.lt (x : ObjOk P w H h a o) : a < h.objs.size := by
  cases o with
  | lst xs => obtain ⟨_, _, _, _, e⟩ := x; exact Heap.lt_size e
  | tup xs => obtain ⟨_, _, _, p⟩ := x; exact p.tup.lt
  | dK kvs => obtain ⟨_, _, _, _, o, _, _, e, _⟩ := x; exact Heap.lt_size e
  | dT kvs => obtain ⟨_, _, _, _, o, _, _, e, _⟩ := x; exact Heap.lt_size e
  | set S n => obtain ⟨o, _, _, _, e, _⟩ := x; exact Heap.lt_size e
  | ins C dx fs => obtain ⟨_, _, _, e, _⟩ := x; exact Heap.lt_size e
  | own y => obtain ⟨_, e⟩ := x; exact Heap.lt_size e
  | xd fs => obtain ⟨_, ⟨_, _, _, e, _⟩, _⟩ := x; exact Heap.lt_size e
  | rng lo hi => obtain ⟨_, _, _, e⟩ := x; exact Heap.lt_size e
  | frz ob u => obtain ⟨e, _⟩ := x; exact Heap.lt_size e
  | tbl ps => exact Heap.lt_size (show h.get? a = some _ from x)
  | met f y => exact Heap.lt_size (show h.get? a = some _ from x)
  | ext φ => obtain ⟨_, ⟨_, e⟩, _⟩ := x; exact Heap.lt_size e
theorem Paired.mapP {α β : Type} {F G : α → β → Prop} : ∀ {l₁ : List α} {l₂ : List β}, Paired F l₁ l₂ → (∀ a b, F a b → G a b) → Paired G l₁ l₂
  | _, _, .nil, _ => .nil
  | _, _, .cons r t, f => .cons (f _ _ r) (Paired.mapP t f)
theorem ObjOk.stay (x : ObjOk P w H h a o) (k : ∀ b u, (b = a ∨ H b = some (.own a)) → h.get? b = some u → h'.get? b = some u)
    (ho : ∀ b, H b = some (.own a) → H' b = some (.own a)) (ht : ∀ b xs, H b = some (.tup xs) → H' b = some (.tup xs)) : ObjOk P w H' h' a o := by
  induction o with
  | lst xs => obtain ⟨z, its, n, r, e⟩ := x; exact ⟨z, its, n, r, k _ _ (.inl rfl) e⟩
  | tup xs => obtain ⟨z, its, r, ob, e, c⟩ := x; exact ⟨z, its, r, ob, k _ _ (.inl rfl) e, c⟩
  | dK kvs => obtain ⟨z, y, vs, r, ob, es, ep, e, c⟩ := x; exact ⟨z, y, vs, r, ob, es, ep, k _ _ (.inl rfl) e, c⟩
  | dT kvs =>
    obtain ⟨z, y, xs, r, ob, es, ep, e, c⟩ := x
    exact ⟨z, y, xs, Paired.mapP r fun p q z => ⟨z.1, ht _ _ z.2.1, z.2.2⟩, ob, es, ep, k _ _ (.inl rfl) e, c⟩
  | set S n => obtain ⟨ob, es, ep, t, e, c⟩ := x; exact ⟨ob, es, ep, t, k _ _ (.inl rfl) e, c⟩
  | ins C dx fs =>
    obtain ⟨d, z, ne, e, mA, ⟨od, es, ep, e2, c⟩, r⟩ := x
    exact ⟨ho _ d, z, ne, k _ _ (.inl rfl) e, mA, ⟨od, es, ep, k _ _ (.inr d) e2, c⟩, r⟩
  | own y => obtain ⟨ob, e⟩ := x; exact ⟨ob, k _ _ (.inl rfl) e⟩
  | xd fs => obtain ⟨mA, ⟨od, es, ep, e, c⟩, r⟩ := x; exact ⟨mA, ⟨od, es, ep, k _ _ (.inl rfl) e, c⟩, r⟩
  | rng lo hi => obtain ⟨t, u, v, e⟩ := x; exact ⟨t, u, v, k _ _ (.inl rfl) e⟩
  | frz ob u ih => obtain ⟨e, q⟩ := x; exact ⟨k _ _ (.inl rfl) e, ih q⟩
  | tbl ps =>
    have e : h.get? a = some { cls := .none, data := .fields ps } := x
    show h'.get? a = some { cls := .none, data := .fields ps }
    exact k a _ (.inl rfl) e
  | met f y =>
    have e : h.get? a = some (PySem.W.methodObj (.ref f) (.ref y)) := x
    show h'.get? a = some (PySem.W.methodObj (.ref f) (.ref y))
    exact k a _ (.inl rfl) e
  | ext φ => obtain ⟨p, ⟨o, e⟩, st⟩ := x; exact ⟨st _ _ p fun o q => k _ _ (.inl rfl) q, ⟨o, k _ _ (.inl rfl) e⟩, st⟩
theorem HOk.lt (x : HOk P w H h) (e : H a = some o) : a < h.objs.size := (x a o e).lt
theorem HOk.fresh (x : HOk P w H h) (e : h.objs.size ≤ a) : H a = none := by
  cases q : H a with
  | none => rfl
  | some u => exact absurd (Nat.lt_of_lt_of_le (x.lt q) e) (Nat.lt_irrefl _)
theorem HOk.kept (x : HOk P w H h) (k : ∀ b u, h.get? b = some u → h'.get? b = some u) : HOk P w H h' := fun a o e =>
  (x a o e).stay (fun b u _ q => k b u q) (fun _ q => q) fun _ _ q => q
theorem HOk.laid (x : HOk P w H h) (k : ∀ b u, h.get? b = some u → h'.get? b = some u) (hp : h.objs.size ≤ a) (new : ObjOk P w (upd H a o) h' a o) : HOk P w (upd H a o) h' := fun b u e => by
  have hn := x.fresh hp
  by_cases hb : b = a
  · subst hb; rw [upd_same] at e; cases e; exact new
  · rw [upd_ne hb] at e
    exact (x b u e).stay (fun c v _ q => k c v q) (fun c q => by rw [upd_ne (ne_of_none q hn)]; exact q) fun c xs q => by rw [upd_ne (ne_of_none q hn)]; exact q
end
def Rd (H : Hp) (a : Addr) (u : HO) : Prop := H a = some u ∨ ∃ o, H a = some (.frz o u)
theorem Rd.ok {P : Program} {w : World} {H : Hp} {h : Heap} {a : Addr} {u : HO} (r : Rd H a u) (x : HOk P w H h) : ObjOk P w H h a u := by
  rcases r with r | ⟨o, r⟩
  · exact x a u r
  · obtain ⟨_, q⟩ := x a _ r
    exact q
def Mut : Option HO → Prop
  | some (.lst _) => True
  | some (.dK _) => True
  | some (.dT _) => True
  | some (.set _ _) => True
  | some (.ins _ _ _) => True
  | some (.ext _) => True
  | _ => False
section
variable {P : Program} {w : World} {H : Hp} {h h' : Heap} {x e : Addr} {o' : HO}
theorem HOk.write (ok : HOk P w H h) (mu : Mut (H x)) (he : e = x ∨ H e = some (.own x)) (k : ∀ b u, b ≠ e → h.get? b = some u → h'.get? b = some u) (heo : ∃ u, h'.get? e = some u)
    (new : ObjOk P w (upd H x o') h' x o') : HOk P w (upd H x o') h' := fun b u q => by
  have nown : ∀ c y, H c = some (.own y) → c ≠ x := fun c y r z => by subst z; rw [r] at mu; exact mu
  have ntup : ∀ c xs, H c = some (.tup xs) → c ≠ x := fun c xs r z => by subst z; rw [r] at mu; exact mu
  by_cases hb : b = x
  · subst hb; rw [upd_same] at q; cases q; exact new
  · rw [upd_ne hb] at q
    by_cases hbe : b = e
    · have q' : H b = some (.own x) := by
        rcases he with z | z
        · exact absurd (hbe.trans z) hb
        · rw [hbe]; exact z
      rw [q] at q'; cases q'
      obtain ⟨v, hv⟩ := heo
      exact ⟨v, by rw [hbe]; exact hv⟩
    · refine (ok b u q).stay (fun c v hc r => k c v ?_ r) (fun c r => by rw [upd_ne (nown c b r)]; exact r) fun c xs r => by rw [upd_ne (ntup c xs r)]; exact r
      rcases hc with rfl | hc
      · exact hbe
      · rintro rfl
        rcases he with z | z
        · exact nown c b hc z
        · rw [hc] at z; cases z; exact hb rfl
end
structure Un (fs ex : List Addr) (H H' : Hp) (h h' : Heap) : Prop where
  keep : ∀ b o, h.get? b = some o → H b = none → b ∉ fs → b ∉ ex → h'.get? b = some o
  slot : ∀ b o, h.get? b = some o → H b = none → b ∈ fs → b ∉ ex → ∃ sl, h'.get? b = some { o with slots := sl }
  free : ∀ b o, h.get? b = some o → H b = none → b ∉ ex → H' b = none
  there : ∀ b o, h.get? b = some o → b ∉ ex → ∃ o', h'.get? b = some o'
  tups : ∀ b xs, H b = some (.tup xs) → H' b = some (.tup xs)
  frzs : ∀ b o u, H b = some (.frz o u) → H' b = some (.frz o u)
  tbls : ∀ b ps, H b = some (.tbl ps) → ∃ more, H' b = some (.tbl (ps ++ more))
section
variable {fs fs' ex ex' : List Addr} {H H1 H2 : Hp} {h h1 h2 h' : Heap} {a x e : Addr} {o : HO}
theorem Un.any (u : Un fs ex H H1 h h1) {b : Addr} {ob : Obj} (q : h.get? b = some ob) (n : H b = none) (hx : b ∉ ex) : ∃ sl, h1.get? b = some { ob with slots := sl } := by
  by_cases hb : b ∈ fs
  · exact u.slot b ob q n hb hx
  · exact ⟨ob.slots, u.keep b ob q n hb hx⟩
theorem Un.kept (k : ∀ b u, h.get? b = some u → h'.get? b = some u) : Un fs ex H H h h' :=
  ⟨fun b ob q _ _ _ => k b ob q, fun b ob q _ _ _ => ⟨ob.slots, k b ob q⟩, fun _ _ _ n _ => n, fun b ob q _ => ⟨ob, k b ob q⟩, fun _ _ q => q, fun _ _ _ q => q, fun _ ps q => ⟨#[], by rw [q]; simp⟩⟩
theorem Un.refl : Un fs ex H H h h := Un.kept fun _ _ q => q
theorem Un.laid (k : ∀ b u, h.get? b = some u → h'.get? b = some u) (hp : h.objs.size ≤ a) (hn : H a = none) : Un fs ex H (upd H a o) h h' where
  keep := fun b u q _ _ _ => k b u q
  slot := fun b u q _ _ _ => ⟨u.slots, k b u q⟩
  free := fun b u q n _ => by rw [upd_ne (Nat.ne_of_lt (Nat.lt_of_lt_of_le (Heap.lt_size q) hp))]; exact n
  there := fun b u q _ => ⟨u, k b u q⟩
  tups := fun b xs q => by rw [upd_ne (ne_of_none q hn)]; exact q
  frzs := fun b u xs q => by rw [upd_ne (ne_of_none q hn)]; exact q
  tbls := fun b ps q => ⟨#[], by rw [upd_ne (ne_of_none q hn), q]; simp⟩
theorem Un.write (mu : Mut (H x)) (he : e = x ∨ H e = some (.own x)) (k : ∀ b u, b ≠ e → h.get? b = some u → h'.get? b = some u) (heo : ∃ u, h'.get? e = some u) : Un fs ex H (upd H x o) h h' := by
  have hx : ∀ b, H b = none → b ≠ x := fun b n z => by subst z; rw [n] at mu; exact mu
  have hb : ∀ b, H b = none → b ≠ e := fun b n z => by
    subst z
    rcases he with r | r
    · exact hx b n r
    · rw [n] at r; cases r
  have hm : ∀ b u, H b = some u → ¬ Mut (some u) → b ≠ x := fun b u q nm z => by subst z; rw [q] at mu; exact nm mu
  refine ⟨fun b u q n _ _ => k b u (hb b n) q, fun b u q n _ _ => ⟨u.slots, k b u (hb b n) q⟩, fun b u q n _ => by rw [upd_ne (hx b n)]; exact n, fun b u q _ => ?_,
    fun b xs q => by rw [upd_ne (hm b _ q fun z => z)]; exact q, fun b u xs q => by rw [upd_ne (hm b _ q fun z => z)]; exact q, fun b ps q => ⟨#[], by rw [upd_ne (hm b _ q fun z => z), q]; simp⟩⟩
  by_cases hbe : b = e
  · subst hbe; exact heo
  · exact ⟨u, k b u hbe q⟩
end
def trk (h : Heap) (H : Hp) : List Addr := (List.range h.objs.size).filter fun a => (H a).isSome
def hidT (h : Heap) (H : Hp) : Heap := PySem.W.hideAll h (trk h H)
theorem hidT_size (h : Heap) (H : Hp) : (hidT h H).objs.size = h.objs.size := PySem.W.hideAll_size _ _
theorem hidT_get {h : Heap} {H : Hp} {b : Addr} {o : Obj} (e : h.get? b = some o) (n : H b = none) : (hidT h H).get? b = some o :=
  PySem.W.hideAll_get _ e fun hm => by
    have q : (H b).isSome = true := (List.mem_filter.mp hm).2
    rw [n] at q; simp at q
theorem of_hidT {h : Heap} {H : Hp} {b : Addr} {o : Obj} (e : (hidT h H).get? b = some o) : h.get? b = some o ∧ H b = none := by
  have e' : h.get? b = some o := PySem.W.of_hideAll (trk h H) e
  refine ⟨e', ?_⟩
  cases q : H b with
  | none => rfl
  | some x =>
    have hm : b ∈ trk h H := List.mem_filter.mpr ⟨List.mem_range.mpr (Heap.lt_size e'), by simp [q]⟩
    have z : (hidT h H).get? b = none := PySem.W.hideAll_none (trk h H) hm
    rw [z] at e; cases e
end L2
namespace L2
open PySem PySem.Spec PyProof.Rows
structure Mod (K : PySem.W.Frag) (mg : Str → Option Value) (base : Heap) : Prop where
  kin : K.In base
  glob : base.Ns mainGlobals mg
  blt : ∃ mb, base.Ns builtinsNs mb ∧ ∀ x : Str, x ≠ "__name__" → mb x = bootBuiltins x
  nolimit : base.NoLimit
structure Cx where
  prog : Program
  w : World
  K : PySem.W.Frag
  mg : Str → Option Value
  base : Heap
  A : Around
  N : List Str
  s₀ : Shared
  H₀ : Hp
  env : Env
  outer : List Env
  stack : List Env
  ex : List Addr
  fn : Str → Bool
  calm : Bool
  pn : List (Addr × Obj)
  xe : Value → Shared → Prop
def frs (l : List Env) : List Addr := l.filterMap (·.frame)
abbrev Cx.fs (X : Cx) : List Addr := frs X.outer
def Vis (sc : Scope) (x : Str) : Prop := sc.names.lookup x = some .local ∨ sc.names.lookup x = some .cell ∨ sc.names.lookup x = some .free
def Loc (sc : Scope) (x : Str) : Prop := sc.names.lookup x = some .local ∨ sc.names.lookup x = some .cell
def Look (env : Env) (h : Heap) (m : Str → Option Value) (x : Str) (u : Value) : Prop :=
  (env.kindOf x = some .local ∧ m x = some u) ∨ ((env.kindOf x = some .cell ∨ env.kindOf x = some .free) ∧ ∃ c, env.cells.lookup x = some c ∧ h.IsCell c (some u))
structure Cx.Ok (X : Cx) : Prop where
  mod : Mod X.K X.mg X.base
  kind : X.env.scope.kind = .function
  glob : X.env.globals = mainGlobals
  blt : X.env.builtins = builtinsNs
  above : X.s₀.heap.objs.size ≤ X.env.locals
  inj : ∀ x y c, X.env.cells.lookup x = some c → X.env.cells.lookup y = some c → x = y
  has : ∀ x, (X.env.kindOf x = some .cell ∨ X.env.kindOf x = some .free) → ∃ c, X.env.cells.lookup x = some c
  cab : ∀ x c, X.fn x = true → X.env.cells.lookup x = some c → X.s₀.heap.objs.size ≤ c
  hd : X.calm = true → X.A.handled = none
  frames : X.A.frames = some X.stack
  stk : X.stack = X.outer ∨ (X.stack = X.env :: X.outer ∧ X.env.frame = some X.env.locals)
  exf : ∀ b ∈ X.ex, b ≠ X.env.locals ∧ ∀ x c, X.env.cells.lookup x = some c → c ≠ b
  bs : ∀ b o, X.base.get? b = some o → X.s₀.heap.get? b = some o ∧ X.H₀ b = none
  bsz : X.base.objs.size ≤ X.s₀.heap.objs.size
  noex : ∀ b o, X.base.get? b = some o → b ∉ X.ex
  exfs : ∀ b ∈ X.ex, b ∉ X.fs
  funs : X.s₀.heap.FunFrames X.base X.outer
  frf : ∀ b ∈ X.fs, X.H₀ b = none
structure Inv (X : Cx) (pins : List (Addr × Obj)) (σ : List (Option V)) (H : Hp) (s : Shared) : Prop where
  ok : X.Ok
  os : s.os = X.s₀.os
  bare : AllBare s.gens
  base : Un X.fs X.ex X.H₀ H X.s₀.heap s.heap
  loc : ∃ m, s.heap.Ns X.env.locals m ∧ ∀ (i : Nat) (x : Str) (v : V), X.N[i]? = some x → σ[i]? = some (some v) → Vis X.env.scope x → ∃ u, RelV v u ∧ Look X.env s.heap m x u
  cell : ∀ x c, X.env.cells.lookup x = some c → ∃ v, s.heap.IsCell c v
  free : H X.env.locals = none
  freeC : ∀ x c, X.env.cells.lookup x = some c → H c = none
  pin : ∀ p ∈ X.pn ++ pins, s.heap.get? p.1 = some p.2 ∧ H p.1 = none ∧ p.1 ≠ X.env.locals ∧ p.1 ∉ X.fs ∧ ∀ v, p.2.data ≠ .cell v
  hok : HOk X.prog X.w H s.heap
  len : σ.length = X.N.length
section
variable {X : Cx} {pins : List (Addr × Obj)} {σ : List (Option V)} {H H' : Hp} {s : Shared} {h' : Heap}
theorem Cx.Ok.nofr (ok : X.Ok) {b : Addr} {o : Obj} (e : X.base.get? b = some o) : b ∉ X.fs := fun hb => by
  have := (ok.funs.mem hb).1
  rw [e] at this; cases this
theorem Inv.bs (I : Inv X pins σ H s) : ∀ b o, X.base.get? b = some o → s.heap.get? b = some o ∧ H b = none := fun b o e =>
  ⟨I.base.keep b o (I.ok.bs b o e).1 (I.ok.bs b o e).2 (I.ok.nofr e) (I.ok.noex b o e), I.base.free b o (I.ok.bs b o e).1 (I.ok.bs b o e).2 (I.ok.noex b o e)⟩
theorem Inv.bk (I : Inv X pins σ H s) : ∀ b o, X.base.get? b = some o → s.heap.get? b = some o := fun b o e => (I.bs b o e).1
theorem Inv.mod (I : Inv X pins σ H s) : Mod X.K X.mg X.base := I.ok.mod
theorem Inv.kIn (I : Inv X pins σ H s) : X.K.In s.heap := I.ok.mod.kin.keeps I.bk
theorem Inv.lt (I : Inv X pins σ H s) : X.env.locals < s.heap.objs.size := let ⟨_, hn, _⟩ := I.loc; hn.lt
theorem Inv.sz (I : Inv X pins σ H s) : X.s₀.heap.objs.size ≤ s.heap.objs.size := Nat.le_trans I.ok.above (Nat.le_of_lt I.lt)
theorem Inv.nofs (I : Inv X pins σ H s) {a : Addr} (h : s.heap.objs.size ≤ a) : a ∉ X.fs := fun hb => by
  obtain ⟨_, o, ho, _⟩ := I.ok.funs.mem hb
  exact absurd (Nat.lt_of_lt_of_le (Heap.lt_size ho) (Nat.le_trans I.sz h)) (Nat.lt_irrefl _)
theorem Inv.cne (I : Inv X pins σ H s) : ∀ x c, X.env.cells.lookup x = some c → c ≠ X.env.locals := fun x c e z => by
  obtain ⟨v, o, ho, hd⟩ := I.cell x c e
  obtain ⟨m, ⟨o', es, ep, ho', hd', _⟩, _⟩ := I.loc
  rw [z, ho'] at ho; cases ho; rw [hd'] at hd; cases hd
theorem Inv.funs (I : Inv X pins σ H s) : s.heap.FunFrames X.base X.outer := by
  have all : ∀ (l : List Env), (∀ b ∈ frs l, b ∈ X.fs) → X.s₀.heap.FunFrames X.base l → s.heap.FunFrames X.base l := by
    intro l
    induction l with
    | nil => intro _ _; trivial
    | cons env r ih =>
      intro hs hl
      obtain ⟨hk, ⟨L, o, hf, hn, ho, hd⟩, hr⟩ := hl
      have hL : L ∈ X.fs := hs L (by unfold frs; rw [List.filterMap_cons, hf]; exact List.mem_cons_self)
      obtain ⟨sl, e⟩ := I.base.slot L o ho (I.ok.frf L hL) hL fun z => I.ok.exfs L z hL
      exact ⟨hk, ⟨L, _, hf, hn, e, hd⟩, ih (fun b hb => hs b (by unfold frs; rw [List.filterMap_cons, hf]; exact List.mem_cons_of_mem _ hb)) hr⟩
  exact all X.outer (fun _ hb => hb) I.ok.funs
theorem Inv.stack (I : Inv X pins σ H s) : s.heap.FunFrames X.base X.stack := by
  rcases I.ok.stk with e | ⟨e, hf⟩
  · rw [e]; exact I.funs
  · rw [e]
    obtain ⟨m, hn, _⟩ := I.loc
    refine .cons (by rw [I.ok.kind]; decide) hf hn ?_ I.funs
    exact Heap.get?_none_of_le (Nat.le_trans I.ok.bsz I.ok.above)
theorem Inv.stkSub (I : Inv X pins σ H s) : ∀ b ∈ frs X.stack, b ∈ X.env.locals :: X.fs := fun b hb => by
  rcases I.ok.stk with e | ⟨e, hf⟩
  · rw [e] at hb; exact List.mem_cons_of_mem _ hb
  · rw [e] at hb
    unfold frs at hb
    rw [List.filterMap_cons, hf] at hb
    exact hb
theorem Inv.stkFree (I : Inv X pins σ H s) : ∀ b ∈ frs X.stack, H b = none := fun b hb => by
  rcases List.mem_cons.mp (I.stkSub b hb) with e | hb
  · rw [e]; exact I.free
  · obtain ⟨_, o, ho, _⟩ := I.ok.funs.mem hb
    exact I.base.free b o ho (I.ok.frf b hb) fun z => I.ok.exfs b z hb
theorem Inv.step {g' : Array GenState} {t' : Nat} {d' : Drawn} {ch : List Addr} (I : Inv X pins σ H s)
    (hch : ∀ b ∈ ch, (b ∈ X.ex ∨ X.s₀.heap.objs.size ≤ b) ∧ b ≠ X.env.locals ∧ (∀ x c, X.env.cells.lookup x = some c → c ≠ b) ∧ ∀ p ∈ X.pn ++ pins, p.1 ≠ b)
    (keep : ∀ b o, b ≠ X.env.locals → b ∉ X.fs → b ∉ ch → s.heap.get? b = some o → H b = none → h'.get? b = some o)
    (slot : ∀ b o, b ≠ X.env.locals → b ∈ X.fs → b ∉ ch → s.heap.get? b = some o → H b = none → ∃ sl, h'.get? b = some { o with slots := sl }) (free : ∀ b o, b ∉ ch → s.heap.get? b = some o → H b = none → H' b = none)
    (there : ∀ b o, b ∉ ch → s.heap.get? b = some o → ∃ o', h'.get? b = some o')
    (tups : ∀ b xs, H b = some (.tup xs) → H' b = some (.tup xs)) (frzs : ∀ b o u, H b = some (.frz o u) → H' b = some (.frz o u)) (tbls : ∀ b ps, H b = some (.tbl ps) → ∃ more, H' b = some (.tbl (ps ++ more)))
    (ns : ∀ m, s.heap.Ns X.env.locals m → h'.Ns X.env.locals m) (hok : HOk X.prog X.w H' h') (hg : AllBare g') :
    Inv X pins σ H' { s with heap := h', gens := g', drawn := d', toks := t' } := by
  have neL : ∀ b o, X.s₀.heap.get? b = some o → b ≠ X.env.locals := fun b o e => Nat.ne_of_lt (Nat.lt_of_lt_of_le (Heap.lt_size e) I.ok.above)
  have neC : ∀ b o, X.s₀.heap.get? b = some o → b ∉ X.ex → b ∉ ch := fun b o e hx hb => by
    rcases (hch b hb).1 with z | z
    · exact hx z
    · exact absurd (Nat.lt_of_lt_of_le (Heap.lt_size e) z) (Nat.lt_irrefl _)
  have cellK : ∀ x c, X.env.cells.lookup x = some c → ∀ v, s.heap.IsCell c v → h'.IsCell c v := fun x c e v ⟨o, ho, hd⟩ => by
    have nch : c ∉ ch := fun z => (hch c z).2.2.1 x c e rfl
    by_cases hc : c ∈ X.fs
    · obtain ⟨sl, q⟩ := slot c o (I.cne x c e) hc nch ho (I.freeC x c e)
      exact ⟨_, q, hd⟩
    · exact ⟨o, keep c o (I.cne x c e) hc nch ho (I.freeC x c e), hd⟩
  refine ⟨I.ok, I.os, hg, ⟨fun b o e n hb hx => ?_, fun b o e n hb hx => ?_, fun b o e n hx => ?_, fun b o e hx => ?_, fun b xs e => tups b xs (I.base.tups b xs e), fun b o xs e => frzs b o xs (I.base.frzs b o xs e), fun b ps e => ?_⟩, ?_, fun x c e => ?_, ?_, fun x c e => ?_, fun p hp => ?_, hok, I.len⟩
  · exact keep b o (neL b o e) hb (neC b o e hx) (I.base.keep b o e n hb hx) (I.base.free b o e n hx)
  · obtain ⟨sl, e1⟩ := I.base.slot b o e n hb hx
    obtain ⟨sl', e2⟩ := slot b _ (neL b o e) hb (neC b o e hx) e1 (I.base.free b o e n hx)
    exact ⟨sl', e2⟩
  · obtain ⟨o', e1⟩ := I.base.there b o e hx
    exact free b o' (neC b o e hx) e1 (I.base.free b o e n hx)
  · obtain ⟨o', e1⟩ := I.base.there b o e hx
    exact there b o' (neC b o e hx) e1
  · obtain ⟨m1, e1⟩ := I.base.tbls b ps e
    obtain ⟨m2, e2⟩ := tbls b _ e1
    exact ⟨m1 ++ m2, by rw [e2, Array.append_assoc]⟩
  · obtain ⟨m, hn, hl⟩ := I.loc
    refine ⟨m, ns m hn, fun i x v e1 e2 e3 => ?_⟩
    obtain ⟨u, r, l⟩ := hl i x v e1 e2 e3
    refine ⟨u, r, ?_⟩
    rcases l with l | ⟨k, c, e, z⟩
    · exact .inl l
    · exact .inr ⟨k, c, e, cellK x c e _ z⟩
  · obtain ⟨v, z⟩ := I.cell x c e
    exact ⟨v, cellK x c e v z⟩
  · obtain ⟨m, ⟨o, _, _, ho, _⟩, _⟩ := I.loc
    exact free _ o (fun z => (hch _ z).2.1 rfl) ho I.free
  · obtain ⟨v, o, ho, hd⟩ := I.cell x c e
    exact free c o (fun z => (hch c z).2.2.1 x c e rfl) ho (I.freeC x c e)
  · obtain ⟨e, n, ne, nf, d⟩ := I.pin p hp
    have nch : p.1 ∉ ch := fun z => (hch p.1 z).2.2.2 p hp rfl
    exact ⟨keep p.1 p.2 ne nf nch e n, free p.1 p.2 nch e n, ne, nf, d⟩
theorem Inv.un {t' : Nat} (I : Inv X pins σ H s) (u : Un X.fs [] H H' s.heap h') (hok : HOk X.prog X.w H' h') : Inv X pins σ H' { s with heap := h', toks := t' } := by
  obtain ⟨m, ⟨o, es, ep, ho, r⟩, _⟩ := id I.loc
  obtain ⟨sl, hL⟩ := u.any ho I.free (by simp)
  exact I.step (g' := s.gens) (d' := s.drawn) (ch := []) (fun _ z => nomatch z) (fun b o _ hb _ e n => u.keep b o e n hb (by simp)) (fun b o _ hb _ e n => u.slot b o e n hb (by simp)) (fun b o _ e n => u.free b o e n (by simp)) (fun b o _ e => u.there b o e (by simp)) u.tups u.frzs u.tbls (fun m' hm => by
    obtain ⟨o', es', ep', ho', r'⟩ := hm
    rw [ho] at ho'; cases ho'
    exact ⟨_, es', ep', hL, r'⟩) hok I.bare
theorem Inv.call {g' : Array GenState} {t' : Nat} {d' : Drawn} {ch : List Addr} (I : Inv X pins σ H s) (u : Un (frs X.stack) ch H H' s.heap h') (hok : HOk X.prog X.w H' h') (hg : AllBare g')
    (hch : ∀ b ∈ ch, (b ∈ X.ex ∨ X.s₀.heap.objs.size ≤ b) ∧ b ≠ X.env.locals ∧ (∀ x c, X.env.cells.lookup x = some c → c ≠ b) ∧ ∀ p ∈ X.pn ++ pins, p.1 ≠ b) :
    Inv X pins σ H' { s with heap := h', gens := g', drawn := d', toks := t' } := by
  obtain ⟨m, ⟨o, es, ep, ho, r⟩, _⟩ := id I.loc
  obtain ⟨sl, hL⟩ := u.any ho I.free fun z => (hch _ z).2.1 rfl
  exact I.step (ch := ch) hch (fun b o hL hb hc e n => u.keep b o e n (fun z => (List.mem_cons.mp (I.stkSub b z)).elim hL hb) hc) (fun b o _ _ hc e n => u.any e n hc) (fun b o hc e n => u.free b o e n hc) (fun b o hc e => u.there b o e hc) u.tups u.frzs u.tbls (fun m' hm => by
    obtain ⟨o', es', ep', ho', r'⟩ := hm
    rw [ho] at ho'; cases ho'
    exact ⟨_, es', ep', hL, r'⟩) hok hg
theorem Inv.turned {t' : Nat} {it : Addr} (I : Inv X pins σ H s) (k : ∀ b o, b ≠ it → s.heap.get? b = some o → h'.get? b = some o) (hn : H it = none) (hL : it ≠ X.env.locals)
    (h1 : it ∈ X.ex ∨ X.s₀.heap.objs.size ≤ it) (h2 : ∀ x c, X.env.cells.lookup x = some c → c ≠ it) (h3 : ∀ p ∈ X.pn ++ pins, p.1 ≠ it) : Inv X pins σ H { s with heap := h', toks := t' } := by
  have nit : ∀ b u, H b = some u → b ≠ it := fun b u e z => by rw [z, hn] at e; cases e
  refine I.step (g' := s.gens) (d' := s.drawn) (ch := [it]) (fun b hb => ?_) (fun b o _ _ hc e _ => k b o (fun z => hc (by simp [z])) e) (fun b o _ _ hc e _ => ⟨o.slots, k b o (fun z => hc (by simp [z])) e⟩) (fun _ _ _ _ n => n)
    (fun b o hc e => ⟨o, k b o (fun z => hc (by simp [z])) e⟩) (fun _ _ e => e) (fun _ _ _ e => e) (fun b ps e => ⟨#[], by rw [e]; simp⟩) (fun m hm => ?_) (fun b u e => ?_) I.bare
  · have e : b = it := by simpa using hb
    subst e
    exact ⟨h1, hL, h2, h3⟩
  · obtain ⟨o, es, ep, ho, r⟩ := hm
    exact ⟨o, es, ep, k _ o (Ne.symm hL) ho, r⟩
  · refine (I.hok b u e).stay (fun c v hc q => k c v ?_ q) (fun _ q => q) fun _ _ q => q
    rcases hc with z | z
    · rw [z]; exact nit b u e
    · exact nit c _ z
theorem Inv.tok (I : Inv X pins σ H s) (t : Nat) : Inv X pins σ H { s with toks := t } := I.un (h' := s.heap) (t' := t) Un.refl I.hok
theorem Inv.kept {t' : Nat} (I : Inv X pins σ H s) (k : ∀ b u, s.heap.get? b = some u → h'.get? b = some u) : Inv X pins σ H { s with heap := h', toks := t' } := I.un (Un.kept k) (I.hok.kept k)
theorem Inv.laid {a : Addr} {o : HO} {t' : Nat} (I : Inv X pins σ H s) (k : ∀ b u, s.heap.get? b = some u → h'.get? b = some u) (hp : s.heap.objs.size ≤ a) (new : ObjOk X.prog X.w (upd H a o) h' a o) :
    Inv X pins σ (upd H a o) { s with heap := h', toks := t' } := I.un (Un.laid k hp (I.hok.fresh hp)) (I.hok.laid k hp new)
theorem Inv.write {x e : Addr} {o : HO} {t' : Nat} (I : Inv X pins σ H s) (mu : Mut (H x)) (he : e = x ∨ H e = some (.own x)) (k : ∀ b u, b ≠ e → s.heap.get? b = some u → h'.get? b = some u) (heo : ∃ u, h'.get? e = some u)
    (new : ObjOk X.prog X.w (upd H x o) h' x o) : Inv X pins σ (upd H x o) { s with heap := h', toks := t' } := I.un (Un.write mu he k heo) (I.hok.write mu he k heo new)
theorem Inv.pins_of {pins' : List (Addr × Obj)} (I : Inv X pins σ H s) (h : ∀ p ∈ pins', s.heap.get? p.1 = some p.2 ∧ H p.1 = none ∧ p.1 ≠ X.env.locals ∧ p.1 ∉ X.fs ∧ ∀ v, p.2.data ≠ .cell v) : Inv X pins' σ H s :=
  ⟨I.ok, I.os, I.bare, I.base, I.loc, I.cell, I.free, I.freeC, fun p hp => (List.mem_append.mp hp).elim (fun z => I.pin p (List.mem_append_left _ z)) (h p), I.hok, I.len⟩
theorem nodup_ix {N : List Str} (hN : N.Nodup) {i j : Nat} {x : Str} (a : N[i]? = some x) (b : N[j]? = some x) : i = j := by
  obtain ⟨h1, e1⟩ := List.getElem?_eq_some_iff.mp a
  obtain ⟨h2, e2⟩ := List.getElem?_eq_some_iff.mp b
  exact (List.getElem_inj hN).mp (e1.trans e2.symm)
theorem store_ok2 {M : Model} {A : Around} {E : Value → Shared → Prop} {i : Nat} {x : Str} {v : V} {u : Value} {Q : Unit → Shared → Prop} (I : Inv X pins σ H s) (hN : X.N.Nodup) (hi : X.N[i]? = some x) (hx : Loc X.env.scope x) (r : RelV v u)
    (h : ∀ s', Inv X pins (σ.set i (some v)) H s' → (∃ a, Heap.SameBut a s.heap s'.heap ∧ (a = X.env.locals ∨ X.env.cells.lookup x = some a)) → Q () s') (hf : X.fn x = true ∨ X.env.scope.names.lookup x = some .local := by first | exact .inl rfl | exact .inr rfl | assumption) : wpAny M A (storeName X.env x u) Q E s := by
  obtain ⟨m, hn, hl⟩ := id I.loc
  have hcls : (X.env.scope.kind == .class || (X.env.scope.kind == .module && X.env.locals != X.env.globals)) = false := by rw [I.ok.kind]; rfl
  have hiσ : i < σ.length := by rw [I.len]; exact (List.getElem?_eq_some_iff.mp hi).1
  have cne := I.cne
  have tracked : ∀ {a : Addr} {h' : Heap}, (∃ o, s.heap.get? a = some o ∧ H a = none) → Heap.SameBut a s.heap h' → HOk X.prog X.w H h' := fun {a h'} ha hs b ob e => by
    obtain ⟨_, _, hfree⟩ := ha
    refine (I.hok b ob e).stay (fun c w' hc q => (hs.2 c ?_).trans q) (fun _ q => q) fun _ _ q => q
    rintro rfl
    rcases hc with rfl | hc
    · rw [hfree] at e; cases e
    · rw [hfree] at hc; cases hc
  rcases hx with hk | hk
  · refine wpAny_storeName_local hk hn (fun h' hn' hs => ?_) hcls
    obtain ⟨oL, _, _, hoL, _⟩ := id hn
    refine h _ ⟨I.ok, I.os, I.bare, ⟨fun b o e n hb hx => ?_, fun b o e n hb hx => ?_, I.base.free, fun b o e hx => ?_, I.base.tups, I.base.frzs, I.base.tbls⟩, ⟨_, hn', fun j y v' e1 e2 e3 => ?_⟩, fun y c e => ?_, I.free, I.freeC, fun p hp => ?_, tracked ⟨oL, hoL, I.free⟩ hs, by simpa using I.len⟩ ⟨_, hs, .inl rfl⟩
    · exact (hs.2 b (Nat.ne_of_lt (Nat.lt_of_lt_of_le (Heap.lt_size e) I.ok.above))).trans (I.base.keep b o e n hb hx)
    · obtain ⟨sl, e1⟩ := I.base.slot b o e n hb hx
      exact ⟨sl, (hs.2 b (Nat.ne_of_lt (Nat.lt_of_lt_of_le (Heap.lt_size e) I.ok.above))).trans e1⟩
    · obtain ⟨o', e1⟩ := I.base.there b o e hx
      exact ⟨o', (hs.2 b (Nat.ne_of_lt (Nat.lt_of_lt_of_le (Heap.lt_size e) I.ok.above))).trans e1⟩
    · by_cases hj : j = i
      · subst hj
        rw [hi] at e1; cases e1
        rw [List.getElem?_set_self hiσ] at e2
        cases e2
        exact ⟨u, r, .inl ⟨hk, by simp⟩⟩
      · rw [List.getElem?_set_ne (Ne.symm hj)] at e2
        obtain ⟨u', r', q⟩ := hl j y v' e1 e2 e3
        refine ⟨u', r', ?_⟩
        rcases q with ⟨k, e⟩ | ⟨k, c, e, z⟩
        · refine .inl ⟨k, ?_⟩
          have : y ≠ x := fun e => hj (nodup_ix hN e1 (e ▸ hi))
          simp [this, e]
        · exact .inr ⟨k, c, e, z.sameBut hs (cne y c e)⟩
    · obtain ⟨w', z⟩ := I.cell y c e
      exact ⟨w', z.sameBut hs (cne y c e)⟩
    · obtain ⟨e, n, ne, nf, d⟩ := I.pin p hp
      exact ⟨(hs.2 p.1 ne).trans e, n, ne, nf, d⟩
  · have hfn : X.fn x = true := by
      rcases hf with z | z
      · exact z
      · rw [z] at hk; cases hk
    obtain ⟨c, hc⟩ := I.ok.has x (.inl hk)
    obtain ⟨w', z⟩ := I.cell x c hc
    refine wpAny_storeName_cell I.ok.kind hk hc z (fun h' hc' hs => ?_)
    obtain ⟨oc, hoc, hocd⟩ := id z
    refine h { s with heap := h' } ⟨I.ok, I.os, I.bare, ⟨fun b o e n hb hx => ?_, fun b o e n hb hx => ?_, I.base.free, fun b o e hx => ?_, I.base.tups, I.base.frzs, I.base.tbls⟩, ⟨m, hn.sameBut hs (Ne.symm (cne x c hc)), fun j y v' e1 e2 e3 => ?_⟩, fun y c' e => ?_, I.free, I.freeC, fun p hp => ?_, tracked ⟨oc, hoc, I.freeC x c hc⟩ hs, by simpa using I.len⟩ ⟨c, hs, .inr hc⟩
    · exact (hs.2 b (Nat.ne_of_lt (Nat.lt_of_lt_of_le (Heap.lt_size e) (I.ok.cab x c hfn hc)))).trans (I.base.keep b o e n hb hx)
    · obtain ⟨sl, e1⟩ := I.base.slot b o e n hb hx
      exact ⟨sl, (hs.2 b (Nat.ne_of_lt (Nat.lt_of_lt_of_le (Heap.lt_size e) (I.ok.cab x c hfn hc)))).trans e1⟩
    · obtain ⟨o', e1⟩ := I.base.there b o e hx
      exact ⟨o', (hs.2 b (Nat.ne_of_lt (Nat.lt_of_lt_of_le (Heap.lt_size e) (I.ok.cab x c hfn hc)))).trans e1⟩
    · by_cases hj : j = i
      · subst hj
        rw [hi] at e1; cases e1
        rw [List.getElem?_set_self hiσ] at e2
        cases e2
        exact ⟨u, r, .inr ⟨.inl hk, c, hc, hc'⟩⟩
      · rw [List.getElem?_set_ne (Ne.symm hj)] at e2
        obtain ⟨u', r', q⟩ := hl j y v' e1 e2 e3
        refine ⟨u', r', ?_⟩
        rcases q with q | ⟨k, c', e, z'⟩
        · exact .inl q
        · refine .inr ⟨k, c', e, z'.sameBut hs ?_⟩
          rintro rfl
          exact hj (nodup_ix hN e1 (I.ok.inj _ _ _ e hc ▸ hi))
    · by_cases hcc : c' = c
      · subst hcc; exact ⟨_, hc'⟩
      · obtain ⟨w2, z2⟩ := I.cell y c' e
        exact ⟨w2, z2.sameBut hs hcc⟩
    · obtain ⟨e, n, ne, nf, d⟩ := I.pin p hp
      refine ⟨(hs.2 p.1 ?_).trans e, n, ne, nf, d⟩
      intro q
      rw [q, hoc] at e
      have q' : oc = p.2 := Option.some.inj e
      exact d w' (by rw [← q']; exact hocd)
theorem store_ok {M : Model} {A : Around} {E : Value → Shared → Prop} {i : Nat} {x : Str} {v : V} {u : Value} {Q : Unit → Shared → Prop} (I : Inv X pins σ H s) (hN : X.N.Nodup) (hi : X.N[i]? = some x) (hx : Loc X.env.scope x) (r : RelV v u)
    (h : ∀ s', Inv X pins (σ.set i (some v)) H s' → Q () s') (hf : X.fn x = true ∨ X.env.scope.names.lookup x = some .local := by first | exact .inl rfl | exact .inr rfl | assumption) : wpAny M A (storeName X.env x u) Q E s :=
  store_ok2 I hN hi hx r (fun s' I' _ => h s' I') hf
theorem Inv.call' {s' : Shared} {ch : List Addr} (I : Inv X pins σ H s) (ho : s'.os = s.os) (u : Un (frs X.stack) ch H H' s.heap s'.heap) (hok : HOk X.prog X.w H' s'.heap) (hg : AllBare s'.gens)
    (hch : ∀ b ∈ ch, (b ∈ X.ex ∨ X.s₀.heap.objs.size ≤ b) ∧ b ≠ X.env.locals ∧ (∀ x c, X.env.cells.lookup x = some c → c ≠ b) ∧ ∀ p ∈ X.pn ++ pins, p.1 ≠ b) : Inv X pins σ H' s' := by
  obtain ⟨h', g', d', t', o'⟩ := s'
  have e : o' = s.os := ho
  subst e
  exact I.call (g' := g') (t' := t') (d' := d') u hok hg hch
end
abbrev XK := Value → Option Addr → Hp → Prop
abbrev St := List (Option V)
abbrev VK := V → Hp → Prop
abbrev TE := St → Hp → VK → Prop
abbrev TT := St → Hp → (Bool → Hp → Prop) → Prop
abbrev TA := St → Hp → (List V → Hp → Prop) → Prop
structure Ends where
  nx : St → Hp → Prop
  rt : VK
  bk : St → Hp → Prop := fun _ _ => False
  ct : St → Hp → Prop := fun _ _ => False
abbrev TS := Ends → St → Hp → Prop
def EP (X : Cx) (pins : List (Addr × Obj)) (σ : St) (Q : VK) (u : Value) (s' : Shared) : Prop := ∃ v H', Inv X pins σ H' s' ∧ RelV v u ∧ Q v H'
def TP (X : Cx) (pins : List (Addr × Obj)) (σ : St) (Q : Bool → Hp → Prop) (b : Bool) (s' : Shared) : Prop := ∃ H', Inv X pins σ H' s' ∧ Q b H'
def AP (X : Cx) (pins : List (Addr × Obj)) (σ : St) (Q : List V → Hp → Prop) (us : List Value) (s' : Shared) : Prop := ∃ vs H', Inv X pins σ H' s' ∧ Vals vs us ∧ Q vs H'
def SP (X : Cx) (pins : List (Addr × Obj)) (D : Ends) (f : Flow) (s' : Shared) : Prop :=
  match f with
  | .next => ∃ σ' H', Inv X pins σ' H' s' ∧ D.nx σ' H'
  | .brk => ∃ σ' H', Inv X pins σ' H' s' ∧ D.bk σ' H'
  | .cont => ∃ σ' H', Inv X pins σ' H' s' ∧ D.ct σ' H'
  | .ret u => ∃ v σ' H', Inv X pins σ' H' s' ∧ RelV v u ∧ D.rt v H'
def PE (X : Cx) (e : Expr) (t : TE) : Prop :=
  ∀ (pins : List (Addr × Obj)) (s : Shared) (σ : St) (H : Hp) (Q : VK), Inv X pins σ H s → t σ H Q → wpAny (model X.prog X.w) X.A (eval e X.env) (EP X pins σ Q) X.xe s
def PT (X : Cx) (e : Expr) (t : TT) : Prop :=
  ∀ (pins : List (Addr × Obj)) (s : Shared) (σ : St) (H : Hp) (Q : Bool → Hp → Prop), Inv X pins σ H s → t σ H Q → wpAny (model X.prog X.w) X.A (isTrue e X.env (eval e X.env)) (TP X pins σ Q) X.xe s
def PW (X : Cx) (e : Expr) (t : TT) : Prop :=
  ∀ (whole : Sem Value) (pins : List (Addr × Obj)) (s : Shared) (σ : St) (H : Hp) (Q : Bool → Hp → Prop), Inv X pins σ H s → t σ H Q → wpAny (model X.prog X.w) X.A (isTrue e X.env whole) (TP X pins σ Q) X.xe s
theorem PW.pt {X : Cx} {e : Expr} {t : TT} (h : PW X e t) : PT X e t := h _
def PA (X : Cx) (es : List Expr) (t : TA) : Prop :=
  ∀ (pos : Pos) (pins : List (Addr × Obj)) (s : Shared) (σ : St) (H : Hp) (Q : List V → Hp → Prop), Inv X pins σ H s → t σ H Q → wpAny (model X.prog X.w) X.A (spliced (backTo pos (starEach es X.env))) (AP X pins σ Q) X.xe s
def PS (X : Cx) (st : Stmt) (t : TS) : Prop :=
  ∀ (pins : List (Addr × Obj)) (s : Shared) (σ : St) (H : Hp) (D : Ends), Inv X pins σ H s → t D σ H → wpAny (model X.prog X.w) X.A (exec st X.env) (SP X pins D) X.xe s
def PSs (X : Cx) (st : List Stmt) (t : TS) : Prop :=
  ∀ (pins : List (Addr × Obj)) (s : Shared) (σ : St) (H : Hp) (D : Ends), Inv X pins σ H s → t D σ H → wpAny (model X.prog X.w) X.A (execs st X.env) (SP X pins D) X.xe s
theorem thn {α : Type} {t : Sem α} {Q Q' : α → Shared → Prop} {M : Model} {A : Around} {E : Value → Shared → Prop} {s : Shared} (h : wpAny M A t Q E s) (hQ : ∀ a s, Q a s → Q' a s) : wpAny M A t Q' E s := wpAny_mono h hQ fun _ _ x => x
end L2
namespace L2
open PySem PySem.Spec PyProof.Rows
section
variable {X : Cx}
inductive TVarP (i : Nat) (σ : St) (H : Hp) (Q : VK) : Prop
  | mk (v : _) : (σ[i]? = some (some v)) → (Q v H) → TVarP i σ H Q
def tVar (i : Nat) : TE := fun σ H Q => TVarP i σ H Q
def tC (v : V) : TE := fun _ H Q => Q v H
theorem pe_var {i : Nat} {x : Str} {pos : Pos} (hN : X.N[i]? = some x) (hv : Vis X.env.scope x) (hd : (x == ("__debug__" : Str)) = false := by decide) (hcd : (x == ("__classdict__" : Str)) = false := by decide) : PE X (.Name x pos) (tVar i) := by
  intro pins s σ H Q I h
  obtain ⟨v, e, h⟩ := h
  obtain ⟨m, hn, hl⟩ := I.loc
  obtain ⟨u, r, l⟩ := hl i x v hN e hv
  have fin : EP X pins σ Q u s := ⟨v, H, I, r, h⟩
  rcases l with ⟨hk, hm⟩ | ⟨hk, c, hc, hcell⟩
  · exact wpAny_Name (wpAny_loadName_local I.ok.kind hk hn hm fin) hd
  · rcases hk with hk | hk
    · exact wpAny_Name (wpAny_loadName_cell I.ok.kind hk hc hcell fin) hd
    · exact wpAny_Name (wpAny_loadName_free I.ok.kind hk hc hcell fin hcd) hd
theorem pe_int {i j pos} : PE X (.Constant (.int i) j pos) (tC (.int i)) := fun _ _ _ H _ I h => wpAny_Constant_int ⟨.int i, H, I.tok _, ⟨_, rfl⟩, h⟩
theorem pe_bl {b j pos} : PE X (.Constant (.bool b) j pos) (tC (.bl b)) := fun _ _ _ H _ I h => Constant_bool ⟨.bl b, H, I, rfl, h⟩
theorem pe_non {j pos} : PE X (.Constant .none j pos) (tC .non) := fun _ _ _ H _ I h => Constant_none ⟨.non, H, I, rfl, h⟩
def Gl (X : Cx) (x : Str) : Prop := X.env.kindOf x = some .globalImplicit
theorem ld_glob {E : Value → Shared → Prop} {pins : List (Addr × Obj)} {s : Shared} {σ : St} {H : Hp} {x : Str} {u : Value} {pos : Pos} {Q : Value → Shared → Prop} (I : Inv X pins σ H s) (hg : Gl X x) (hm : X.mg x = some u) (h : Q u s)
    (hd : (x == ("__debug__" : Str)) = false := by decide) : wpAny (model X.prog X.w) X.A (eval (.Name x pos) X.env) Q E s :=
  Calls.Name_function_global I.ok.kind hg (Calls.loadGlobal_global (by rw [I.ok.glob]; exact I.mod.glob.keeps I.bk) hm h) hd
theorem ld_blt {E : Value → Shared → Prop} {pins : List (Addr × Obj)} {s : Shared} {σ : St} {H : Hp} {x : Str} {u : Value} {pos : Pos} {Q : Value → Shared → Prop} (I : Inv X pins σ H s) (hg : Gl X x) (hm : X.mg x = none) (hv : bootBuiltins x = some u) (h : Q u s)
    (hn : x ≠ "__name__" := by decide) (hd : (x == ("__debug__" : Str)) = false := by decide) : wpAny (model X.prog X.w) X.A (eval (.Name x pos) X.env) Q E s := by
  obtain ⟨mb, h1, h2⟩ := I.mod.blt
  exact Calls.Name_function_global I.ok.kind hg (Calls.loadGlobal_builtin (by rw [I.ok.glob]; exact I.mod.glob.keeps I.bk) hm (by rw [I.ok.blt]; exact h1.keeps I.bk) ((h2 x hn).trans hv) h) hd
variable {a b : Expr} {ta tb : TE} {pos : Pos}
def PC (X : Cx) (op : CmpOp) (a b : Expr) (t : TE) : Prop :=
  ∀ (pins : List (Addr × Obj)) (s : Shared) (σ : St) (H : Hp) (Q : VK), Inv X pins σ H s → t σ H Q →
    wpAny (model X.prog X.w) X.A (eval a X.env) (fun v s₁ => wpAny (model X.prog X.w) X.A (eval b X.env) (fun u s₂ => wpAny (model X.prog X.w) X.A (compareOp op v u) (EP X pins σ Q) X.xe s₂) X.xe s₁) X.xe s
inductive BlP (x : V) (H : Hp) (Q : Bool → Hp → Prop) : Prop
  | mk (c : Bool) : (x = .bl c) → (Q c H) → BlP x H Q
def tB (t : TE) : TT := fun σ H Q => t σ H fun x H1 => BlP x H1 Q
theorem pt_cmp {op : CmpOp} {t : TE} (h : PC X op a b t) (h1 : behindInMarks op b = false := by first | exact nobehind _ (by decide) (by decide) | rfl) : PT X (.Compare a [op] [b] pos) (tB t) := by
  intro pins s σ H Q I hw
  refine wpAny_isTrue_Compare1 (thn (h pins s σ H _ I hw) fun v s1 h1 => thn h1 fun u s2 h2 => thn h2 fun c s3 ⟨x, H1, I1, r1, q1⟩ => ?_) h1
  obtain ⟨d, rfl, q⟩ := q1
  cases r1
  exact wpAny_truthy_bool ⟨H1, I1, q⟩
theorem pt_val {e : Expr} {t : TE} (h : PE X e t) (he : ∀ whole, isTrue e X.env whole = (do let v ← whole; standAt e.pos; holding [v] (truthy v)) := by intro _; rfl) : PT X e (tB t) := by
  intro pins s σ H Q I hw
  refine isTrue_plain (thn (h pins s σ H _ I hw) fun v s1 ⟨x, H1, I1, r1, q1⟩ => ?_) (he _)
  obtain ⟨d, rfl, q⟩ := q1
  cases r1
  exact wpAny_truthy_bool ⟨H1, I1, q⟩
variable {tA tB' : TT} {rest : List Expr}
def tAnd (t u : TT) : TT := fun σ H Q => t σ H fun c H1 => if c = true then u σ H1 Q else Q false H1
def tOr (t u : TT) : TT := fun σ H Q => t σ H fun c H1 => if c = true then Q true H1 else u σ H1 Q
def tNot (t : TT) : TT := fun σ H Q => t σ H fun c H1 => Q (!c) H1
theorem pw_and1 (ha : PT X a tA) : PW X (.BoolOp .And [a] pos) tA := by
  intro wh pins s σ H Q I h
  refine isTrue_and (thn (ha pins s σ H Q I h) fun c s1 e => ?_)
  cases c with
  | true => exact isTrue_and_nil e
  | false => exact e
theorem pw_or1 (ha : PT X a tA) : PW X (.BoolOp .Or [a] pos) tA := by
  intro wh pins s σ H Q I h
  refine isTrue_or (thn (ha pins s σ H Q I h) fun c s1 e => ?_)
  cases c with
  | false => exact isTrue_or_nil e
  | true => exact e
theorem pw_and (ha : PT X a tA) (hb : PW X (.BoolOp .And (b :: rest) pos) tB') : PW X (.BoolOp .And (a :: b :: rest) pos) (tAnd tA tB') := by
  intro wh pins s σ H Q I h
  refine isTrue_and (thn (ha pins s σ H _ I h) fun c s1 ⟨H1, I1, q1⟩ => ?_)
  cases c with
  | true => exact hb wh pins s1 σ H1 Q I1 q1
  | false => exact ⟨H1, I1, q1⟩
theorem pw_or (ha : PT X a tA) (hb : PW X (.BoolOp .Or (b :: rest) pos) tB') : PW X (.BoolOp .Or (a :: b :: rest) pos) (tOr tA tB') := by
  intro wh pins s σ H Q I h
  refine isTrue_or (thn (ha pins s σ H _ I h) fun c s1 ⟨H1, I1, q1⟩ => ?_)
  cases c with
  | true => exact ⟨H1, I1, q1⟩
  | false => exact hb wh pins s1 σ H1 Q I1 q1
theorem pt_not (ha : PT X a tA) : PT X (.UnaryOp .Not a pos) (tNot tA) := by
  intro pins s σ H Q I h
  exact isTrue_not (ha pins s σ H (fun c H1 => Q (!c) H1) I h)
def tAndV (ta tb : TE) : TE := fun σ H Q => ta σ H fun x H1 => ∃ c, x = .bl c ∧ if c = true then tb σ H1 Q else Q (.bl false) H1
theorem pe_one {op} {t : TE} (h : PE X a t) : PE X (.BoolOp op [a] pos) t := fun pins s σ H Q I hw => BoolOp_one (h pins s σ H Q I hw)
theorem pe_and (ha : PE X a ta) (hb : PE X (.BoolOp .And (b :: rest) pos) tb) : PE X (.BoolOp .And (a :: b :: rest) pos) (tAndV ta tb) := by
  intro pins s σ H Q I h
  refine BoolOp_and (thn (ha pins s σ H _ I h) fun v s1 ⟨x, H1, I1, r1, q1⟩ => ?_)
  obtain ⟨c, rfl, q1⟩ := q1
  cases r1
  refine wpAny_truthy_bool ?_
  cases c with
  | true => exact hb pins s1 σ H1 Q I1 q1
  | false => exact ⟨.bl false, H1, I1, rfl, q1⟩
end
end L2
namespace L2
open PySem PySem.Spec PyProof.Rows
def SqL (K : PySem.W.Frag) (H : Hp) (a : Addr) (xs : List V) : Prop :=
  Rd H a (.lst xs) ∨
    ∃ (o : Obj) (its : Array Value) (n : Nat), K.lookup a = some o ∧ o.cls = .type "list" ∧ o.dict = none ∧ o.data = .seq its n ∧ its.size ≤ sizeLine ∧ Vals xs its.toList
def SqT (K : PySem.W.Frag) (H : Hp) (a : Addr) (xs : List V) : Prop :=
  Rd H a (.tup xs) ∨
    ∃ (o : Obj) (its : Array Value) (n : Nat), K.lookup a = some o ∧ o.cls = .type "tuple" ∧ o.data = .seq its n ∧ its.size ≤ sizeLine ∧ Vals xs its.toList
def absV : Value → Option V
  | .none => some .non
  | .bool b => some (.bl b)
  | .int i _ => some (.int i)
  | .str x _ => some (.str x)
  | .bytes b _ => some (.byt b)
  | .float b _ => some (.flt b)
  | .ref a => some (.ref a)
  | .type n => some (.ty n)
  | _ => none
theorem RelV.abs {x : V} {u : Value} (r : RelV x u) : absV u = some x := by
  cases x with
  | non => cases r; rfl
  | bl _ => cases r; rfl
  | int _ => obtain ⟨t, rfl⟩ := r; rfl
  | str _ => obtain ⟨t, rfl⟩ := r; rfl
  | byt _ => obtain ⟨t, rfl⟩ := r; rfl
  | flt _ => obtain ⟨t, rfl⟩ := r; rfl
  | ref _ => cases r; rfl
  | ty _ => cases r; rfl
theorem RelV.inj {x y : V} {u : Value} (r : RelV x u) (q : RelV y u) : x = y := Option.some.inj (r.abs.symm.trans q.abs)
theorem Vals.inj : ∀ {xs ys : List V} {us : List Value}, Vals xs us → Vals ys us → xs = ys
  | _, _, _, .nil, .nil => rfl
  | _, _, _, .cons r t, .cons r' t' => by rw [r.inj r', Vals.inj t t']
section
variable {X : Cx} {pins : List (Addr × Obj)} {σ : St} {H : Hp} {s : Shared} {a : Addr} {xs ys : List V}
theorem SqL.of {K : PySem.W.Frag} (h : H a = some (.lst xs)) : SqL K H a xs := .inl (.inl h)
theorem SqT.of {K : PySem.W.Frag} (h : H a = some (.tup xs)) : SqT K H a xs := .inl (.inl h)
theorem Inv.list (I : Inv X pins σ H s) (h : SqL X.K H a xs) : ∃ its : List Value, Vals xs its ∧ PlainL s.heap a its.toArray ∧ xs.length ≤ sizeLine := by
  rcases h with h | ⟨o, its, n, hk, hc, hd, hs, hz, r⟩
  · obtain ⟨z, its, n, r, e⟩ := h.ok I.hok
    exact ⟨its, r, ⟨_, n, e, rfl, rfl, rfl⟩, z⟩
  · refine ⟨its.toList, r, ⟨o, n, I.kIn a o hk, hc, hd, by simpa using hs⟩, ?_⟩
    have e := r.length
    simp only [Array.length_toList] at e
    omega
theorem Inv.tuple (I : Inv X pins σ H s) (h : SqT X.K H a xs) : ∃ its : List Value, Vals xs its ∧ IsTup s.heap a its.toArray ∧ xs.length ≤ sizeLine := by
  rcases h with h | ⟨o, its, n, hk, hc, hs, hz, r⟩
  · obtain ⟨z, its, r, p⟩ := h.ok I.hok
    exact ⟨its, r, p.tup, z⟩
  · refine ⟨its.toList, r, ⟨o, I.kIn a o hk, hc, n, by simpa using hs⟩, ?_⟩
    have e := r.length
    simp only [Array.length_toList] at e
    omega
theorem Inv.list_inj (I : Inv X pins σ H s) (h : SqL X.K H a xs) (h' : SqL X.K H a ys) : xs = ys := by
  obtain ⟨its, r, ⟨o, n, e, _, _, d⟩, _⟩ := I.list h
  obtain ⟨its', r', ⟨o', n', e', _, _, d'⟩, _⟩ := I.list h'
  rw [e] at e'; cases e'
  rw [d] at d'
  injection d' with d1 _
  have : its = its' := by simpa using congrArg Array.toList d1
  subst this
  exact r.inj r'
theorem Inv.tuple_inj (I : Inv X pins σ H s) (h : SqT X.K H a xs) (h' : SqT X.K H a ys) : xs = ys := by
  obtain ⟨its, r, ⟨o, e, _, n, d⟩, _⟩ := I.tuple h
  obtain ⟨its', r', ⟨o', e', _, n', d'⟩, _⟩ := I.tuple h'
  rw [e] at e'; cases e'
  rw [d] at d'
  injection d' with d1 _
  have : its = its' := by simpa using congrArg Array.toList d1
  subst this
  exact r.inj r'
end
abbrev Cx.wish (X : Cx) (E : Value → Shared → Prop) : Cx := { X with xe := E }
abbrev Cx.nox (X : Cx) : Cx := X.wish fun _ _ => False
theorem Cx.Ok.wish {X : Cx} (ok : X.Ok) (E : Value → Shared → Prop) : (X.wish E).Ok :=
  ⟨ok.mod, ok.kind, ok.glob, ok.blt, ok.above, ok.inj, ok.has, ok.cab, ok.hd, ok.frames, ok.stk, ok.exf, ok.bs, ok.bsz, ok.noex, ok.exfs, ok.funs, ok.frf⟩
theorem Cx.Ok.unwish {X : Cx} {E : Value → Shared → Prop} (ok : (X.wish E).Ok) : X.Ok :=
  ⟨ok.mod, ok.kind, ok.glob, ok.blt, ok.above, ok.inj, ok.has, ok.cab, ok.hd, ok.frames, ok.stk, ok.exf, ok.bs, ok.bsz, ok.noex, ok.exfs, ok.funs, ok.frf⟩
section
variable {X : Cx} {pins : List (Addr × Obj)} {σ : St} {H : Hp} {s : Shared} {E : Value → Shared → Prop}
theorem Inv.wish (I : Inv X pins σ H s) (E : Value → Shared → Prop) : Inv (X.wish E) pins σ H s := ⟨I.ok.wish E, I.os, I.bare, I.base, I.loc, I.cell, I.free, I.freeC, I.pin, I.hok, I.len⟩
theorem Inv.unwish (I : Inv (X.wish E) pins σ H s) : Inv X pins σ H s := ⟨I.ok.unwish, I.os, I.bare, I.base, I.loc, I.cell, I.free, I.freeC, I.pin, I.hok, I.len⟩
theorem SP.unwish {D : Ends} {f : Flow} {s' : Shared} (h : SP (X.wish E) pins D f s') : SP X pins D f s' := by
  cases f with
  | next => obtain ⟨σ', H', I, q⟩ := h; exact ⟨σ', H', I.unwish, q⟩
  | brk => obtain ⟨σ', H', I, q⟩ := h; exact ⟨σ', H', I.unwish, q⟩
  | cont => obtain ⟨σ', H', I, q⟩ := h; exact ⟨σ', H', I.unwish, q⟩
  | ret u => obtain ⟨v, σ', H', I, r, q⟩ := h; exact ⟨v, σ', H', I.unwish, r, q⟩
theorem PSs.nox {st : List Stmt} {t : TS} (h : PSs X.nox st t) : PSs X st t := fun pins s σ H D I hw =>
  wpAny_mono (h pins s σ H D (I.wish _) hw) (fun _ _ q => q.unwish) fun _ _ z => False.elim z
end
section
variable {X : Cx} {st : Stmt} {rest : List Stmt} {t u : TS} {e : Expr} {te : TE} {pos : Pos}
def tNext : TS := fun D σ H => D.nx σ H
def tSeq (t u : TS) : TS := fun D σ H => t { D with nx := u D } σ H
theorem pss_nil : PSs X [] tNext := fun _ _ σ H _ I h => wpAny_execs_nil ⟨σ, H, I, h⟩
theorem pss_cons (h1 : PS X st t) (h2 : PSs X rest u) : PSs X (st :: rest) (tSeq t u) := by
  intro pins s σ H D I h
  refine wpAny_execs_cons (thn (h1 pins s σ H { D with nx := u D } I h) fun f s1 q => ?_)
  cases f with
  | next =>
    obtain ⟨σ', H', I', q⟩ := q
    exact h2 pins s1 σ' H' D I' q
  | ret v => exact q
  | brk => exact q
  | cont => exact q
theorem pss_one (h1 : PS X st t) : PSs X [st] t := by
  intro pins s σ H D I h
  refine wpAny_execs_cons (thn (h1 pins s σ H D I h) fun f s1 q => ?_)
  cases f with
  | next => exact wpAny_execs_nil q
  | ret v => exact q
  | brk => exact q
  | cont => exact q
theorem Inv.quiet {pins : List (Addr × Obj)} {σ : St} {H : Hp} {s : Shared} (I : Inv X pins σ H s) : interactive X.env = false := by simp [interactive, I.ok.kind]
def tDrop (te : TE) : TS := fun D σ H => te σ H fun _ H1 => D.nx σ H1
theorem ps_expr (he : PE X e te) (hs : swapsWith e none pos.line X.env = pure false := by rfl) : PS X (.Expr e pos) (tDrop te) := by
  intro pins s σ H D I h
  exact wpAny_Expr_any (thn (he pins s σ H _ I h) fun v s1 ⟨x, H1, I1, r1, q1⟩ => ⟨σ, H1, I1, q1⟩) I.quiet hs
def tRet (te : TE) : TS := fun D σ H => te σ H D.rt
theorem ps_ret (he : PE X e te) : PS X (.Return (some e) pos) (tRet te) := by
  intro pins s σ H D I h
  exact wpAny_Return_some (thn (he pins s σ H _ I h) fun v s1 ⟨x, H1, I1, r1, q1⟩ => ⟨x, σ, H1, I1, r1, q1⟩)
def tIfS (c : TT) (t u : TS) : TS := fun D σ H => c σ H fun b H1 => if b = true then t D σ H1 else u D σ H1
theorem ps_if {c : Expr} {a b : List Stmt} {tc : TT} (hc : PT X c tc) (ha : PSs X a t) (hb : PSs X b u) : PS X (.If c a b pos) (tIfS tc t u) := by
  intro pins s σ H D I h
  refine wpAny_If (thn (hc pins s σ H _ I h) fun d s1 ⟨H1, I1, q1⟩ => ?_)
  cases d with
  | true => exact ha pins s1 σ H1 D I1 q1
  | false => exact hb pins s1 σ H1 D I1 q1
def tNever : TS := fun _ _ _ => False
theorem pss_never {sts : List Stmt} : PSs X sts tNever := fun _ _ _ _ _ _ h => h.elim
end
abbrev TG := V → St → Hp → (St → Hp → Prop) → Prop
abbrev TGs := List V → St → Hp → (St → Hp → Prop) → Prop
def PG (X : Cx) (target : Expr) (t : TG) : Prop :=
  ∀ (pins : List (Addr × Obj)) (s : Shared) (σ : St) (H : Hp) (v : V) (u : Value) (Q : St → Hp → Prop), Inv X pins σ H s → RelV v u → t v σ H Q →
    wpAny (model X.prog X.w) X.A (assign target X.env u) (fun _ s' => ∃ σ' H', Inv X pins σ' H' s' ∧ Q σ' H') X.xe s
def PGs (X : Cx) (ts : List Expr) (t : TGs) : Prop :=
  ∀ (pins : List (Addr × Obj)) (s : Shared) (σ : St) (H : Hp) (vs : List V) (us : List Value) (Q : St → Hp → Prop), Inv X pins σ H s → Vals vs us → t vs σ H Q →
    wpAny (model X.prog X.w) X.A (assignInOrder ((assignEach ts X.env).map (·.2)) us) (fun _ s' => ∃ σ' H', Inv X pins σ' H' s' ∧ Q σ' H') X.xe s
abbrev TSet := V → V → V → Hp → (Hp → Prop) → Prop
def PSet (X : Cx) (t : TSet) : Prop :=
  ∀ (pins : List (Addr × Obj)) (s : Shared) (σ : St) (H : Hp) (o i v : V) (ov iv u : Value) (Q : Hp → Prop), Inv X pins σ H s → RelV o ov → RelV i iv → RelV v u → t o i v H Q →
    wpAny (model X.prog X.w) X.A (setItem ov iv u) (fun _ s' => ∃ H', Inv X pins σ H' s' ∧ Q H') X.xe s
section
variable {X : Cx} {pos : Pos}
def gName (i : Nat) : TG := fun v σ H Q => Q (σ.set i (some v)) H
theorem pg_name {i : Nat} {x : Str} (hN : X.N.Nodup) (hi : X.N[i]? = some x) (hx : Loc X.env.scope x) (hf : X.fn x = true ∨ X.env.scope.names.lookup x = some .local := by first | exact .inl rfl | exact .inr rfl | assumption) : PG X (.Name x pos) (gName i) := by
  intro pins s σ H v u Q I r h
  exact wpAny_assign_Name (store_ok I hN hi hx r (fun s' I' => ⟨_, H, I', h⟩) hf)
def gNil : TGs := fun vs σ H Q => vs = [] ∧ Q σ H
def gCons (t : TG) (u : TGs) : TGs := fun vs σ H Q => ∃ v r, vs = v :: r ∧ t v σ H fun σ' H' => u r σ' H' Q
theorem pgs_nil : PGs X [] gNil := by
  intro pins s σ H vs us Q I r h
  obtain ⟨e, h⟩ := h
  subst e
  cases r
  exact assignInOrder_nil ⟨σ, H, I, h⟩
theorem pgs_cons {e : Expr} {es : List Expr} {t : TG} {u : TGs} (h1 : PG X e t) (h2 : PGs X es u)
    (hs : (assignEach (e :: es) X.env).map (·.2) = assign e X.env :: (assignEach es X.env).map (·.2) := by rfl) : PGs X (e :: es) (gCons t u) := by
  intro pins s σ H vs us Q I r h
  obtain ⟨v, vr, e1, h⟩ := h
  subst e1
  cases r with
  | cons r rr =>
    rw [hs]
    refine assignInOrder_cons (thn (h1 pins s σ H _ _ _ I r h) fun _ s1 ⟨σ1, H1, I1, q1⟩ => ?_)
    exact h2 pins s1 σ1 H1 _ _ Q I1 rr q1
def gTup (K : PySem.W.Frag) (n : Nat) (t : TGs) : TG := fun v σ H Q => ∃ a xs, v = .ref a ∧ SqT K H a xs ∧ xs.length = n ∧ t xs σ H Q
theorem pg_tup {es : List Expr} {k : Nat} {t : TGs} {n : Nat} (hc : X.calm = true) (h : PGs X es t)
    (hn : (assignEach es X.env).length = n := by rfl) (hst : (assignEach es X.env).findIdx? (·.1) = none := by rfl) : PG X (.Tuple es k pos) (gTup X.K n t) := by
  intro pins s σ H v u Q I r hw
  obtain ⟨a, xs, e1, hq, hl, hw⟩ := hw
  subst e1
  cases r
  obtain ⟨its, rv, ht, hz⟩ := I.tuple hq
  refine assign_Tuple_tuple (I.ok.hd hc) ht (by simp [hn, ← hl, rv.length]) hst fun h' hx => ?_
  have I1 : Inv X pins σ H { s with heap := h' } := I.kept (t' := s.toks) fun b o e => hx b o (Nat.ne_of_lt (Heap.lt_size e)) e
  exact h pins _ σ H xs _ Q I1 (by simpa using rv) hw
def gSub (to ti : TE) (t : TSet) : TG := fun v σ H Q => to σ H fun o H1 => ti σ H1 fun i H2 => t o i v H2 fun H3 => Q σ H3
theorem pg_sub {o i : Expr} {to ti : TE} {t : TSet} (ho : PE X o to) (hi : PE X i ti) (hs : PSet X t)
    (ha : ∀ v, assign (.Subscript o i pos) X.env v = (do
      let ov ← holding [v] (eval o X.env)
      let iv ← holding [v, ov] (eval i X.env)
      standAt pos
      holding [v, ov, iv] (setItem ov iv v)
      release [v, ov, iv] []) := by intro _; rfl) : PG X (.Subscript o i pos) (gSub to ti t) := by
  intro pins s σ H v u Q I r h
  rw [ha]
  refine wpAny_bind (wpAny_holding (thn (ho pins s σ H _ I h) fun ov s1 ⟨x, H1, I1, r1, q1⟩ => ?_))
  refine wpAny_bind (wpAny_holding (thn (hi pins s1 σ H1 _ I1 q1) fun iv s2 ⟨y, H2, I2, r2, q2⟩ => ?_))
  refine wpAny_bind (wpAny_standAt (wpAny_bind (wpAny_holding (thn (hs pins s2 σ H2 x y v ov iv u _ I2 r1 r2 r q2) fun _ s3 ⟨H3, I3, q3⟩ => ?_))))
  exact wpAny_release ⟨σ, H3, I3, q3⟩
def tAsg (te : TE) (g : TG) : TS := fun D σ H => te σ H fun x H1 => g x σ H1 D.nx
theorem ps_asg {tg e : Expr} {te : TE} {g : TG} (he : PE X e te) (hg : PG X tg g) (hs : swapsWithSole [tg] e pos.line X.env = pure false := by rfl) (hw : swappedStores [tg] e X.env = pure none := by rfl)
    (h1 : (assignEach [tg] X.env).map (·.2) = [assign tg X.env] := by rfl) : PS X (.Assign [tg] e pos) (tAsg te g) := by
  intro pins s σ H D I h
  refine wpAny_Assign_stores (thn (he pins s σ H _ I h) fun v s1 ⟨x, H1, I1, r1, q1⟩ => ?_) hs hw
  rw [h1]
  exact thn (hg pins s1 σ H1 x v _ I1 r1 q1) fun _ s2 q => q
theorem ps_set {i : Nat} {x : Str} {e : Expr} {te : TE} {pos' : Pos} (hN : X.N.Nodup) (hi : X.N[i]? = some x) (hx : Loc X.env.scope x) (he : PE X e te) (hs : swapsWith e (some (.Name x pos')) pos.line X.env = pure false := by rfl) (hf : X.fn x = true ∨ X.env.scope.names.lookup x = some .local := by first | exact .inl rfl | exact .inr rfl | assumption) :
    PS X (.Assign [.Name x pos'] e pos) (tAsg te (gName i)) := by
  intro pins s σ H D I h
  refine wpAny_Assign_Name (thn (he pins s σ H _ I h) fun v s1 ⟨y, H1, I1, r1, q1⟩ => ?_) hs
  exact store_ok I1 hN hi hx r1 (fun s2 I2 => ⟨_, H1, I2, q1⟩) hf
end
section
variable {X : Cx} {pos : Pos}
def tWhile (c : TT) (tb : TS) : TS := fun D σ H => ∃ W : Nat → St → Hp → Prop, (∃ m, W m σ H) ∧ ∀ m σ H, W m σ H →
  c σ H fun b H1 => if b = true then ∃ N : St → Hp → Prop, (∀ σ' H', N σ' H' → ∃ m', m' < m ∧ W m' σ' H') ∧ tb { D with nx := N, ct := N, bk := D.nx } σ H1 else D.nx σ H1
theorem ps_while {c : Expr} {body : List Stmt} {tc : TT} {tb : TS} (hp : PassesOwn (model X.prog X.w) X.A X.env X.xe) (hc : PT X c tc) (hb : PSs X body tb) : PS X (.While c body [] pos) (tWhile tc tb) := by
  intro pins s σ H D I h
  obtain ⟨W, ⟨m0, w0⟩, turn⟩ := h
  refine wpAny_While (codeAny_whileLoop (fun n s' => ∃ σ' H', Inv X pins σ' H' s' ∧ W n σ' H') ?_ m0 ⟨σ, H, I, w0⟩)
  rintro n s1 ⟨σ1, H1, I1, w1⟩
  refine wpAny_passesOwn hp (thn (hc pins s1 σ1 H1 _ I1 (turn n σ1 H1 w1)) fun b s2 ⟨H2, I2, q2⟩ => ?_)
  cases b with
  | true =>
    obtain ⟨N, hN, q2⟩ := q2
    rw [if_pos rfl]
    refine wpAny_passesOwn hp (thn (hb pins s2 σ1 H2 _ I2 q2) fun f s3 q3 => ?_)
    cases f with
    | next =>
      obtain ⟨σ3, H3, I3, n3⟩ := q3
      obtain ⟨m', hm, w3⟩ := hN σ3 H3 n3
      exact ⟨m', hm, σ3, H3, I3, w3⟩
    | cont =>
      obtain ⟨σ3, H3, I3, n3⟩ := q3
      obtain ⟨m', hm, w3⟩ := hN σ3 H3 n3
      exact ⟨m', hm, σ3, H3, I3, w3⟩
    | brk => exact q3
    | ret v => exact q3
  | false =>
    rw [if_neg Bool.false_ne_true]
    exact wpAny_execs_nil ⟨σ1, H2, I2, q2⟩
end
structure It where
  go : Nat → Hp → Prop
  yld : Nat → Hp → V → Hp → Prop
  stop : Nat → Hp → Prop
def FpOk (X : Cx) (pins : List (Addr × Obj)) (H : Hp) (b : Addr) : Prop :=
  H b = none ∧ b ≠ X.env.locals ∧ b ∉ X.fs ∧ (b ∈ X.ex ∨ X.s₀.heap.objs.size ≤ b) ∧ (∀ x c, X.env.cells.lookup x = some c → c ≠ b) ∧ ∀ p ∈ X.pn ++ pins, p.1 ≠ b
theorem Inv.fpOk {X : Cx} {pins : List (Addr × Obj)} {σ : St} {H H' : Hp} {s : Shared} {b : Addr} (I : Inv X pins σ H s) (hb : s.heap.objs.size ≤ b) (hn : H' b = none) : FpOk X pins H' b := by
  refine ⟨hn, Nat.ne_of_gt (Nat.lt_of_lt_of_le I.lt hb), I.nofs hb, .inr (Nat.le_trans I.sz hb), fun x c e z => ?_, fun p hp z => ?_⟩
  · obtain ⟨v, q⟩ := I.cell x c e
    exact absurd (Nat.lt_of_lt_of_le q.lt (by rw [z]; exact hb)) (Nat.lt_irrefl _)
  · exact absurd (Nat.lt_of_lt_of_le (Heap.lt_size (I.pin p hp).1) (by rw [z]; exact hb)) (Nat.lt_irrefl _)
structure Turn (P : Program) (w : World) (K : PySem.W.Frag) (tg : Expr) (J : It) (fp : List Addr) (it : Addr) (tn : Nat → Heap → Prop) : Prop where
  mem : it ∈ fp
  obj : ∀ i h, tn i h → ∀ b ∈ fp, ∃ o, h.get? b = some o ∧ ∀ v, o.data ≠ .cell v
  keep : ∀ i h h', tn i h → (∀ b ∈ fp, ∀ o, h.get? b = some o → h'.get? b = some o) → tn i h'
  item : ∀ (X : Cx), X.prog = P → X.w = w → X.K = K → X.calm = true → ∀ (i : Nat) (pins : List (Addr × Obj)) (s : Shared) (σ : St) (H : Hp) (E : Value → Shared → Prop), Inv X pins σ H s → (∀ b ∈ fp, FpOk X pins H b) → tn i s.heap → J.go i H →
    wpAny (model P w) X.A (pyNext (.ref it)) (fun r s1 => ∃ u, r = some u ∧
      wpAny (model P w) X.A (letOwnedTupleGo tg (.ref it) u) (fun _ s2 => ∃ x H', Inv X pins σ H' s2 ∧ RelV x u ∧ J.yld i H x H' ∧ tn (i + 1) s2.heap ∧ ∀ b ∈ fp, H' b = none) E s1) E s
  done : ∀ (X : Cx), X.prog = P → X.w = w → X.K = K → X.calm = true → ∀ (i : Nat) (pins : List (Addr × Obj)) (s : Shared) (σ : St) (H : Hp) (E : Value → Shared → Prop), Inv X pins σ H s → (∀ b ∈ fp, FpOk X pins H b) → tn i s.heap → J.stop i H →
    wpAny (model P w) X.A (pyNext (.ref it)) (fun r s1 => r = none ∧ Inv X pins σ H s1) E s
  self : ∀ (A : Around) (i : Nat) (s : Shared) (Q : Value → Shared → Prop) (E : Value → Shared → Prop), tn i s.heap → Q (.ref it) s → wpAny (model P w) A (pyIter (.ref it)) Q E s
abbrev TI := St → Hp → (It → Hp → Prop) → Prop
def PIE (X : Cx) (pins : List (Addr × Obj)) (σ : St) (tg : Expr) (R : It → Hp → Prop) (itv : Value) (s2 : Shared) : Prop :=
  ∃ (it : Addr) (fp : List Addr) (tn : Nat → Heap → Prop) (J : It) (H' : Hp), itv = .ref it ∧ Inv X pins σ H' s2 ∧ Turn X.prog X.w X.K tg J fp it tn ∧ tn 0 s2.heap ∧ (∀ b ∈ fp, FpOk X pins H' b) ∧ R J H'
def PI (X : Cx) (tg iter : Expr) (wi : TI) : Prop :=
  ∀ (pins : List (Addr × Obj)) (s : Shared) (σ : St) (H : Hp) (R : It → Hp → Prop), Inv X pins σ H s → wi σ H R →
    wpAny (model X.prog X.w) X.A (eval iter X.env) (fun v s1 => wpAny (model X.prog X.w) X.A (pyIter v) (PIE X pins σ tg R) X.xe s1) X.xe s
theorem go_of {M : Model} {A : Around} {E : Value → Shared → Prop} {s : Shared} {tg : Expr} {it : Addr} {u : Value} {o : Obj} {n : String} {vs : Array Value} {Q : Unit → Shared → Prop} (ho : s.heap.get? it = some o) (hc : o.cls = .type n) (hd : o.data = .fields vs)
    (hn : ["enumerate", "zip", "dict_itemiterator", "dict_reverseitemiterator", "odict_iterator", "itertools.zip_longest", "itertools.pairwise"].contains n = false) (hQ : Q () s) : wpAny M A (letOwnedTupleGo tg (.ref it) u) Q E s := by
  unfold letOwnedTupleGo
  cases tg <;> first
    | exact wpAny_pure hQ
    | (cases u <;> first
        | exact wpAny_pure hQ
        | (refine wpAny_bind (wpAny_load ho ?_)
           rw [hc, hd]
           show wpAny M A (if (["enumerate", "zip", "dict_itemiterator", "dict_reverseitemiterator", "odict_iterator", "itertools.zip_longest", "itertools.pairwise"].contains n && vs[0]? == some (rawInt _)) = true then _ else _) Q E s
           rw [if_neg (by intro h; rw [hn, Bool.false_and] at h; cases h)]
           exact wpAny_pure hQ))
def Itl (K : PySem.W.Frag) (a : Addr) : It :=
  ⟨fun i H => ∃ xs x, SqL K H a xs ∧ xs[i]? = some x, fun i H x H' => H' = H ∧ ∀ xs, SqL K H a xs → xs[i]? = some x, fun i H => ∃ xs, SqL K H a xs ∧ xs.length ≤ i⟩
def Itt (K : PySem.W.Frag) (a : Addr) : It :=
  ⟨fun i H => ∃ xs x, SqT K H a xs ∧ xs[i]? = some x, fun i H x H' => H' = H ∧ ∀ xs, SqT K H a xs → xs[i]? = some x, fun i H => ∃ xs, SqT K H a xs ∧ xs.length ≤ i⟩
def Itr (lo : Int) (n : Nat) : It := ⟨fun i _ => i < n, fun i H x H' => H' = H ∧ x = .int (lo + i), fun i _ => n ≤ i⟩
theorem turn_list {P : Program} {w : World} {K : PySem.W.Frag} {tg : Expr} (a it : Addr) : Turn P w K tg (Itl K a) [it] it (fun i h => h.IsListIter it a i) where
  mem := by simp
  obj := fun i h st b hb => by
    have e : b = it := by simpa using hb
    subst e
    obtain ⟨o, e, c, d⟩ := st
    exact ⟨o, e, fun v z => by rw [d] at z; cases z⟩
  keep := fun i h h' st k => st.at fun o e => k it (by simp) o e
  item := by
    intro X hP hw hK hc i pins s σ H E I hf st hg
    subst hP hw hK
    obtain ⟨xs, x, hq, hx⟩ := hg
    obtain ⟨its, rv, p, hz⟩ := I.list hq
    obtain ⟨u, hu, ru⟩ := rv.get hx
    obtain ⟨f0, f1, f2, f3, f4, f5⟩ := hf it (by simp)
    refine wpAny_pyNext_list_item st p.isList (x := u) (by simpa using hu) fun h' st' sb => ?_
    have I1 : Inv X pins σ H { s with heap := h' } := I.turned (t' := s.toks) (fun b o hb e => (sb.2 b hb).trans e) f0 f1 f3 f4 f5
    obtain ⟨o, e, c, d⟩ := id st'
    exact ⟨u, rfl, go_of (s := { s with heap := h' }) e c d (by decide) ⟨x, H, I1, ru, ⟨rfl, fun ys hy => by rw [I.list_inj hy hq]; exact hx⟩, st', fun b hb => (hf b hb).1⟩⟩
  done := by
    intro X hP hw hK hc i pins s σ H E I hf st hg
    subst hP hw hK
    obtain ⟨xs, hq, hx⟩ := hg
    obtain ⟨its, rv, p, hz⟩ := I.list hq
    obtain ⟨f0, f1, f2, f3, f4, f5⟩ := hf it (by simp)
    have hl := rv.length
    exact wpAny_pyNext_list_end (I.ok.hd hc) st p.isList (by simp; omega) fun h' eb => ⟨rfl, I.turned (t' := s.toks) (fun b o hb e => eb b o hb e) f0 f1 f3 f4 f5⟩
  self := fun _ _ _ _ _ st h => wpAny_pyIter_listiter st h
theorem turn_tuple {P : Program} {w : World} {K : PySem.W.Frag} {tg : Expr} (a it : Addr) : Turn P w K tg (Itt K a) [it] it (fun i h => h.IsTupleIter it a i) where
  mem := by simp
  obj := fun i h st b hb => by
    have e : b = it := by simpa using hb
    subst e
    obtain ⟨o, e, c, d⟩ := st
    exact ⟨o, e, fun v z => by rw [d] at z; cases z⟩
  keep := fun i h h' st k => st.at fun o e => k it (by simp) o e
  item := by
    intro X hP hw hK hc i pins s σ H E I hf st hg
    subst hP hw hK
    obtain ⟨xs, x, hq, hx⟩ := hg
    obtain ⟨its, rv, p, hz⟩ := I.tuple hq
    obtain ⟨u, hu, ru⟩ := rv.get hx
    obtain ⟨f0, f1, f2, f3, f4, f5⟩ := hf it (by simp)
    refine wpAny_pyNext_tuple_item st (show s.heap.IsTuple a its.toArray from p) (x := u) (by simpa using hu) fun h' st' sb => ?_
    have I1 : Inv X pins σ H { s with heap := h' } := I.turned (t' := s.toks) (fun b o hb e => (sb.2 b hb).trans e) f0 f1 f3 f4 f5
    obtain ⟨o, e, c, d⟩ := id st'
    exact ⟨u, rfl, go_of (s := { s with heap := h' }) e c d (by decide) ⟨x, H, I1, ru, ⟨rfl, fun ys hy => by rw [I.tuple_inj hy hq]; exact hx⟩, st', fun b hb => (hf b hb).1⟩⟩
  done := by
    intro X hP hw hK hc i pins s σ H E I hf st hg
    subst hP hw hK
    obtain ⟨xs, hq, hx⟩ := hg
    obtain ⟨its, rv, p, hz⟩ := I.tuple hq
    obtain ⟨f0, f1, f2, f3, f4, f5⟩ := hf it (by simp)
    have hl := rv.length
    exact wpAny_pyNext_tuple_end (I.ok.hd hc) st (show s.heap.IsTuple a its.toArray from p) (by simp; omega) fun h' eb => ⟨rfl, I.turned (t' := s.toks) (fun b o hb e => eb b o hb e) f0 f1 f3 f4 f5⟩
  self := fun _ _ _ _ _ st h => wpAny_pyIter_tupleiter st h
theorem turn_range {P : Program} {w : World} {K : PySem.W.Frag} {tg : Expr} (it : Addr) (lo : Int) (n : Nat) : Turn P w K tg (Itr lo n) [it] it (fun i h => IsRangeIter h it (lo + (i : Nat) * 1) ((n : Int) - (i : Nat)) 1) where
  mem := by simp
  obj := fun i h st b hb => by
    have e : b = it := by simpa using hb
    subst e
    exact ⟨_, st, fun v z => by
      have z' : Data.fields _ = Data.cell v := z
      cases z'⟩
  keep := fun i h h' st k => k it (by simp) _ st
  item := by
    intro X hP hw hK hc i pins s σ H E I hf st hg
    subst hP hw hK
    obtain ⟨f0, f1, f2, f3, f4, f5⟩ := hf it (by simp)
    have W := Walks.range (prog := X.prog) (w := X.w) (I.ok.hd hc) it lo 1 n
    refine W.item i s _ _ hg st fun v h' tk hv st' kk => ?_
    obtain ⟨t, rfl⟩ := hv
    have I1 : Inv X pins σ H { s with heap := h', toks := tk } := I.turned (fun b o hb e => kk b o (by simpa using hb) e) f0 f1 f3 f4 f5
    refine ⟨_, rfl, go_of (s := { s with heap := h', toks := tk }) (n := "range_iterator") st' rfl rfl (by decide) ⟨.int (lo + i), H, I1, ⟨t, ?_⟩, ⟨rfl, rfl⟩, st', fun b hb => (hf b hb).1⟩⟩
    rw [Int.mul_one]
  done := by
    intro X hP hw hK hc i pins s σ H E I hf st hg
    subst hP hw hK
    obtain ⟨f0, f1, f2, f3, f4, f5⟩ := hf it (by simp)
    exact wpAny_pyNext_range_end (I.ok.hd hc) st (by have : n ≤ i := hg; omega) fun h' eb => ⟨rfl, I.turned (t' := s.toks) (fun b o hb e => eb b o hb e) f0 f1 f3 f4 f5⟩
  self := fun _ _ _ _ _ st h => wpAny_pyIter_rangeiter st h
end L2
namespace L2
open PySem PySem.Spec PyProof.Rows
section
variable {X : Cx} {tg : Expr}
def iList (K : PySem.W.Frag) (tl : TE) : TI := fun σ H R => tl σ H fun x H1 => ∃ a, x = .ref a ∧ (∃ xs, SqL K H1 a xs) ∧ R (Itl K a) H1
def iTup (K : PySem.W.Frag) (tl : TE) : TI := fun σ H R => tl σ H fun x H1 => ∃ a, x = .ref a ∧ (∃ xs, SqT K H1 a xs) ∧ R (Itt K a) H1
theorem pi_list {l : Expr} {tl : TE} (hl : PE X l tl) : PI X tg l (iList X.K tl) := by
  intro pins s σ H R I h
  refine thn (hl pins s σ H _ I h) fun v s1 ⟨x, H1, I1, r1, q1⟩ => ?_
  obtain ⟨a, e, ⟨xs, hq⟩, q⟩ := q1
  subst e
  cases r1
  obtain ⟨its, rv, p, hz⟩ := I1.list hq
  refine wpAny_pyIter_list p.isList ?_
  refine ⟨s1.heap.objs.size, [s1.heap.objs.size], _, _, H1, rfl, I1.kept (t' := s1.toks) fun b o e => Heap.get?_push_of_some _ e, turn_list a _, ⟨_, Heap.get?_push_size _ rfl, rfl, rfl⟩, fun b hb => ?_, q⟩
  have e : b = s1.heap.objs.size := by simpa using hb
  subst e
  exact I1.fpOk (Nat.le_refl _) (I1.hok.fresh (Nat.le_refl _))
theorem pi_tup {l : Expr} {tl : TE} (hl : PE X l tl) : PI X tg l (iTup X.K tl) := by
  intro pins s σ H R I h
  refine thn (hl pins s σ H _ I h) fun v s1 ⟨x, H1, I1, r1, q1⟩ => ?_
  obtain ⟨a, e, ⟨xs, hq⟩, q⟩ := q1
  subst e
  cases r1
  obtain ⟨its, rv, p, hz⟩ := I1.tuple hq
  refine wpAny_pyIter_tuple (show s1.heap.IsTuple a its.toArray from p) ?_
  refine ⟨s1.heap.objs.size, [s1.heap.objs.size], _, _, H1, rfl, I1.kept (t' := s1.toks) fun b o e => Heap.get?_push_of_some _ e, turn_tuple a _, ⟨_, Heap.get?_push_size _ rfl, rfl, rfl⟩, fun b hb => ?_, q⟩
  have e : b = s1.heap.objs.size := by simpa using hb
  subst e
  exact I1.fpOk (Nat.le_refl _) (I1.hok.fresh (Nat.le_refl _))
theorem range_it {pins : List (Addr × Obj)} {σ : St} {H : Hp} {s : Shared} {R : It → Hp → Prop} {E : Value → Shared → Prop} {lo hi : Int} {t u v : Tok} {tk : Nat} (I : Inv X pins σ H s) (h1 : -(2 ^ 62) ≤ lo) (h2 : lo < 2 ^ 62) (h3 : -(2 ^ 62) ≤ hi) (h4 : hi < 2 ^ 62)
    (q : R (Itr lo (hi - lo).toNat) H) : wpAny (model X.prog X.w) X.A (pyIter (.ref s.heap.objs.size)) (PIE X pins σ tg R) E { s with heap := s.heap.push { cls := .type "range", data := .fields #[.int lo t, .int hi u, .int 1 v] }, toks := tk } := by
  refine wpAny_pyIter_range (IsRange.new ..) (small_one h1 h2 h3 h4) ?_
  have I1 : Inv X pins σ H { s with heap := s.heap.push { cls := .type "range", data := .fields #[.int lo t, .int hi u, .int 1 v] }, toks := tk } := I.kept fun b o e => Heap.get?_push_of_some _ e
  refine ⟨(s.heap.push { cls := .type "range", data := .fields #[.int lo t, .int hi u, .int 1 v] }).objs.size, [(s.heap.push { cls := .type "range", data := .fields #[.int lo t, .int hi u, .int 1 v] }).objs.size], _, _, H, rfl,
    I1.kept (t' := tk) fun b o e => Heap.get?_push_of_some _ e, turn_range _ lo (hi - lo).toNat, ?_, fun b hb => ?_, q⟩
  · have e1 : lo + ((0 : Nat) : Int) * 1 = lo := by simp
    have e2 : (((hi - lo).toNat : Nat) : Int) - ((0 : Nat) : Int) = Builtin.Range.rangeSize lo hi 1 := by rw [rangeSize_one]; split <;> omega
    show IsRangeIter _ _ (lo + ((0 : Nat) : Int) * 1) ((((hi - lo).toNat : Nat) : Int) - ((0 : Nat) : Int)) 1
    rw [e1, e2]
    exact Heap.get?_push_size _ rfl
  · have e : b = (s.heap.push { cls := .type "range", data := .fields #[.int lo t, .int hi u, .int 1 v] }).objs.size := by simpa using hb
    subst e
    exact I1.fpOk (Nat.le_refl _) (I1.hok.fresh (Nat.le_refl _))
def iRng1 (ta : TA) : TI := fun σ H R => ta σ H fun vs H1 => ∃ j : Int, vs = [.int j] ∧ -(2 ^ 62) ≤ j ∧ j < 2 ^ 62 ∧ R (Itr 0 j.toNat) H1
theorem pi_range1 {a : Expr} {ta : TA} {p pos : Pos} (hg : Gl X "range") (hm : X.mg "range" = none) (ha : PA X [a] ta) (hs : starEach [a] X.env = [(false, eval a X.env)] := by rfl) : PI X tg (.Call (.Name "range" p) [a] [] pos) (iRng1 ta) := by
  intro pins s σ H R I h
  refine Call_ (ld_blt I hg hm boot_range (PyProof.Rows.callWith_type1 (thn (ha pos pins s σ H _ I h) fun us s1 ⟨vs, H1, I1, r1, q1⟩ => ?_) hs rfl))
  obtain ⟨j, e, q1, q2, q⟩ := q1
  subst e
  cases r1 with
  | cons r rr =>
    cases rr
    obtain ⟨t, rfl⟩ := r
    exact call_range_1 (range_it I1 (by decide) (by decide) q1 q2 (by simpa using q))
def tFor (wi : TI) (g : TG) (tb : TS) : TS := fun D σ H => wi σ H fun J H1 => ∃ W : Nat → Nat → St → Hp → Prop, (∃ m, W 0 m σ H1) ∧ ∀ i m σ H, W i m σ H →
  (J.stop i H ∧ D.nx σ H) ∨ (J.go i H ∧ ∃ N : St → Hp → Prop, (∀ σ' H', N σ' H' → ∃ m', m' < m ∧ W (i + 1) m' σ' H') ∧ ∀ x H', J.yld i H x H' → g x σ H' fun σ2 H2 => tb { D with nx := N, ct := N, bk := D.nx } σ2 H2)
def pinsAt (fp : List Addr) (h : Heap) : List (Addr × Obj) := fp.filterMap fun b => (h.get? b).map fun o => (b, o)
theorem mem_pinsAt {fp : List Addr} {h : Heap} {b : Addr} {o : Obj} (hb : b ∈ fp) (e : h.get? b = some o) : (b, o) ∈ pinsAt fp h := List.mem_filterMap.mpr ⟨b, hb, by rw [e]; rfl⟩
theorem of_pinsAt {fp : List Addr} {h : Heap} {p : Addr × Obj} (hp : p ∈ pinsAt fp h) : p.1 ∈ fp ∧ h.get? p.1 = some p.2 := by
  obtain ⟨b, hb, e⟩ := List.mem_filterMap.mp hp
  cases q : h.get? b with
  | none => rw [q] at e; cases e
  | some o =>
    rw [q] at e
    have e' : (b, o) = p := Option.some.inj e
    subst e'
    exact ⟨hb, q⟩
theorem Inv.pinned {pins : List (Addr × Obj)} {σ : St} {H : Hp} {s : Shared} {fp : List Addr} (I : Inv X pins σ H s) (hf : ∀ b ∈ fp, FpOk X pins H b) (ho : ∀ b ∈ fp, ∃ o, s.heap.get? b = some o ∧ ∀ v, o.data ≠ .cell v) : Inv X (pins ++ pinsAt fp s.heap) σ H s :=
  I.pins_of fun p hp => (List.mem_append.mp hp).elim (fun z => I.pin p (List.mem_append_right _ z)) fun z => by
    obtain ⟨hb, e⟩ := of_pinsAt z
    obtain ⟨f0, f1, f2, _⟩ := hf p.1 hb
    obtain ⟨o, e', d⟩ := ho p.1 hb
    rw [e] at e'; cases e'
    exact ⟨e, f0, f1, f2, d⟩
theorem Inv.unpinned {pins pl : List (Addr × Obj)} {σ : St} {H : Hp} {s : Shared} (I : Inv X (pins ++ pl) σ H s) : Inv X pins σ H s := I.pins_of fun p hp => I.pin p (List.mem_append_right _ (List.mem_append_left _ hp))
theorem ps_for {iter : Expr} {body : List Stmt} {wi : TI} {g : TG} {tb : TS} {pos : Pos} (hp : PassesOwn (model X.prog X.w) X.A X.env X.xe) (hc : X.calm = true) (hi : PI X tg iter wi) (hg : PG X tg g) (hb : PSs X body tb)
    (hs : ∀ x, foldedSetIterable iter X.env x = pure x := by intro _; rfl) : PS X (.For tg iter body [] pos) (tFor wi g tb) := by
  intro pins s σ H D I h
  refine wpAny_For (thn (hi pins s σ H _ I h) fun v s1 h1 => thn h1 fun itv s2 h2 => ?_) hs
  obtain ⟨it, fp, tn, J, H2, e, I2, T, st2, f2, W, ⟨m0, w0⟩, turn⟩ := h2
  subst e
  have stat : ∀ {H' : Hp}, (∀ b ∈ fp, H' b = none) → ∀ b ∈ fp, FpOk X pins H' b := fun hn b hb => ⟨hn b hb, (f2 b hb).2⟩
  refine codeAny_forLoop_any (fun n s' => ∃ i σ' H', Inv X pins σ' H' s' ∧ tn i s'.heap ∧ (∀ b ∈ fp, H' b = none) ∧ W i n σ' H') ?_ m0 ⟨0, σ, H2, I2, st2, fun b hb => (f2 b hb).1, w0⟩
  rintro n s3 ⟨i, σ3, H3, I3, st3, fr3, w3⟩
  rcases turn i n σ3 H3 w3 with ⟨stop, qn⟩ | ⟨go, N, hN, step⟩
  · refine wpAny_passesOwn hp (thn (T.done X rfl rfl rfl hc i pins s3 σ3 H3 X.xe I3 (stat fr3) st3 stop) fun r s4 ⟨hr, I4⟩ => ?_)
    subst hr
    exact wpAny_execs_nil ⟨σ3, H3, I4, qn⟩
  · refine wpAny_passesOwn hp (thn (T.item X rfl rfl rfl hc i pins s3 σ3 H3 X.xe I3 (stat fr3) st3 go) fun r s4 ⟨u, hr, h4⟩ => ?_)
    subst hr
    refine wpAny_passesOwn hp (thn h4 fun _ s5 ⟨x, H5, I5, r5, y5, st5, fr5⟩ => ?_)
    have I5' := I5.pinned (stat fr5) (T.obj _ _ st5)
    refine wpAny_passesOwn hp (thn (hg _ s5 σ3 H5 x u _ I5' r5 (step x H5 y5)) fun _ s6 ⟨σ6, H6, I6, q6⟩ => ?_)
    refine wpAny_passesOwn hp (thn (hb _ s6 σ6 H6 _ I6 q6) fun f s7 q7 => ?_)
    have again : ∀ {σ7 : St} {H7 : Hp}, Inv X (pins ++ pinsAt fp s5.heap) σ7 H7 s7 → N σ7 H7 → ∃ m, m < n ∧ ∃ i σ' H', Inv X pins σ' H' s7 ∧ tn i s7.heap ∧ (∀ b ∈ fp, H' b = none) ∧ W i m σ' H' := fun {σ7 H7} I7 n7 => by
      obtain ⟨m', hm, w7⟩ := hN σ7 H7 n7
      refine ⟨m', hm, i + 1, σ7, H7, I7.unpinned, T.keep _ _ _ st5 fun b hb o e => (I7.pin (b, o) (List.mem_append_right _ (List.mem_append_right _ (mem_pinsAt hb e)))).1, fun b hb => ?_, w7⟩
      obtain ⟨o, e, d⟩ := T.obj _ _ st5 b hb
      exact (I7.pin (b, o) (List.mem_append_right _ (List.mem_append_right _ (mem_pinsAt hb e)))).2.1
    cases f with
    | next => obtain ⟨σ7, H7, I7, n7⟩ := q7; exact again I7 n7
    | cont => obtain ⟨σ7, H7, I7, n7⟩ := q7; exact again I7 n7
    | brk => obtain ⟨σ7, H7, I7, q7⟩ := q7; exact ⟨σ7, H7, I7.unpinned, q7⟩
    | ret v => obtain ⟨x7, σ7, H7, I7, r7, q7⟩ := q7; exact ⟨x7, σ7, H7, I7.unpinned, r7, q7⟩
end
theorem for_list {K : PySem.W.Frag} {a : Addr} {xs : List V} {g : TG} {tb : TS} {D : Ends} {σ : St} {H : Hp} (Pv : Nat → St → Hp → Prop) (h0 : Pv 0 σ H) (hl : ∀ i σ H, i ≤ xs.length → Pv i σ H → SqL K H a xs)
    (hs : ∀ i x σ H, xs[i]? = some x → Pv i σ H → g x σ H fun σ2 H2 => tb { D with nx := Pv (i + 1), ct := Pv (i + 1), bk := D.nx } σ2 H2) (hd : ∀ σ H, Pv xs.length σ H → D.nx σ H) :
    ∃ W : Nat → Nat → St → Hp → Prop, (∃ m, W 0 m σ H) ∧ ∀ i m σ H, W i m σ H →
      ((Itl K a).stop i H ∧ D.nx σ H) ∨ ((Itl K a).go i H ∧ ∃ N : St → Hp → Prop, (∀ σ' H', N σ' H' → ∃ m', m' < m ∧ W (i + 1) m' σ' H') ∧ ∀ x H', (Itl K a).yld i H x H' → g x σ H' fun σ2 H2 => tb { D with nx := N, ct := N, bk := D.nx } σ2 H2) := by
  refine ⟨fun i m σ H => m = xs.length - i ∧ i ≤ xs.length ∧ Pv i σ H, ⟨xs.length, by simp, Nat.zero_le _, h0⟩, ?_⟩
  rintro i m σ H ⟨rfl, hi, p⟩
  have q := hl i σ H hi p
  by_cases hlt : i < xs.length
  · refine .inr ⟨⟨xs, xs[i], q, by simp [hlt]⟩, Pv (i + 1), fun σ' H' p' => ⟨xs.length - (i + 1), by omega, rfl, hlt, p'⟩, fun x H' y => ?_⟩
    obtain ⟨e, y⟩ := y
    subst e
    exact hs i x σ _ (y xs q) p
  · have e : i = xs.length := by omega
    subst e
    exact .inl ⟨⟨xs, q, Nat.le_refl _⟩, hd σ H p⟩
theorem for_tup {K : PySem.W.Frag} {a : Addr} {xs : List V} {g : TG} {tb : TS} {D : Ends} {σ : St} {H : Hp} (Pv : Nat → St → Hp → Prop) (h0 : Pv 0 σ H) (hl : ∀ i σ H, i ≤ xs.length → Pv i σ H → SqT K H a xs)
    (hs : ∀ i x σ H, xs[i]? = some x → Pv i σ H → g x σ H fun σ2 H2 => tb { D with nx := Pv (i + 1), ct := Pv (i + 1), bk := D.nx } σ2 H2) (hd : ∀ σ H, Pv xs.length σ H → D.nx σ H) :
    ∃ W : Nat → Nat → St → Hp → Prop, (∃ m, W 0 m σ H) ∧ ∀ i m σ H, W i m σ H →
      ((Itt K a).stop i H ∧ D.nx σ H) ∨ ((Itt K a).go i H ∧ ∃ N : St → Hp → Prop, (∀ σ' H', N σ' H' → ∃ m', m' < m ∧ W (i + 1) m' σ' H') ∧ ∀ x H', (Itt K a).yld i H x H' → g x σ H' fun σ2 H2 => tb { D with nx := N, ct := N, bk := D.nx } σ2 H2) := by
  refine ⟨fun i m σ H => m = xs.length - i ∧ i ≤ xs.length ∧ Pv i σ H, ⟨xs.length, by simp, Nat.zero_le _, h0⟩, ?_⟩
  rintro i m σ H ⟨rfl, hi, p⟩
  have q := hl i σ H hi p
  by_cases hlt : i < xs.length
  · refine .inr ⟨⟨xs, xs[i], q, by simp [hlt]⟩, Pv (i + 1), fun σ' H' p' => ⟨xs.length - (i + 1), by omega, rfl, hlt, p'⟩, fun x H' y => ?_⟩
    obtain ⟨e, y⟩ := y
    subst e
    exact hs i x σ _ (y xs q) p
  · have e : i = xs.length := by omega
    subst e
    exact .inl ⟨⟨xs, q, Nat.le_refl _⟩, hd σ H p⟩
theorem for_range {lo : Int} {n : Nat} {g : TG} {tb : TS} {D : Ends} {σ : St} {H : Hp} (Pv : Nat → St → Hp → Prop) (h0 : Pv 0 σ H)
    (hs : ∀ i σ H, i < n → Pv i σ H → g (.int (lo + i)) σ H fun σ2 H2 => tb { D with nx := Pv (i + 1), ct := Pv (i + 1), bk := D.nx } σ2 H2) (hd : ∀ σ H, Pv n σ H → D.nx σ H) :
    ∃ W : Nat → Nat → St → Hp → Prop, (∃ m, W 0 m σ H) ∧ ∀ i m σ H, W i m σ H →
      ((Itr lo n).stop i H ∧ D.nx σ H) ∨ ((Itr lo n).go i H ∧ ∃ N : St → Hp → Prop, (∀ σ' H', N σ' H' → ∃ m', m' < m ∧ W (i + 1) m' σ' H') ∧ ∀ x H', (Itr lo n).yld i H x H' → g x σ H' fun σ2 H2 => tb { D with nx := N, ct := N, bk := D.nx } σ2 H2) := by
  refine ⟨fun i m σ H => m = n - i ∧ i ≤ n ∧ Pv i σ H, ⟨n, by simp, Nat.zero_le _, h0⟩, ?_⟩
  rintro i m σ H ⟨rfl, hi, p⟩
  by_cases hlt : i < n
  · refine .inr ⟨hlt, Pv (i + 1), fun σ' H' p' => ⟨n - (i + 1), by omega, rfl, hlt, p'⟩, fun x H' y => ?_⟩
    obtain ⟨e, y⟩ := y
    subst e y
    exact hs i σ _ hlt p
  · have e : i = n := by omega
    subst e
    exact .inl ⟨Nat.le_refl _, hd σ H p⟩
end L2
namespace L2
open PySem PySem.Spec PyProof.Rows
abbrev R2 := V → V → Hp → VK → Prop
def OpR (X : Cx) (f : Value → Value → Sem Value) (r : R2) : Prop :=
  ∀ (pins : List (Addr × Obj)) (s : Shared) (σ : St) (H : Hp) (x y : V) (v u : Value) (Q : VK), Inv X pins σ H s → RelV x v → RelV y u → r x y H Q →
    wpAny (model X.prog X.w) X.A (f v u) (EP X pins σ Q) X.xe s
def UnR (X : Cx) (f : Value → Sem Value) (r : V → Hp → VK → Prop) : Prop :=
  ∀ (pins : List (Addr × Obj)) (s : Shared) (σ : St) (H : Hp) (x : V) (v : Value) (Q : VK), Inv X pins σ H s → RelV x v → r x H Q →
    wpAny (model X.prog X.w) X.A (f v) (EP X pins σ Q) X.xe s
def CallR (X : Cx) (f : Value) (r : List V → Hp → VK → Prop) : Prop :=
  ∀ (pins : List (Addr × Obj)) (s : Shared) (σ : St) (H : Hp) (xs : List V) (us : List Value) (Q : VK), Inv X pins σ H s → Vals xs us → r xs H Q →
    wpAny (model X.prog X.w) X.A (call f us) (EP X pins σ Q) X.xe s
def tOp (r : R2) (ta tb : TE) : TE := fun σ H Q => ta σ H fun x H1 => tb σ H1 fun y H2 => r x y H2 Q
def tUn (r : V → Hp → VK → Prop) (ta : TE) : TE := fun σ H Q => ta σ H fun x H1 => r x H1 Q
inductive RIP (C : Int → Int → Prop) (g : Int → Int → V) (x : V) (y : V) (H : Hp) (Q : VK) : Prop
  | mk (i j : _) : (x = .int i) → (y = .int j) → (C i j) → (Q (g i j) H) → RIP C g x y H Q
def rI (C : Int → Int → Prop) (g : Int → Int → V) : R2 := fun x y H Q => RIP C g x y H Q
inductive RI0P (g : Int → Int → V) (x : V) (y : V) (H : Hp) (Q : VK) : Prop
  | mk (i j : _) : (x = .int i) → (y = .int j) → (Q (g i j) H) → RI0P g x y H Q
def rI0 (g : Int → Int → V) : R2 := fun x y H Q => RI0P g x y H Q
inductive RUP (g : Int → V) (x : V) (H : Hp) (Q : VK) : Prop
  | mk (i : _) : (x = .int i) → (Q (g i) H) → RUP g x H Q
def rU (g : Int → V) : V → Hp → VK → Prop := fun x H Q => RUP g x H Q
section
variable {X : Cx} {a b c : Expr} {ta tb tc : TE} {pos : Pos}
theorem binT (ha : PE X a ta) (hb : PE X b tb) {pins : List (Addr × Obj)} {s : Shared} {σ : St} {H : Hp} {R : V → V → Hp → Prop} (I : Inv X pins σ H s)
    (h : ta σ H fun x H1 => tb σ H1 fun y H2 => R x y H2) {Q : Value → Shared → Prop} {f : Value → Value → Sem Value}
    (hf : ∀ v u s2 x y H2, Inv X pins σ H2 s2 → RelV x v → RelV y u → R x y H2 → wpAny (model X.prog X.w) X.A (f v u) Q X.xe s2) :
    wpAny (model X.prog X.w) X.A (eval a X.env) (fun v s₁ => wpAny (model X.prog X.w) X.A (eval b X.env) (fun u s₂ => wpAny (model X.prog X.w) X.A (f v u) Q X.xe s₂) X.xe s₁) X.xe s := by
  refine thn (ha pins s σ H _ I h) fun v s1 ⟨x, H1, I1, r1, q1⟩ => ?_
  refine thn (hb pins s1 σ H1 _ I1 q1) fun u s2 ⟨y, H2, I2, r2, q2⟩ => ?_
  exact hf v u s2 x y H2 I2 r1 r2 q2
theorem pe_op {op : Operator} {r : R2} (ho : OpR X (binaryOp op) r) (ha : PE X a ta) (hb : PE X b tb) : PE X (.BinOp a op b pos) (tOp r ta tb) := by
  intro pins s σ H Q I h
  exact wpAny_BinOp (binT ha hb I h fun v u s2 x y H2 I2 rx ry q => ho pins s2 σ H2 x y v u Q I2 rx ry q)
theorem pe_un {op : UnaryOp} {r : V → Hp → VK → Prop} (ho : UnR X (unaryOp op) r) (ha : PE X a ta) : PE X (.UnaryOp op a pos) (tUn r ta) := by
  intro pins s σ H Q I h
  exact UnaryOp_ (thn (ha pins s σ H _ I h) fun v s1 ⟨x, H1, I1, r1, q1⟩ => ho pins s1 σ H1 x v Q I1 r1 q1)
theorem opI {f : Value → Value → Sem Value} {C : Int → Int → Prop} {g : Int → Int → Int}
    (rule : ∀ (i j : Int) (t u : Tok) (s : Shared) (Q : Value → Shared → Prop) (E : Value → Shared → Prop), C i j → Q (.int (g i j) s.toks) { s with toks := s.toks + 1 } → wpAny (model X.prog X.w) X.A (f (.int i t) (.int j u)) Q E s) :
    OpR X f (rI C fun i j => .int (g i j)) := by
  intro pins s σ H x y v u Q I rx ry h
  obtain ⟨i, j, rfl, rfl, hc, q⟩ := h
  obtain ⟨t, rfl⟩ := rx
  obtain ⟨t', rfl⟩ := ry
  exact rule i j t t' s _ _ hc ⟨.int (g i j), H, I.tok _, ⟨_, rfl⟩, q⟩
theorem opI0 {f : Value → Value → Sem Value} {g : Int → Int → Int}
    (rule : ∀ (i j : Int) (t u : Tok) (s : Shared) (Q : Value → Shared → Prop) (E : Value → Shared → Prop), Q (.int (g i j) s.toks) { s with toks := s.toks + 1 } → wpAny (model X.prog X.w) X.A (f (.int i t) (.int j u)) Q E s) :
    OpR X f (rI0 fun i j => .int (g i j)) := by
  intro pins s σ H x y v u Q I rx ry h
  obtain ⟨i, j, rfl, rfl, q⟩ := h
  obtain ⟨t, rfl⟩ := rx
  obtain ⟨t', rfl⟩ := ry
  exact rule i j t t' s _ _ ⟨.int (g i j), H, I.tok _, ⟨_, rfl⟩, q⟩
theorem opB0 {f : Value → Value → Sem Value} {g : Int → Int → Bool}
    (rule : ∀ (i j : Int) (t u : Tok) (s : Shared) (Q : Value → Shared → Prop) (E : Value → Shared → Prop), Q (.bool (g i j)) s → wpAny (model X.prog X.w) X.A (f (.int i t) (.int j u)) Q E s) :
    OpR X f (rI0 fun i j => .bl (g i j)) := by
  intro pins s σ H x y v u Q I rx ry h
  obtain ⟨i, j, rfl, rfl, q⟩ := h
  obtain ⟨t, rfl⟩ := rx
  obtain ⟨t', rfl⟩ := ry
  exact rule i j t t' s _ _ ⟨.bl (g i j), H, I, rfl, q⟩
def CDiv (i j : Int) : Prop := 0 < j ∧ j < 1073741824
def CPow (i j : Int) : Prop := 0 ≤ j ∧ j ≤ 1000000 ∧ i.natAbs < 2 ^ 64
def CMul (i j : Int) : Prop := (-(2 ^ 64) < i ∧ i < 2 ^ 64) ∨ (-(2 ^ 64) < j ∧ j < 2 ^ 64)
theorem CMul.ok {i j : Int} (h : CMul i j) : IntMulOk i j := by
  rcases h with ⟨h1, h2⟩ | ⟨h1, h2⟩
  · exact .of_left (intBits_le_64 h1 h2)
  · exact .of_right (intBits_le_64 h1 h2)
theorem op_add : OpR X (binaryOp .Add) (rI0 fun i j => .int (i + j)) := opI0 fun _ _ _ _ _ _ _ q => add_int q
theorem op_sub : OpR X (binaryOp .Sub) (rI0 fun i j => .int (i - j)) := opI0 fun _ _ _ _ _ _ _ q => sub_int q
theorem op_mul : OpR X (binaryOp .Mult) (rI CMul fun i j => .int (i * j)) := opI fun _ _ _ _ _ _ _ hc q => mul_int q hc.ok
theorem op_fdiv : OpR X (binaryOp .FloorDiv) (rI CDiv fun i j => .int (i / j)) := opI fun i j _ _ _ _ _ hc q => by
  have h1 : (0 : Int) < j := hc.1
  have h2 : j < 1073741824 := hc.2
  exact floordiv_int (by omega) (by rw [Int.fdiv_eq_ediv_of_nonneg i (by omega)]; exact q) (.inl (PyProof.noPylong_small (by omega)))
theorem op_mod : OpR X (binaryOp .Mod) (rI (fun _ j => 0 < j) fun i j => .int (i % j)) := opI fun i j _ _ _ _ _ hc q => by
  have h1 : (0 : Int) < j := hc
  exact mod_int' (by omega) (by rw [Int.fmod_eq_emod_of_nonneg i (by omega)]; exact q)
theorem op_pow : OpR X (binaryOp .Pow) (rI CPow fun i j => .int (i ^ j.toNat)) := opI fun _ _ _ _ _ _ _ hc q => pow_int_small hc.1 hc.2.1 hc.2.2 q
theorem unI {f : Value → Sem Value} {g : Int → Int}
    (rule : ∀ (i : Int) (t : Tok) (s : Shared) (Q : Value → Shared → Prop) (E : Value → Shared → Prop), Q (.int (g i) s.toks) { s with toks := s.toks + 1 } → wpAny (model X.prog X.w) X.A (f (.int i t)) Q E s) :
    UnR X f (rU fun i => .int (g i)) := by
  intro pins s σ H x v Q I rx h
  obtain ⟨i, rfl, q⟩ := h
  obtain ⟨t, rfl⟩ := rx
  exact rule i t s _ _ ⟨.int (g i), H, I.tok _, ⟨_, rfl⟩, q⟩
theorem un_neg : UnR X (unaryOp .USub) (rU fun i => .int (-i)) := unI fun _ _ _ _ _ q => neg_int q
end
def scal : V → V → Bool
  | .non, .non => true | .non, .int _ => true | .int _, .non => true | .non, .bl _ => true | .bl _, .non => true | .non, .str _ => true | .str _, .non => true
  | .int _, .int _ => true | .bl _, .bl _ => true | .str _, .str _ => true | .byt _, .byt _ => true
  | .int _, .str _ => true | .str _, .int _ => true | .bl _, .str _ => true | .str _, .bl _ => true
  | _, _ => false
def rEq : R2 := fun x y H Q => scal x y = true ∧ Q (.bl (decide (x = y))) H
def rNe : R2 := fun x y H Q => scal x y = true ∧ Q (.bl (!decide (x = y))) H
theorem dec_int {i j : Int} : decide (V.int i = V.int j) = (i == j) := by
  rw [Bool.eq_iff_iff]
  simp
theorem dec_bl {i j : Bool} : decide (V.bl i = V.bl j) = (i == j) := by
  rw [Bool.eq_iff_iff]
  simp
theorem dec_str {i j : Str} : decide (V.str i = V.str j) = (i == j) := by
  rw [Bool.eq_iff_iff]
  simp
theorem dec_byt {i j : Array UInt8} : decide (V.byt i = V.byt j) = (i.toList == j.toList) := by
  rw [Bool.eq_iff_iff]
  cases i
  cases j
  simp
section
variable {X : Cx} {a b c : Expr} {ta tb tc : TE} {pos : Pos}
theorem fin_bl {pins : List (Addr × Obj)} {σ : St} {H : Hp} {s : Shared} {Q : VK} {k k' : Bool} (I : Inv X pins σ H s) (q : Q (.bl k) H) (e : k = k') : EP X pins σ Q (.bool k') s := by
  subst e
  exact ⟨.bl k, H, I, rfl, q⟩
theorem op_eq : OpR X (compareOp .Eq) rEq := by
  intro pins s σ H x y v u Q I rx ry h
  obtain ⟨hs, q⟩ := h
  cases x with
  | non =>
    cases rx
    cases y with
    | non => cases ry; exact PySem.EqNone.eq_none_none (fin_bl I q (by simp))
    | bl j => cases ry; exact PySem.EqNone.eq_none_bool (fin_bl I q (by simp))
    | int j => obtain ⟨t', rfl⟩ := ry; exact PySem.EqNone.eq_none_int (fin_bl I q (by simp))
    | str j => obtain ⟨t', rfl⟩ := ry; exact PySem.EqNone.eq_none_str (fin_bl I q (by simp))
    | _ => exact absurd (show false = true from hs) Bool.false_ne_true
  | bl i =>
    cases rx
    cases y with
    | non => cases ry; exact PySem.EqNone.eq_bool_none (fin_bl I q (by simp))
    | bl j => cases ry; exact eq_bool (fin_bl I q dec_bl)
    | str j => obtain ⟨t', rfl⟩ := ry; exact PySem.EqMixed.eq_bool_str (fin_bl I q (by simp))
    | _ => exact absurd (show false = true from hs) Bool.false_ne_true
  | int i =>
    obtain ⟨t, rfl⟩ := rx
    cases y with
    | non => cases ry; exact PySem.EqNone.eq_int_none (fin_bl I q (by simp))
    | int j => obtain ⟨t', rfl⟩ := ry; exact eq_int (fin_bl I q dec_int)
    | str j => obtain ⟨t', rfl⟩ := ry; exact PySem.EqMixed.eq_int_str (fin_bl I q (by simp))
    | _ => exact absurd (show false = true from hs) Bool.false_ne_true
  | str i =>
    obtain ⟨t, rfl⟩ := rx
    cases y with
    | non => cases ry; exact PySem.EqNone.eq_str_none (fin_bl I q (by simp))
    | bl j => cases ry; exact PySem.EqMixed.eq_str_bool (fin_bl I q (by simp))
    | int j => obtain ⟨t', rfl⟩ := ry; exact PySem.EqMixed.eq_str_int (fin_bl I q (by simp))
    | str j => obtain ⟨t', rfl⟩ := ry; exact eq_str (fin_bl I q dec_str)
    | _ => exact absurd (show false = true from hs) Bool.false_ne_true
  | byt i =>
    obtain ⟨t, rfl⟩ := rx
    cases y with
    | byt j => obtain ⟨t', rfl⟩ := ry; exact PySem.W.eq_bytes (fin_bl I q dec_byt)
    | _ => exact absurd (show false = true from hs) Bool.false_ne_true
  | _ => cases y <;> exact absurd (show false = true from hs) Bool.false_ne_true
theorem op_ne : OpR X (compareOp .NotEq) rNe := by
  intro pins s σ H x y v u Q I rx ry h
  obtain ⟨hs, q⟩ := h
  cases x with
  | non =>
    cases rx
    cases y with
    | non => cases ry; exact PySem.EqNone.ne_none_none (fin_bl I q (by simp))
    | bl j => cases ry; exact PySem.EqNone.ne_none_bool (fin_bl I q (by simp))
    | int j => obtain ⟨t', rfl⟩ := ry; exact PySem.EqNone.ne_none_int (fin_bl I q (by simp))
    | str j => obtain ⟨t', rfl⟩ := ry; exact PySem.EqNone.ne_none_str (fin_bl I q (by simp))
    | _ => exact absurd (show false = true from hs) Bool.false_ne_true
  | bl i =>
    cases rx
    cases y with
    | non => cases ry; exact PySem.EqNone.ne_bool_none (fin_bl I q (by simp))
    | bl j => cases ry; exact ne_bool (fin_bl I q (congrArg not dec_bl))
    | str j => obtain ⟨t', rfl⟩ := ry; exact PySem.EqMixed.ne_bool_str (fin_bl I q (by simp))
    | _ => exact absurd (show false = true from hs) Bool.false_ne_true
  | int i =>
    obtain ⟨t, rfl⟩ := rx
    cases y with
    | non => cases ry; exact PySem.EqNone.ne_int_none (fin_bl I q (by simp))
    | int j => obtain ⟨t', rfl⟩ := ry; exact ne_int (fin_bl I q (congrArg not dec_int))
    | str j => obtain ⟨t', rfl⟩ := ry; exact PySem.EqMixed.ne_int_str (fin_bl I q (by simp))
    | _ => exact absurd (show false = true from hs) Bool.false_ne_true
  | str i =>
    obtain ⟨t, rfl⟩ := rx
    cases y with
    | non => cases ry; exact PySem.EqNone.ne_str_none (fin_bl I q (by simp))
    | bl j => cases ry; exact PySem.EqMixed.ne_str_bool (fin_bl I q (by simp))
    | int j => obtain ⟨t', rfl⟩ := ry; exact PySem.EqMixed.ne_str_int (fin_bl I q (by simp))
    | str j => obtain ⟨t', rfl⟩ := ry; exact ne_str (fin_bl I q (congrArg not dec_str))
    | _ => exact absurd (show false = true from hs) Bool.false_ne_true
  | byt i =>
    obtain ⟨t, rfl⟩ := rx
    cases y with
    | byt j => obtain ⟨t', rfl⟩ := ry; exact PySem.W.ne_bytes (fin_bl I q (congrArg not dec_byt))
    | _ => exact absurd (show false = true from hs) Bool.false_ne_true
  | _ => cases y <;> exact absurd (show false = true from hs) Bool.false_ne_true
theorem op_lt : OpR X (compareOp .Lt) (rI0 fun i j => .bl (decide (i < j))) := opB0 fun _ _ _ _ _ _ _ q => lt_int q
theorem op_le : OpR X (compareOp .LtE) (rI0 fun i j => .bl (decide (i ≤ j))) := opB0 fun _ _ _ _ _ _ _ q => le_int q
theorem op_gt : OpR X (compareOp .Gt) (rI0 fun i j => .bl (decide (j < i))) := opB0 fun _ _ _ _ _ _ _ q => gt_int q
theorem op_ge : OpR X (compareOp .GtE) (rI0 fun i j => .bl (decide (j ≤ i))) := opB0 fun _ _ _ _ _ _ _ q => ge_int q
theorem op_notN : OpR X (compareOp .IsNot) (fun x y H Q => y = .non ∧ Q (.bl (!decide (x = .non))) H) := by
  intro pins s σ H x y v u Q I rx ry h
  obtain ⟨rfl, q⟩ := h
  cases ry
  refine isnot_none_gen (fin_bl I q ?_)
  cases x <;> first
    | (cases rx; rfl)
    | (obtain ⟨t, rfl⟩ := rx; rfl)
theorem nomark (b : Expr) {op : CmpOp} (h : op ≠ .In := by decide) (h2 : op ≠ .NotIn := by decide) : behindInMarks op b = false := by
  have e1 : (op == CmpOp.In) = false := by cases op <;> first | rfl | exact absurd rfl h
  have e2 : (op == CmpOp.NotIn) = false := by cases op <;> first | rfl | exact absurd rfl h2
  cases b <;> simp [behindInMarks, e1, e2]
theorem pe_cmpR {op : CmpOp} {r : R2} (ho : OpR X (compareOp op) r) (ha : PE X a ta) (hb : PE X b tb) (hm : behindInMarks op b = false) : PE X (.Compare a [op] [b] pos) (tOp r ta tb) := by
  intro pins s σ H Q I h
  exact wpAny_Compare1 (binT ha hb I h fun v u s2 x y H2 I2 rx ry q => ho pins s2 σ H2 x y v u Q I2 rx ry q) hm
def tTest (t : TE) : TT := fun σ H Q => t σ H fun x H' => BlP x H' Q
theorem pt_cmpR {op : CmpOp} {r : R2} (ho : OpR X (compareOp op) r) (ha : PE X a ta) (hb : PE X b tb) (hm : behindInMarks op b = false) : PT X (.Compare a [op] [b] pos) (tTest (tOp r ta tb)) := by
  intro pins s σ H Q I h
  refine wpAny_isTrue_Compare1 (thn (ha pins s σ H _ I h) fun v s1 ⟨x, H1, I1, r1, q1⟩ => thn (hb pins s1 σ H1 _ I1 q1) fun u s2 ⟨y, H2, I2, r2, q2⟩ =>
    thn (ho pins s2 σ H2 x y v u _ I2 r1 r2 q2) fun c s3 ⟨z, H3, I3, r3, k, e, q3⟩ => ?_) hm
  subst e
  cases r3
  exact wpAny_truthy_bool ⟨H3, I3, q3⟩
theorem line63 : (sizeLine : Nat) < 2 ^ 63 := by rw [sizeLine_eq]; decide
theorem vals1 {x : V} {us : List Value} (r : Vals [x] us) : ∃ u, us = [u] ∧ RelV x u := by
  cases r with
  | cons r1 r2 => cases r2; exact ⟨_, rfl, r1⟩
theorem vals2 {x y : V} {us : List Value} (r : Vals [x, y] us) : ∃ u w', us = [u, w'] ∧ RelV x u ∧ RelV y w' := by
  cases r with
  | cons r1 r2 =>
    cases r2 with
    | cons r3 r4 => cases r4; exact ⟨_, _, rfl, r1, r3⟩
theorem call_max2 (hc : X.calm = true) : CallR X (.builtin "max") (fun xs H Q => ∃ i j, xs = [.int i, .int j] ∧ Q (.int (if j > i then j else i)) H) := by
  intro pins s σ H xs us Q I r h
  obtain ⟨i, j, rfl, q⟩ := h
  obtain ⟨u, w', rfl, ⟨t, rfl⟩, ⟨t', rfl⟩⟩ := vals2 r
  refine max_two_ints (I.ok.hd hc) fun h' tk k => ⟨_, H, I.kept k, ?_, q⟩
  by_cases hj : j > i
  · rw [if_pos hj, if_pos hj]; exact ⟨_, rfl⟩
  · rw [if_neg hj, if_neg hj]; exact ⟨_, rfl⟩
theorem call_min2 (hc : X.calm = true) : CallR X (.builtin "min") (fun xs H Q => ∃ i j, xs = [.int i, .int j] ∧ Q (.int (if j < i then j else i)) H) := by
  intro pins s σ H xs us Q I r h
  obtain ⟨i, j, rfl, q⟩ := h
  obtain ⟨u, w', rfl, ⟨t, rfl⟩, ⟨t', rfl⟩⟩ := vals2 r
  refine min_two_ints (I.ok.hd hc) fun h' tk k => ⟨_, H, I.kept k, ?_, q⟩
  by_cases hj : j < i
  · rw [if_pos hj, if_pos hj]; exact ⟨_, rfl⟩
  · rw [if_neg hj, if_neg hj]; exact ⟨_, rfl⟩
end
end L2
namespace L2
open PySem PySem.Spec PyProof.Rows
structure ObjM (h : Heap) (x dx C : Addr) (mA : Str → Option Value) : Prop where
  obj : h.get? x = some (PySem.W.instObj C dx)
  ns : h.Ns1 dx mA
  ne : dx ≠ x
theorem lookIn_ns {h : Heap} {dx : Addr} {mA : Str → Option Value} (n : h.Ns1 dx mA) : ∃ od, h.get? dx = some od ∧ ∀ name, PySem.W.lookIn name od = some (mA name) := by
  obtain ⟨o, es, ep, ho, hd, hk, _, hm⟩ := n
  refine ⟨o, ho, fun name => ?_⟩
  have e := hm name
  unfold nsFind findBy at e
  rw [← Array.find?_toList] at e
  unfold PySem.W.lookIn
  rw [hd]
  dsimp only
  split
  · rename_i y q
    rw [q] at e
    exact congrArg some e
  · rename_i q
    rw [q] at e
    have a : es.toList.any (·.refKey) = false := by
      rw [List.any_eq_false]
      intro y hy
      obtain ⟨z, t, hkey⟩ := hk y (Array.mem_toList_iff.mp hy)
      simp [DictEntry.refKey, hkey]
    have a' : ¬ es.toList.any (·.refKey) = true := by rw [a]; exact Bool.false_ne_true
    rw [if_neg a']
    exact congrArg some e
theorem ObjM.look {h : Heap} {x dx C : Addr} {mA : Str → Option Value} (I : ObjM h x dx C mA) : ∃ od, PySem.W.InstAt h x (PySem.W.instObj C dx) C (some od) ∧ ∀ name, PySem.W.lookIn name od = some (mA name) :=
  let ⟨od, ho, hl⟩ := lookIn_ns I.ns
  ⟨od, ⟨I.obj, rfl, rfl, ho⟩, hl⟩
theorem RelO.some_of {v : V} {o : Option Value} (r : RelO (some v) o) : ∃ u, o = some u ∧ RelV v u := by
  cases o with
  | none => exact (show False from r).elim
  | some u => exact ⟨u, rfl, r⟩
section
variable {P : Program} {w : World} {H H' : Hp} {h h' : Heap} {a C dx : Addr} {fs fs' : List (Str × V)}
theorem ins_get (hok : HOk P w H h) (e : H a = some (.ins C dx fs)) : ∃ mA, ObjM h a dx C mA ∧ (∀ f, RelO (fs.lookup f) (mA f)) ∧ PySem.Within mA (fs.map (·.1)) ∧ fs.length ≤ 1000 ∧ H dx = some (.own a) := by
  obtain ⟨d, z, ne, ob, mA, n, r, q⟩ := (show ObjOk P w H h a (.ins C dx fs) from hok a _ e)
  exact ⟨mA, ⟨ob, n, ne⟩, r, q, z, d⟩
end
structure Cls (K : PySem.W.Frag) (C : Addr) : Prop where
  pg : PySem.W.plainGet K C Str.empty = true
  hd : PySem.W.hasDictIn K C = true
  po : PySem.W.plainOver K C = true
  sa : PySem.W.findIn K (.ref C) "__setattr__" = some (some (.builtin "object.__setattr__"))
theorem Cls.get {K : PySem.W.Frag} {C : Addr} (c : Cls K C) (f : Str) : PySem.W.plainGet K C f = true := c.pg
section
variable {X : Cx} {pins : List (Addr × Obj)} {σ : St} {H : Hp} {s : Shared} {A : Around} {E : Value → Shared → Prop} {Q : Value → Shared → Prop} {c : Value} {b : Bool}
inductive TyOf (K : PySem.W.Frag) (H : Hp) : V → Value → Prop where
  | non : TyOf K H .non (.type "NoneType")
  | bl (x : Bool) : TyOf K H (.bl x) (.type "bool")
  | int (i : Int) : TyOf K H (.int i) (.type "int")
  | str (x : Str) : TyOf K H (.str x) (.type "str")
  | flt (x : UInt64) : TyOf K H (.flt x) (.type "float")
  | lst {a : Addr} {xs : List V} (e : H a = some (.lst xs)) : TyOf K H (.ref a) (.type "list")
  | frz {a : Addr} {o : Obj} {xs : List V} (e : H a = some (.frz o (.lst xs))) : TyOf K H (.ref a) (.type "list")
  | tup {a : Addr} {xs : List V} (e : H a = some (.tup xs)) : TyOf K H (.ref a) (.type "tuple")
  | dK {a : Addr} {kvs : List (Key × V)} (e : H a = some (.dK kvs)) : TyOf K H (.ref a) (.type "dict")
  | dT {a : Addr} {kvs : List (List Key × V)} (e : H a = some (.dT kvs)) : TyOf K H (.ref a) (.type "dict")
  | ins {a C dx : Addr} {fs : List (Str × V)} (e : H a = some (.ins C dx fs)) (cl : Cls K C) (ha : PySem.W.findIn K (.ref C) "__class__" = some (some (.builtin "object.__class__")))
      (hn : PySem.W.specialIn K (.builtin "object.__class__") "__get__" = some (some (.builtin "getset_descriptor.__get__"))) (htk : PySem.W.takesIn K (.builtin "object.__class__") = some true)
      (hm : PySem.W.mroIn K C (.type "object") = some true) : TyOf K H (.ref a) (.ref C)
theorem isinst_ok {x : V} {u t : Value} (I : Inv X pins σ H s) (rx : RelV x u) (ty : TyOf X.K H x t) (e : PySem.W.kitOne X.K t c = some b) (h : ∀ tk, Q (.bool b) { s with toks := tk }) :
    wpAny (model X.prog X.w) A (call (.builtin "isinstance") [u, c]) Q E s := by
  cases ty with
  | non => cases (show u = Value.none from rx); exact PySem.W.kia_one PySem.W.kitx_none I.kIn True.intro e (fun z => nomatch z) h
  | bl y => cases (show u = Value.bool y from rx); exact PySem.W.kia_one PySem.W.kitx_bool I.kIn True.intro e (fun z => nomatch z) h
  | int i => obtain ⟨t, q⟩ := (show ∃ t, u = Value.int i t from rx); cases q; exact PySem.W.kia_one PySem.W.kitx_int I.kIn True.intro e (fun z => nomatch z) h
  | str y => obtain ⟨t, q⟩ := (show ∃ t, u = Value.str y t from rx); cases q; exact PySem.W.kia_one PySem.W.kitx_str I.kIn True.intro e (fun z => nomatch z) h
  | flt y => obtain ⟨t, q⟩ := (show ∃ t, u = Value.float y t from rx); cases q; exact PySem.W.kia_one PySem.W.kitx_float I.kIn True.intro e (fun z => nomatch z) h
  | @lst a xs ea =>
    cases (show u = Value.ref a from rx)
    obtain ⟨_, _, n, _, h1⟩ := (show ObjOk X.prog X.w H s.heap a (.lst xs) from I.hok a _ ea)
    exact PySem.W.kia_one PySem.W.kitx_list I.kIn ⟨_, h1, rfl⟩ e (fun z => nomatch z) h
  | @frz a ob xs ea =>
    cases (show u = Value.ref a from rx)
    obtain ⟨_, _, _, n, _, h1⟩ := (show ObjOk X.prog X.w H s.heap a (.frz ob (.lst xs)) from I.hok a _ ea)
    exact PySem.W.kia_one PySem.W.kitx_list I.kIn ⟨_, h1, rfl⟩ e (fun z => nomatch z) h
  | @tup a xs ea =>
    cases (show u = Value.ref a from rx)
    obtain ⟨_, _, _, p⟩ := (show ObjOk X.prog X.w H s.heap a (.tup xs) from I.hok a _ ea)
    obtain ⟨o, h1, h2, _⟩ := p
    exact PySem.W.kia_one PySem.W.kitx_tuple I.kIn ⟨o, h1, h2⟩ e (fun z => nomatch z) h
  | @dK a kvs ea =>
    cases (show u = Value.ref a from rx)
    obtain ⟨_, _, vs, _, p⟩ := (show ObjOk X.prog X.w H s.heap a (.dK kvs) from I.hok a _ ea)
    obtain ⟨o, es, ep, h1, h2, _⟩ := p
    exact PySem.W.kia_one PySem.W.kitx_dict I.kIn ⟨o, h1, h2.1⟩ e (fun z => nomatch z) h
  | @dT a kvs ea =>
    cases (show u = Value.ref a from rx)
    obtain ⟨_, _, xs, _, o, es, ep, h1, h2, _⟩ := (show ObjOk X.prog X.w H s.heap a (.dT kvs) from I.hok a _ ea)
    exact PySem.W.kia_one PySem.W.kitx_dict I.kIn ⟨o, h1, h2.1⟩ e (fun z => nomatch z) h
  | @ins a C dx fs ea cl ha hn htk hm =>
    cases (show u = Value.ref a from rx)
    obtain ⟨mA, O, _⟩ := ins_get I.hok ea
    obtain ⟨od, J, _⟩ := O.look
    exact PySem.W.kia_one (PySem.W.kitx_own (cl.get _) cl.hd ha hn htk hm) I.kIn J e (fun z => nomatch z) h
end
end L2
namespace L2
open PySem PySem.Spec PyProof.Rows
structure Room (k : Nat) (A : Around) : Prop where
  hd : A.handled = none
  dp : A.depth + 3 * k + 5 < recursionLimit
  un : A.units + 16 * k + 200 < cLine
  gd : A.guards = some []
theorem Room.mono {j k : Nat} {A : Around} (r : Room k A) (h : j ≤ k) : Room j A := ⟨r.hd, by have := r.dp; omega, by have := r.un; omega, r.gd⟩
theorem Room.deeper {k : Nat} {A : Around} (r : Room (k + 1) A) (env : Env) : Room k (A.deeper env) :=
  ⟨r.hd, by have := r.dp; show A.depth + 1 + 3 * k + 5 < _; omega, by have := r.un; show A.units + 3 + 16 * k + 200 < _; omega, by show pushGuards [] A.guards = some []; rw [r.gd]; rfl⟩
theorem Room.depth {k : Nat} {A : Around} (r : Room k A) : A.depth < recursionLimit := by have := r.dp; omega
theorem Room.units {k : Nat} {A : Around} (r : Room k A) : A.units + 64 < cLine := by have := r.un; omega
def tNil : TA := fun _ H Q => Q [] H
def tCons (ta : TE) (tr : TA) : TA := fun σ H Q => ta σ H fun x H1 => tr σ H1 fun xs H2 => Q (x :: xs) H2
section
variable {X : Cx} {e : Expr} {es : List Expr} {te : TE} {t : TA} {pos : Pos}
theorem pa_nil : PA X [] tNil := fun _ _ _ _ H Q I h => Calls.spliced_nil ⟨[], H, I, .nil, h⟩
theorem pa_cons (ha : PE X e te) (hr : PA X es t) (hs : starEach (e :: es) X.env = (false, eval e X.env) :: starEach es X.env := by rfl) : PA X (e :: es) (tCons te t) := by
  intro pos pins s σ H Q I h
  rw [hs]
  show wpAny _ _ (spliced ((false, eval e X.env) :: backTo pos (starEach es X.env))) _ _ s
  refine Calls.spliced_cons (thn (ha pins s σ H _ I h) fun u s1 ⟨x, H1, I1, r1, q1⟩ => ?_)
  exact thn (hr pos pins s1 σ H1 _ I1 q1) fun us s2 ⟨xs, H2, I2, r2, q2⟩ => ⟨x :: xs, H2, I2, .cons r1 r2, q2⟩
def tTup (t : TA) : TE := fun σ H Q => t σ H fun xs H1 => xs.length ≤ sizeLine ∧ ∀ p, H1 p = none → Q (.ref p) (upd H1 p (.tup xs))
def tLst (t : TA) : TE := fun σ H Q => t σ H fun xs H1 => xs.length ≤ sizeLine ∧ ∀ p, H1 p = none → Q (.ref p) (upd H1 p (.lst xs))
theorem pe_tup {x1} (h : PA X es t) : PE X (.Tuple es x1 pos) (tTup t) := by
  intro pins s σ H Q I hq
  refine wpAny_Tuple_spliced (thn (h pos pins s σ H _ I hq) fun us s1 ⟨xs, H1, I1, r, z, q⟩ => ⟨by rw [← r.length]; exact z, ?_⟩)
  have hf : H1 s1.heap.objs.size = none := I1.hok.fresh (Nat.le_refl _)
  refine ⟨.ref s1.heap.objs.size, upd H1 s1.heap.objs.size (.tup xs), I1.laid (t' := s1.toks) (fun b u e => Heap.get?_push_of_some _ e) (Nat.le_refl _) ?_, rfl, q _ hf⟩
  exact ⟨z, us, r, IsTupN.new _ _⟩
theorem pe_lst (h : PA X es t) : PE X (.List es pos) (tLst t) := by
  intro pins s σ H Q I hq
  refine wpAny_List_spliced (thn (h pos pins s σ H _ I hq) fun us s1 ⟨xs, H1, I1, r, z, q⟩ => ⟨by rw [← r.length]; exact z, ?_⟩)
  have hf : H1 s1.heap.objs.size = none := I1.hok.fresh (Nat.le_refl _)
  refine ⟨.ref s1.heap.objs.size, upd H1 s1.heap.objs.size (.lst xs), I1.laid (t' := s1.toks) (fun b u e => Heap.get?_push_of_some _ e) (Nat.le_refl _) ?_, rfl, q _ hf⟩
  exact ⟨z, us, 0, r, Heap.get?_push_size _ rfl⟩
end
abbrev Sp := List V → Hp → VK → XK → Prop
abbrev CXT := List Env → Hp → Shared → XK → Value → Shared → Prop
structure Env0 (P : Program) (w : World) (K : PySem.W.Frag) (mg : Str → Option Value) (base : Heap) (A : Around) (outer : List Env) (s : Shared) (H : Hp) : Prop where
  frames : A.frames = some outer
  mod : Mod K mg base
  bs : ∀ b o, base.get? b = some o → s.heap.get? b = some o ∧ H b = none
  bsz : base.objs.size ≤ s.heap.objs.size
  funs : s.heap.FunFrames base outer
  frf : ∀ b ∈ frs outer, H b = none
  hok : HOk P w H s.heap
  bare : AllBare s.gens
def CE (outer : List Env) (P : Program) (w : World) (H : Hp) (s : Shared) (Q : VK) (u : Value) (s' : Shared) : Prop :=
  ∃ v H', s'.os = s.os ∧ AllBare s'.gens ∧ Un (frs outer) [] H H' s.heap s'.heap ∧ HOk P w H' s'.heap ∧ RelV v u ∧ Q v H'
def CR (CX : CXT) (outer : List Env) (P : Program) (w : World) (H : Hp) (s : Shared) (Q : VK) (E : XK) (r : Result) (s' : Shared) : Prop :=
  match r with
  | .ok (.ret u) => CE outer P w H s Q u s'
  | .ok _ => False
  | .error e => CX outer H s E e s'
structure FnOk (P : Program) (w : World) (K : PySem.W.Frag) (mg : Str → Option Value) (base : Heap) (CX : CXT) (k : Nat) (f : Addr) (fd : FuncData) (ps : List Str) (sp : Sp) : Prop where
  len : ∀ vs H Q E, sp vs H Q E → vs.length = ps.length
  run : ∀ (A : Around) (outer : List Env) (s : Shared) (H : Hp) (args : Args) (us : List Value) (vs : List V) (Q : VK) (E : XK), Room k A → Env0 P w K mg base A outer s H → BindsTo s fd args (ps.zip us) → Vals vs us → sp vs H Q E →
    codeAny (model P w) A (.call (.ref f) args) (CR CX outer P w H s Q E) s
theorem FnOk.mono {P : Program} {w : World} {K : PySem.W.Frag} {mg : Str → Option Value} {base : Heap} {CX : CXT} {j k : Nat} {f : Addr} {fd : FuncData} {ps : List Str} {sp : Sp} (F : FnOk P w K mg base CX j f fd ps sp) (h : j ≤ k) :
    FnOk P w K mg base CX k f fd ps sp := ⟨F.len, fun A outer s H args us vs Q E hr => F.run A outer s H args us vs Q E (hr.mono h)⟩
section
variable {X : Cx} {pins : List (Addr × Obj)} {σ : St} {H : Hp} {s s' : Shared}
theorem Inv.env0 (I : Inv X pins σ H s) : Env0 X.prog X.w X.K X.mg X.base X.A X.stack s H :=
  ⟨I.ok.frames, I.ok.mod, I.bs, Nat.le_trans I.ok.bsz I.sz, I.stack, I.stkFree, I.hok, I.bare⟩
theorem Inv.after {Q : VK} {u : Value} (I : Inv X pins σ H s) (h : CE X.stack X.prog X.w H s Q u s') : EP X pins σ Q u s' := by
  obtain ⟨v, H', os, bare, un, hok, r, q⟩ := h
  obtain ⟨hh, g, d, t, os'⟩ := s'
  obtain rfl : os' = s.os := os
  exact ⟨v, H', I.call (h' := hh) (g' := g) (d' := d) (t' := t) (ch := []) un hok bare (fun b z => absurd z (by simp)), r, q⟩
end
def tCall (sp : Sp) (dvs : List V) (E : XK) (t : TA) : TE := fun σ H Q => t σ H fun vs H1 => sp (vs ++ dvs) H1 Q E
def Binds (K : PySem.W.Frag) (fd : FuncData) (ps : List Str) (ds : List Value) : Prop :=
  ∀ (s : Shared) (us : List Value), K.In s.heap → (us ++ ds).length = ps.length → BindsTo s fd ⟨us, []⟩ (ps.zip (us ++ ds))
theorem Binds.all {K : PySem.W.Frag} {fd : FuncData} {ps : List Str} (h : ∀ us : List Value, us.length = ps.length → bindArgs fd ⟨us, []⟩ = pure (ps.zip us)) : Binds K fd ps [] := fun s us _ hl => by
  rw [List.append_nil] at hl ⊢
  exact .of_eq (h us hl)
def Passes (CX : CXT) (X : Cx) (E : XK) : Prop := ∀ (pins : List (Addr × Obj)) (σ : St) (H : Hp) (s : Shared) (e : Value) (s' : Shared), Inv X pins σ H s → CX X.stack H s E e s' → X.xe e s'
section
variable {X : Cx} {CX : CXT} {k : Nat} {f C : Addr} {fd : FuncData} {ps : List Str} {sp : Sp} {dvs : List V} {ds : List Value} {E : XK} {x m : Str} {p pos apos : Pos} {e o : Expr} {es : List Expr} {ta : TE} {t : TA}
theorem run_fn {pins : List (Addr × Obj)} {σ : St} {H : Hp} {s : Shared} {Q : VK} {us : List Value} {vs : List V} (F : FnOk X.prog X.w X.K X.mg X.base CX k f fd ps sp) (hr : Room k X.A) (hb : Binds X.K fd ps ds) (hd : Vals dvs ds) (hx : Passes CX X E)
    (I : Inv X pins σ H s) (r : Vals vs us) (h : sp (vs ++ dvs) H Q E) : wpAny (model X.prog X.w) X.A (call (.ref f) us) (EP X pins σ Q) X.xe s := by
  have r2 : Vals (vs ++ dvs) (us ++ ds) := r.append hd
  have hl : (us ++ ds).length = ps.length := by rw [← r2.length]; exact F.len _ _ _ _ h
  refine wpAny_call (codeAny_mono (F.run X.A X.stack s H ⟨us, []⟩ (us ++ ds) (vs ++ dvs) Q E hr I.env0 (hb s us I.kIn hl) r2 h) fun r s' hq => ?_)
  cases r with
  | error e => exact hx pins σ H s e s' I hq
  | ok fl =>
    cases fl with
    | ret u => exact I.after hq
    | next => exact False.elim hq
    | brk => exact False.elim hq
    | cont => exact False.elim hq
theorem pe_call (F : FnOk X.prog X.w X.K X.mg X.base CX k f fd ps sp) (hr : Room k X.A) (hg : Gl X x) (hm : X.mg x = some (.ref f)) (hk : PySem.W.keepIn X.K (.ref f) = true) (hb : Binds X.K fd ps ds) (hd : Vals dvs ds) (hx : Passes CX X E)
    (ha : PA X (e :: es) t) (hdb : (x == ("__debug__" : Str)) = false := by decide) (he : starEach (e :: es) X.env = (false, eval e X.env) :: starEach es X.env := by rfl) (hpl : (backTo pos (starEach es X.env)).any (·.1) = false := by rfl) :
    PE X (.Call (.Name x p) (e :: es) [] pos) (tCall sp dvs E t) := by
  intro pins s σ H Q I h
  refine wpAny_Call_Name_kw (ld_glob I hg hm ?_ hdb)
  refine PySem.W.callWith_K (h₀ := X.base) I.ok.mod.kin hk (thn (ha pos pins s σ H _ I h) fun us s1 ⟨vs, H1, I1, r, q⟩ => ⟨I1.kIn, ?_⟩) he hpl
  exact run_fn F hr hb hd hx I1 r q
end
section
variable {X : Cx} {CX : CXT} {k : Nat} {f C : Addr} {fd : FuncData} {ps ks : List Str} {sp : Sp} {E : XK} {x m : Str} {p pos apos kpos : Pos} {e o : Expr} {es : List Expr} {kws : List Keyword} {te ta : TE} {t tk : TA} {nm : Option Str}
variable {g : List Value → List Value → List Value} {gV : List V → List V → List V}
end
structure FnScope (N P : List Str) (sc : Scope) : Prop where
  kind : sc.kind = .function
  co : sc.isCoroutine = false
  gen : sc.isGenerator = false
  nd : N.Nodup
  pre : N.take P.length = P
  par : ∀ x ∈ P, sc.names.lookup x = some .local ∨ sc.names.lookup x = some .cell
  nofree : ∀ y ∈ sc.names, y.2 ≠ .free
theorem bindL_out {kindOf : Str → Option NameKind} {x : Str} : ∀ {binds : List (Str × Value)} {m : Str → Option Value}, (∀ v, (x, v) ∉ binds) → bindL kindOf binds m x = m x
  | [], _, _ => rfl
  | (n, v) :: r, m, h => by
    unfold bindL
    rw [bindL_out fun w hw => h w (List.mem_cons_of_mem _ hw)]
    split
    · have : x ≠ n := by rintro rfl; exact h v List.mem_cons_self
      simp [this]
    · rfl
theorem bindC_out {kindOf : Str → Option NameKind} {x : Str} : ∀ {binds : List (Str × Value)} {m : Str → Option Value}, (∀ v, (x, v) ∉ binds) → bindC kindOf binds m x = m x
  | [], _, _ => rfl
  | (n, v) :: r, m, h => by
    unfold bindC
    rw [bindC_out fun w hw => h w (List.mem_cons_of_mem _ hw)]
    split
    · rfl
    · have : x ≠ n := by rintro rfl; exact h v List.mem_cons_self
      simp [this]
theorem bindL_get {kindOf : Str → Option NameKind} {x : Str} {v : Value} : ∀ {P : List Str} {vs : List Value} {i : Nat} {m : Str → Option Value}, P.Nodup → P[i]? = some x → vs[i]? = some v → kindOf x = some .local →
    bindL kindOf (P.zip vs) m x = some v
  | [], _, _, _, _, h, _, _ => by simp at h
  | _ :: _, [], _, _, _, _, h, _ => by simp at h
  | p :: P, w :: vs, 0, m, nd, h1, h2, hk => by
    simp at h1 h2; subst h1; subst h2
    show bindL kindOf ((p, w) :: P.zip vs) m p = _
    unfold bindL
    rw [bindL_out fun v hv => (List.nodup_cons.mp nd).1 (List.of_mem_zip hv).1, if_pos hk]
    simp
  | p :: P, w :: vs, i + 1, m, nd, h1, h2, hk => by
    show bindL kindOf ((p, w) :: P.zip vs) m x = _
    unfold bindL
    exact bindL_get (i := i) (List.nodup_cons.mp nd).2 (by simpa using h1) (by simpa using h2) hk
theorem bindC_get {kindOf : Str → Option NameKind} {x : Str} {v : Value} : ∀ {P : List Str} {vs : List Value} {i : Nat} {m : Str → Option Value}, P.Nodup → P[i]? = some x → vs[i]? = some v → kindOf x ≠ some .local →
    bindC kindOf (P.zip vs) m x = some v
  | [], _, _, _, _, h, _, _ => by simp at h
  | _ :: _, [], _, _, _, _, h, _ => by simp at h
  | p :: P, w :: vs, 0, m, nd, h1, h2, hk => by
    simp at h1 h2; subst h1; subst h2
    show bindC kindOf ((p, w) :: P.zip vs) m p = _
    unfold bindC
    rw [bindC_out fun v hv => (List.nodup_cons.mp nd).1 (List.of_mem_zip hv).1, if_neg hk]
    simp
  | p :: P, w :: vs, i + 1, m, nd, h1, h2, hk => by
    show bindC kindOf ((p, w) :: P.zip vs) m x = _
    unfold bindC
    exact bindC_get (i := i) (List.nodup_cons.mp nd).2 (by simpa using h1) (by simpa using h2) hk
def start (N : List Str) (vs : List V) : St := vs.map some ++ List.replicate (N.length - vs.length) none
def cxOf (CX : CXT) (P : Program) (w : World) (K : PySem.W.Frag) (mg : Str → Option Value) (base : Heap) (N : List Str) (qual : Str) (scope : Scope) (f : Addr) (cd : Value) (A : Around) (outer : List Env) (s : Shared) (H : Hp) (E : XK) : Cx where
  prog := P
  w := w
  K := K
  mg := mg
  base := base
  A := A.deeper (envOfC qual scope s.heap.objs.size f cd)
  N := N
  s₀ := s
  H₀ := H
  env := envOfC qual scope s.heap.objs.size f cd
  outer := outer
  stack := envOfC qual scope s.heap.objs.size f cd :: outer
  ex := []
  calm := true
  fn := fun _ => true
  pn := []
  xe := fun e s' => wpAny (model P w) (A.deeper (envOfC qual scope s.heap.objs.size f cd)) (leaving (envOfC qual scope s.heap.objs.size f cd) e) (fun _ s'' => CX outer H s E e s'') (fun e' s'' => CX outer H s E e' s'') s'
theorem cell_has {sc : Scope} {n : Nat} {x : Str} (h : sc.names.lookup x = some .cell) : ∃ c, (cellsFrom n sc.names []).lookup x = some c := by
  have q := PySem.W.cellsFrom_some sc.names n [] (.inl h)
  exact Option.isSome_iff_exists.mp q
theorem inv_start {CX : CXT} {P : Program} {w : World} {K : PySem.W.Frag} {mg : Str → Option Value} {base : Heap} {N ps : List Str} {qual : Str} {scope : Scope} {f : Addr} {cd : Value} {A : Around} {outer : List Env} {s s1 : Shared} {H : Hp} {E : XK} {us : List Value} {vs : List V}
    (S : FnScope N ps scope) (hd : A.handled = none) (e0 : Env0 P w K mg base A outer s H) (hl : vs.length = ps.length) (r : Vals vs us)
    (x : InCallC s s.heap.objs.size (bindL (envOfC qual scope s.heap.objs.size f cd).kindOf (ps.zip us) fun _ => none) (cellsFrom (s.heap.objs.size + 1) scope.names []) (bindC (envOfC qual scope s.heap.objs.size f cd).kindOf (ps.zip us) fun _ => none) s1) :
    Inv (cxOf CX P w K mg base N qual scope f cd A outer s H E) [] (start N vs) H s1 := by
  have hpl : ps.length ≤ N.length := by have := congrArg List.length S.pre; rw [List.length_take] at this; omega
  obtain ⟨h1, tk, rfl, hk⟩ := x.done
  have noA : ∀ b : Addr, b ∉ (cxOf CX P w K mg base N qual scope f cd A outer s H E).ex := fun b z => absurd (show b ∈ ([] : List Addr) from z) (by simp)
  refine ⟨⟨e0.mod, S.kind, rfl, rfl, Nat.le_refl _, fun y z c h1 h2 => ?_, fun y hy => ?_, fun y c _ h => ?_, fun _ => hd, Around.frames_deeper e0.frames, .inr ⟨rfl, rfl⟩, fun b z => absurd z (noA b), e0.bs, e0.bsz, fun b _ _ => noA b, fun b z => absurd z (noA b), e0.funs, e0.frf⟩,
    rfl, e0.bare, Un.kept hk, ⟨_, x.toInCall.ns, fun i y v h1 h2 h3 => ?_⟩, fun y c h => ⟨_, x.cell y c h⟩, e0.hok.fresh (Nat.le_refl _), fun y c h => ?_, fun p hp => absurd (show p ∈ ([] : List (Addr × Obj)) from hp) (by simp), e0.hok.kept hk, ?_⟩
  · exact name_of_addr x.apart (PySem.mem_of_lookup h1) (PySem.mem_of_lookup h2)
  · have hy : scope.names.lookup y = some .cell ∨ scope.names.lookup y = some .free := hy
    rcases hy with hy | hy
    · exact cell_has hy
    · exact absurd rfl (S.nofree _ (PySem.mem_of_lookup hy))
  · exact Nat.le_of_lt (x.above y c (PySem.mem_of_lookup h))
  · have hi : i < vs.length := by
      unfold start at h2
      by_cases hi : i < vs.length
      · exact hi
      · rw [List.getElem?_append_right (by simpa using hi)] at h2
        rw [List.getElem?_replicate] at h2
        split at h2 <;> cases h2
    have ha : vs[i]? = some v := by
      unfold start at h2
      rw [List.getElem?_append_left (by simpa using hi), List.getElem?_map] at h2
      cases e : vs[i]? with
      | none => rw [e] at h2; cases h2
      | some a => rw [e] at h2; cases h2; rfl
    obtain ⟨u, hu, rv⟩ := r.get ha
    have hp : ps[i]? = some y := by
      rw [← S.pre, List.getElem?_take_of_lt (by omega)]; exact h1
    have ndP : ps.Nodup := by rw [← S.pre]; exact S.nd.sublist (List.take_sublist _ _)
    refine ⟨u, rv, ?_⟩
    rcases S.par y (List.mem_of_getElem? hp) with k | k
    · exact .inl ⟨k, bindL_get ndP hp hu k⟩
    · obtain ⟨c, e⟩ := cell_has (n := s.heap.objs.size + 1) k
      refine .inr ⟨.inl k, c, e, ?_⟩
      have q := x.cell y c e
      rw [bindC_get ndP hp hu (by show scope.names.lookup y ≠ _; rw [k]; decide)] at q
      exact q
  · exact e0.hok.fresh (Nat.le_of_lt (x.above y c (PySem.mem_of_lookup h)))
  · unfold start
    show _ = N.length
    rw [List.length_append, List.length_map, List.length_replicate]
    omega
theorem fn_of {CX : CXT} {P : Program} {w : World} {K : PySem.W.Frag} {mg : Str → Option Value} {base : Heap} {k : Nat} {f : Addr} {name qual : Str} {params : Arguments} {body : List Stmt} {scope : Scope} {dV kV doc pm cdv ct oc : Value} {an od : Option Addr}
    {osl : Array (Option Value)} {N ps : List Str} {sp : Sp} (lk : K.lookup f = some ⟨oc, od, .func (PySem.W.fnOf name qual params body scope dV kV doc pm an cdv ct), osl⟩) (hcd : PySem.W.codeIn K cdv qual = true) (S : FnScope N ps scope)
    (len : ∀ vs H Q E, sp vs H Q E → vs.length = ps.length)
    (hbody : ∀ (A : Around) (outer : List Env) (s : Shared) (H : Hp) (vs : List V) (Q : VK) (E : XK), Room k (A.deeper (envOfC qual scope s.heap.objs.size f cdv)) → sp vs H Q E →
      ∃ t, PSs (cxOf CX P w K mg base N qual scope f cdv A outer s H E) body t ∧ t { nx := fun _ H' => Q .non H', rt := Q } (start N vs) H) :
    FnOk P w K mg base CX (k + 1) f (PySem.W.fnOf name qual params body scope dV kV doc pm an cdv ct) ps sp := by
  refine ⟨len, fun A outer s H args us vs Q E hr e0 hb r hsp => ?_⟩
  have hl := len _ _ _ _ hsp
  have KX : K.In s.heap := e0.mod.kin.keeps fun b o e => (e0.bs b o e).1
  have lim : s.heap.NoLimit := e0.mod.nolimit.keeps fun b o e => (e0.bs b o e).1
  have hkind : ∀ y ∈ ps.zip us, scope.names.lookup y.1 = some .local ∨ (scope.names.lookup y.1 = some .cell ∧ ((cellsFrom (s.heap.objs.size + 1) scope.names []).lookup y.1).isSome = true) := fun ⟨n, v⟩ hy => by
    rcases S.par n (List.of_mem_zip hy).1 with q | q
    · exact .inl q
    · exact .inr ⟨q, PySem.W.cellsFrom_some _ _ _ (.inl q)⟩
  refine codeAny_call_function hr.depth (KX _ _ lk) rfl S.co S.gen rfl (PySem.W.codeRec_of KX hcd) (hb _ _ _ _ ?_)
  refine wpAny_newFunctionEnv_cells S.kind hkind fun env he s1 x => ?_
  subst he
  refine ⟨lim.keeps x.toInCall.keep, codeAny_func ?_⟩
  obtain ⟨t, ht, hq⟩ := hbody A outer s H vs Q E (hr.deeper _) hsp
  have I : Inv (cxOf CX P w K mg base N qual scope f cdv A outer s H E) [] (start N vs) H s1 := inv_start S hr.hd e0 hl r x
  refine wpAny_mono (ht [] s1 (start N vs) H _ I hq) (fun fl s' hs => ?_) fun e s' hs => hs
  have fin : ∀ {σ' : St} {H' : Hp} {v : V} {u : Value}, Inv (cxOf CX P w K mg base N qual scope f cdv A outer s H E) [] σ' H' s' → RelV v u → Q v H' → CE outer P w H s Q u s' :=
    fun {σ' H' v u} J rv q => ⟨v, H', J.os, J.bare, J.base, J.hok, rv, q⟩
  cases fl with
  | ret u =>
    obtain ⟨v, σ', H', J, rv, q⟩ := hs
    exact fin J rv q
  | next =>
    obtain ⟨σ', H', J, q⟩ := hs
    exact fin (v := V.non) (u := Value.none) J rfl q
  | brk =>
    obtain ⟨_, _, _, q⟩ := hs
    exact False.elim q
  | cont =>
    obtain ⟨_, _, _, q⟩ := hs
    exact False.elim q
end L2
namespace L2
open PySem PySem.Spec PyProof.Rows
section
variable {X : Cx} {x : Str} {p pos : Pos} {e : Expr} {es : List Expr} {t : TA} {id T : String} {r : List V → Hp → VK → Prop}
def tCB (r : List V → Hp → VK → Prop) (t : TA) : TE := fun σ H Q => t σ H fun vs H1 => r vs H1 Q
theorem pe_callB (hc : CallR X (.builtin id) r) (hg : Gl X x) (hm : X.mg x = none) (hv : bootBuiltins x = some (.builtin id)) (ha : PA X (e :: es) t) (hn : x ≠ "__name__" := by decide) (hdb : (x == ("__debug__" : Str)) = false := by decide)
    (he : starEach (e :: es) X.env = (false, eval e X.env) :: starEach es X.env := by rfl) (hpl : (backTo pos (starEach es X.env)).any (·.1) = false := by rfl) : PE X (.Call (.Name x p) (e :: es) [] pos) (tCB r t) := by
  intro pins s σ H Q I h
  refine wpAny_Call_Name_kw (ld_blt I hg hm hv ?_ hn hdb)
  exact PyProof.Rows.callWith_builtin1 (thn (ha pos pins s σ H _ I h) fun us s1 ⟨vs, H1, I1, r1, q1⟩ => hc pins s1 σ H1 vs us Q I1 r1 q1) he hpl
theorem pe_callTy (hc : CallR X (.type T) r) (hg : Gl X x) (hm : X.mg x = none) (hv : bootBuiltins x = some (.type T)) (ha : PA X (e :: es) t) (hn : x ≠ "__name__" := by decide) (hdb : (x == ("__debug__" : Str)) = false := by decide)
    (he : starEach (e :: es) X.env = (false, eval e X.env) :: starEach es X.env := by rfl) (hpl : (backTo pos (starEach es X.env)).any (·.1) = false := by rfl) : PE X (.Call (.Name x p) (e :: es) [] pos) (tCB r t) := by
  intro pins s σ H Q I h
  refine wpAny_Call_Name_kw (ld_blt I hg hm hv ?_ hn hdb)
  exact PyProof.Rows.callWith_type1 (thn (ha pos pins s σ H _ I h) fun us s1 ⟨vs, H1, I1, r1, q1⟩ => hc pins s1 σ H1 vs us Q I1 r1 q1) he hpl
end
end L2
namespace HT
open PySem PyProof.Rows
section
open PySem.SeqAt
open PySem.AutoSeq1 (wpAny_loadPart')
open PySem.MeetsSeq PySem.MeetsSeq2 PySem.MeetsSeq3
end
section
variable {prog : Program} {w : World} {A : Around} {E : Value → Shared → Prop} {s : Shared}
def sIx (n d : Nat) : Option Int → Nat
  | none => d
  | some v => if v < 0 then (v + (n : Int)).toNat else min v.toNat n
theorem sIx_none (n d : Nat) : sIx n d none = d := rfl
theorem sIx_nat (n d k : Nat) : sIx n d (some (k : Int)) = min k n := by
  show (if (k : Int) < 0 then ((k : Int) + (n : Int)).toNat else min (k : Int).toNat n) = min k n
  rw [if_neg (by omega), Int.toNat_natCast]
end
end HT
namespace L2
open PySem PySem.Spec PyProof.Rows
abbrev TO := St → Hp → (Option Int → Hp → Prop) → Prop
def PO (X : Cx) (e : Option Expr) (t : TO) : Prop :=
  ∀ (pins : List (Addr × Obj)) (s : Shared) (σ : St) (H : Hp) (Q : Option Int → Hp → Prop), Inv X pins σ H s → t σ H Q →
    wpAny (model X.prog X.w) X.A (evalPart e X.env) (fun u s' => ∃ o H', Inv X pins σ H' s' ∧ IsPart u o ∧ Q o H') X.xe s
def tNoPart : TO := fun _ H Q => Q none H
def tPart (t : TE) : TO := fun σ H Q => t σ H fun x H1 => ∃ i, x = .int i ∧ Q (some i) H1
theorem intsAre_of {ns : List Int} : ∀ {us : List Value}, Vals (ns.map V.int) us → IntsAre us ns := by
  induction ns with
  | nil => intro us r; rw [List.map_nil] at r; cases r; exact .nil
  | cons n ns ih =>
    intro us r
    rw [List.map_cons] at r
    cases r with
    | cons r1 r2 =>
      obtain ⟨t, e⟩ := r1
      subst e
      exact .cons n t (ih r2)
section
variable {X : Cx} {e : Expr} {te : TE} {lo hi : Option Expr} {tl th : TO} {pos p2 : Pos}
theorem po_none : PO X none tNoPart := by
  intro pins s σ H Q I h
  rw [evalPart_none]
  exact wpAny_pure ⟨none, H, I, .none, h⟩
theorem po_some (h : PE X e te) : PO X (some e) (tPart te) := by
  intro pins s σ H Q I hw
  rw [evalPart_some]
  refine thn (h pins s σ H _ I hw) fun u s1 ⟨x, H1, I1, r1, q1⟩ => ?_
  obtain ⟨i, rfl, q⟩ := q1
  obtain ⟨t, rfl⟩ := r1
  exact ⟨some i, H1, I1, .int i t, q⟩
def SlR (X : Cx) (r : V → Option Int → Option Int → Hp → VK → Prop) : Prop :=
  ∀ (pins : List (Addr × Obj)) (s : Shared) (σ : St) (H : Hp) (x : V) (v vl vu : Value) (lo hi : Option Int) (sl : Addr) (Q : VK), Inv X pins σ H s → RelV x v → s.heap.IsSliceOf sl vl vu .none → IsPart vl lo → IsPart vu hi → r x lo hi H Q →
    ∃ T id, typeLookup (.type T) "__getitem__" = pure (some (.builtin id)) ∧ s.TypeIs v T ∧ wpAny (model X.prog X.w) X.A (getItem v (.ref sl)) (EP X pins σ Q) X.xe s
def tSl (r : V → Option Int → Option Int → Hp → VK → Prop) (te : TE) (tl th : TO) : TE := fun σ H Q => te σ H fun x H1 => tl σ H1 fun l H2 => th σ H2 fun u H3 => r x l u H3 Q
theorem pe_slice {r : V → Option Int → Option Int → Hp → VK → Prop} (hr : SlR X r) (he : PE X e te) (hl : PO X lo tl) (hu : PO X hi th) : PE X (.Subscript e (.Slice lo hi none p2) pos) (tSl r te tl th) := by
  intro pins s σ H Q I h
  refine Subscript_ (thn (he pins s σ H _ I h) fun v s1 ⟨x, H1, I1, r1, q1⟩ => ?_)
  refine wpAny_Slice (thn (hl pins s1 σ H1 _ I1 q1) fun vl s2 ⟨l, H2, I2, pl, q2⟩ => thn (hu pins s2 σ H2 _ I2 q2) fun vu s3 ⟨u, H3, I3, pu, q3⟩ => ?_)
  rw [evalPart_none]
  refine wpAny_pure ?_
  have I4 : Inv X pins σ H3 { s3 with heap := s3.heap.push { cls := .type "slice", data := .fields #[vl, vu, .none] } } := I3.kept (t' := s3.toks) fun b ob q => Heap.get?_push_of_some _ q
  obtain ⟨T, id, hT, ht, hg⟩ := hr pins { s3 with heap := s3.heap.push { cls := .type "slice", data := .fields #[vl, vu, .none] } } σ H3 x v vl vu l u s3.heap.objs.size Q I4 r1 (Heap.IsSliceOf.new ..) pl pu q3
  show wpAny (model X.prog X.w) X.A (subscriptTail e (.Slice lo hi none p2) v (.ref s3.heap.objs.size)) (EP X pins σ Q) X.xe { s3 with heap := s3.heap.push { cls := .type "slice", data := .fields #[vl, vu, .none] } }
  exact tail_any (ops := [.ref s3.heap.objs.size, v]) ht hT hg (by with_unfolding_all rfl)
def cutV (xs : List V) (lo hi : Option Int) : List V := (xs.drop (HT.sIx xs.length 0 lo)).take (HT.sIx xs.length xs.length hi - HT.sIx xs.length 0 lo)
theorem cutV_length (xs : List V) (lo hi : Option Int) : (cutV xs lo hi).length ≤ xs.length := by
  unfold cutV
  rw [List.length_take, List.length_drop]
  omega
end
end L2
namespace L2
open PySem PySem.Spec PyProof.Rows
def ixN (n : Nat) (i : Int) : Option Nat := if 0 ≤ i then (if i < n then some i.toNat else none) else if -(n : Int) ≤ i then some (i + n).toNat else none
def atI {α : Type} (xs : List α) (i : Int) : Option α := (ixN xs.length i).bind fun j => xs[j]?
theorem ixN_seq {n : Nat} {i : Int} {j : Nat} (h : ixN n i = some j) : seqIndex? i n = some j ∧ j < n ∧ -(n : Int) ≤ i ∧ i < n := by
  unfold ixN at h
  by_cases h0 : 0 ≤ i
  · rw [if_pos h0] at h
    by_cases h1 : i < n
    · rw [if_pos h1] at h
      have e : i.toNat = j := Option.some.inj h
      exact ⟨by rw [seqIndex_of h0 h1, e], by omega, by omega, h1⟩
    · rw [if_neg h1] at h; cases h
  · rw [if_neg h0] at h
    by_cases h1 : -(n : Int) ≤ i
    · rw [if_pos h1] at h
      have e : (i + n).toNat = j := Option.some.inj h
      exact ⟨by rw [seqIndex_neg (by omega) h1, e], by omega, h1, by omega⟩
    · rw [if_neg h1] at h; cases h
theorem atI_get {α : Type} {xs : List α} {i : Int} {v : α} (h : atI xs i = some v) : ∃ j, seqIndex? i xs.length = some j ∧ xs[j]? = some v ∧ j < xs.length ∧ -(xs.length : Int) ≤ i ∧ i < xs.length := by
  unfold atI at h
  cases e : ixN xs.length i with
  | none => rw [e] at h; cases h
  | some j =>
    rw [e] at h
    obtain ⟨h1, h2, h3, h4⟩ := ixN_seq e
    exact ⟨j, h1, h, h2, h3, h4⟩
theorem atI_nat {α : Type} {xs : List α} {j : Nat} {v : α} (h : xs[j]? = some v) : atI xs (j : Int) = some v := by
  have hj : j < xs.length := (List.getElem?_eq_some_iff.mp h).1
  have e : ixN xs.length (j : Int) = some j := by
    unfold ixN
    rw [if_pos (by exact Int.natCast_nonneg _), if_pos (by omega)]; simp
  unfold atI; rw [e]; exact h
def PlainIx (b : Expr) : Prop := ∀ o i, subscripted b false o i = operate [o, i] (getItem o i)
def IxR (X : Cx) (r : R2) : Prop :=
  ∀ (value slice : Expr) (pins : List (Addr × Obj)) (s : Shared) (σ : St) (H : Hp) (x y : V) (v u : Value) (Q : VK), Inv X pins σ H s → RelV x v → RelV y u → r x y H Q →
    subscripted slice false v u = operate [v, u] (getItem v u) → wpAny (model X.prog X.w) X.A (subscriptTail value slice v u) (EP X pins σ Q) X.xe s
def MtR (X : Cx) (id : String) (r : V → List V → Hp → VK → Prop) : Prop :=
  ∀ (pins : List (Addr × Obj)) (s : Shared) (σ : St) (H : Hp) (x : V) (xs : List V) (v : Value) (us : List Value) (Q : VK), Inv X pins σ H s → RelV x v → Vals xs us → r x xs H Q →
    wpAny (model X.prog X.w) X.A (call (.builtin id) (v :: us)) (EP X pins σ Q) X.xe s
section
variable {X : Cx} {a b : Expr} {ta tb : TE} {pos : Pos}
theorem pe_ix {r : R2} (hr : IxR X r) (ha : PE X a ta) (hb : PE X b tb) (hs : PlainIx b) : PE X (.Subscript a b pos) (tOp r ta tb) := by
  intro pins s σ H Q I h
  exact Subscript_ (binT ha hb I h fun v u s2 x y H2 I2 rx ry q => hr a b pins s2 σ H2 x y v u Q I2 rx ry q (hs _ _))
inductive RIxLP (K : PySem.W.Frag) (x : V) (y : V) (H : Hp) (Q : VK) : Prop
  | mk (p xs i v : _) : (x = .ref p) → (y = .int i) → (SqL K H p xs) → (atI xs i = some v) → (Q v H) → RIxLP K x y H Q
def rIxL (K : PySem.W.Frag) : R2 := fun x y H Q => RIxLP K x y H Q
inductive RIxTP (K : PySem.W.Frag) (x : V) (y : V) (H : Hp) (Q : VK) : Prop
  | mk (p xs i v : _) : (x = .ref p) → (y = .int i) → (SqT K H p xs) → (atI xs i = some v) → (Q v H) → RIxTP K x y H Q
def rIxT (K : PySem.W.Frag) : R2 := fun x y H Q => RIxTP K x y H Q
theorem ix_list : IxR X (rIxL X.K) := by
  intro value slice pins s σ H x y v u Q I rx ry h hs
  obtain ⟨p, xs, i, z, rfl, rfl, hq, he, q⟩ := h
  cases rx
  obtain ⟨t, rfl⟩ := ry
  obtain ⟨its, r, pl, hz⟩ := I.list hq
  obtain ⟨j, h1, h2, h3, h4, h5⟩ := atI_get he
  obtain ⟨w, ew, rw'⟩ := r.get h2
  have hl := r.length
  have hn := line63
  have fin : EP X pins σ Q w s := ⟨z, H, I, rw', q⟩
  by_cases h0 : 0 ≤ i
  · have hj : i.toNat = j := by
      rw [seqIndex_of h0 h5] at h1
      exact Option.some.inj h1
    exact item_listR pl.isList h0 (by omega) (by rw [hj]; simpa using ew) fin hs
  · have hj : (i + (its.toArray.size : Int)).toNat = j := by
      rw [seqIndex_neg (by omega) h4] at h1
      rw [List.size_toArray, ← hl]
      exact Option.some.inj h1
    exact subscriptTail_builtinR (x := w) pl.isList.typeIs slot_list_getitem.lookup
      (wpAny_getItem_list_neg (Q := fun r s' => r = w ∧ EP X pins σ Q r s') pl.isList (by omega) (by rw [List.size_toArray] <;> omega) (by omega) (by rw [hj]; simpa using ew) ⟨rfl, fin⟩) hs
theorem ix_tup : IxR X (rIxT X.K) := by
  intro value slice pins s σ H x y v u Q I rx ry h hs
  obtain ⟨p, xs, i, z, rfl, rfl, hq, he, q⟩ := h
  cases rx
  obtain ⟨t, rfl⟩ := ry
  obtain ⟨its, r, pl, hz⟩ := I.tuple hq
  obtain ⟨j, h1, h2, h3, h4, h5⟩ := atI_get he
  obtain ⟨w, ew, rw'⟩ := r.get h2
  have hl := r.length
  have hn := line63
  have fin : EP X pins σ Q w s := ⟨z, H, I, rw', q⟩
  exact subscriptTail_builtinR (x := w) pl.typeIs slot_tuple_getitem.lookup
    (getItem_tuple (j := j) (Q := fun r s' => r = w ∧ EP X pins σ Q r s') pl (by omega) (by omega) (by rw [List.size_toArray, ← hl]; exact h1) (by simpa using ew) ⟨rfl, fin⟩) hs
theorem mapSeq_set (its : List Value) (n j : Nat) (u : Value) : Obj.mapSeq (·.setIfInBounds j u) { cls := .type "list", data := .seq its.toArray n } = { cls := .type "list", data := .seq (its.set j u).toArray n } := by
  simp [Obj.mapSeq]
theorem Inv.lst {pins : List (Addr × Obj)} {σ : St} {H : Hp} {s : Shared} {p : Addr} {xs : List V} (I : Inv X pins σ H s) (h : H p = some (.lst xs)) :
    ∃ (its : List Value) (n : Nat), Vals xs its ∧ s.heap.get? p = some { cls := .type "list", data := .seq its.toArray n } ∧ xs.length ≤ sizeLine := by
  obtain ⟨z, its, n, r, e⟩ := I.hok p _ h
  exact ⟨its, n, r, e, z⟩
theorem Inv.lstUpd {pins : List (Addr × Obj)} {σ : St} {H : Hp} {s : Shared} {p : Addr} {xs ys : List V} {its its' : List Value} {n n' : Nat} {f : Obj → Obj} (I : Inv X pins σ H s) (h : H p = some (.lst xs))
    (ho : s.heap.get? p = some { cls := .type "list", data := .seq its.toArray n }) (hf : f { cls := .type "list", data := .seq its.toArray n } = { cls := .type "list", data := .seq its'.toArray n' }) (r : Vals ys its') (hz : ys.length ≤ sizeLine) (t : Nat) :
    Inv X pins σ (upd H p (.lst ys)) { s with heap := s.heap.update p f, toks := t } := by
  have e : (s.heap.update p f).get? p = some { cls := .type "list", data := .seq its'.toArray n' } := by
    rw [Heap.get?_update_self f ho (by rw [hf] <;> rfl), hf]
  refine I.write (x := p) (e := p) (by rw [h]; trivial) (.inl rfl) (fun b u hb q => (Heap.get?_update_other _ _ (Ne.symm hb)).trans q) ⟨_, e⟩ ?_
  exact ⟨hz, its', n', r, e⟩
inductive RSetLP (o : V) (i : V) (v : V) (H : Hp) (Q : (Hp → Prop)) : Prop
  | mk (p xs k j : _) : (o = .ref p) → (i = .int k) → (H p = some (.lst xs)) → (ixN xs.length k = some j) → (Q (upd H p (.lst (xs.set j v)))) → RSetLP o i v H Q
def rSetL : V → V → V → Hp → (Hp → Prop) → Prop := fun o i v H Q => RSetLP o i v H Q
theorem set_list : PSet X rSetL := by
  intro pins s σ H o i v ov iv u Q I ro ri rv h
  obtain ⟨p, xs, k, j, rfl, rfl, hp, hj, q⟩ := h
  cases ro
  obtain ⟨t, rfl⟩ := ri
  obtain ⟨its, n, r, ho, hz⟩ := I.lst hp
  obtain ⟨h1, h2, h3, h4⟩ := ixN_seq hj
  have hl := r.length
  have hn := line63
  have I' : Inv X pins σ (upd H p (.lst (xs.set j v))) { s with heap := s.heap.update p (Obj.mapSeq (·.setIfInBounds j u)) } :=
    I.lstUpd hp ho (mapSeq_set its n j u) (r.set rv j) (by rw [List.length_set]; exact hz) s.toks
  by_cases h0 : 0 ≤ k
  · have hk : k.toNat = j := by
      rw [seqIndex_of h0 h4] at h1
      exact Option.some.inj h1
    exact PySem.W.ki_setAt ho h0 (by omega) (by rw [List.size_toArray, ← hl]; exact h4) (by rw [hk]; exact ⟨_, I', q⟩)
  · have hk : (k + (its.toArray.size : Int)).toNat = j := by
      rw [seqIndex_neg (by omega) h3] at h1
      rw [List.size_toArray, ← hl]
      exact Option.some.inj h1
    exact PySem.W.ki_setBack ho (by omega) (by rw [List.size_toArray, ← hl]; exact h3) (by omega) (by rw [hk]; exact ⟨_, I', q⟩)
theorem slice_bounds (lo hi : Option Int) (n : Nat) : (sliceBounds lo hi none n).1 = ((HT.sIx n 0 lo : Nat) : Int) ∧ (sliceBounds lo hi none n).2.1 = ((HT.sIx n n hi : Nat) : Int) ∧ (sliceBounds lo hi none n).2.2 = 1 := by
  refine ⟨?_, ?_, rfl⟩
  · cases lo with
    | none => simp [sliceBounds, HT.sIx]
    | some i =>
      simp only [sliceBounds, HT.sIx, Option.getD_none, show (1 : Int) > 0 by decide, if_true]
      by_cases h : i < 0
      · simp only [h, if_true] <;> omega
      · simp only [h, if_false] <;> omega
  · cases hi with
    | none => simp [sliceBounds, HT.sIx]
    | some i =>
      simp only [sliceBounds, HT.sIx, Option.getD_none, show (1 : Int) > 0 by decide, if_true]
      by_cases h : i < 0
      · simp only [h, if_true] <;> omega
      · simp only [h, if_false] <;> omega
theorem slicePick_cut (its : List Value) (lo hi : Option Int) : slicePick its.toArray lo hi none = ((its.drop (HT.sIx its.length 0 lo)).take (HT.sIx its.length its.length hi - HT.sIx its.length 0 lo)).toArray := by
  obtain ⟨h1, h2, h3⟩ := slice_bounds lo hi its.toArray.size
  unfold slicePick
  rw [h1, h2, h3]
  simp only [sliceRange_one, pick_run, List.size_toArray] <;> rfl
inductive RSlLP (K : PySem.W.Frag) (x : V) (lo : Option Int) (hi : Option Int) (H : Hp) (Q : VK) : Prop
  | mk (a xs : _) : (x = .ref a) → (SqL K H a xs) → (∀ p, H p = none → Q (.ref p) (upd H p (.lst (cutV xs lo hi)))) → RSlLP K x lo hi H Q
def rSlL (K : PySem.W.Frag) : V → Option Int → Option Int → Hp → VK → Prop := fun x lo hi H Q => RSlLP K x lo hi H Q
theorem sl_list : SlR X (rSlL X.K) := by
  intro pins s σ H x v vl vu lo hi sl Q I rx hs pl pu h
  obtain ⟨a, xs, rfl, hx, q⟩ := h
  cases rx
  obtain ⟨its, r, ht, hz⟩ := I.list hx
  have hlen := r.length
  refine ⟨"list", _, slot_list_getitem.lookup, ht.isList.typeIs, ?_⟩
  refine wpAny_getItem_list_slice ht.isList hs pl pu .none (by simp) ?_ (by rw [List.size_toArray] <;> omega)
  rw [slicePick_cut, ← hlen]
  refine ⟨.ref s.heap.objs.size, _, I.laid (t' := s.toks) (o := .lst (cutV xs lo hi)) (fun b ob q => Heap.get?_push_of_some _ q) (Nat.le_refl _) ?_, rfl, q _ (I.hok.fresh (Nat.le_refl _))⟩
  exact ⟨Nat.le_trans (cutV_length xs lo hi) hz, _, 0, (r.drop (HT.sIx xs.length 0 lo)).take (HT.sIx xs.length xs.length hi - HT.sIx xs.length 0 lo), Heap.get?_push_size _ rfl⟩
theorem call_len_seq : CallR X (.builtin "len") (fun xs H Q => ∃ p ys, xs = [.ref p] ∧ (SqL X.K H p ys ∨ SqT X.K H p ys) ∧ Q (.int ys.length) H) := by
  intro pins s σ H xs us Q I r h
  obtain ⟨p, ys, rfl, hq, q⟩ := h
  obtain ⟨u, rfl, rx⟩ := vals1 r
  cases rx
  have hn := line63
  rcases hq with hq | hq
  · obtain ⟨its, r', pl, hz⟩ := I.list hq
    have hlen := r'.length
    exact Calls.call_len_list pl.isList (by simp only [List.size_toArray] <;> omega) ⟨.int ys.length, H, I.tok _, ⟨s.toks + 1, by rw [List.size_toArray, hlen]⟩, q⟩
  · obtain ⟨its, r', pl, hz⟩ := I.tuple hq
    have hlen := r'.length
    exact len_tuple pl (by simp only [List.size_toArray] <;> omega) ⟨.int ys.length, H, I.tok _, ⟨s.toks + 1, by rw [List.size_toArray, hlen]⟩, q⟩
theorem call_list_of : CallR X (.type "list") (fun xs H Q => ∃ p ys, xs = [.ref p] ∧ (SqL X.K H p ys ∨ SqT X.K H p ys) ∧ ∀ l, H l = none → Q (.ref l) (upd H l (.lst ys))) := by
  intro pins s σ H xs us Q I r h
  obtain ⟨p, ys, rfl, hq, q⟩ := h
  obtain ⟨u, rfl, rx⟩ := vals1 r
  cases rx
  have fin : ∀ (its : List Value), Vals ys its → ys.length ≤ sizeLine → ∀ (h' : Heap) (c' : Nat), (∀ b o', s.heap.get? b = some o' → h'.get? b = some o') →
      h'.get? s.heap.objs.size = some { cls := .type "list", dict := none, data := .seq its.toArray c', slots := #[] } → EP X pins σ Q (.ref s.heap.objs.size) { s with heap := h' } := fun its r' hz h' c' kp e =>
    ⟨.ref s.heap.objs.size, _, I.laid (t' := s.toks) kp (Nat.le_refl _) (show ObjOk X.prog X.w _ h' _ (.lst ys) from ⟨hz, its, c', r', e⟩), rfl, q _ (I.hok.fresh (Nat.le_refl _))⟩
  rcases hq with hq | hq
  · obtain ⟨its, r', pl, hz⟩ := I.list hq
    have hlen := r'.length
    obtain ⟨o, ho, hc, n, hd⟩ := pl.isList
    exact call_list_seq p (.inl rfl) ho hc hd (fun h' c' kp e => fin its r' hz h' c' kp e) (by simp only [List.size_toArray] <;> omega)
  · obtain ⟨its, r', pl, hz⟩ := I.tuple hq
    have hlen := r'.length
    obtain ⟨o, ho, hc, n, hd⟩ := pl
    exact call_list_seq p (.inr rfl) ho hc hd (fun h' c' kp e => fin its r' hz h' c' kp e) (by simp only [List.size_toArray] <;> omega)
theorem call_tuple_of : CallR X (.type "tuple") (fun xs H Q => ∃ p ys, xs = [.ref p] ∧ ((SqL X.K H p ys ∧ ∀ l, H l = none → Q (.ref l) (upd H l (.tup ys))) ∨ (SqT X.K H p ys ∧ Q (.ref p) H))) := by
  intro pins s σ H xs us Q I r h
  obtain ⟨p, ys, rfl, h⟩ := h
  obtain ⟨u, rfl, rx⟩ := vals1 r
  cases rx
  rcases h with ⟨hq, q⟩ | ⟨hq, q⟩
  · obtain ⟨its, r', pl, hz⟩ := I.list hq
    have hlen := r'.length
    refine call_tuple_list pl.isList (fun h' kp => ?_) (by simp only [List.size_toArray] <;> omega)
    have I1 : Inv X pins σ H { s with heap := h' } := I.kept (t' := s.toks) kp
    have I2 : Inv X pins σ (upd H h'.objs.size (.tup ys)) { s with heap := h'.push { cls := .type "tuple", data := .seq its.toArray } } :=
      I1.laid (t' := s.toks) (fun b o e => Heap.get?_push_of_some _ e) (Nat.le_refl _) (show ObjOk X.prog X.w _ _ _ (.tup ys) from ⟨hz, its, r', IsTupN.new _ _⟩)
    exact ⟨.ref h'.objs.size, _, I2, rfl, q _ (I1.hok.fresh (Nat.le_refl _))⟩
  · obtain ⟨its, r', pl, hz⟩ := I.tuple hq
    exact call_tuple_same pl ⟨.ref p, H, I, rfl, q⟩
def tyV (K : PySem.W.Frag) (T : String) (x : V) (H : Hp) : Prop := match x with
  | .str _ => T = "str"
  | .int _ => T = "int"
  | .ref p => (T = "list" ∧ ∃ xs, SqL K H p xs) ∨ (T = "tuple" ∧ ((∃ o, K.lookup p = some o ∧ o.cls = .type "tuple" ∧ o.dict = none) ∨ ∃ xs, H p = some (.tup xs))) ∨
      (T = "dict" ∧ ((∃ kvs, H p = some (.dK kvs)) ∨ ∃ kvs, H p = some (.dT kvs))) ∨ (T = "set" ∧ ∃ S n, H p = some (.set S n))
  | _ => False
theorem tyV_is {pins : List (Addr × Obj)} {σ : St} {H : Hp} {s : Shared} {T : String} {x : V} {v : Value} (I : Inv X pins σ H s) (r : RelV x v) (ty : tyV X.K T x H) :
    s.TypeIs v T ∧ ∀ a, v = .ref a → ∃ ob, s.heap.get? a = some ob ∧ ob.dict = none := by
  cases x with
  | str z =>
    obtain ⟨t, rfl⟩ := r
    cases (show T = "str" from ty)
    exact ⟨typeIs_str s z t, fun _ e => nomatch e⟩
  | int i =>
    obtain ⟨t, rfl⟩ := r
    cases (show T = "int" from ty)
    exact ⟨typeIs_int s i t, fun _ e => nomatch e⟩
  | ref p =>
    cases r
    rcases ty with ⟨rfl, xs, hq⟩ | ⟨rfl, ⟨o, hk, hc, hd⟩ | ⟨xs, hx⟩⟩ | ⟨rfl, hk⟩ | ⟨rfl, S, n, hk⟩
    · obtain ⟨its, _, pl, _⟩ := I.list hq
      refine ⟨pl.isList.typeIs, fun a e => ?_⟩
      cases e
      obtain ⟨o, n, e, c, hd, _⟩ := pl
      exact ⟨o, e, hd⟩
    · refine ⟨⟨o, I.kIn p o hk, hc⟩, fun a e => ?_⟩
      cases e
      exact ⟨o, I.kIn _ o hk, hd⟩
    · obtain ⟨_, _, _, o, e, c, d, _⟩ := (show ObjOk X.prog X.w H s.heap p (.tup xs) from I.hok p _ hx)
      refine ⟨⟨o, e, c⟩, fun a e2 => ?_⟩
      cases e2
      exact ⟨o, e, d⟩
    · have z : ∃ o, s.heap.get? p = some o ∧ o.ExactDict := by
        rcases hk with ⟨kvs, hk⟩ | ⟨kvs, hk⟩
        · obtain ⟨_, _, _, _, o, _, _, e, ex, _⟩ := I.hok p _ hk
          exact ⟨o, e, ex⟩
        · obtain ⟨_, _, _, _, o, _, _, e, ex, _⟩ := I.hok p _ hk
          exact ⟨o, e, ex⟩
      obtain ⟨o, e, ex⟩ := z
      refine ⟨⟨o, e, ex.1⟩, fun a e2 => ?_⟩
      cases e2
      exact ⟨o, e, ex.2.1⟩
    · obtain ⟨o, _, _, _, e, ex, _⟩ := I.hok p _ hk
      refine ⟨⟨o, e, ex.1⟩, fun a e2 => ?_⟩
      cases e2
      exact ⟨o, e, ex.2.1⟩
  | _ => exact False.elim ty
def tBM0 (K : PySem.W.Frag) (T : String) (r : V → List V → Hp → VK → Prop) (to : TE) : TE := fun σ H Q => to σ H fun x H1 => tyV K T x H1 ∧ r x [] H1 Q
def tBM (K : PySem.W.Frag) (T : String) (r : V → List V → Hp → VK → Prop) (to : TE) (t : TA) : TE := fun σ H Q => to σ H fun x H1 => tyV K T x H1 ∧ t σ H1 fun xs H2 => r x xs H2 Q
variable {o e : Expr} {es : List Expr} {to : TE} {t : TA} {name : Str} {apos cpos : Pos} {T id : String} {r : V → List V → Hp → VK → Prop}
theorem pe_bm0 (pa : PlainAttrs T) (slot : Slot T name id) (hty : typeOf (.builtin id) = pure (.type "method_descriptor")) (hm : MtR X id r) (ho : PE X o to)
    (hbase : attributeBase o name X.env (eval o X.env) = eval o X.env := by rfl) (hline : (apos.endLine == cpos.line) = true := by rfl) : PE X (.Call (.Attribute o name apos) [] [] cpos) (tBM0 X.K T r to) := by
  intro pins s σ H Q I h
  refine wpAny_Call_method0_late hbase hline (thn (ho pins s σ H _ I h) fun v s1 ⟨x, H1, I1, r1, ty, q1⟩ => ?_)
  obtain ⟨h1, h2⟩ := tyV_is I1 r1 ty
  exact ⟨T, id, pa, slot, hty, h1, h2, Calls.callWith_builtin rfl (PySem.evalArgs_none (hm pins s1 σ H1 x [] v [] Q I1 r1 .nil q1))⟩
theorem pe_bm (pa : PlainAttrs T) (slot : Slot T name id) (hty : typeOf (.builtin id) = pure (.type "method_descriptor")) (hm : MtR X id r) (ho : PE X o to) (ha : PA X (e :: es) t)
    (hbase : attributeBase o name X.env (eval o X.env) = eval o X.env := by rfl)
    (hfew : ((backTo cpos (starEach (e :: es) X.env)).all (fun x => !x.1) && (backToKw cpos (keywordEach [] X.env)).all (fun x => x.1.isSome)
      && decide ((e :: es).length + ([] : List Keyword).length + (if ([] : List Keyword).isEmpty then 0 else 1) < 30)) = true := by rfl)
    (hline : (apos.endLine == cpos.line) = true := by rfl) (hs : starEach (e :: es) X.env = (false, eval e X.env) :: starEach es X.env := by rfl) (hplain : (backTo cpos (starEach es X.env)).any (·.1) = false := by rfl) :
    PE X (.Call (.Attribute o name apos) (e :: es) [] cpos) (tBM X.K T r to t) := by
  intro pins s σ H Q I h
  refine wpAny_Call_method_late hbase hfew hline rfl (thn (ho pins s σ H _ I h) fun v s1 ⟨x, H1, I1, r1, ty, q1⟩ => ?_)
  obtain ⟨h1, h2⟩ := tyV_is I1 r1 ty
  refine ⟨T, id, pa, slot, hty, h1, h2, ?_⟩
  have hA := ha cpos pins s1 σ H1 _ I1 q1
  rw [hs] at hA ⊢
  refine Calls.callWith_builtin (by show (false || (backTo cpos (starEach es X.env)).any (·.1)) = false; rw [hplain] <;> rfl) (Calls.evalArgs_plain ?_)
  exact thn hA fun us s2 ⟨vs, H2, I2, r2, q2⟩ => hm pins s2 σ H2 x vs v us Q I2 r1 r2 q2
end
end L2
namespace L2
open PySem PySem.Spec PyProof.Rows
def MtM (X : Cx) (id : String) (r : V → List V → Hp → VK → Prop) : Prop :=
  ∀ (pins : List (Addr × Obj)) (s : Shared) (σ : St) (H : Hp) (x : V) (xs : List V) (v : Value) (us : List Value) (Q : VK), Inv X pins σ H s → RelV x v → Vals xs us → r x xs H Q →
    wpAny (model X.prog X.w) X.A (call (.builtin id) (v :: us)) (EP X pins σ Q) X.xe s
theorem Vals.one : ∀ {x : V} {us : List Value}, Vals [x] us → ∃ u, us = [u] ∧ RelV x u
  | _, _, .cons r .nil => ⟨_, rfl, r⟩
theorem Vals.zero : ∀ {us : List Value}, Vals [] us → us = []
  | _, .nil => rfl
theorem Vals.dropLast {xs : List V} {us : List Value} (h : Vals xs us) : Vals xs.dropLast us.dropLast := by
  induction h with
  | nil => exact .nil
  | cons r t ih =>
    cases t with
    | nil => exact .nil
    | cons q t' => exact .cons r ih
theorem Vals.reverse {xs : List V} {us : List Value} (h : Vals xs us) : Vals xs.reverse us.reverse := by
  induction h with
  | nil => exact .nil
  | cons r t ih => rw [List.reverse_cons, List.reverse_cons]; exact Vals.append ih (.cons r .nil)
theorem erase_last {α : Type} (l : List α) : l.eraseIdx (l.length - 1) = l.dropLast := by
  induction l with
  | nil => rfl
  | cons a r ih =>
    cases r with
    | nil => rfl
    | cons b r =>
      have e : (a :: b :: r).length - 1 = ((b :: r).length - 1) + 1 := by
        have h1 : (a :: b :: r).length = r.length + 2 := rfl
        have h2 : (b :: r).length = r.length + 1 := rfl
        assumption
      rw [e, List.eraseIdx_cons_succ, ih]
      all_goals rfl
section
variable {X : Cx} {pins : List (Addr × Obj)} {σ : St} {H : Hp} {s : Shared} {l b : Addr} {xs ys zs : List V}
theorem Inv.lset {its its' : List Value} {n : Nat} {f : Array Value → Array Value} {t' : Nat} (I : Inv X pins σ H s) (hH : H l = some (.lst xs))
    (e : s.heap.get? l = some { cls := .type "list", data := .seq its.toArray n }) (hf : f its.toArray = its'.toArray) (hv : Vals ys its') (hz : ys.length ≤ sizeLine) :
    Inv X pins σ (upd H l (.lst ys)) { s with heap := s.heap.update l (Obj.mapSeq f), toks := t' } := by
  have q := PySem.IsL.update e f
  rw [hf] at q
  refine I.write (x := l) (e := l) (by rw [hH]; exact trivial) (.inl rfl) (fun b' u hb hu => (Heap.get?_update_other s.heap (Obj.mapSeq f) (Ne.symm hb)).trans hu) ⟨_, q⟩ ?_
  exact ⟨hz, its', _, hv, q⟩
theorem Inv.lnew {its : List Value} {t' : Nat} (I : Inv X pins σ H s) (hv : Vals ys its) (hz : ys.length ≤ sizeLine) :
    Inv X pins σ (upd H s.heap.objs.size (.lst ys)) { s with heap := s.heap.push { cls := .type "list", data := .seq its.toArray }, toks := t' } :=
  I.laid (fun _ _ q => Heap.get?_push_of_some _ q) (Nat.le_refl _) ⟨hz, its, 0, hv, Heap.get?_push_size _ rfl⟩
theorem Inv.fresh (I : Inv X pins σ H s) : H s.heap.objs.size = none := I.hok.fresh (Nat.le_refl _)
theorem Inv.lstM (I : Inv X pins σ H s) (hH : H l = some (.lst xs)) : xs.length ≤ sizeLine ∧ ∃ (its : List Value) (n : Nat), Vals xs its ∧ xs.length = its.length ∧ s.heap.get? l = some { cls := .type "list", data := .seq its.toArray n } := by
  obtain ⟨z, its, n, r, e⟩ := I.hok l _ hH
  exact ⟨z, its, n, r, r.length, e⟩
theorem notLongL {n : Nat} (h : n ≤ sizeLine) : Builtin.List.listTooLong n = false := by
  unfold Builtin.List.listTooLong
  exact decide_eq_false (by omega)
end
section
variable {X : Cx}
inductive RAppendP (x : V) (vs : List V) (H : Hp) (Q : VK) : Prop
  | mk (l xs y : _) : (x = .ref l) → (vs = [y]) → (H l = some (.lst xs)) → (xs.length < sizeLine) → (Q .non (upd H l (.lst (xs ++ [y])))) → RAppendP x vs H Q
def rAppend : V → List V → Hp → VK → Prop := fun x vs H Q => RAppendP x vs H Q
theorem mt_append : MtM X "list.append" rAppend := by
  intro pins s σ H x vs v us Q I rx rv h
  obtain ⟨l, xs, y, rfl, rfl, hH, hz, q⟩ := h
  cases rx
  obtain ⟨u, rfl, ru⟩ := rv.one
  obtain ⟨z, its, n, r, hl, e⟩ := I.lstM hH
  refine call_meets F.slot_list_append ⟨_, e, rfl⟩ F.entry_list_append (F.args_list_append_2 _ _) (PySem.list_append l its.toArray n u (by rw [List.size_toArray]; omega)) ⟨e, ?_⟩
  refine ⟨.non, _, I.lset (its' := its ++ [u]) hH e (by simp) (r.append (.cons ru .nil)) ?_, rfl, q⟩
  rw [List.length_append, List.length_singleton]
  assumption
inductive RExtendP (x : V) (vs : List V) (H : Hp) (Q : VK) : Prop
  | mk (l b xs zs : _) : (x = .ref l) → (vs = [.ref b]) → (H l = some (.lst xs)) → (H b = some (.lst zs)) → (xs.length + zs.length ≤ sizeLine) → (Q .non (upd H l (.lst (xs ++ zs)))) → RExtendP x vs H Q
def rExtend : V → List V → Hp → VK → Prop := fun x vs H Q => RExtendP x vs H Q
theorem mt_extend : MtM X "list.extend" rExtend := by
  intro pins s σ H x vs v us Q I rx rv h
  obtain ⟨l, b, xs, zs, rfl, rfl, hH, hB, hz, q⟩ := h
  cases rx
  obtain ⟨u, rfl, ru⟩ := rv.one
  cases ru
  obtain ⟨z, its, n, r, hl, e⟩ := I.lstM hH
  obtain ⟨z2, its2, n2, r2, hl2, e2⟩ := I.lstM hB
  have hsz : its.toArray.size + its2.toArray.size ≤ sizeLine := by rw [List.size_toArray, List.size_toArray]; omega
  have hlong : ¬ (!its.toArray.isEmpty && Builtin.List.listTooLong (its.toArray.size + its2.toArray.size)) = true := by
    rw [notLongL hsz, Bool.and_false]
    exact Bool.false_ne_true
  refine call_meets F.slot_list_extend ⟨_, e, rfl⟩ F.entry_list_extend (F.args_list_extend_2 _ _)
    (AutoSeq1.list_extend_list_list_0 l its.toArray n b its2.toArray n2 hlong (by rw [List.size_toArray]; omega) (by exact Nat.le_trans (by assumption) (by decide))) ⟨e, e2, ?_⟩
  refine ⟨.non, _, I.lset (its' := its ++ its2) hH e (by simp) (r.append r2) ?_, rfl, q⟩
  rw [List.length_append]
  assumption
inductive RPopP (x : V) (vs : List V) (H : Hp) (Q : VK) : Prop
  | mk (l xs y : _) : (x = .ref l) → (vs = []) → (H l = some (.lst xs)) → (xs[xs.length - 1]? = some y) → (Q y (upd H l (.lst xs.dropLast))) → RPopP x vs H Q
def rPop : V → List V → Hp → VK → Prop := fun x vs H Q => RPopP x vs H Q
theorem mt_pop : MtM X "list.pop" rPop := by
  intro pins s σ H x vs v us Q I rx rv h
  obtain ⟨l, xs, y, rfl, rfl, hH, hy, q⟩ := h
  cases rx
  have hus := rv.zero
  subst hus
  obtain ⟨z, its, n, r, hl, e⟩ := I.lstM hH
  obtain ⟨u, hu, ru⟩ := r.get hy
  have hy' : its.toArray[its.toArray.size - 1]? = some u := by
    show its.toArray[its.length - 1]? = some u
    rw [← Array.getElem?_toList, ← hl]
    exact hu
  refine call_meets F.slot_list_pop ⟨_, e, rfl⟩ F.entry_list_pop (F.args_list_pop_1 _) (MeetsSeq.list_pop_last l its.toArray n u hy' (by rw [List.size_toArray]; omega)) ⟨e, ?_⟩
  refine ⟨y, _, I.lset (its' := its.dropLast) hH e ?_ r.dropLast ?_, ru, q⟩
  · show its.toArray.eraseIdxIfInBounds (its.toArray.size - 1) = its.dropLast.toArray
    rw [List.size_toArray, List.eraseIdxIfInBounds_toArray, erase_last]
  · rw [List.length_dropLast]
    omega
inductive RCatP (x : V) (y : V) (H : Hp) (Q : VK) : Prop
  | mk (l b xs zs : _) : (x = .ref l) → (y = .ref b) → (H l = some (.lst xs)) → (H b = some (.lst zs)) → (xs.length + zs.length ≤ sizeLine) → (∀ p, H p = none → Q (.ref p) (upd H p (.lst (xs ++ zs)))) → RCatP x y H Q
def rCat : R2 := fun x y H Q => RCatP x y H Q
theorem op_cat : OpR X (binaryOp .Add) rCat := by
  intro pins s σ H x y v u Q I rx ry h
  obtain ⟨l, b, xs, zs, rfl, rfl, hH, hB, hz, q⟩ := h
  cases rx
  cases ry
  obtain ⟨z, its, n, r, hl, e⟩ := I.lstM hH
  obtain ⟨z2, its2, n2, r2, hl2, e2⟩ := I.lstM hB
  refine PySem.P.add_list e e2 ?_ (by rw [List.size_toArray, List.size_toArray]; omega)
  have ea : its.toArray ++ its2.toArray = (its ++ its2).toArray := by simp
  rw [ea]
  exact ⟨.ref _, _, I.lnew (t' := s.toks) (r.append r2) (by rw [List.length_append]; assumption), rfl, q _ I.fresh⟩
end
end L2
namespace L2
open PySem PySem.Spec PyProof.Rows
section
variable {κ : Type} [DecidableEq κ]
def valV (kvs : List (κ × V)) (k : κ) : Option V := (kvs.find? fun kv => decide (kv.1 = k)).map (·.2)
def putK (kvs : List (κ × V)) (k : κ) (v : V) : List (κ × V) :=
  if (kvs.any fun kv => decide (kv.1 = k)) = true then kvs.map (fun kv => if kv.1 = k then (kv.1, v) else kv) else kvs ++ [(k, v)]
theorem valV_pos {p : κ × V} {r : List (κ × V)} {k : κ} (e : p.1 = k) : valV (p :: r) k = some p.2 := by simp [valV, List.find?_cons, e]
theorem valV_neg {p : κ × V} {r : List (κ × V)} {k : κ} (e : ¬ p.1 = k) : valV (p :: r) k = valV r k := by simp [valV, List.find?_cons, e]
theorem valV_any (k : κ) : ∀ kvs : List (κ × V), (kvs.any fun kv => decide (kv.1 = k)) = (valV kvs k).isSome
  | [] => rfl
  | p :: r => by
    rw [List.any_cons]
    by_cases e : p.1 = k
    · simp only [valV_pos e, decide_eq_true e, Bool.true_or, Option.isSome_some]
    · rw [valV_neg e, decide_eq_false e, Bool.false_or]; exact valV_any k r
theorem valV_map (k j : κ) (y : V) : ∀ kvs : List (κ × V), valV (kvs.map fun kv => if kv.1 = k then (kv.1, y) else kv) j = (valV kvs j).map fun x => if j = k then y else x
  | [] => rfl
  | p :: r => by
    have ih := valV_map k j y r
    rw [List.map_cons]
    by_cases h : p.1 = k
    · rw [if_pos h]
      by_cases e : p.1 = j
      · rw [valV_pos (p := (p.1, y)) e, valV_pos e, Option.map_some, if_pos (e.symm.trans h)]
      · rw [valV_neg (p := (p.1, y)) e, valV_neg e, ih]
    · rw [if_neg h]
      by_cases e : p.1 = j
      · rw [valV_pos (p := p) e, valV_pos e, Option.map_some, if_neg (fun z => h (e.trans z))]
      · rw [valV_neg (p := p) e, valV_neg e, ih]
theorem valV_snoc (k j : κ) (y : V) : ∀ kvs : List (κ × V), valV kvs k = none → valV (kvs ++ [(k, y)]) j = if j = k then some y else valV kvs j
  | [], _ => by
    by_cases e : k = j
    · rw [if_pos e.symm]; exact valV_pos (p := (k, y)) e
    · rw [if_neg (fun z => e z.symm)]; exact valV_neg (p := (k, y)) e
  | p :: r, hn => by
    rw [List.cons_append]
    have hk : ¬ p.1 = k := fun z => by rw [valV_pos z] at hn; cases hn
    rw [valV_neg hk] at hn
    have ih := valV_snoc k j y r hn
    by_cases e : p.1 = j
    · rw [valV_pos e, valV_pos e, if_neg (fun z => hk (e.trans z))]
    · rw [valV_neg e, valV_neg e, ih]
theorem valV_put (kvs : List (κ × V)) (k j : κ) (y : V) : valV (putK kvs k y) j = if j = k then some y else valV kvs j := by
  unfold putK
  by_cases a : (kvs.any fun kv => decide (kv.1 = k)) = true
  · rw [if_pos a, valV_map]
    rw [valV_any] at a
    by_cases e : j = k
    · obtain ⟨x, hx⟩ := Option.isSome_iff_exists.mp a
      rw [if_pos e, e, hx, Option.map_some, if_pos rfl]
    · rw [if_neg e]
      cases valV kvs j with
      | none => rfl
      | some x => rw [Option.map_some, if_neg e]
  · rw [if_neg a]
    refine valV_snoc k j y kvs ?_
    rw [valV_any] at a
    cases q : valV kvs k with
    | none => rfl
    | some x => rw [q] at a; exact (a rfl).elim
theorem length_putK (kvs : List (κ × V)) (k : κ) (v : V) : (putK kvs k v).length ≤ kvs.length + 1 := by
  unfold putK
  split
  · rw [List.length_map]; exact Nat.le_add_right _ _
  · rw [List.length_append, List.length_cons, List.length_nil]; exact Nat.add_le_add_left (by decide) _
theorem putK_new {kvs : List (κ × V)} {k : κ} (v : V) (h : valV kvs k = none) : putK kvs k v = kvs ++ [(k, v)] := by
  unfold putK
  rw [valV_any, h]
  exact if_neg (by decide)
theorem RelO.isSome_eq {o : Option V} {u : Option Value} (r : RelO o u) : o.isSome = u.isSome := by
  cases o with
  | none => cases u with
    | none => rfl
    | some _ => exact (show False from r).elim
  | some _ => cases u with
    | none => exact (show False from r).elim
    | some _ => rfl
theorem KV.val {kvs : List (κ × V)} {vs : List (κ × Value)} (r : KV kvs vs) (k : κ) : RelO (valV kvs k) (valueAt vs k) := by
  unfold KV at r
  induction r with
  | nil => exact True.intro
  | @cons p q ps qs h t ih =>
    obtain ⟨h1, h2⟩ := h
    by_cases e : p.1 = k
    · have e' : q.1 = k := h1.symm.trans e
      have b : valueAt (q :: qs) k = some q.2 := by simp [valueAt, List.find?_cons, e']
      rw [valV_pos e, b]; exact h2
    · have e' : ¬ q.1 = k := fun z => e (h1.trans z)
      have b : valueAt (q :: qs) k = valueAt qs k := by simp [valueAt, List.find?_cons, e']
      rw [valV_neg e, b]; exact ih
theorem KV.any {kvs : List (κ × V)} {vs : List (κ × Value)} (r : KV kvs vs) (k : κ) : (kvs.any fun kv => decide (kv.1 = k)) = vs.any fun kv => decide (kv.1 = k) := by
  unfold KV at r
  induction r with
  | nil => rfl
  | cons h t ih => rw [List.any_cons, List.any_cons, ih, h.1]
theorem KV.repl {kvs : List (κ × V)} {vs : List (κ × Value)} (r : KV kvs vs) (k : κ) {y : V} {u : Value} (ry : RelV y u) :
    KV (kvs.map fun kv => if kv.1 = k then (kv.1, y) else kv) (vs.map fun kv => if kv.1 = k then (kv.1, u) else kv) := by
  unfold KV at r ⊢
  induction r with
  | nil => exact .nil
  | @cons p q ps qs h t ih =>
    rw [List.map_cons, List.map_cons]
    refine .cons ?_ ih
    obtain ⟨h1, h2⟩ := h
    by_cases e : p.1 = k
    · rw [if_pos e, if_pos (h1.symm.trans e)]; exact ⟨h1, ry⟩
    · rw [if_neg e, if_neg (fun z => e (h1.trans z))]; exact ⟨h1, h2⟩
theorem KV.put {kvs : List (κ × V)} {vs : List (κ × Value)} (r : KV kvs vs) (k : κ) {y : V} {u : Value} (ry : RelV y u) : KV (putK kvs k y) (stored vs k u) := by
  unfold putK stored
  rw [r.any k]
  by_cases e : (vs.any fun kv => decide (kv.1 = k)) = true
  · rw [if_pos e, if_pos e]; exact r.repl k ry
  · rw [if_neg e, if_neg e]; exact Paired.snoc r ⟨rfl, ry⟩
theorem KV.length {kvs : List (κ × V)} {vs : List (κ × Value)} (r : KV kvs vs) : kvs.length = vs.length := Paired.length r
end
theorem kV_is {P : Program} {w : World} {k : Key} {u : Value} (r : RelV (kV k) u) : (mixKind P w).is k u = true := by
  cases k with
  | inl i => obtain ⟨t, e⟩ := (show ∃ t, u = Value.int i t from r); subst e; exact mixKind_int P w i t
  | inr x => obtain ⟨t, e⟩ := (show ∃ t, u = Value.str x t from r); subst e; exact mixKind_str P w x t
theorem items_are {P : Program} {w : World} : ∀ {ks : List Key} {us : List Value}, Vals (ks.map kV) us → ItemsAre (mixKind P w) ks us
  | [], _, r => by rw [List.map_nil] at r; cases r; exact .nil
  | k :: ks, _, r => by
    rw [List.map_cons] at r
    cases r with
    | cons h t => exact .cons (kV_is h) (items_are t)
abbrev KT (H : Hp) : List (List Key × V) → List (List Key × Addr × Value) → Prop := Paired fun p q => p.1 = q.1 ∧ H q.2.1 = some (.tup (p.1.map kV)) ∧ RelV p.2 q.2.2
theorem KT.val {H : Hp} {kvs : List (List Key × V)} {xs : List (List Key × Addr × Value)} (r : KT H kvs xs) (k : List Key) : RelO (valV kvs k) ((atKey xs k).map (·.2)) := by
  induction r with
  | nil => exact True.intro
  | @cons p q ps qs h t ih =>
    obtain ⟨h1, _, h2⟩ := h
    by_cases e : p.1 = k
    · have e' : q.1 = k := h1.symm.trans e
      have b : atKey (q :: qs) k = some q.2 := by simp [atKey, List.find?_cons, e']
      rw [valV_pos e, b]; exact h2
    · have e' : ¬ q.1 = k := fun z => e (h1.trans z)
      have b : atKey (q :: qs) k = atKey qs k := by simp [atKey, List.find?_cons, e']
      rw [valV_neg e, b]; exact ih
theorem KT.repl {H : Hp} {kvs : List (List Key × V)} {xs : List (List Key × Addr × Value)} (r : KT H kvs xs) (k : List Key) {y : V} {u : Value} (ry : RelV y u) :
    KT H (kvs.map fun kv => if kv.1 = k then (kv.1, y) else kv) (xs.map (putAt k u)) := by
  induction r with
  | nil => exact .nil
  | @cons p q ps qs h t ih =>
    rw [List.map_cons, List.map_cons]
    refine .cons ?_ ih
    obtain ⟨h1, h2, h3⟩ := h
    unfold putAt
    by_cases e : p.1 = k
    · rw [if_pos e, if_pos (h1.symm.trans e)]; exact ⟨h1, h2, ry⟩
    · rw [if_neg e, if_neg (fun z => e (h1.trans z))]; exact ⟨h1, h2, h3⟩
theorem KT.put {H : Hp} {kvs : List (List Key × V)} {xs : List (List Key × Addr × Value)} (r : KT H kvs xs) (k : List Key) {b : Addr} {y : V} {u : Value} (hb : H b = some (.tup (k.map kV))) (ry : RelV y u) :
    KT H (putK kvs k y) (storedH xs k b u) := by
  have e : (kvs.any fun kv => decide (kv.1 = k)) = (atKey xs k).isSome := by
    rw [valV_any, (r.val k).isSome_eq, Option.isSome_map]
  unfold putK storedH
  rw [e]
  by_cases q : (atKey xs k).isSome = true
  · rw [if_pos q, if_pos q]; exact r.repl k ry
  · rw [if_neg q, if_neg q]; exact Paired.snoc r ⟨rfl, hb, ry⟩
theorem KT.keeps {H H' : Hp} {kvs : List (List Key × V)} {xs : List (List Key × Addr × Value)} (r : KT H kvs xs) (ht : ∀ b ys, H b = some (.tup ys) → H' b = some (.tup ys)) : KT H' kvs xs :=
  Paired.mapP r fun _ _ z => ⟨z.1, ht _ _ z.2.1, z.2.2⟩
section
variable {P : Program} {w : World} {H : Hp} {h : Heap} {a : Addr}
theorem rd_of {u : HO} (ok : HOk P w H h) (e : Rd H a u) : ObjOk P w H h a u := e.ok ok
theorem dk_rd {kvs : List (Key × V)} (ok : HOk P w H h) (e : Rd H a (.dK kvs)) : kvs.length ≤ sizeLine ∧ (a == sysModules) = false ∧ ∃ vs, KV kvs vs ∧ h.DictOf (mixKind P w) a vs :=
  show ObjOk P w H h a (.dK kvs) from rd_of ok e
theorem dk_of {kvs : List (Key × V)} (ok : HOk P w H h) (e : H a = some (.dK kvs)) : kvs.length ≤ sizeLine ∧ (a == sysModules) = false ∧ ∃ vs, KV kvs vs ∧ h.DictOf (mixKind P w) a vs := dk_rd ok (.inl e)
theorem key_of {ks : List Key} (ok : HOk P w H h) (e : H a = some (.tup (ks.map kV))) : (tupleKind (mixKind P w)).is h ks a := by
  obtain ⟨_, its, r, o, h1, h2, _, n, h3⟩ := (show ObjOk P w H h a (.tup (ks.map kV)) from ok a _ e)
  exact ⟨o, its.toArray, n, h1, h2, h3, by simpa using items_are r⟩
theorem dt_rd {kvs : List (List Key × V)} (ok : HOk P w H h) (e : Rd H a (.dT kvs)) : kvs.length ≤ sizeLine ∧ (a == sysModules) = false ∧
    ∃ xs, KT H kvs xs ∧ h.DictOfH (tupleKind (mixKind P w)) a xs := by
  obtain ⟨z, y, xs, r, o, es, ep, h1, h2, h3, h4, h5⟩ := (show ObjOk P w H h a (.dT kvs) from rd_of ok e)
  refine ⟨z, y, xs, r, o, es, ep, h1, h2, h3, h4, fun x hx => ?_, h5⟩
  have all : ∀ {l : List (List Key × V)} {m : List (List Key × Addr × Value)}, KT H l m → ∀ x ∈ m, (tupleKind (mixKind P w)).is h x.1 x.2.1 := by
    intro l m q
    induction q with
    | nil => intro x hx; exact nomatch hx
    | @cons p q ps qs hq t ih =>
      intro x hx
      rcases List.mem_cons.mp hx with e | hx
      · subst e
        exact key_of ok (by rw [← hq.1]; exact hq.2.1)
      · exact ih x hx
  exact all r x hx
theorem dt_of {kvs : List (List Key × V)} (ok : HOk P w H h) (e : H a = some (.dT kvs)) : kvs.length ≤ sizeLine ∧ (a == sysModules) = false ∧
    ∃ xs, KT H kvs xs ∧ h.DictOfH (tupleKind (mixKind P w)) a xs := dt_rd ok (.inl e)
end
def DGet (H : Hp) (a : Addr) (y : V) (r : Option V) : Prop :=
  (∃ kvs k, Rd H a (.dK kvs) ∧ y = kV k ∧ r = valV kvs k) ∨ ∃ kvs k b, Rd H a (.dT kvs) ∧ y = .ref b ∧ H b = some (.tup (k.map kV)) ∧ r = valV kvs k
def DPut (H : Hp) (a : Addr) (y v : V) (H' : Hp) : Prop :=
  (∃ kvs k, H a = some (.dK kvs) ∧ y = kV k ∧ kvs.length < sizeLine ∧ H' = upd H a (.dK (putK kvs k v))) ∨
  ∃ kvs k b, H a = some (.dT kvs) ∧ y = .ref b ∧ H b = some (.tup (k.map kV)) ∧ kvs.length < sizeLine ∧ H' = upd H a (.dT (putK kvs k v))
theorem DGet.t {H : Hp} {a b : Addr} {kvs : List (List Key × V)} {k : List Key} (e : H a = some (.dT kvs)) (eb : H b = some (.tup (k.map kV))) : DGet H a (.ref b) (valV kvs k) := .inr ⟨kvs, k, b, .inl e, rfl, eb, rfl⟩
theorem DPut.t {H : Hp} {a b : Addr} {kvs : List (List Key × V)} {k : List Key} {v : V} (e : H a = some (.dT kvs)) (eb : H b = some (.tup (k.map kV))) (hl : kvs.length < sizeLine) :
    DPut H a (.ref b) v (upd H a (.dT (putK kvs k v))) := .inr ⟨kvs, k, b, e, rfl, eb, hl, rfl⟩
section
variable {X : Cx} {pins : List (Addr × Obj)} {σ : St} {H : Hp} {s : Shared} {a : Addr} {y v : V} {u r : Value} {o : Option V} {A : Around} {E : Value → Shared → Prop}
theorem Inv.big (I : Inv X pins σ H s) : sysModules < s.heap.objs.size := by
  have h : mainGlobals < s.heap.objs.size := (I.mod.glob.keeps I.bk).lt
  exact Nat.lt_trans (by decide) h
theorem d_getItem {Q : Value → Shared → Prop} (hu : A.units + 1 < cLine) (I : Inv X pins σ H s) (g : DGet H a y (some v)) (ry : RelV y u) (h : ∀ w' s', Inv X pins σ H s' → RelV v w' → Q w' s') :
    wpAny (model X.prog X.w) A (getItem (.ref a) u) Q E s := by
  rcases g with ⟨kvs, k, e, ey, l⟩ | ⟨kvs, k, b, e, ey, eb, l⟩
  · subst ey
    obtain ⟨z, hd, vs, rel, dd⟩ := dk_rd I.hok e
    obtain ⟨w', hw, rw'⟩ := RelO.some_of (v := v) (o := valueAt vs k) (by rw [l]; exact rel.val k)
    exact wpAny_getItem_of (kV_is ry) dd.mapOf hw (h w' _ (I.tok _) rw')
  · subst ey
    cases (show u = Value.ref b from ry)
    obtain ⟨z, hd, xs, rel, dd⟩ := dt_rd I.hok e
    obtain ⟨w', hw, rw'⟩ := RelO.some_of (v := v) (o := (atKey xs k).map (·.2)) (by rw [l]; exact rel.val k)
    obtain ⟨p, hp, hp2⟩ := Option.map_eq_some_iff.mp hw
    refine wpAny_getItem_heap (tupleKind_room_in1 hu) (key_of I.hok eb) dd hp ?_
    rw [hp2]
    exact h w' _ (I.tok _) rw'
theorem d_notIn {Q : Value → Shared → Prop} (hu : A.units + 1 < cLine) (I : Inv X pins σ H s) (g : DGet H a y o) (ry : RelV y u) (h : ∀ s', Inv X pins σ H s' → Q (.bool (!o.isSome)) s') :
    wpAny (model X.prog X.w) A (compareOp .NotIn u (.ref a)) Q E s := by
  rcases g with ⟨kvs, k, e, ey, l⟩ | ⟨kvs, k, b, e, ey, eb, l⟩
  · subst ey
    obtain ⟨z, hd, vs, rel, dd⟩ := dk_rd I.hok e
    refine wpAny_notIn_of (kV_is ry) hd dd.mapOf ?_
    rw [← (rel.val k).isSome_eq, ← l]
    exact h _ (I.tok _)
  · subst ey
    cases (show u = Value.ref b from ry)
    obtain ⟨z, hd, xs, rel, dd⟩ := dt_rd I.hok e
    refine wpAny_notIn_heap (tupleKind_room_in1 hu) (key_of I.hok eb) hd dd ?_
    have q := (rel.val k).isSome_eq
    rw [Option.isSome_map] at q
    rw [← q, ← l]
    exact h _ (I.tok _)
theorem d_write {h' : Heap} {t' : Nat} {ob : HO} (I : Inv X pins σ H s) (mu : Mut (H a)) (hs : Heap.SameBut a s.heap h') (he : ∃ q, h'.get? a = some q) (new : ObjOk X.prog X.w (upd H a ob) h' a ob) :
    Inv X pins σ (upd H a ob) { s with heap := h', toks := t' } :=
  I.write (x := a) (e := a) mu (.inl rfl) (fun b q hb z => (hs.2 b hb).trans z) he new
theorem dk_new {P : Program} {w : World} {H' : Hp} {h' : Heap} {kvs : List (Key × V)} {vs : List (Key × Value)} (z : kvs.length ≤ sizeLine) (hd : (a == sysModules) = false) (rel : KV kvs vs) (dd : h'.DictOf (mixKind P w) a vs) :
    ObjOk P w H' h' a (.dK kvs) := ⟨z, hd, vs, rel, dd⟩
theorem d_setItem {H' : Hp} {Q : Unit → Shared → Prop} (hu : A.units + 1 < cLine) (I : Inv X pins σ H s) (g : DPut H a y v H') (ry : RelV y u) (rv : RelV v r) (h : ∀ s', Inv X pins σ H' s' → Q () s') :
    wpAny (model X.prog X.w) A (setItem (.ref a) u r) Q E s := by
  rcases g with ⟨kvs, k, e, ey, l, eH⟩ | ⟨kvs, k, b, e, ey, eb, l, eH⟩
  · subst ey eH
    obtain ⟨z, hd, vs, rel, dd⟩ := dk_of I.hok e
    have hz : vs.length ≤ sizeLine := by rw [← rel.length]; exact z
    have hl : (putK kvs k v).length ≤ sizeLine := by have := length_putK kvs k v; exact Nat.le_trans (by assumption) (by assumption)
    refine wpAny_setItem_pairs (hsz := hz) (kV_is ry) dd fun h' dd' hs => h _ ?_
    have he : ∃ q, h'.get? a = some q := let ⟨q, _, _, hq, _⟩ := dd'; ⟨q, hq⟩
    exact d_write I (by rw [e]; exact True.intro) hs he (dk_new hl hd (rel.put k rv) dd')
  · subst ey eH
    cases (show u = Value.ref b from ry)
    obtain ⟨z, hd, xs, rel, dd⟩ := dt_of I.hok e
    have hz : xs.length ≤ sizeLine := by rw [← Paired.length rel]; exact z
    have hl : (putK kvs k v).length ≤ sizeLine := by have := length_putK kvs k v; exact Nat.le_trans (by assumption) (by assumption)
    refine wpAny_setItem_heap (hsz := hz) (tupleKind_room_in1 hu) (key_of I.hok eb) dd fun h' dd' hs => h _ ?_
    obtain ⟨q, es, ep, hq, h2, h3, h4, _, h5⟩ := dd'
    refine d_write I (by rw [e]; exact True.intro) hs ⟨q, hq⟩ ⟨hl, hd, _, (rel.put k eb rv).keeps fun c ys ec => ?_, q, es, ep, hq, h2, h3, h4, h5⟩
    rw [upd_ne (ne_of ec e (fun z => nomatch z))]
    exact ec
end
def NoSl (i : Expr) : Prop := ∀ ov iv, subscripted i false ov iv = operate [ov, iv] (getItem ov iv)
theorem subD_of {prog : Program} {w : World} {A : Around} {E : Value → Shared → Prop} {s : Shared} {env : Env} {value slice : Expr} {pos : Pos} {T id : String} {Q : Value → Shared → Prop}
    (hl : typeLookup (.type T) "__getitem__" = pure (some (.builtin id))) (hs : NoSl slice)
    (h : wpAny (model prog w) A (eval value env) (fun o s₁ => wpAny (model prog w) A (eval slice env) (fun i s₂ => s₂.TypeIs o T ∧ wpAny (model prog w) A (getItem o i) Q E s₂) E s₁) E s) :
    wpAny (model prog w) A (eval (.Subscript value slice pos) env) Q E s := by
  refine Subscript_ (wpAny_mono h (fun o s₁ h₁ => wpAny_mono h₁ (fun i s₂ h₂ => ?_) fun _ _ x => x) fun _ _ x => x)
  obtain ⟨hT, h₂⟩ := h₂
  unfold subscriptTail
  refine wpAny_bind ?_
  rw [getitemInPython_of_ne hT.not_modules]
  refine wpAny_bind (wpAny_specialOf hT hl ?_)
  have fin : wpAny (model prog w) A (subscripted slice false o i) (fun r s₃ => wpAny (model prog w) A (letTemporaryGo value o r >>= fun _ => pure r) Q E s₃) E s₂ := by
    rw [hs o i]
    exact wpAny_operating (wpAny_mono h₂ (fun r s₃ h₃ => wpAny_bind (wpAny_letTemporaryGo (wpAny_pure h₃))) fun _ _ x => x)
  first
    | exact wpAny_pure (wpAny_bind fin)
    | exact wpAny_bind (wpAny_pure (wpAny_bind fin))
    | exact wpAny_bind fin
theorem dict_typeIs {X : Cx} {pins : List (Addr × Obj)} {σ : St} {H : Hp} {s : Shared} {a : Addr} {y : V} {o : Option V} (I : Inv X pins σ H s) (g : DGet H a y o) : s.TypeIs (.ref a) "dict" := by
  rcases g with ⟨kvs, k, e, _, _⟩ | ⟨kvs, k, b, e, _, _, _⟩
  · obtain ⟨_, _, vs, _, dd⟩ := dk_rd I.hok e
    exact dd.typeIs
  · obtain ⟨_, _, xs, _, dd⟩ := dt_rd I.hok e
    exact dd.typeIs
def tDGet (td ty : TE) : TE := fun σ H Q => td σ H fun x H1 => ty σ H1 fun y H2 => ∃ a v, x = .ref a ∧ DGet H2 a y (some v) ∧ Q v H2
def tDNotIn (ty td : TE) : TE := fun σ H Q => ty σ H fun y H1 => td σ H1 fun x H2 => ∃ a o, x = .ref a ∧ DGet H2 a y o ∧ Q (.bl (!o.isSome)) H2
def sDPut (td ty tv : TE) : TS := fun D σ H => tv σ H fun v H1 => td σ H1 fun x H2 => ty σ H2 fun y H3 => ∃ a H4, x = .ref a ∧ DPut H3 a y v H4 ∧ D.nx σ H4
section
variable {X : Cx} {o i e value : Expr} {pos pos' tpos : Pos} {td ty tv : TE}
theorem pe_dget (hu : X.A.units + 1 < cLine) (ho : PE X o td) (hi : PE X i ty) (hs : NoSl i) : PE X (.Subscript o i pos) (tDGet td ty) := by
  intro pins s σ H Q I h
  refine subD_of PySem.F.slot_dict_getitem.lookup hs (thn (ho pins s σ H _ I h) fun u s1 ⟨x, H1, I1, rx, q1⟩ => thn (hi pins s1 σ H1 _ I1 q1) fun iv s2 ⟨y, H2, I2, ry, a, v, ex, g, q2⟩ => ?_)
  subst ex
  obtain rfl : u = Value.ref a := rx
  exact ⟨dict_typeIs I2 g, d_getItem hu I2 g ry fun w' s3 I3 rw' => ⟨v, H2, I3, rw', q2⟩⟩
theorem pc_dnotin (hu : X.A.units + 1 < cLine) (hi : PE X i ty) (ho : PE X o td) : PC X .NotIn i o (tDNotIn ty td) := by
  intro pins s σ H Q I h
  refine thn (hi pins s σ H _ I h) fun iv s1 ⟨y, H1, I1, ry, q1⟩ => thn (ho pins s1 σ H1 _ I1 q1) fun u s2 ⟨x, H2, I2, rx, a, ov, ex, g, q2⟩ => ?_
  subst ex
  obtain rfl : u = Value.ref a := rx
  exact d_notIn hu I2 g ry fun s3 I3 => ⟨.bl (!ov.isSome), H2, I3, rfl, q2⟩
theorem ps_dput (hu : X.A.units + 1 < cLine) (ho : PE X o td) (hi : PE X i ty) (hv : PE X value tv) (hs : swapsWith value (some (.Subscript o i pos')) pos.line X.env = pure false) :
    PS X (.Assign [.Subscript o i pos'] value pos) (sDPut td ty tv) := by
  intro pins s σ H D I h
  refine wpAny_Assign_Subscript (thn (hv pins s σ H _ I h) fun r s1 ⟨v, H1, I1, rv, q1⟩ => thn (ho pins s1 σ H1 _ I1 q1) fun u s2 ⟨x, H2, I2, rx, q2⟩ => thn (hi pins s2 σ H2 _ I2 q2) fun iv s3 ⟨y, H3, I3, ry, a, H4, ex, g, q3⟩ => ?_) hs
  subst ex
  obtain rfl : u = Value.ref a := rx
  exact d_setItem hu I3 g ry rv fun s4 I4 => ⟨σ, H4, I4, q3⟩
end
theorem dt_empty {P : Program} {w : World} {H : Hp} (h : Heap) (hb : sysModules < h.objs.size) : ObjOk P w H (h.push { cls := .type "dict", data := .dict #[] }) h.objs.size (.dT []) :=
  ⟨Nat.zero_le _, beq_eq_false_iff_ne.mpr (Ne.symm (Nat.ne_of_lt hb)), [], .nil, _, #[], 0, Heap.get?_push_size _ rfl, ⟨rfl, rfl, rfl⟩, rfl, rfl, List.nodup_nil⟩
end L2
namespace Att
open PySem PySem.W PySem.Calls PyProof.Rows
theorem ints_of_wellAll {P : Params} {h : Heap} : ∀ (ns : List Int) (vs : List Value), WellAll P h vs (ns.map WData.int) → IntsAre vs ns := by
  intro ns
  induction ns with
  | nil =>
    intro vs w
    rw [List.map_nil] at w
    cases w
    exact .nil
  | cons n ns ih =>
    intro vs w
    rw [List.map_cons] at w
    cases w with
    | cons a b =>
      cases a
      exact .cons _ _ (ih _ b)
theorem script_of {l : OpenLaw} {n : Nat} (hn : l.most = some n) {P : Params} {h : Heap} {args : List WData} {vals : List Value}
    (hpre : l.row.toRowW.claim.pre args = true) (hwl : WellAll P h vals args) :
    ∃ a vs ns, vals = [Value.ref a] ∧ args = [WData.list (ns.map WData.int)] ∧ h.get? a = some { cls := .type "list", data := .seq vs.toArray } ∧ IntsAre vs ns ∧ ns.length ≤ n := by
  have hsh : WShape.hasAll [] args [.list .int] = true := (pre_splitW hpre).1
  have hc : l.pre.holds [] { args := args } = true := (pre_splitW hpre).2
  obtain ⟨d, r, rfl, h1, h2⟩ := hasAllW_cons hsh
  obtain rfl := hasAllW_nil h2
  obtain ⟨xs, rfl, h3⟩ := hasW_list h1
  obtain ⟨ns, rfl⟩ := items_int h3
  have hlen : ns.length ≤ n := by
    unfold OpenLaw.pre at hc
    have h4 : (WTm.not (.lt (.lit (.int (n : Int))) (.len (.arg 0)))).holds [] { args := [.list (ns.map .int)] } = true := by
      have h4 := (holds_andW hc).1
      rw [hn] at h4
      exact h4
    have h5 := condW_of h4 (w_not (w_lt w_lit (w_len_list (w_arg rfl))))
    rw [List.length_map] at h5
    refine Nat.le_of_not_lt fun q => ?_
    have q' : (n : Int) < ((ns.length : Nat) : Int) := by omega
    first
      | (rw [decide_eq_true q'] at h5; exact absurd h5 (by decide))
      | (simp at h5; omega)
  cases hwl with
  | cons w1 w2 =>
    cases w2
    cases w1 with
    | list ho hall => exact ⟨_, _, ns, rfl, rfl, ho, ints_of_wellAll ns _ hall, hlen⟩
theorem post_true (l : OpenLaw) (args : List WData) : l.row.toRowW.claim.post args (.bool true) args = true :=
  postW_of (r := l.row.toRowW) (X := (true == true))
    (show WShape.has [] (.bool true) .bool = true by first | rfl | decide | simp [WShape.has, WShape.arms, WShape.armsAll])
    (show (WTm.eq .res (.lit (.bool true))).value [] { args := args, res := some (.bool true), after := args } = some (.bool (true == true)) from w_eq_bool (w_res rfl) w_lit) rfl
theorem attach_call {l : OpenLaw} {n : Nat} {q : Program} {loose : List Str} {XP : (Str → Option Value) → Heap → Prop} {YP : World → Heap → Prop} {d : DefRec}
    (hn : l.most = some n) (hdf : d.params.defaults = [])
    (call : ∀ (w : World) (s₀ s₁ : Shared) (mg mb : Str → Option Value) (fa : Addr) (o : Obj) (pm cd doc : Value) (a : Addr) (vs : List Value) (ns : List Int),
      Ground q loose [] XP w s₀ mg mb s₁.heap → YP w s₁.heap →
      s₁.heap.get? fa = some o → o.data = .func (docDef d.name d.params d.body d.scope pm cd doc) → s₁.heap.CodeRec cd d.name → mg d.name = some (.ref fa) →
      s₁.heap.get? a = some { cls := .type "list", data := .seq vs.toArray } → IntsAre vs ns → ns.length ≤ n → s₁.gens = #[] →
      codeAny (model l.prog w) callerA (.call (.ref fa) ⟨[.ref a], []⟩) (fun r s' => r = .ok (.ret (.bool true)) ∧ OldK s₁.heap s'.heap ∧ s'.os = s₁.os ∧ AllBare s'.gens) s₁) :
    WalkO q loose XP YP l.row.toRowW d [] (fun f vs => PySem.call f vs) := by
  intro w s₀ s₁ mg mb G Y fa o pm cd doc dV kV ho hd hcd hD hmg hg args vals as hpre hlay hrd hwl hlo
  obtain rfl : dV = .none := Dflts.none hD hdf
  obtain rfl : kV = .none := Dflts.noKw hD
  obtain ⟨a, vs, ns, rfl, rfl, hobj, hints, hlen⟩ := script_of hn hpre hwl
  refine enter_call (codeAny_mono (call w s₀ s₁ mg mb fa o pm cd doc a vs ns G Y ho (fd_plain hd) hcd hmg hobj hints hlen hg) fun r s' hq => ?_)
  obtain ⟨rfl, h2, h3, h4⟩ := hq
  exact ⟨.inl ⟨.bool true, .bool true, [], rfl, fun _ => rfl, .bool true, post_true l _, fun _ => ⟨List.Pairwise.nil, fun _ hm => (nomatch hm)⟩⟩, h2, h3, h4⟩
end Att
namespace L2
open PySem PySem.Spec PyProof.Rows
theorem vals_ints : ∀ {vs : List Value} {ns : List Int}, IntsAre vs ns → Vals (ns.map V.int) vs
  | _, _, .nil => .nil
  | _, _, .cons n t h => .cons ⟨t, rfl⟩ (vals_ints h)
def Only (H : Hp) : Prop := ∀ b, H b = none ∨ ∃ o xs, H b = some (.frz o (.lst xs))
theorem law_call {P : Program} {w : World} {K : PySem.W.Frag} {mg mb : Str → Option Value} {CX : CXT} {k : Nat} {fa a : Addr} {fd : FuncData} {x : Str} {sp : Sp} {s₁ : Shared} {vs : List Value} {ns : List Int}
    (KX : K.In s₁.heap) (hns : s₁.heap.Ns mainGlobals mg) (hb : s₁.heap.Ns builtinsNs mb) (hbb : ∀ x : Str, x ≠ "__name__" → mb x = bootBuiltins x) (hlim : s₁.heap.NoLimit) (hg : s₁.gens = #[])
    (ha : s₁.heap.get? a = some { cls := .type "list", data := .seq vs.toArray }) (hi : IntsAre vs ns) (hl : ns.length ≤ sizeLine) (hr : Room k callerA)
    (F : ∀ base : Heap, K.In base → base.Ns mainGlobals mg → FnOk P w K mg base CX k fa fd [x] sp) (hbind : ∀ (s : Shared) (u : Value), BindsTo s fd ⟨[u], []⟩ [(x, u)])
    (hsp : ∀ H : Hp, Only H → SqL K H a (ns.map V.int) → sp [.ref a] H (fun v _ => v = .bl true) fun _ _ _ => False)
    (hCX : ∀ H e s', CX [] H s₁ (fun _ _ _ => False) e s' → False) :
    codeAny (model P w) callerA (.call (.ref fa) ⟨[.ref a], []⟩) (fun r s' => r = .ok (.ret (.bool true)) ∧ OldK s₁.heap s'.heap ∧ s'.os = s₁.os ∧ AllBare s'.gens) s₁ := by
  have rv := vals_ints hi
  have lenV := hi.length
  have core : ∀ H : Hp, Only H → SqL K H a (ns.map V.int) → HOk P w H s₁.heap → (∀ b, H b ≠ none → b = a) → (H a ≠ none → K.lookup a = none) →
      codeAny (model P w) callerA (.call (.ref fa) ⟨[.ref a], []⟩) (fun r s' => r = .ok (.ret (.bool true)) ∧ OldK s₁.heap s'.heap ∧ s'.os = s₁.os ∧ AllBare s'.gens) s₁ := by
    intro H hO hS hok hA hK
    have base_of : ∀ {b : Addr} {o : Obj}, s₁.heap.get? b = some o → H b = none → (hidT s₁.heap H).get? b = some o := fun e n => hidT_get e n
    have noA : ∀ {b : Addr} {o : Obj} {es : Array DictEntry} {ep : Nat}, s₁.heap.get? b = some o → o.data = .dict es ep → H b = none := fun {b o es ep} e d => by
      cases q : H b with
      | none => rfl
      | some u =>
        have e' : b = a := hA b (by rw [q]; simp)
        subst e'
        rw [ha] at e; cases e
        have d' : Data.seq vs.toArray _ = Data.dict es ep := d
        cases d'
    have nsK : ∀ {b : Addr} {m : Str → Option Value}, s₁.heap.Ns b m → (hidT s₁.heap H).Ns b m := fun {b m} ⟨o, es, ep, e, d, r⟩ => ⟨o, es, ep, base_of e (noA e d), d, r⟩
    have hKb : K.In (hidT s₁.heap H) := fun b o e => base_of (KX b o e) (by
      cases q : H b with
      | none => rfl
      | some u =>
        have e' : b = a := hA b (by rw [q]; simp)
        subst e'
        rw [hK (by rw [q]; simp)] at e; cases e)
    have hM : Mod K mg (hidT s₁.heap H) := ⟨hKb, nsK hns, ⟨mb, nsK hb, hbb⟩, let ⟨mc, h1, h2⟩ := hlim; ⟨mc, nsK h1, h2⟩⟩
    have e0 : Env0 P w K mg (hidT s₁.heap H) callerA [] s₁ H := ⟨rfl, hM, fun b o e => of_hidT e, Nat.le_of_eq (hidT_size _ _), trivial, fun b hb => absurd (show b ∈ ([] : List Addr) from hb) (by simp), hok, .of_eq hg⟩
    refine codeAny_mono ((F _ hKb (nsK hns)).run callerA [] s₁ H ⟨[.ref a], []⟩ [.ref a] [.ref a] _ _ hr e0 (hbind s₁ (.ref a)) (.cons rfl .nil) (hsp H hO hS)) fun r s' h => ?_
    cases r with
    | error e => exact (hCX H e s' h).elim
    | ok fl =>
      cases fl with
      | next => exact False.elim h
      | brk => exact False.elim h
      | cont => exact False.elim h
      | ret u =>
        obtain ⟨v, H', os, bare, un, hok', r', q⟩ := h
        have q' : v = .bl true := q
        subst q'
        obtain rfl : u = Value.bool true := r'
        refine ⟨rfl, OldK.of_keep fun b o e => ?_, os, bare⟩
        cases q : H b with
        | none => exact un.keep b o e q (by intro z; exact absurd (show b ∈ ([] : List Addr) from z) (by simp)) (by simp)
        | some u =>
          rcases hO b with z | ⟨ob, xs, z⟩
          · rw [q] at z; cases z
          · have z2 := un.frzs b ob _ z
            obtain ⟨e1, _⟩ := hok b _ z
            obtain ⟨e2, _⟩ := hok' b _ z2
            rw [e] at e1; cases e1
            exact e2
  cases hk : K.lookup a with
  | some o =>
    have e := KX a o hk
    rw [ha] at e
    cases e
    refine core (fun _ => none) (fun _ => .inl rfl) (.inr ⟨_, vs.toArray, _, hk, rfl, rfl, rfl, by rw [List.size_toArray, lenV]; exact hl, by simpa using rv⟩) (fun b u z => by have z' : (none : Option HO) = some u := z; cases z') (fun b z => absurd rfl z) fun z => absurd rfl z
  | none =>
    refine core (fun b => if b = a then some (.frz { cls := .type "list", data := .seq vs.toArray } (.lst (ns.map V.int))) else none) (fun b => ?_) (.inl (.inr ⟨{ cls := .type "list", data := .seq vs.toArray }, if_pos rfl⟩)) (fun b u z => ?_) (fun b z => ?_) fun _ => hk
    · by_cases hb : b = a
      · exact .inr ⟨_, _, if_pos hb⟩
      · exact .inl (if_neg hb)
    · by_cases hb : b = a
      · have z' := (if_pos hb).symm.trans z
        cases z'
        subst hb
        exact ⟨ha, by rw [List.length_map]; exact hl, vs, _, rv, ha⟩
      · have z' := (if_neg hb).symm.trans z
        cases z'
    · by_cases hb : b = a
      · exact hb
      · exact absurd (if_neg hb) z
end L2
namespace L2
open PySem PySem.Spec PyProof.Rows
theorem walk_of {l : PySem.W.OpenLaw} {n k : Nat} {q : Program} {loose : List Str} {XP : (Str → Option Value) → Heap → Prop} {YP : World → Heap → Prop} {d : DefRec} {K : Params → PySem.W.Frag} {CX : World → CXT} {sp : World → Sp} {x : Str}
    (hn : l.most = some n) (hn2 : n ≤ sizeLine) (hdf : d.params.defaults = []) (hr : Room k callerA)
    (hY : ∀ (w : World) (h : Heap), YP w h → (K w.params).In h)
    (F : ∀ (w : World) (mg : Str → Option Value) (fa : Addr) (h : Heap), (K w.params).In h → h.Ns mainGlobals mg → mg d.name = some (.ref fa) →
      ∃ fd : FuncData, (∀ (s : Shared) (u : Value), BindsTo s fd ⟨[u], []⟩ [(x, u)]) ∧
        ∀ base : Heap, (K w.params).In base → base.Ns mainGlobals mg → FnOk l.prog w (K w.params) mg base (CX w) k fa fd [x] (sp w))
    (hsp : ∀ (w : World) (H : Hp) (a : Addr) (ns : List Int), ns.length ≤ n → Only H → SqL (K w.params) H a (ns.map V.int) → sp w [.ref a] H (fun v _ => v = .bl true) fun _ _ _ => False)
    (hCX : ∀ (w : World) (H : Hp) (s : Shared) (e : Value) (s' : Shared), CX w [] H s (fun _ _ _ => False) e s' → False) :
    PySem.W.WalkO q loose XP YP l.row.toRowW d [] (fun f vs => PySem.call f vs) := by
  refine Att.attach_call hn hdf fun w s₀ s₁ mg mb fa o pm cd doc a vs ns G Y ho hd hcd hmg hobj hints hlen hg => ?_
  have KX := hY w _ Y
  obtain ⟨fd, hb, hF⟩ := F w mg fa _ KX G.T.g hmg
  exact law_call KX G.T.g G.T.b G.T.builtins G.T.nolimit hg hobj hints (Nat.le_trans hlen hn2) hr hF hb (fun H hO hS => hsp w H a ns hlen hO hS) fun H e s' => hCX w H s₁ e s'
end L2
/- THE LAST THEOREM (shape; LID, My.* are yours):
   My.Adr: a structure of the addresses that your layer names (classes, functions); My.Txt K t: a structure (Prop) of the equations over K;
   My.txt_mk : {K} {implicit addresses ..} (e1 : nsIn K mainGlobals "law" = some (some (.ref f))) (e2 : K.lookup f = some ⟨oc, od, .func (fnOf "law" "law" params body scope dV kV doc pm an cdv ct), sl⟩) (e3 : codeIn K cdv "law" = true) .. : ∃ t, My.Txt K t
set_option maxRecDepth 100000 in
set_option maxHeartbeats 0 in
theorem PySem.Challenge.cw_LID_holds : PySem.Challenge.rw_LID.Holds := by
  w_on; o_law; k_head; (case hw => w_witness2)
  k_fill
  refine L2.walk_of (l := PySem.Challenge.rw_LID) (n := 63) (k := 40) (x := "script") (CX := fun w => ..) (sp := fun _ => My.sp_law) rfl (by decide) rfl ⟨rfl, by decide, by decide⟩ (fun w h Y => PySem.W.kIn_of Y) ?F ?S ?C
  case F =>
    intro w mg fa h KX G hmg
    have T : ∃ t, My.Txt (L2.KOf KX) t := by
      dsimp only [L2.KOf]                          -- K must stand as «<heap const> w.params» for k_is
      refine' My.txt_mk ?e1 ?e2 ?e3 ..
      (case e1 => PySem.W.k_is)                    -- in the order: a name -> its address -> its object -> its parts
      (case e2 => PySem.W.k_is)
      ..
    obtain ⟨t, T⟩ := T
    have e0 := hmg.symm.trans (PySem.W.mg_of KX G T.law)
    cases e0                                       -- fa is the law's own address
    exact ⟨_, fun s u => .of_eq rfl, fun base kb nb => My.law_fn T kb nb⟩     -- if «.of_eq rfl» comes too early: refine' ⟨_, ?b, fun base kb nb => My.law_fn T kb nb⟩; exact fun s u => .of_eq rfl
  case S => exact fun w H a ns hl hO hS => ..
  case C => exact ..
(the tactic k_is has no namespace: write k_is) -/
namespace L2
open PySem PySem.Spec PyProof.Rows
def defArgs (s : Stmt) : Arguments := match s with
  | .FunctionDef _ a _ _ _ _ _ _ _ _ => a
  | _ => { posonlyargs := [], args := [], vararg := none, kwonlyargs := [], kw_defaults := [], kwarg := none, defaults := [] }
def defBody (s : Stmt) : List Stmt := match s with
  | .FunctionDef _ _ b _ _ _ _ _ _ _ => b
  | _ => []
def defScope (s : Stmt) : Scope := match s with
  | .FunctionDef _ _ _ _ _ _ sc _ _ _ => sc
  | _ => { kind := .function, names := [], isGenerator := false, isCoroutine := false }
abbrev CX0 : CXT := fun _ _ _ _ _ _ => False
abbrev E0 : XK := fun _ _ _ => False
theorem pass0 {X : Cx} : Passes CX0 X E0 := fun _ _ _ _ _ _ _ h => h.elim
structure Fun (K : PySem.W.Frag) (x qual : Str) (st : Stmt) (f : Addr) (fd : FuncData) : Prop where
  ex : ∃ (oc : Value) (od : Option Addr) (kV doc pm : Value) (an : Option Addr) (cdv ct : Value) (osl : Array (Option Value)),
    fd = PySem.W.fnOf x qual (defArgs st) (defBody st) (defScope st) .none kV doc pm an cdv ct ∧ K.lookup f = some ⟨oc, od, .func fd, osl⟩ ∧ PySem.W.codeIn K cdv qual = true
  kp : PySem.W.keepIn K (.ref f) = true
section
variable {P : Program} {w : World} {K : PySem.W.Frag} {mg : Str → Option Value} {base : Heap}
theorem Fun.ok {x qual : Str} {st : Stmt} {f : Addr} {fd : FuncData} {N ps : List Str} {k : Nat} {sp : Sp} (F : Fun K x qual st f fd) (S : FnScope N ps (defScope st)) (len : ∀ vs H Q E, sp vs H Q E → vs.length = ps.length)
    (hbody : ∀ (cdv : Value) (A : Around) (outer : List Env) (s : Shared) (H : Hp) (vs : List V) (Q : VK) (E : XK), Room k (A.deeper (envOfC qual (defScope st) s.heap.objs.size f cdv)) → sp vs H Q E →
      ∃ t, PSs (cxOf CX0 P w K mg base N qual (defScope st) f cdv A outer s H E).nox (defBody st) t ∧ t { nx := fun _ H' => Q .non H', rt := Q } (start N vs) H) : FnOk P w K mg base CX0 (k + 1) f fd ps sp := by
  obtain ⟨oc, od, kV, doc, pm, an, cdv, ct, osl, rfl, lk, hcd⟩ := F.ex
  refine fn_of lk hcd S len fun A outer s H vs Q E hr hsp => ?_
  obtain ⟨t, h, q⟩ := hbody cdv A outer s H vs Q E hr hsp
  exact ⟨t, h.nox, q⟩
theorem Fun.binds {x qual : Str} {st : Stmt} {f : Addr} {fd : FuncData} {ps : List Str} (F : Fun K x qual st f fd)
    (h : ∀ (kV doc pm : Value) (an : Option Addr) (cdv ct : Value) (us : List Value), us.length = ps.length → bindArgs (PySem.W.fnOf x qual (defArgs st) (defBody st) (defScope st) .none kV doc pm an cdv ct) ⟨us, []⟩ = pure (ps.zip us)) : Binds K fd ps [] := by
  obtain ⟨oc, od, kV, doc, pm, an, cdv, ct, osl, rfl, lk, hcd⟩ := F.ex
  exact .all (h kV doc pm an cdv ct)
theorem fun_mk {x qual : Str} {st : Stmt} {f : Addr} {oc : Value} {od an : Option Addr} {osl : Array (Option Value)} {kV doc pm cdv ct : Value} (l : K.lookup f = some ⟨oc, od, .func (PySem.W.fnOf x qual (defArgs st) (defBody st) (defScope st) .none kV doc pm an cdv ct), osl⟩)
    (c : PySem.W.codeIn K cdv qual = true) (k : PySem.W.keepIn K (.ref f) = true) : Fun K x qual st f (PySem.W.fnOf x qual (defArgs st) (defBody st) (defScope st) .none kV doc pm an cdv ct) := ⟨⟨oc, od, kV, doc, pm, an, cdv, ct, osl, rfl, l, c⟩, k⟩
end
theorem hu_of {A : Around} {k : Nat} (hr : Room k A) : A.units + 1 < cLine := Nat.lt_of_le_of_lt (Nat.add_le_add_left (by decide : 1 ≤ 64) _) hr.units
theorem small1000 {n : Nat} (h : n ≤ 1000) : n < sizeLine := Nat.lt_of_le_of_lt h (by decide)
section
variable {X : Cx}
theorem pv (i : Nat) {x : Str} {pos : Pos} (hN : X.N[i]? = some x := by rfl) (hv : Vis X.env.scope x := by first | exact Or.inl rfl | exact Or.inr (Or.inl rfl) | exact Or.inr (Or.inr rfl)) (hd : (x == ("__debug__" : Str)) = false := by decide)
    (hcd : (x == ("__classdict__" : Str)) = false := by decide) : PE X (.Name x pos) (tVar i) := pe_var hN hv hd hcd
end
theorem iteF {A B : Prop} (h : B) : if false = true then A else B := by
  rw [if_neg Bool.false_ne_true]
  exact h
theorem iteT {A B : Prop} (h : A) : if true = true then A else B := by
  rw [if_pos rfl]
  exact h
theorem ite2 {c A B : Prop} [Decidable c] (h1 : c → A) (h2 : ¬ c → B) : if c then A else B := by
  by_cases h : c
  · rw [if_pos h]
    exact h1 h
  · rw [if_neg h]
    exact h2 h
def Same (H H' : Hp) : Prop := ∀ b o, H b = some o → H' b = some o
theorem Same.trans {H H1 H2 : Hp} (a : Same H H1) (b : Same H1 H2) : Same H H2 := fun c o h => b c o (a c o h)
theorem Same.free {H H' : Hp} (e : Same H H') {l : Addr} (h : H' l = Option.none) : H l = Option.none := by
  cases q : H l with
  | none => rfl
  | some o =>
    rw [e l o q] at h
    cases h
section
variable {κ : Type} [DecidableEq κ]
theorem valV_not {kvs : List (κ × V)} {k : κ} (h : valV kvs k = none) : ¬ k ∈ kvs.map (·.1) := by
  intro m
  obtain ⟨p, hp, e⟩ := List.mem_map.mp m
  have q : (kvs.any fun kv => decide (kv.1 = k)) = true := List.any_eq_true.mpr ⟨p, hp, decide_eq_true e⟩
  rw [valV_any, h] at q
  exact absurd q (by simp)
theorem valV_in {kvs : List (κ × V)} {k : κ} {v : V} (h : valV kvs k = some v) : k ∈ kvs.map (·.1) := by
  have q : (kvs.any fun kv => decide (kv.1 = k)) = true := by
    rw [valV_any, h]
    all_goals rfl
  obtain ⟨p, hp, e⟩ := List.any_eq_true.mp q
  exact List.mem_map.mpr ⟨p, hp, of_decide_eq_true e⟩
theorem nd_snoc : ∀ {l : List κ} {k : κ}, l.Nodup → ¬ k ∈ l → (l ++ [k]).Nodup
  | [], k, _, _ => by simp
  | a :: r, k, h, hk => by
    obtain ⟨h1, h2⟩ := List.nodup_cons.mp h
    show (a :: (r ++ [k])).Nodup
    refine List.nodup_cons.mpr ⟨fun m => ?_, nd_snoc h2 fun m => hk (List.mem_cons.mpr (Or.inr m))⟩
    rcases List.mem_append.mp m with q | q
    · exact h1 q
    · exact hk (List.mem_cons.mpr (Or.inl (List.mem_singleton.mp q).symm))
theorem nd_putK {kvs : List (κ × V)} {k : κ} (v : V) (hn : (kvs.map (·.1)).Nodup) (h : valV kvs k = none) : ((putK kvs k v).map (·.1)).Nodup := by
  rw [putK_new v h, List.map_append]
  exact nd_snoc hn (valV_not h)
end
end L2
set_option maxHeartbeats 4000000
namespace L2
open PySem PySem.Spec PyProof.Rows
def closes (env : Env) : List (Str × NameKind) → List (Str × Addr) → List (Str × Addr)
  | [], cs => cs
  | (n, k) :: r, cs => closes env r (if k = .free then (n, (env.cells.lookup n).getD 0) :: cs else cs)
theorem closes_ok {env : Env} : ∀ (ns : List (Str × NameKind)) (cs : List (Str × Addr)), (∀ p ∈ ns, p.2 = .free → (env.cells.lookup p.1).isSome = true) →
    (forIn ns cs fun (x : Str × NameKind) r => (do
      let mut cs := r
      if x.2 == .free then cs := (x.1, ← cellOf env x.1) :: cs
      pure (ForInStep.yield cs) : Sem (ForInStep (List (Str × Addr))))) = pure (closes env ns cs)
  | [], cs, _ => rfl
  | (n, k) :: r, cs, h => by
    have ih := fun cs => closes_ok (env := env) r cs fun p hp => h p (List.mem_cons_of_mem _ hp)
    rw [List.forIn_cons]
    by_cases hk : k = .free
    · subst hk
      have q := h (n, .free) List.mem_cons_self rfl
      obtain ⟨c, hc⟩ := Option.isSome_iff_exists.mp q
      have e : cellOf env n = pure c := by unfold cellOf; rw [hc]
      simp only [e]
      simp [closes, hc, ih]
      have := ih ((n, c) :: cs)
      simpa using this
    · have hb : (k == NameKind.free) = false := by simpa using hk
      simp [closes, hk]
      have := ih cs
      simpa using this
theorem closureFor_closes {scope : Scope} {env : Env} (h : ∀ p ∈ scope.names, p.2 = .free → (env.cells.lookup p.1).isSome = true) : closureFor scope env = pure (closes env scope.names []) := by
  have q := closes_ok (env := env) scope.names [] h
  unfold closureFor
  simp at q ⊢
  exact q
theorem closes_sub {env : Env} : ∀ (ns : List (Str × NameKind)) (cs : List (Str × Addr)), (∀ p ∈ ns, p.2 = .free → (env.cells.lookup p.1).isSome = true) → (∀ y c, cs.lookup y = some c → env.cells.lookup y = some c) →
    ∀ y c, (closes env ns cs).lookup y = some c → env.cells.lookup y = some c
  | [], cs, _, h, y, c, e => h y c e
  | (n, k) :: r, cs, h, hc, y, c, e => by
    unfold closes at e
    refine closes_sub r _ (fun p hp => h p (List.mem_cons_of_mem _ hp)) ?_ y c e
    intro y c e
    by_cases hk : k = .free
    · subst hk
      rw [if_pos rfl] at e
      obtain ⟨d, hd⟩ := Option.isSome_iff_exists.mp (h (n, .free) List.mem_cons_self rfl)
      rw [List.lookup_cons] at e
      cases q : y == n with
      | true =>
        rw [q] at e
        have : y = n := by simpa using q
        subst this
        rw [hd] at e ⊢
        exact e
      | false =>
        rw [q] at e
        exact hc y c e
    · rw [if_neg hk] at e
      exact hc y c e
theorem closes_keep {env : Env} {y : Str} : ∀ (ns : List (Str × NameKind)) (cs : List (Str × Addr)), (cs.lookup y).isSome = true → ((closes env ns cs).lookup y).isSome = true
  | [], cs, h => h
  | (n, k) :: r, cs, h => by
    unfold closes
    refine closes_keep r _ ?_
    split
    · rw [List.lookup_cons]
      split
      · rfl
      · exact h
    · exact h
theorem closes_has {env : Env} {y : Str} : ∀ (ns : List (Str × NameKind)) (cs : List (Str × Addr)), (y, NameKind.free) ∈ ns → ((closes env ns cs).lookup y).isSome = true
  | (n, k) :: r, cs, h => by
    unfold closes
    rcases List.mem_cons.mp h with e | e
    · cases e
      refine closes_keep r _ ?_
      rw [if_pos rfl, List.lookup_cons]
      simp
    · exact closes_has r _ e
def compCx (X : Cx) (scope : Scope) (N : List Str) (C : Addr) (s : Shared) (H : Hp) (ex : List Addr) (pins : List (Addr × Obj)) : Cx where
  prog := X.prog
  w := X.w
  K := X.K
  mg := X.mg
  base := X.base
  A := X.A
  N := N
  s₀ := s
  H₀ := H
  env := compEnvC scope (closes X.env scope.names []) C X.env
  outer := X.stack
  stack := X.stack
  ex := ex
  fn := fun _ => false
  calm := X.calm
  pn := X.pn ++ pins
  xe := fun _ _ => False
def cst (nT : Nat) (js : List Nat) (σ : St) : St := List.replicate nT none ++ js.map fun j => (σ[j]?).join
structure CScope (X : Cx) (scope : Scope) (T F : List Str) (js : List Nat) : Prop where
  kind : scope.kind = .function
  nocell : ∀ y ∈ scope.names, y.2 ≠ .cell
  names : ∀ x ∈ scope.names, x.2 = .local → scope.names.lookup x.1 = some .local
  free : ∀ x ∈ scope.names, x.2 = .free → X.env.kindOf x.1 = some .cell
  loc : ∀ y ∈ T, (relabel scope X.env).names.lookup y = some .local
  cel : ∀ y ∈ F, (relabel scope X.env).names.lookup y = some .cell ∧ X.env.kindOf y = some .cell ∧ (y, NameKind.free) ∈ scope.names
  all : ∀ x ∈ (relabel scope X.env).names, (x.2 = .cell ∨ x.2 = .free) → (x.1, NameKind.free) ∈ scope.names
  js : js.map (fun j => X.N[j]?) = F.map some
section
variable {X : Cx} {scope : Scope} {T F : List Str} {js : List Nat}
theorem comp_inv {pins : List (Addr × Obj)} {σ : St} {H : Hp} {s : Shared} {h1 : Heap} {tk : Nat} {fp : List Addr} {m : Str → Option Value} (S : CScope X scope T F js) (I : Inv X pins σ H s)
    (hn : h1.Ns s.heap.objs.size m) (kk : ∀ b o, s.heap.get? b = some o → h1.get? b = some o) (hf : ∀ b ∈ fp, FpOk X pins H b ∧ ∃ o, s.heap.get? b = some o ∧ ∀ v, o.data ≠ .cell v) :
    Inv (compCx X scope (T ++ F) s.heap.objs.size s H fp pins) [] (cst T.length js σ) H { s with heap := h1, toks := tk } := by
  have sub := closes_sub (env := X.env) scope.names [] (fun p hp hk => by
    obtain ⟨c, e⟩ := I.ok.has p.1 (.inl (S.free p hp hk))
    rw [e]; rfl) (fun y c e => by simp at e)
  have ltC : ∀ y c, X.env.cells.lookup y = some c → c < s.heap.objs.size := fun y c e => by
    obtain ⟨v, z⟩ := I.cell y c e
    exact z.lt
  refine ⟨⟨I.ok.mod, ?_, I.ok.glob, I.ok.blt, Nat.le_refl _, fun x y c e1 e2 => I.ok.inj x y c (sub x c e1) (sub y c e2), fun x hx => ?_, fun x c hx => absurd hx Bool.false_ne_true, I.ok.hd, I.ok.frames, .inl rfl, fun b hb => ?_, I.bs, ?_, fun b o e hb => ?_, fun b hb hs => ?_, I.stack, I.stkFree⟩,
    rfl, I.bare, Un.kept kk, ⟨m, hn, fun i x v e1 e2 e3 => ?_⟩, fun x c e => ?_, I.hok.fresh (Nat.le_refl _), fun x c e => I.freeC x c (sub x c e), fun p hp => ?_, I.hok.kept kk, ?_⟩
  · show (relabel scope X.env).kind = .function
    exact S.kind
  · have hx : (relabel scope X.env).names.lookup x = some .cell ∨ (relabel scope X.env).names.lookup x = some .free := hx
    have hm : (x, NameKind.free) ∈ scope.names := by
      rcases hx with h | h
      · exact S.all _ (PySem.mem_of_lookup h) (.inl rfl)
      · exact S.all _ (PySem.mem_of_lookup h) (.inr rfl)
    exact Option.isSome_iff_exists.mp (closes_has scope.names [] hm)
  · obtain ⟨⟨f0, f1, f2, f3, f4, f5⟩, o, ho, _⟩ := hf b hb
    exact ⟨Nat.ne_of_lt (Heap.lt_size ho), fun x c e => f4 x c (sub x c e)⟩
  · exact Nat.le_trans I.ok.bsz I.sz
  · obtain ⟨⟨f0, f1, f2, f3, f4, f5⟩, _⟩ := hf b hb
    rcases f3 with z | z
    · exact I.ok.noex b o e z
    · exact absurd (Nat.lt_of_lt_of_le (Heap.lt_size e) (Nat.le_trans I.ok.bsz z)) (Nat.lt_irrefl _)
  · obtain ⟨⟨f0, f1, f2, f3, f4, f5⟩, _⟩ := hf b hb
    rcases List.mem_cons.mp (I.stkSub b hs) with z | z
    · exact f1 z
    · exact f2 z
  · -- a name's value
    have hi : T.length ≤ i := by
      by_cases hi : i < T.length
      · unfold cst at e2
        rw [List.getElem?_append_left (by simpa using hi), List.getElem?_replicate] at e2
        split at e2 <;> cases e2
      · exact Nat.not_lt.mp (by assumption)
    obtain ⟨k, rfl⟩ : ∃ k, i = T.length + k := ⟨i - T.length, by omega⟩
    have e1 : (T ++ F)[T.length + k]? = some x := e1
    rw [List.getElem?_append_right (by assumption)] at e1
    have e1 : F[k]? = some x := by simpa using e1
    unfold cst at e2
    rw [List.getElem?_append_right (by simp)] at e2
    have e2 : (js.map fun j => (σ[j]?).join)[k]? = some (some v) := by simpa using e2
    rw [List.getElem?_map] at e2
    cases ej : js[k]? with
    | none => rw [ej] at e2; cases e2
    | some j =>
      rw [ej] at e2
      have e2 : (σ[j]?).join = some v := by simpa using e2
      have e3' : σ[j]? = some (some v) := by
        cases q : σ[j]? with
        | none => rw [q] at e2; cases e2
        | some z => rw [q] at e2; cases z with
          | none => cases e2
          | some z => simp at e2; rw [e2]
      have eN : X.N[j]? = some x := by
        have q := congrArg (fun l => l[k]?) S.js
        simp only [List.getElem?_map, ej, e1] at q
        simpa using q
      obtain ⟨c1, c2, c3⟩ := S.cel x (List.mem_of_getElem? e1)
      obtain ⟨m0, hn0, hl⟩ := I.loc
      obtain ⟨u, ru, lk⟩ := hl j x v eN e3' (.inr (.inl c2))
      refine ⟨u, ru, ?_⟩
      rcases lk with ⟨z, _⟩ | ⟨_, c, ec, hc⟩
      · rw [c2] at z; cases z
      · obtain ⟨c', ec'⟩ := Option.isSome_iff_exists.mp (closes_has (env := X.env) scope.names [] c3)
        have := sub x c' ec'
        rw [ec] at this; cases this
        refine .inr ⟨.inl c1, c, ec', ?_⟩
        obtain ⟨o, ho, hd⟩ := hc
        exact ⟨o, kk _ _ ho, hd⟩
  · obtain ⟨v, o, ho, hd⟩ := I.cell x c (sub x c e)
    exact ⟨v, o, kk _ _ ho, hd⟩
  · have hp : p ∈ (X.pn ++ pins) ++ [] := hp
    rw [List.append_nil] at hp
    obtain ⟨e, n, ne, nf, d⟩ := I.pin p hp
    refine ⟨kk _ _ e, n, Nat.ne_of_lt (Heap.lt_size e), fun z => ?_, d⟩
    rcases List.mem_cons.mp (I.stkSub p.1 z) with q | q
    · exact ne q
    · exact nf q
  · unfold cst
    show _ = (T ++ F).length
    have q := congrArg List.length S.js
    simp at q
    simp [q]
def PIf (X : Cx) (ifs : List Expr) (t : TT) : Prop :=
  ∀ (pins : List (Addr × Obj)) (s : Shared) (σ : St) (H : Hp) (Q : Bool → Hp → Prop), Inv X pins σ H s → t σ H Q →
    wpAny (model X.prog X.w) X.A (forIn ifs true fun c r => if r = true then do let ok ← isTrue c X.env (eval c X.env); pure (ForInStep.yield ok) else pure (ForInStep.yield r)) (TP X pins σ Q) X.xe s
theorem pif_one {c : Expr} {t : TT} (h : PT X c t) : PIf X [c] t := fun pins s σ H Q I hw => wpAny_tests_one (h pins s σ H Q I hw)
def cturn (g : TG) (ti : TT) (te : TE) (D : Addr) (x : V) (σ : St) (ys : List V) (H : Hp) (N : St → List V → Hp → Prop) : Prop :=
  g x σ H fun σ2 H2 => ti σ2 H2 fun b H3 => if b = true then te σ2 H3 fun y H4 => H4 D = some (.lst ys) ∧ ys.length < sizeLine ∧ N σ2 (ys ++ [y]) (upd H4 D (.lst (ys ++ [y]))) else N σ2 ys H3
def cgo (J : It) (g : TG) (ti : TT) (te : TE) (D : Addr) (σ : St) (H : Hp) (Q : VK) : Prop :=
  ∃ W : Nat → Nat → St → List V → Hp → Prop, (∃ m, W 0 m σ [] (upd H D (.lst []))) ∧ ∀ i m σ ys H, W i m σ ys H → H D = some (.lst ys) ∧
    ((J.stop i H ∧ Q (.ref D) H) ∨ (J.go i H ∧ ∃ N : St → List V → Hp → Prop, (∀ σ' ys' H', N σ' ys' H' → ∃ m', m' < m ∧ W (i + 1) m' σ' ys' H') ∧ ∀ x H', J.yld i H x H' → cturn g ti te D x σ ys H' N))
def tComp (wi : TI) (g : TG) (ti : TT) (te : TE) (nT : Nat) (js : List Nat) : TE := fun σ H Q => wi σ H fun J H1 => ∀ D, H1 D = none → cgo J g ti te D (cst nT js σ) H1 Q
theorem comp_out {pins : List (Addr × Obj)} {σ σ' : St} {H H' : Hp} {s s' : Shared} {h' : Heap} {N : List Str} {fp : List Addr} (I : Inv X pins σ H s) (hf : ∀ b ∈ fp, FpOk X pins H b)
    (J : Inv (compCx X scope N s.heap.objs.size s H fp pins) [] σ' H' s') (sb : Heap.SameBut s.heap.objs.size s'.heap h') : Inv X pins σ H' { s' with heap := h' } := by
  have ne : ∀ b o, s.heap.get? b = some o → b ≠ s.heap.objs.size := fun b o e => Nat.ne_of_lt (Heap.lt_size e)
  have u := J.base
  have u' : Un (frs X.stack) fp H H' s.heap h' :=
    ⟨fun b o e n h1 h2 => sb.extBut b o (ne b o e) (u.keep b o e n h1 h2), fun b o e n h1 h2 => by
      obtain ⟨sl, q⟩ := u.slot b o e n h1 h2
      exact ⟨sl, sb.extBut b _ (ne b o e) q⟩, u.free, fun b o e h => by
      obtain ⟨o', q⟩ := u.there b o e h
      exact ⟨o', sb.extBut b _ (ne b o e) q⟩, u.tups, u.frzs, u.tbls⟩
  have nC : H' s.heap.objs.size = none := J.free
  have hok : HOk X.prog X.w H' h' := fun b o e => by
    refine (J.hok b o e).stay (fun c v hc q => sb.extBut c v ?_ q) (fun _ q => q) fun _ _ q => q
    rcases hc with z | z
    · rw [z]; intro z'; rw [z', nC] at e; cases e
    · intro z'; rw [z', nC] at z; cases z
  exact I.call' (s' := { s' with heap := h' }) J.os u' hok J.bare fun b hb => by
    obtain ⟨f0, f1, f2, f3, f4, f5⟩ := hf b hb
    exact ⟨f3, f1, f4, f5⟩
theorem comp_go {tg elt iter : Expr} {ifs : List Expr} {pos : Pos} {g : TG} {ti : TT} {te : TE} {wi : TI} {pins : List (Addr × Obj)} {σ : St} {H : Hp} {s : Shared} {use : Option (Value → Sem Unit)} {QQ : Value → Shared → Prop} {Q : VK} (S : CScope X scope T F js) (hc : X.calm = true)
    (hi : PI X tg iter wi) (hg : ∀ C s H ex pins, PG (compCx X scope (T ++ F) C s H ex pins) tg g) (hif : ∀ C s H ex pins, PIf (compCx X scope (T ++ F) C s H ex pins) ifs ti) (he : ∀ C s H ex pins, PE (compCx X scope (T ++ F) C s H ex pins) elt te)
    (I : Inv X pins σ H s) (h : tComp wi g ti te T.length js σ H Q)
    (fin : ∀ (D C : Addr) (s' : Shared) (H' : Hp) (m : Str → Option Value), s'.heap.Ns C m → Q (.ref D) H' → FpOk X pins H' C → (∀ h', Heap.SameBut C s'.heap h' → Inv X pins σ H' { s' with heap := h' }) →
      compPost (model X.prog X.w) X.A X.xe use QQ (.ref D) C (.ok .next) s')
    (hs : ∀ x, foldedSetIterable iter X.env x = pure x) :
    wpAny (model X.prog X.w) X.A (comprehension (.ListComp elt [⟨tg, iter, ifs, 0⟩] scope pos) scope X.env (firstIterPos [⟨tg, iter, ifs, 0⟩] pos) (newList []) false (eval iter X.env) use) QQ X.xe s := by
  refine wpAny_comprehension_free (use := use) rfl hs (closureFor_closes fun p hp hk => ?_) S.kind S.names (thn (hi pins s σ H _ I h) fun v s1 h1 => thn h1 fun itv s2 h2 => ?_)
  · obtain ⟨c, e⟩ := I.ok.has p.1 (.inl (S.free p hp hk))
    rw [e]; rfl
  obtain ⟨it, fp, tn, J, H2, rfl, I2, Tn, st2, f2, h2⟩ := h2
  obtain ⟨W, ⟨m0, w0⟩, turn⟩ := h2 s2.heap.objs.size I2.fresh
  refine wpAny_newObj_type (wpAny_newFunctionEnv S.nocell (by intro y hy; simp at hy) (fun h₁ hns₁ hsb₁ => ?_) S.kind)
  have I3 := I2.lnew (t' := s2.toks) (ys := []) (its := []) Paired.nil (Nat.zero_le _)
  generalize hs3 : ({ s2 with heap := s2.heap.push { cls := .type "list", data := .seq ([] : List Value).toArray }, toks := s2.toks } : Shared) = s3 at I3
  have hf3 : ∀ b ∈ fp, FpOk X pins (upd H2 s2.heap.objs.size (.lst [])) b ∧ ∃ o, s3.heap.get? b = some o ∧ ∀ v, o.data ≠ .cell v := fun b hb => by
    obtain ⟨f0, fr⟩ := f2 b hb
    obtain ⟨o, e, d⟩ := Tn.obj _ _ st2 b hb
    refine ⟨⟨by rw [upd_ne (Nat.ne_of_lt (Heap.lt_size e))]; exact f0, fr⟩, o, ?_, d⟩
    rw [← hs3]
    exact Heap.get?_push_of_some _ e
  have e3 : s3.heap = s2.heap.push { cls := .type "list", data := .seq ([] : List Value).toArray } := by rw [← hs3]
  have kk : ∀ b o, s3.heap.get? b = some o → h₁.get? b = some o := fun b o e => by
    rw [e3] at e
    exact hsb₁.extBut b o (Nat.ne_of_lt (Heap.lt_size e)) (Heap.get?_push_of_some _ e)
  have hns : h₁.Ns s3.heap.objs.size (fun x => ([] : List (Str × Value)).reverse.lookup x) := by rw [e3]; exact hns₁
  have I4 := comp_inv (tk := s3.toks + ([] : List (Str × Value)).length) S I3 hns kk hf3
  have stat : ∀ {H' : Hp} {pl : List (Addr × Obj)}, (∀ p ∈ pl, ∀ b ∈ fp, p.1 ≠ b) → (∀ b ∈ fp, H' b = none) → ∀ b ∈ fp, FpOk (compCx X scope (T ++ F) s3.heap.objs.size s3 (upd H2 s2.heap.objs.size (.lst [])) fp pins) pl H' b := fun {H' pl} hp hn b hb => by
    obtain ⟨⟨f0, f1, f2, f3, f4, f5⟩, o, e, d⟩ := hf3 b hb
    obtain ⟨x1, x2⟩ := I4.ok.exf b hb
    refine ⟨hn b hb, x1, I4.ok.exfs b hb, .inl hb, x2, fun p hq => ?_⟩
    rcases List.mem_append.mp hq with z | z
    · exact f5 p z
    · exact hp p z b hb
  have loop : codeAny (model X.prog X.w) X.A (.compLoop (.ListComp elt [⟨tg, iter, ifs, 0⟩] scope pos) 0 (.ref it) (.ref s2.heap.objs.size) (compEnvC scope (closes X.env scope.names []) s3.heap.objs.size X.env))
      (compPost (model X.prog X.w) X.A X.xe use QQ (.ref s2.heap.objs.size) s3.heap.objs.size) { s3 with heap := h₁, toks := s3.toks + ([] : List (Str × Value)).length } := by
    refine codeAny_loop rfl (fun n s' => ∃ i σ' ys H', Inv (compCx X scope (T ++ F) s3.heap.objs.size s3 (upd H2 s2.heap.objs.size (.lst [])) fp pins) [] σ' H' s' ∧ tn i s'.heap ∧ (∀ b ∈ fp, H' b = none) ∧ W i n σ' ys H') ?_ m0 ⟨0, _, [], _, I4, ?_, fun b hb => (hf3 b hb).1.1, w0⟩
    · rintro n s5 ⟨i, σ5, ys, H5, I5, st5, fr5, w5⟩
      show wpAny _ X.A ((compTurn (.ListComp elt [⟨tg, iter, ifs, 0⟩] scope pos) 0 (.ref it) (.ref s2.heap.objs.size) (compEnvC scope (closes X.env scope.names []) s3.heap.objs.size X.env)).onRaise (fun x => do noteFrame x _; theTreesLotGoes x)) _ _ s5
      refine wpAny_noted ?_
      rw [compTurn_list]
      refine wpAny_bind (wpAny_standAt (wpAny_bind ?_))
      obtain ⟨hD, tu⟩ := turn i n σ5 ys H5 w5
      rcases tu with ⟨stop, qq⟩ | ⟨go, NN, hNN, step⟩
      · refine thn (Tn.done (compCx X scope (T ++ F) s3.heap.objs.size s3 (upd H2 s2.heap.objs.size (.lst [])) fp pins) rfl rfl rfl hc i [] s5 σ5 H5 _ I5 (stat (pl := []) (fun _ hp => absurd hp List.not_mem_nil) fr5) st5 stop) fun r s6 ⟨hr, I6⟩ => ?_
        subst hr
        refine wpAny_pure ?_
        obtain ⟨m6, hn6, _⟩ := I6.loc
        have lC : s.heap.objs.size ≤ s.heap.objs.size := Nat.le_refl _
        exact fin _ _ s6 H5 m6 hn6 qq (I3.fpOk (Nat.le_refl _) I6.free) fun h' sb => comp_out I3 (fun b hb => (hf3 b hb).1) I6 sb
      · refine thn (Tn.item (compCx X scope (T ++ F) s3.heap.objs.size s3 (upd H2 s2.heap.objs.size (.lst [])) fp pins) rfl rfl rfl hc i [] s5 σ5 H5 _ I5 (stat (pl := []) (fun _ hp => absurd hp List.not_mem_nil) fr5) st5 go) fun r s6 ⟨u, hr, h6⟩ => ?_
        subst hr
        refine wpAny_bind (thn h6 fun _ s7 ⟨x, H7, I7, r7, y7, st7, fr7⟩ => ?_)
        have I7' := I7.pinned (stat (pl := []) (fun _ hp => absurd hp List.not_mem_nil) fr7) (Tn.obj _ _ st7)
        have back : ∀ {σ8 : St} {H8 : Hp} {s8 : Shared} {ys8 : List V} {m' : Nat}, Inv (compCx X scope (T ++ F) s3.heap.objs.size s3 (upd H2 s2.heap.objs.size (.lst [])) fp pins) ([] ++ pinsAt fp s7.heap) σ8 H8 s8 → m' < n → W (i + 1) m' σ8 ys8 H8 →
            ∃ m, m < n ∧ ∃ i σ' ys H', Inv (compCx X scope (T ++ F) s3.heap.objs.size s3 (upd H2 s2.heap.objs.size (.lst [])) fp pins) [] σ' H' s8 ∧ tn i s8.heap ∧ (∀ b ∈ fp, H' b = none) ∧ W i m σ' ys H' := fun {σ8 H8 s8 ys8 m'} I8 hm w8 => by
          refine ⟨m', hm, i + 1, σ8, ys8, H8, I8.unpinned, Tn.keep _ _ _ st7 fun b hb o e => (I8.pin (b, o) (List.mem_append_right _ (List.mem_append_right _ (mem_pinsAt hb e)))).1, fun b hb => ?_, w8⟩
          obtain ⟨o, e, d⟩ := Tn.obj _ _ st7 b hb
          exact (I8.pin (b, o) (List.mem_append_right _ (List.mem_append_right _ (mem_pinsAt hb e)))).2.1
        refine wpAny_bind (wpAny_mono (hg _ _ _ _ _ _ s7 σ5 H7 x u _ I7' r7 (step x H7 y7)) (fun _ s8 ⟨σ8, H8, I8, q8⟩ => ?_) fun _ _ z => z.elim)
        refine wpAny_bind (wpAny_mono (hif _ _ _ _ _ _ s8 σ8 H8 _ I8 q8) (fun ok s9 ⟨H9, I9, q9⟩ => ?_) fun _ _ z => z.elim)
        cases ok with
        | false =>
          rw [if_neg Bool.false_ne_true] at q9
          obtain ⟨m', hm, w9⟩ := hNN _ _ _ q9
          exact wpAny_pure ⟨rfl, back I9 hm w9⟩
        | true =>
          rw [if_pos rfl] at q9
          refine wpAny_bind (wpAny_bind (wpAny_mono (he _ _ _ _ _ _ s9 σ8 H9 _ I9 q9) (fun yv s10 ⟨y, H10, I10, r10, d10, l10, q10⟩ => ?_) fun _ _ z => z.elim))
          obtain ⟨m', hm, w10⟩ := hNN _ _ _ q10
          obtain ⟨z10, its, n10, rv, el, eo⟩ := I10.lstM d10
          refine wpAny_bind (wpAny_list_append_plain (items := its.toArray) ⟨n10, eo⟩ (fun h' hl' sb' => ?_) (by simp; omega))
          obtain ⟨n11, eo'⟩ := hl'
          have I11 := I10.write (x := s2.heap.objs.size) (e := s2.heap.objs.size) (o := .lst (ys ++ [y])) (t' := s10.toks) (by rw [d10]; exact trivial) (.inl rfl) (fun b o hb e => sb'.extBut b o hb e) ⟨_, eo'⟩ ⟨by simp; assumption, its ++ [yv], n11, rv.append (.cons r10 .nil), by simpa using eo'⟩
          exact wpAny_pure (wpAny_pure ⟨rfl, back I11 hm w10⟩)
    · refine Tn.keep _ _ _ st2 fun b hb o e => kk b o ?_
      rw [e3]
      exact Heap.get?_push_of_some _ e
  have st1 : tn 0 h₁ := Tn.keep _ _ _ st2 fun b hb o e => kk b o (by rw [e3]; exact Heap.get?_push_of_some _ e)
  exact codeAny_compStart_list loop (Tn.self _ 0 _ _ _ st1 loop)
theorem pe_comp {tg elt iter : Expr} {ifs : List Expr} {pos : Pos} {g : TG} {ti : TT} {te : TE} {wi : TI} (S : CScope X scope T F js) (hc : X.calm = true)
    (hi : PI X tg iter wi) (hg : ∀ C s H ex pins, PG (compCx X scope (T ++ F) C s H ex pins) tg g) (hif : ∀ C s H ex pins, PIf (compCx X scope (T ++ F) C s H ex pins) ifs ti) (he : ∀ C s H ex pins, PE (compCx X scope (T ++ F) C s H ex pins) elt te)
    (hs : ∀ x, foldedSetIterable iter X.env x = pure x := by intro _; rfl) : PE X (.ListComp elt [⟨tg, iter, ifs, 0⟩] scope pos) (tComp wi g ti te T.length js) := by
  intro pins s σ H Q I h
  rw [eval_ListComp]
  exact comp_go (use := none) S hc hi hg hif he I h (fun D C s' H' m hn q _ hinv => ⟨m, hn, fun h' sb => ⟨.ref D, H', hinv h' sb, rfl, q⟩⟩) hs
end
section
variable {g : TG} {ti : TT} {te : TE} {Q : VK} {D : Addr} {σ : St} {H : Hp}
theorem comp_tup {K : PySem.W.Frag} {a : Addr} {xs : List V} (Pv : Nat → St → List V → Hp → Prop) (h0 : Pv 0 σ [] (upd H D (.lst []))) (hl : ∀ i σ ys H, i ≤ xs.length → Pv i σ ys H → SqT K H a xs ∧ H D = some (.lst ys))
    (hs : ∀ i x σ ys H, xs[i]? = some x → Pv i σ ys H → cturn g ti te D x σ ys H (Pv (i + 1))) (hd : ∀ σ ys H, Pv xs.length σ ys H → Q (.ref D) H) :
    cgo (Itt K a) g ti te D σ H Q := by
  refine ⟨fun i m σ ys H => m = xs.length - i ∧ i ≤ xs.length ∧ Pv i σ ys H, ⟨xs.length, by simp, Nat.zero_le _, h0⟩, ?_⟩
  rintro i m σ ys H ⟨rfl, hi, p⟩
  obtain ⟨q, hD⟩ := hl i σ ys H hi p
  refine ⟨hD, ?_⟩
  by_cases hlt : i < xs.length
  · refine .inr ⟨⟨xs, xs[i], q, by simp [hlt]⟩, Pv (i + 1), fun σ' ys' H' p' => ⟨xs.length - (i + 1), by omega, rfl, hlt, p'⟩, fun x H' y => ?_⟩
    obtain ⟨e, y⟩ := y
    subst e
    exact (hs i x σ ys _ (y xs q) p)
  · have e : i = xs.length := by omega
    subst e
    exact .inl ⟨⟨xs, q, Nat.le_refl _⟩, hd σ ys H p⟩
end
end L2
set_option maxHeartbeats 4000000
namespace L2
open PySem PySem.Spec PyProof.Rows
mutual
inductive Rep (K : PySem.W.Frag) (H : Hp) : V → PyData → Prop
  | non : Rep K H .non .none
  | bl (b : Bool) : Rep K H (.bl b) (.bool b)
  | int (i : Int) : Rep K H (.int i) (.int i)
  | str (x : Str) : Rep K H (.str x) (.str x)
  | lst {a : Addr} {xs : List V} {ds : List PyData} : SqL K H a xs → RepAll K H xs ds → Rep K H (.ref a) (.list ds)
  | tup {a : Addr} {xs : List V} {ds : List PyData} : SqT K H a xs → RepAll K H xs ds → Rep K H (.ref a) (.tuple ds)
inductive RepAll (K : PySem.W.Frag) (H : Hp) : List V → List PyData → Prop
  | nil : RepAll K H [] []
  | cons {x : V} {xs : List V} {d : PyData} {ds : List PyData} : Rep K H x d → RepAll K H xs ds → RepAll K H (x :: xs) (d :: ds)
end
mutual
theorem Rep.reads {X : Cx} {pins : List (Addr × Obj)} {σ : St} {H : Hp} {s : Shared} (I : Inv X pins σ H s) : ∀ {v : V} {d : PyData} {u : Value}, Rep X.K H v d → RelV v u → ∃ as, Reads s.heap u d as
  | _, _, _, .non, r => by cases r; exact ⟨_, .none⟩
  | _, _, _, .bl b, r => by cases r; exact ⟨_, .bool b⟩
  | _, _, _, .int i, r => by obtain ⟨t, rfl⟩ := r; exact ⟨_, .int i t⟩
  | _, _, _, .str x, r => by obtain ⟨t, rfl⟩ := r; exact ⟨_, .str x t⟩
  | _, _, _, .lst hq hx, r => by
    cases r
    obtain ⟨its, rv, hl, hz⟩ := I.list hq
    obtain ⟨as, ra⟩ := RepAll.reads I hx rv
    obtain ⟨o, ho, hc, n, hd⟩ := hl.isList
    exact ⟨_, .list ho hc hd ra⟩
  | _, _, _, .tup hq hx, r => by
    cases r
    obtain ⟨its, rv, hl, hz⟩ := I.tuple hq
    obtain ⟨as, ra⟩ := RepAll.reads I hx rv
    obtain ⟨o, ho, hc, n, hd⟩ := hl
    exact ⟨_, .tuple ho hc hd ra⟩
theorem RepAll.reads {X : Cx} {pins : List (Addr × Obj)} {σ : St} {H : Hp} {s : Shared} (I : Inv X pins σ H s) : ∀ {xs : List V} {ds : List PyData} {us : List Value}, RepAll X.K H xs ds → Vals xs us → ∃ as, ReadsAll s.heap us ds as
  | _, _, _, .nil, .nil => ⟨_, .nil⟩
  | _, _, _, .cons h t, .cons r rs => by
    obtain ⟨a, ra⟩ := Rep.reads I h r
    obtain ⟨b, rb⟩ := RepAll.reads I t rs
    exact ⟨_, .cons ra rb⟩
end
section
variable {X : Cx} {a b c e : Expr} {ta tb tc te : TE} {pos p2 : Pos}
inductive RNeDP (K : PySem.W.Frag) (x : V) (y : V) (H : Hp) (Q : VK) : Prop
  | mk (da db : _) : (Rep K H x da) → (Rep K H y db) → (da.canLay0 = true) → (db.canLay0 = true) → (da.depth ≤ 20) → (Q (.bl (!PyData.eqv da db)) H) → RNeDP K x y H Q
def rNeD (K : PySem.W.Frag) : R2 := fun x y H Q => RNeDP K x y H Q
theorem op_neD (hu : X.A.units + 64 < cLine) : OpR X (compareOp .NotEq) (rNeD X.K) := by
  intro pins s σ H x y u v Q I rx ry h
  obtain ⟨da, db, h1, h2, h3, h4, h5, q⟩ := h
  obtain ⟨as, r1⟩ := h1.reads I rx
  obtain ⟨bs, r2⟩ := h2.reads I ry
  exact SeqAt.compareNe_reads r1 r2 h3 h4 (by omega) ⟨.bl _, H, I, rfl, q⟩
theorem call_sum (hc : X.calm = true) : CallR X (.builtin "sum") (fun xs H Q => ∃ (p : Addr) (ns : List Int), xs = [.ref p] ∧ SqL X.K H p (ns.map V.int) ∧ Q (.int ns.sum) H) := by
  intro pins s σ H xs us Q I r h
  obtain ⟨p, ns, rfl, hq, q⟩ := h
  obtain ⟨u, rfl, rx⟩ := vals1 r
  cases rx
  obtain ⟨its, rv, hl, hz⟩ := I.list hq
  have hi := intsAre_of rv
  obtain ⟨ys, e⟩ := hi.allInts.items
  have hl' := hl.isList
  rw [e] at hl'
  refine sum_intListG (I.ok.hd hc) hl' fun h' tk t' hk => ⟨.int ns.sum, H, I.kept hk, ⟨t', ?_⟩, q⟩
  have e2 : ys.toList.map (·.1) = ns := by
    have q2 := nums_intItems ys
    rw [← e] at q2
    rw [← q2]
    exact hi.numsOf
  rw [preSum_eq, e2, List.take_of_length_le (by rw [← e2]; simp)]
theorem call_isi : CallR X (.builtin "isinstance") (fun xs H Q => ∃ (x : V) (t : Value) (c : String) (b : Bool), xs = [x, .ty c] ∧ TyOf X.K H x t ∧ PySem.W.kitOne X.K t (.type c) = some b ∧ Q (.bl b) H) := by
  intro pins s σ H xs us Q I r h
  obtain ⟨x, t, c, b, rfl, ty, e, q⟩ := h
  obtain ⟨u, v, rfl, rx, ry⟩ := vals2 r
  cases ry
  exact isinst_ok I rx ty e fun tk => ⟨.bl b, H, I.tok tk, rfl, q⟩
theorem pe_ty {x : Str} {T : String} (hg : Gl X x) (hm : X.mg x = none) (hv : bootBuiltins x = some (.type T)) (hn : x ≠ "__name__" := by decide) (hd : (x == ("__debug__" : Str)) = false := by decide) : PE X (.Name x pos) (tC (.ty T)) :=
  fun pins s σ H Q I h => ld_blt I hg hm hv ⟨.ty T, H, I, rfl, h⟩ hn hd
theorem call_range2 : CallR X (.type "range") (fun xs H Q => ∃ (i j : Int), xs = [.int i, .int j] ∧ ∀ l, H l = none → Q (.ref l) (upd H l (.rng i j))) := by
  intro pins s σ H xs us Q I r h
  obtain ⟨i, j, rfl, q⟩ := h
  obtain ⟨u, v, rfl, ⟨t, rfl⟩, ⟨t', rfl⟩⟩ := vals2 r
  exact call_range_2 ⟨.ref s.heap.objs.size, _, I.laid (o := .rng i j) (fun _ _ q => Heap.get?_push_of_some _ q) (Nat.le_refl _) ⟨t, t', s.toks, Heap.get?_push_size _ rfl⟩, rfl, q _ I.fresh⟩
def rints (i : Int) (n : Nat) : List Int := (List.range n).map fun (k : Nat) => i + (k : Int)
theorem call_list_rng (hc : X.calm = true) : CallR X (.type "list") (fun xs H Q => ∃ (p : Addr) (i j : Int), xs = [.ref p] ∧ H p = some (.rng i j) ∧ (-(2 ^ 62) ≤ i ∧ i < 2 ^ 62 ∧ -(2 ^ 62) ≤ j ∧ j < 2 ^ 62) ∧ j - i ≤ 1000000 ∧ ∀ l, H l = none → Q (.ref l) (upd H l (.lst ((rints i (j - i).toNat).map V.int)))) := by
  intro pins s σ H xs us Q I r h
  obtain ⟨p, i, j, rfl, hp, ⟨b1, b2, b3, b4⟩, hj, q⟩ := h
  obtain ⟨u, rfl, rx⟩ := vals1 r
  cases rx
  obtain ⟨t, u, v, ho⟩ := (show ObjOk X.prog X.w H s.heap p (.rng i j) from I.hok p _ hp)
  refine call_list_range (n := (j - i).toNat) (I.ok.hd hc) (show IsRange s.heap p i j 1 t u v from ho) (small_one b1 b2 b3 b4) (by rw [rangeSize_one]; split <;> omega) (by omega) fun h' tk acc c' hk hS hacc => ?_
  have len : acc.toList.length = (j - i).toNat := by simpa using hacc.1
  refine ⟨.ref s.heap.objs.size, _, I.laid (o := .lst ((rints i (j - i).toNat).map V.int)) hk (Nat.le_refl _) ⟨?_, acc.toList, c', ?_, by simpa using hS⟩, rfl, q _ I.fresh⟩
  · simp [rints, sizeLine_eq]; exact Int.le_trans (by assumption) (by decide)
  · have key : ∀ (l : List Value) (k : Nat) (i : Int), (∀ (n : Nat) (x : Value), l[n]? = some x → ∃ t, x = .int (i + n) t) → l.length = k → Vals ((rints i k).map V.int) l := by
      intro l
      induction l with
      | nil => intro k i _ e; cases e; exact .nil
      | cons x l ih =>
        intro k i h e
        cases k with
        | zero => cases e
        | succ k =>
          have h0 := h 0 x rfl
          have e1 : rints i (k + 1) = i :: rints (i + 1) k := by
            simp only [rints, List.range_succ_eq_map, List.map_cons, List.map_map]
            refine congr (congrArg List.cons (by simp)) (List.map_congr_left fun a _ => ?_)
            simp only [Function.comp]; omega
          rw [e1]
          refine .cons (by obtain ⟨t, q⟩ := h0; exact ⟨t, by simpa using q⟩) (ih k (i + 1) (fun n y hy => ?_) (by simpa using e))
          obtain ⟨t, q⟩ := h (n + 1) y (by simpa using hy)
          exact ⟨t, by rw [q]; congr 1; omega⟩
    refine key acc.toList _ i (fun n x hx => ?_) len
    obtain ⟨t, q⟩ := hacc.2 n x (by simpa using hx)
    exact ⟨t, by rw [q, Int.mul_one]⟩
def tRev (K : PySem.W.Frag) (te : TE) (ts : TO) : TE := fun σ H Q => te σ H fun x H1 => ts σ H1 fun o H2 => o = some (-1) ∧ ∃ (a : Addr) (xs : List V), x = .ref a ∧ SqL K H2 a xs ∧ ∀ p, H2 p = none → Q (.ref p) (upd H2 p (.lst xs.reverse))
theorem pe_rev {st : Expr} {ts : TO} (he : PE X e te) (hs : PO X (some st) ts) (ops : Value → Value → List Value) (hsub : ∀ o i, subscripted (.Slice none none (some st) p2) false o i = operate (ops o i) (getItem o i)) : PE X (.Subscript e (.Slice none none (some st) p2) pos) (tRev X.K te ts) := by
  intro pins s σ H Q I h
  refine Subscript_ (thn (he pins s σ H _ I h) fun v s1 ⟨x, H1, I1, r1, q1⟩ => ?_)
  refine wpAny_Slice ?_
  rw [evalPart_none]
  refine wpAny_pure (wpAny_pure (thn (hs pins s1 σ H1 _ I1 q1) fun vs s2 ⟨o, H2, I2, ps, q2⟩ => ?_))
  obtain ⟨rfl, a, xs, rfl, hq, q⟩ := q2
  cases r1
  have I4 : Inv X pins σ H2 { s2 with heap := s2.heap.push { cls := .type "slice", data := .fields #[.none, .none, vs] } } := I2.kept (t' := s2.toks) fun b ob q => Heap.get?_push_of_some _ q
  obtain ⟨its, r, ht, hz⟩ := I4.list hq
  have hlen := r.length
  show wpAny (model X.prog X.w) X.A (subscriptTail e (.Slice none none (some st) p2) (.ref a) (.ref s2.heap.objs.size)) (EP X pins σ Q) X.xe { s2 with heap := s2.heap.push { cls := .type "slice", data := .fields #[.none, .none, vs] } }
  refine tail_any (ops := ops (.ref a) (.ref s2.heap.objs.size)) ht.isList.typeIs slot_list_getitem.lookup ?_ (hsub _ _)
  refine wpAny_getItem_list_slice ht.isList (Heap.IsSliceOf.new ..) .none .none ps (by decide) ?_ (by rw [List.size_toArray] <;> omega)
  rw [PySem.W.krv_pick]
  refine ⟨.ref _, _, I4.laid (t' := s2.toks) (o := .lst xs.reverse) (fun b ob q => Heap.get?_push_of_some _ q) (Nat.le_refl _) ⟨by simpa using hz, its.reverse, 0, r.reverse, Heap.get?_push_size _ rfl⟩, rfl, q _ I4.fresh⟩
end
section
variable {prog : Program} {w : World} {A : Around} {E : Value → Shared → Prop}
variable {s : Shared}
end
end L2
set_option maxHeartbeats 4000000
namespace L2
open PySem PySem.Spec PyProof.Rows
def relab (scope osc : Scope) : Scope := { scope with names := scope.names.map fun (n, k) => if (k == .free && osc.kind == .function && osc.names.lookup n == some .cell) then (n, .cell) else (n, k) }
structure CS (osc scope : Scope) (T F : List Str) : Prop where
  kind : scope.kind = .function
  nocell : ∀ y ∈ scope.names, y.2 ≠ .cell
  names : ∀ x ∈ scope.names, x.2 = .local → scope.names.lookup x.1 = some .local
  free : ∀ x ∈ scope.names, x.2 = .free → osc.names.lookup x.1 = some .cell
  loc : ∀ y ∈ T, (relab scope osc).names.lookup y = some .local
  cel : ∀ y ∈ F, (relab scope osc).names.lookup y = some .cell ∧ osc.names.lookup y = some .cell ∧ (y, NameKind.free) ∈ scope.names
  all : ∀ x ∈ (relab scope osc).names, (x.2 = .cell ∨ x.2 = .free) → (x.1, NameKind.free) ∈ scope.names
theorem CS.to {X : Cx} {scope osc : Scope} {T F : List Str} {js : List Nat} (h : CS osc scope T F) (hj : js.map (fun j => X.N[j]?) = F.map some) (ho : X.env.scope = osc) : CScope X scope T F js := by
  subst ho
  exact ⟨h.kind, h.nocell, h.names, h.free, h.loc, h.cel, h.all, hj⟩
end L2
set_option maxHeartbeats 4000000
namespace L2
open PySem PySem.Spec PyProof.Rows
end L2
set_option maxHeartbeats 4000000
namespace PySem
open Builtin
end PySem
namespace PySem
open Builtin
end PySem
namespace PySem
open Builtin
end PySem
namespace L2
open PySem PySem.Spec PyProof.Rows
end L2
set_option maxHeartbeats 4000000
namespace HT
open PySem PyProof.Rows
end HT
namespace L2
open PySem PySem.Spec PyProof.Rows
theorem same_new {H : Hp} {p : Addr} {o : HO} (h : H p = none) : Same H (upd H p o) := fun b u e => by rw [upd_ne (ne_of_none e h)]; exact e
theorem same_refl (H : Hp) : Same H H := fun _ _ e => e
theorem small {n : Nat} (h : n ≤ 10000) : n ≤ sizeLine := by rw [sizeLine_eq]; exact Nat.le_trans (by assumption) (by decide)
theorem none_of {H H' : Hp} {a : Addr} (s : Same H H') (h : H' a = none) : H a = none := by
  cases e : H a with
  | none => rfl
  | some o => rw [s _ _ e] at h; cases h
end L2
set_option maxHeartbeats 4000000
namespace PySem
open Builtin
end PySem
namespace PySem
open Builtin
end PySem
namespace L2
open PySem PySem.Spec PyProof.Rows
end L2
set_option maxHeartbeats 4000000
namespace PySem
open Builtin
end PySem
namespace L2
open PySem PySem.Spec PyProof.Rows
end L2
namespace PySem
open Builtin
end PySem
namespace L2
open PySem PySem.Spec PyProof.Rows
end L2
set_option maxHeartbeats 1000000
namespace Srt
open PySem PySem.W PyProof.Rows
structure Ord (lt : Nat → Nat → Bool) : Prop where
  asym : ∀ a b, lt a b = true → lt b a = false
  ntr : ∀ a b c, lt a b = false → lt b c = false → lt a c = false
abbrev g (p : Array Nat) (k : Nat) : Nat := p.getD k 0
theorem g_eq (p : Array Nat) (k : Nat) : g p k = (p[k]?).getD 0 := by
  show p.getD k 0 = _
  simp [Array.getD_eq_getD_getElem?]
theorem g_rev {p : Array Nat} {i j : Nat} (hj : j ≤ p.size) (k : Nat) : g (kas_rev p i j) k = if i ≤ k ∧ k < j then g p (i + j - 1 - k) else g p k := by
  rw [g_eq]
  unfold kas_rev
  rw [getElem?_mirror_all hj]
  split <;> rw [g_eq]
theorem g_bub {p : Array Nat} {src d : Nat} (hs : src < p.size) (hd : d ≤ src) (k : Nat) : g (bubble p src d) k = if k = src - d then g p src else if src - d < k ∧ k ≤ src then g p (k - 1) else g p k := by
  rw [g_eq, getElem?_bubble hs d hd, g_eq, g_eq, g_eq]
  split
  · rfl
  · split <;> rfl
theorem rev_perm (p : Array Nat) (i j : Nat) : (kas_rev p i j).Perm p := mirror_perm _ _ _ _
def Pm (n : Nat) (p : Array Nat) : Prop := p.Perm (List.range n).toArray
theorem Pm.size {n : Nat} {p : Array Nat} (h : Pm n p) : p.size = n := by
  have := Array.Perm.size_eq h
  simpa using this
theorem Pm.lt {n : Nat} {p : Array Nat} (h : Pm n p) (h0 : 0 < n) (k : Nat) : g p k < n := by
  rw [g_eq]
  cases e : p[k]? with
  | none => exact h0
  | some x =>
    have hx : x ∈ p := Array.mem_of_getElem? e
    have := (Array.Perm.mem_iff h).mp hx
    simpa using this
section
variable {n : Nat} (h0 : 0 < n)
include h0
end
section
variable {lt : Nat → Nat → Bool} (O : Ord lt)
def Sto (lt : Nat → Nat → Bool) (p : Array Nat) (k : Nat) : Prop := ∀ i j, i ≤ j → j < k → lt (g p j) (g p i) = false
end
end Srt
set_option maxHeartbeats 1000000
namespace Srt
open PySem PySem.W PyProof.Rows
end Srt
set_option maxHeartbeats 1000000
namespace Srt
open PySem PySem.W PyProof.Rows L2
def ltK : Key → Key → Bool
  | .inl a, .inl b => decide (a < b)
  | .inr a, .inr b => decide (a.cps.toList < b.cps.toList)
  | .inl _, .inr _ => true
  | .inr _, .inl _ => false
def ltR : List Key → List Key → Bool
  | x :: xs, y :: ys => if x = y then ltR xs ys else ltK x y
  | [], _ :: _ => true
  | _, [] => false
theorem str_ext {a b : Str} (h : a.cps.toList = b.cps.toList) : a = b := by
  cases a; cases b; simp at h; rw [h]
theorem ltK_irr : ∀ a, ltK a a = false
  | .inl a => by simp [ltK]
  | .inr a => by simp [ltK, List.lt_irrefl]
theorem ltK_tr : ∀ {a b c}, ltK a b = true → ltK b c = true → ltK a c = true
  | .inl a, .inl b, .inl c, h1, h2 => by simp only [ltK, decide_eq_true_eq] at *; omega
  | .inr a, .inr b, .inr c, h1, h2 => by simp only [ltK, decide_eq_true_eq] at *; exact List.lt_trans h1 h2
  | .inl _, .inl _, .inr _, _, _ => rfl
  | .inl _, .inr _, .inr _, _, _ => rfl
  | .inl _, .inr _, .inl _, _, h2 => by simp [ltK] at h2
  | .inr _, .inl _, _, h1, _ => by simp [ltK] at h1
  | .inr _, .inr _, .inl _, _, h2 => by simp [ltK] at h2
theorem ltK_tri : ∀ a b, ltK a b = false → a = b ∨ ltK b a = true
  | .inl a, .inl b, h => by
    simp only [ltK, decide_eq_true_eq, decide_eq_false_iff_not] at *
    rcases Int.lt_trichotomy a b with x | x | x
    · exact absurd x h
    · exact .inl (by rw [x])
    · exact .inr x
  | .inr a, .inr b, h => by
    simp only [ltK, decide_eq_true_eq, decide_eq_false_iff_not] at *
    by_cases e : b.cps.toList < a.cps.toList
    · exact .inr e
    · exact .inl (congrArg Sum.inr (str_ext (List.le_antisymm (List.not_lt.mp e) (List.not_lt.mp h))))
  | .inl _, .inr _, h => by simp [ltK] at h
  | .inr _, .inl _, _ => .inr rfl
theorem ltR_irr : ∀ a, ltR a a = false
  | [] => rfl
  | x :: xs => by simp [ltR, ltR_irr xs]
theorem ltR_tr : ∀ {a b c}, ltR a b = true → ltR b c = true → ltR a c = true
  | _, [], _, h, _ => by simp [ltR] at h
  | _, _ :: _, [], _, h => by simp [ltR] at h
  | [], _ :: _, _ :: _, _, _ => rfl
  | x :: xs, y :: ys, z :: zs, h1, h2 => by
    unfold ltR at h1 h2 ⊢
    by_cases e1 : x = y
    · subst e1
      rw [if_pos rfl] at h1
      by_cases e2 : x = z
      · rw [if_pos e2] at h2 ⊢; exact ltR_tr h1 h2
      · rw [if_neg e2] at h2 ⊢; exact h2
    · rw [if_neg e1] at h1
      by_cases e2 : y = z
      · subst e2
        rw [if_neg e1]; exact h1
      · rw [if_neg e2] at h2
        have := ltK_tr h1 h2
        rw [if_neg (fun e => by rw [e, ltK_irr] at this; cases this)]
        exact this
theorem ltR_tri : ∀ a b, ltR a b = false → a = b ∨ ltR b a = true
  | [], [], _ => .inl rfl
  | [], _ :: _, h => by simp [ltR] at h
  | _ :: _, [], _ => .inr rfl
  | x :: xs, y :: ys, h => by
    unfold ltR at h ⊢
    by_cases e : x = y
    · subst e
      rw [if_pos rfl] at h ⊢
      rcases ltR_tri xs ys h with r | r
      · exact .inl (by rw [r])
      · exact .inr r
    · rw [if_neg e] at h
      rw [if_neg (fun z => e z.symm)]
      exact .inr ((ltK_tri _ _ h).resolve_left e)
theorem ord_rows (f : Nat → List Key) : Ord fun i j => ltR (f i) (f j) where
  asym := fun a b h => by
    cases e : ltR (f b) (f a) with
    | false => rfl
    | true => have := ltR_tr h e; rw [ltR_irr] at this; cases this
  ntr := fun a b c h1 h2 => by
    cases e : ltR (f a) (f c) with
    | false => rfl
    | true =>
      rcases ltR_tri _ _ h1 with r | r
      · rw [r, h2] at e; cases e
      · have := ltR_tr r e; rw [h2] at this; cases this
def isL : Key → Bool
  | .inl _ => true
  | .inr _ => false
section
variable {prog : Program} {w : World} {A : Around} {E : Value → Shared → Prop} {s : Shared}
theorem key_eq : ∀ {x y : Key} {u v : Value} {C : Bool → Shared → Prop}, isL x = isL y → RelV (kV x) u → RelV (kV y) v → C (decide (x = y)) s → wpAny (model prog w) A (eqBool u v) C E s
  | .inl a, .inl b, _, _, C, _, ⟨t, rfl⟩, ⟨t', rfl⟩, h => wpAny_eqBool_int (by
      have : (a == b) = decide ((Sum.inl a : Key) = Sum.inl b) := by simp only [Sum.inl.injEq]; rfl
      rw [this]; exact h)
  | .inr a, .inr b, _, _, C, _, ⟨t, rfl⟩, ⟨t', rfl⟩, h => wpAny_eqBool_str (by
      have : decide (a = b) = decide ((Sum.inr a : Key) = Sum.inr b) := by simp
      rw [this]; exact h)
  | .inl _, .inr _, _, _, _, h, _, _, _ => by cases h
  | .inr _, .inl _, _, _, _, h, _, _, _ => by cases h
theorem key_lt : ∀ {x y : Key} {u v : Value} {b : Bool} {C : Bool → Shared → Prop}, isL x = isL y → RelV (kV x) u → RelV (kV y) v → C (ltK x y) s → wpAny (model prog w) A (oneLt' b u v) C E s
  | .inl a, .inl c, _, _, true, C, _, ⟨t, rfl⟩, ⟨t', rfl⟩, h => oneLt_int h
  | .inl a, .inl c, _, _, false, C, _, ⟨t, rfl⟩, ⟨t', rfl⟩, h => kat_one _ _ (PyProof.Rows.lt_int (show PySem.W.BoolBack C _ s from h))
  | .inr a, .inr c, _, _, true, C, _, ⟨t, rfl⟩, ⟨t', rfl⟩, h => oneLt_str h
  | .inr a, .inr c, _, _, false, C, _, ⟨t, rfl⟩, ⟨t', rfl⟩, h => kat_one _ _ (PySem.P.lt_str (show PySem.W.BoolBack C _ s from h))
  | .inl _, .inr _, _, _, _, _, h, _, _, _ => by cases h
  | .inr _, .inl _, _, _, _, _, h, _, _, _ => by cases h
theorem lex_go {b fin : Bool} {C : Bool → Shared → Prop} (hf : fin = false) : ∀ {x y : List Key} {us vs : List Value} (i : Nat), x.map isL = y.map isL → Vals (x.map kV) us → Vals (y.map kV) vs → C (ltR x y) s → KatLex prog w A b fin C (us.zip vs) i s
  | [], [], _, _, i, _, .nil, .nil, h => by subst hf; exact h
  | [], _ :: _, _, _, _, e, _, _, _ => by cases e
  | _ :: _, [], _, _, _, e, _, _, _ => by cases e
  | x :: xs, y :: ys, _, _, i, e, .cons r1 r2, .cons q1 q2, h => by
    simp only [List.map_cons, List.cons.injEq] at e
    refine kat_cons (key_eq e.1 r1 q1 ?_)
    unfold ltR at h
    by_cases z : x = y
    · rw [decide_eq_true z]
      rw [if_pos z] at h
      exact kat_yes (lex_go hf (i + 1) e.2 r2 q2 h)
    · rw [decide_eq_false z]
      rw [if_neg z] at h
      exact kat_no (key_lt e.1 r1 q1 h)
end
abbrev Row := Addr × List Key
def rRef (q : Row) : V := .ref q.1
theorem tups_of {X : Cx} {pins : List (Addr × Obj)} {σ : L2.St} {H : Hp} {s : Shared} (I : Inv X pins σ H s) : ∀ (ps : List Row), (∀ q ∈ ps, SqT X.K H q.1 (q.2.map kV)) → (∀ q ∈ ps, q.2 ≠ []) →
    ∃ fs, KatTups s.heap (ps.map fun q => Value.ref q.1) fs ∧ fs.length = ps.length ∧ ∀ v ∈ fs, ∃ q ∈ ps, ∃ k r, q.2 = k :: r ∧ RelV (kV k) v
  | [], _, _ => ⟨[], trivial, rfl, fun v h => nomatch h⟩
  | q :: ps, h, h0 => by
    obtain ⟨fs, t, l, f⟩ := tups_of I ps (fun q hq => h q (.tail _ hq)) fun q hq => h0 q (.tail _ hq)
    obtain ⟨its, rv, ⟨o, ho, hc, n, hd⟩, hz⟩ := I.tuple (h q (.head _))
    cases e : q.2 with
    | nil => exact absurd e (h0 q (.head _))
    | cons k r =>
      rw [e, List.map_cons] at rv
      cases rv with
      | @cons _ u _ us ru rr =>
        refine ⟨u :: fs, .cons ho hc hd (by simp) t, by simp [l], fun v hv => ?_⟩
        rcases List.mem_cons.mp hv with rfl | hv
        · exact ⟨q, .head _, k, r, e, ru⟩
        · obtain ⟨q', h1, k', r', h2, h3⟩ := f v hv
          exact ⟨q', .tail _ h1, k', r', h2, h3⟩
theorem looks_key {M : Model} {h : Heap} : ∀ {k : Key} {v : Value}, RelV (kV k) v → Looks M h (typeOf v) (if isL k = true then Value.type "int" else Value.type "str")
  | .inl i, v, ⟨t, e⟩ => by subst e; exact Looks.of_pure rfl
  | .inr x, v, ⟨t, e⟩ => by subst e; exact Looks.of_pure rfl
theorem Pm.toList {n : Nat} {p : Array Nat} (h : Pm n p) : p.toList.Perm (List.range n) := by
  have := (Array.perm_iff_toList_perm).mp h
  simpa using this
theorem map_range_getD {α : Type} (l : List α) (d : α) : (List.range l.length).map (fun i => l.getD i d) = l := by
  refine List.ext_getElem? fun i => ?_
  simp only [List.getElem?_map]
  by_cases hi : i < l.length
  · simp [hi]
  · simp [Nat.le_of_not_lt hi]
theorem Sto.pairwise {lt : Nat → Nat → Bool} {p : Array Nat} {n : Nat} (hz : p.size = n) (h : Sto lt p n) : p.toList.Pairwise fun i j => lt j i = false := by
  rw [List.pairwise_iff_getElem]
  intro i j hi hj hij
  have := h i j (Nat.le_of_lt hij) (by simpa [← hz] using hj)
  simp only [Array.length_toList] at hi hj
  have e1 : g p i = p.toList[i] := by simp [g, Array.getD, hi]
  have e2 : g p j = p.toList[j] := by simp [g, Array.getD, hj]
  rw [e1, e2] at this
  exact this
theorem vals_map {α : Type} (f : α → V) (f' : α → Value) (hf : ∀ a, RelV (f a) (f' a)) : ∀ l : List α, Vals (l.map f) (l.map f')
  | [] => .nil
  | a :: l => .cons (hf a) (vals_map f f' hf l)
end Srt
set_option maxHeartbeats 1000000
namespace Srt
open PySem PySem.W PyProof.Rows L2
end Srt
set_option maxHeartbeats 1000000
namespace Tim
open PySem PySem.W PyProof.Rows Srt
theorem irr' {lt : Nat → Nat → Bool} (O : Ord lt) (a : Nat) : lt a a = false := by
  cases h : lt a a with
  | false => rfl
  | true => have := O.asym a a h; rw [h] at this; cases this
def rk (lt : Nat → Nat → Bool) (n i : Nat) : Nat := ((List.range n).filter fun k => lt k i).length
theorem flen {l : List Nat} {P Q : Nat → Bool} (h : ∀ k, P k = true → Q k = true) : (l.filter P).length ≤ (l.filter Q).length := by
  induction l with
  | nil => exact Nat.le_refl _
  | cons a l ih =>
    simp only [List.filter_cons]
    cases hP : P a with
    | true => rw [h a hP]; simpa using ih
    | false =>
      cases Q a with
      | true => simp; omega
      | false => simpa using ih
theorem flen_lt {l : List Nat} {P Q : Nat → Bool} (h : ∀ k, P k = true → Q k = true) {i : Nat} (hi : i ∈ l) (hp : P i = false) (hq : Q i = true) : (l.filter P).length < (l.filter Q).length := by
  induction l with
  | nil => cases hi
  | cons a l ih =>
    simp only [List.filter_cons]
    have m := flen (l := l) h
    rcases List.mem_cons.mp hi with rfl | hi
    · rw [hp, hq]; simp; omega
    · have := ih hi
      cases hP : P a with
      | true => rw [h a hP]; simpa using this
      | false =>
        cases Q a with
        | true => simp; omega
        | false => simpa using this
theorem rk_lt {lt : Nat → Nat → Bool} (O : Ord lt) {n i j : Nat} (hi : i < n) : lt i j = decide (rk lt n i < rk lt n j) := by
  cases e : lt i j with
  | true =>
    have : rk lt n i < rk lt n j := flen_lt (fun k hk => by
      cases z : lt k j with
      | true => rfl
      | false => have := O.ntr _ _ _ z (O.asym _ _ e); rw [hk] at this; cases this) (List.mem_range.mpr hi) (irr' O i) e
    simp [this]
  | false =>
    have : rk lt n j ≤ rk lt n i := flen fun k hk => by
      cases z : lt k i with
      | true => rfl
      | false => have := O.ntr _ _ _ z e; rw [hk] at this; cases this
    simp [this]
structure SI (κ : SortKind) (it : Nat → Keyed) (n : Nat) (st : SortSt) (p : Array Nat) (pend : Array (Nat × Nat × Nat)) : Prop where
  kind : kindOf st = κ
  failed : failedOf st = none
  arr : arrOf st = p.map it
  pend : pendingOf st = pend
  pm : Pm n p
def Asc (r : Nat → Nat) (p : Array Nat) (lo k : Nat) : Prop := ∀ i j, i ≤ j → j < k → r (g p (lo + i)) ≤ r (g p (lo + j))
def Dsc (r : Nat → Nat) (p : Array Nat) (lo k : Nat) : Prop := ∀ i j, i ≤ j → j < k → r (g p (lo + j)) ≤ r (g p (lo + i))
theorem SI.set {κ : SortKind} {it : Nat → Keyed} {n : Nat} {st : SortSt} {p : Array Nat} {pend : Array (Nat × Nat × Nat)} (h : SI κ it n st p pend) {p' : Array Nat} (hp : p'.Perm p) : SI κ it n (setArr st (p'.map it)) p' pend :=
  ⟨h.kind, h.failed, rfl, h.pend, hp.trans h.pm⟩
section
variable {prog : Program} {w : World} {A : Around} {E : Value → Shared → Prop} {s : Shared} {κ : SortKind} {it : Nat → Keyed} {n : Nat} {r : Nat → Nat}
def HC (prog : Program) (w : World) (A : Around) (E : Value → Shared → Prop) (s : Shared) (κ : SortKind) (it : Nat → Keyed) (n : Nat) (r : Nat → Nat) : Prop :=
  ∀ i j, i < n → j < n → ∀ (st : SortSt) (Q : Option Bool → SortSt → Prop), kindOf st = κ → Q (some (decide (r i < r j))) st → wpS (model prog w) A E s (lt' (it i) (it j)) Q st
variable (hc : HC prog w A E s κ it n r)
theorem getG {p : Array Nat} {i : Nat} (hi : i < p.size) : (p.map it)[i]? = some (it (g p i)) := by
  have e : g p i = p[i] := by simp [g, Array.getD, hi]
  rw [e]; simp [hi]
include hc
theorem w_lt {st : SortSt} {p : Array Nat} {pend : Array (Nat × Nat × Nat)} {i j : Nat} {Q : Option Bool → SortSt → Prop} (h : SI κ it n st p pend) (hi : i < n) (hj : j < n) (q : Q (some (decide (r (g p i) < r (g p j)))) st) : wpS (model prog w) A E s (ltAt' i j) Q st := by
  rw [ltAt'_eq]
  refine wpS_bind (wpS_get ?_)
  show wpS _ _ _ _ (do let x ← elem' (arrOf st) i; let y ← elem' (arrOf st) j; lt' x y) Q st
  have sz := h.pm.size
  rw [elem'_eq, elem'_eq, h.arr, getG (by omega), getG (by omega)]
  refine wpS_bind (wpS_pure (wpS_bind (wpS_pure ?_)))
  exact hc _ _ (h.pm.lt (by omega) _) (h.pm.lt (by omega) _) st Q h.kind q
omit hc in
theorem w_rev {st : SortSt} {p : Array Nat} {pend : Array (Nat × Nat × Nat)} {i j : Nat} {Q : Unit → SortSt → Prop} (h : SI κ it n st p pend) (q : ∀ st', SI κ it n st' (kas_rev p i j) pend → Q () st') : wpS (model prog w) A E s (reverseSlice' i j) Q st := by
  rw [reverseSlice'_eq]
  refine wpS_modify ?_
  have e1 : mirror (arrOf st) i j ((j - i) / 2) = (kas_rev p i j).map it := by
    rw [h.arr]; exact kas_swaps_map it (fun k => i + k) (fun k => j - 1 - k) _ p
  rw [e1]
  exact q _ (h.set (rev_perm _ _ _))
omit hc in
theorem w_move {st : SortSt} {p : Array Nat} {pend : Array (Nat × Nat × Nat)} {k l : Nat} {Q : Unit → SortSt → Prop} (h : SI κ it n st p pend) (q : ∀ st', SI κ it n st' (bubble p k (k - l)) pend → Q () st') : wpS (model prog w) A E s (moveDown' k l) Q st := by
  rw [moveDown'_eq]
  refine wpS_modify ?_
  have e1 : bubble (arrOf st) k (k - l) = (bubble p k (k - l)).map it := by
    rw [h.arr]; exact kas_swaps_map it (fun i => k - i) (fun i => k - i - 1) _ p
  rw [e1]
  exact q _ (h.set (bubble_perm _ _ _))
def ascG (lo a nrem : Nat) : StateT SortSt Sem AscSt :=
  forIn [a:nrem] ((none, a) : AscSt) fun _ __s => do
    let __x ← ltAt' (lo + __s.snd) (lo + __s.snd - 1)
    match __x with
    | some smaller => if smaller = true then pure (ForInStep.done (none, __s.snd)) else pure (ForInStep.yield (none, __s.snd + 1))
    | _ => pure (ForInStep.done (some none, __s.snd))
def tail3G (lo n nrem : Nat) : StateT SortSt Sem (Option Nat) := do
  reverseSlice' lo (lo + n)
  let __s ← ascG lo n nrem
  match __s.fst with
  | some r => pure r
  | none => pure (some __s.snd)
def descG (lo n nrem : Nat) : StateT SortSt Sem DescSt :=
  forIn [n:nrem] ((none, n, 0) : DescSt) fun _ __s => do
    let __x ← ltAt' (lo + __s.snd.fst) (lo + __s.snd.fst - 1)
    match __x with
    | some smaller =>
      if smaller = true then
        if __s.snd.snd > 0 then do
          reverseSlice' (lo + __s.snd.fst - (__s.snd.snd + 1)) (lo + __s.snd.fst)
          pure (ForInStep.yield (none, __s.snd.fst + 1, 0))
        else pure (ForInStep.yield (none, __s.snd.fst + 1, 0))
      else do
        let __x ← ltAt' (lo + __s.snd.fst - 1) (lo + __s.snd.fst)
        match __x with
        | some larger =>
          if larger = true then pure (ForInStep.done (none, __s.snd.fst, __s.snd.snd))
          else pure (ForInStep.yield (none, __s.snd.fst + 1, __s.snd.snd + 1))
        | _ => pure (ForInStep.done (some none, __s.snd.fst, __s.snd.snd))
    | _ => pure (ForInStep.done (some none, __s.snd.fst, __s.snd.snd))
def descPartG (lo n nrem : Nat) : StateT SortSt Sem (Option Nat) := do
  liftM (rule "list.sort.descending-run")
  let __s ← descG lo (n + 1) nrem
  match __s.fst with
  | some r => pure r
  | none =>
    if __s.snd.snd > 0 then do
      reverseSlice' (lo + __s.snd.fst - (__s.snd.snd + 1)) (lo + __s.snd.fst)
      tail3G lo __s.snd.fst nrem
    else tail3G lo __s.snd.fst nrem
omit hc in
theorem countG_eq (lo nrem : Nat) : countRun' lo nrem = (do
    let __s ← ascG lo 1 nrem
    match __s.fst with
    | some r => pure r
    | none =>
      if (__s.snd == nrem) = true then pure (some __s.snd)
      else if __s.snd > 1 then do
        let __x ← ltAt' lo (lo + __s.snd - 1)
        match __x with
        | some rose => if rose = true then pure (some __s.snd) else do
            reverseSlice' lo (lo + __s.snd)
            descPartG lo __s.snd nrem
        | _ => pure none
      else descPartG lo __s.snd nrem) := by
  rw [countRun'_eq]
  unfold descPartG tail3G descG ascG
  dsimp only
  congr 1
  funext __s
  obtain ⟨r, n⟩ := __s
  cases r with
  | some r => rfl
  | none =>
    dsimp only
    split
    · rfl
    · split
      · congr 1
        funext x
        cases x with
        | none => rfl
        | some rose =>
          dsimp only
          split
          · rfl
          · congr 1
            funext _r
            congr 1; funext _u; congr 1; congr 1; funext s2; obtain ⟨r2, n2, q2⟩ := s2; cases r2 with
            | some r2 => rfl
            | none =>
              dsimp only
              split
              · congr 1; funext _v; congr 1; funext _w; congr 1; funext s3; obtain ⟨r3, n3⟩ := s3; cases r3 <;> rfl
              · congr 1; funext _w; congr 1; funext s3; obtain ⟨r3, n3⟩ := s3; cases r3 <;> rfl
      · congr 1; funext _u; congr 1; congr 1; funext s2; obtain ⟨r2, n2, q2⟩ := s2; cases r2 with
        | some r2 => rfl
        | none =>
          dsimp only
          split
          · congr 1; funext _v; congr 1; funext _w; congr 1; funext s3; obtain ⟨r3, n3⟩ := s3; cases r3 <;> rfl
          · congr 1; funext _w; congr 1; funext s3; obtain ⟨r3, n3⟩ := s3; cases r3 <;> rfl
theorem w_asc {st : SortSt} {p : Array Nat} {pend : Array (Nat × Nat × Nat)} {lo a nrem : Nat} {Q : AscSt → SortSt → Prop} (h : SI κ it n st p pend) (hn : lo + nrem ≤ n) (ha : 1 ≤ a) (han : a ≤ nrem) (hs : Asc r p lo a)
    (q : ∀ m, a ≤ m → m ≤ nrem → Asc r p lo m → (m = nrem ∨ r (g p (lo + m)) < r (g p (lo + m - 1))) → Q (none, m) st) :
    wpS (model prog w) A E s (ascG lo a nrem) Q st := by
  unfold ascG
  refine wpS_forRange (I := fun x c st' => st' = st ∧ c = (none, x) ∧ Asc r p lo x) ?step ?fin ⟨rfl, rfl, hs⟩
  case fin =>
    rintro c st' ⟨rfl, rfl, hs'⟩
    rw [show max a nrem = nrem by omega] at hs' ⊢
    exact q nrem han (Nat.le_refl _) hs' (.inl rfl)
  case step =>
    rintro x c st' hax hxn ⟨rfl, rfl, hs'⟩
    dsimp only
    refine wpS_bind (w_lt hc h (by omega) (by omega) ?_)
    by_cases hless : r (g p (lo + x)) < r (g p (lo + x - 1))
    · simp only [hless, decide_true, if_true]
      exact wpS_pure (q x hax (by omega) hs' (.inr hless))
    · simp only [hless, decide_false, Bool.false_eq_true, if_false]
      refine wpS_pure ⟨rfl, rfl, fun i j hij hj => ?_⟩
      by_cases hjx : j < x
      · exact hs' i j hij hjx
      · have hj' : j = x := by omega
        subst hj'
        by_cases hi' : i = j
        · subst hi'; exact Nat.le_refl _
        · have := hs' i (j - 1) (by omega) (by omega)
          rw [show lo + j - 1 = lo + (j - 1) by omega] at hless
          omega
omit hc in
theorem g_revlo {p : Array Nat} {lo i j k : Nat} (hj : lo + j ≤ p.size) : g (kas_rev p (lo + i) (lo + j)) (lo + k) = if i ≤ k ∧ k < j then g p (lo + (i + j - 1 - k)) else g p (lo + k) := by
  rw [g_rev hj]
  by_cases c : i ≤ k ∧ k < j
  · rw [if_pos c, if_pos (by omega)]; congr 1; omega
  · rw [if_neg c, if_neg (by omega)]
omit hc in
theorem g_revlow {p : Array Nat} {i j k : Nat} (hj : j ≤ p.size) (hk : k < i) : g (kas_rev p i j) k = g p k := by
  rw [g_rev hj, if_neg (by omega)]
def Low (p p' : Array Nat) (lo : Nat) : Prop := ∀ i, i < lo → g p' i = g p i
omit hc in
theorem Low.tr {p p' p'' : Array Nat} {lo : Nat} (h : Low p p' lo) (h' : Low p' p'' lo) : Low p p'' lo := fun i hi => (h' i hi).trans (h i hi)
theorem w_tail3 {st : SortSt} {p : Array Nat} {pend : Array (Nat × Nat × Nat)} {lo m nrem : Nat} {Q : Option Nat → SortSt → Prop} (h : SI κ it n st p pend) (hn : lo + nrem ≤ n) (h1 : 1 ≤ m) (hm : m ≤ nrem) (hs : Dsc r p lo m)
    (q : ∀ k st' p', SI κ it n st' p' pend → Low p p' lo → 1 ≤ k → k ≤ nrem → Asc r p' lo k → Q (some k) st') :
    wpS (model prog w) A E s (tail3G lo m nrem) Q st := by
  unfold tail3G
  have sz := h.pm.size
  refine wpS_bind (w_rev h fun st' h' => ?_)
  have lw : Low p (kas_rev p lo (lo + m)) lo := fun i hi => g_revlow (by omega) hi
  refine wpS_bind (w_asc hc h' hn h1 hm ?_ fun k k1 k2 hk _ => wpS_pure (q k st' _ h' lw (by omega) k2 hk))
  intro i j hij hj
  have e := fun k => g_revlo (p := p) (lo := lo) (i := 0) (j := m) (k := k) (by omega)
  rw [Nat.add_zero] at e
  rw [e, e, if_pos (by omega), if_pos (by omega)]
  exact hs _ _ (by omega) (by omega)
omit hc in
theorem rev_eq {p : Array Nat} {lo i j : Nat} (hj : lo + j ≤ p.size) (he : ∀ k, i ≤ k → k < j → r (g p (lo + k)) = r (g p (lo + (j - 1)))) (k : Nat) : r (g (kas_rev p (lo + i) (lo + j)) (lo + k)) = r (g p (lo + k)) := by
  rw [g_revlo hj]
  split
  · rw [he _ (by omega) (by omega), he k (by omega) (by omega)]
  · rfl
theorem w_desc {st : SortSt} {p : Array Nat} {pend : Array (Nat × Nat × Nat)} {lo m nrem : Nat} {Q : DescSt → SortSt → Prop} (h : SI κ it n st p pend) (hn : lo + nrem ≤ n) (h1 : 1 ≤ m) (hm : m ≤ nrem) (hs : Dsc r p lo m)
    (q : ∀ k neq st' p', SI κ it n st' p' pend → Low p p' lo → m ≤ k → k ≤ nrem → Dsc r p' lo k → neq + 1 ≤ k → (∀ i, k - (neq + 1) ≤ i → i < k → r (g p' (lo + i)) = r (g p' (lo + (k - 1)))) → Q (none, k, neq) st') :
    wpS (model prog w) A E s (descG lo m nrem) Q st := by
  unfold descG
  refine wpS_forRange (I := fun x c st' => ∃ neq p', c = (none, x, neq) ∧ SI κ it n st' p' pend ∧ Low p p' lo ∧ Dsc r p' lo x ∧ neq + 1 ≤ x ∧
      (∀ i, x - (neq + 1) ≤ i → i < x → r (g p' (lo + i)) = r (g p' (lo + (x - 1))))) ?step ?fin ⟨0, p, rfl, h, fun _ _ => rfl, hs, by omega, fun i h1 h2 => by congr 3; omega⟩
  case fin =>
    rintro c st' ⟨neq, p', rfl, h', lw, hs', hq, he⟩
    rw [show max m nrem = nrem by omega] at hs' hq he ⊢
    exact q nrem neq st' p' h' lw hm (Nat.le_refl _) hs' hq he
  case step =>
    rintro x c st' hax hxn ⟨neq, p', rfl, h', lw, hs', hq, he⟩
    dsimp only
    have sz := h'.pm.size
    refine wpS_bind (w_lt hc h' (by omega) (by omega) ?_)
    by_cases hless : r (g p' (lo + x)) < r (g p' (lo + x - 1))
    · simp only [hless, decide_true, if_true]
      rw [show lo + x - 1 = lo + (x - 1) by omega] at hless
      have step1 : ∀ xs : Array Nat, (∀ k, r (g xs (lo + k)) = r (g p' (lo + k))) → Dsc r xs lo (x + 1) := by
        intro xs hk i j hij hj
        rw [hk, hk]
        by_cases hjx : j < x
        · exact hs' i j hij hjx
        · have hj' : j = x := by omega
          subst hj'
          by_cases hi' : i = j
          · subst hi'; exact Nat.le_refl _
          · exact Nat.le_trans (Nat.le_of_lt hless) (hs' i (j - 1) (by omega) (by omega))
      by_cases hneq : neq > 0
      · rw [if_pos hneq]
        refine wpS_bind (w_rev h' fun st'' h'' => wpS_pure ?_)
        rw [show lo + x - (neq + 1) = lo + (x - (neq + 1)) by omega] at h''
        exact ⟨0, _, rfl, h'', lw.tr fun i hi => g_revlow (by omega) (by omega), step1 _ (rev_eq (by omega) he), by omega, fun i h1 h2 => by congr 3; omega⟩
      · rw [if_neg hneq]
        exact wpS_pure ⟨0, _, rfl, h', lw, step1 _ (fun _ => rfl), by omega, fun i h1 h2 => by congr 3; omega⟩
    · simp only [hless, decide_false, Bool.false_eq_true, if_false]
      refine wpS_bind (w_lt hc h' (by omega) (by omega) ?_)
      by_cases hlarger : r (g p' (lo + x - 1)) < r (g p' (lo + x))
      · simp only [hlarger, decide_true, if_true]
        exact wpS_pure (q x neq st' p' h' lw hax (by omega) hs' hq he)
      · simp only [hlarger, decide_false, Bool.false_eq_true, if_false]
        rw [show lo + x - 1 = lo + (x - 1) by omega] at hless hlarger
        have heqx : r (g p' (lo + x)) = r (g p' (lo + (x - 1))) := by omega
        refine wpS_pure ⟨neq + 1, _, rfl, h', lw, fun i j hij hj => ?_, by omega, fun i h1 h2 => ?_⟩
        · by_cases hjx : j < x
          · exact hs' i j hij hjx
          · have hj' : j = x := by omega
            subst hj'
            by_cases hi' : i = j
            · subst hi'; exact Nat.le_refl _
            · rw [heqx]; exact hs' i (j - 1) (by omega) (by omega)
        · rw [show x + 1 - 1 = x by omega]
          by_cases hix : i = x
          · subst hix; rfl
          · rw [heqx]; exact he i (by omega) (by omega)
theorem w_descPart {st : SortSt} {p : Array Nat} {pend : Array (Nat × Nat × Nat)} {lo m nrem : Nat} {Q : Option Nat → SortSt → Prop} (h : SI κ it n st p pend) (hn : lo + nrem ≤ n) (hm : m + 1 ≤ nrem) (hs : Dsc r p lo (m + 1))
    (q : ∀ k st' p', SI κ it n st' p' pend → Low p p' lo → 1 ≤ k → k ≤ nrem → Asc r p' lo k → Q (some k) st') :
    wpS (model prog w) A E s (descPartG lo m nrem) Q st := by
  unfold descPartG
  refine wpS_bind (wpS_lift (wpAny_rule ⟨rfl, ?_⟩))
  refine wpS_bind (w_desc hc h hn (by omega) hm hs fun k neq st' p' h' lw k1 k2 hs' hq he => ?_)
  dsimp only
  have sz := h'.pm.size
  by_cases hneq : neq > 0
  · rw [if_pos hneq]
    refine wpS_bind (w_rev h' fun st'' h'' => ?_)
    rw [show lo + k - (neq + 1) = lo + (k - (neq + 1)) by omega] at h''
    have lw2 : Low p' (kas_rev p' (lo + (k - (neq + 1))) (lo + k)) lo := fun i hi => g_revlow (by omega) (by omega)
    refine w_tail3 hc h'' hn (by omega) k2 ?_ fun k' st3 p3 a b => q k' st3 p3 a ((lw.tr lw2).tr b)
    intro i j hij hj
    rw [rev_eq (by omega) he, rev_eq (by omega) he]
    exact hs' i j hij hj
  · rw [if_neg hneq]
    exact w_tail3 hc h' hn (by omega) k2 hs' fun k' st3 p3 a b => q k' st3 p3 a (lw.tr b)
theorem w_count {st : SortSt} {p : Array Nat} {pend : Array (Nat × Nat × Nat)} {lo nrem : Nat} {Q : Option Nat → SortSt → Prop} (h : SI κ it n st p pend) (hn : lo + nrem ≤ n) (h1 : 1 ≤ nrem)
    (q : ∀ k st' p', SI κ it n st' p' pend → Low p p' lo → 1 ≤ k → k ≤ nrem → Asc r p' lo k → Q (some k) st') :
    wpS (model prog w) A E s (countRun' lo nrem) Q st := by
  rw [countG_eq]
  have sz := h.pm.size
  refine wpS_bind (w_asc hc h hn (Nat.le_refl 1) h1 (fun i j hij hj => by
    have : i = j := by omega
    subst this; exact Nat.le_refl _) fun m hm1 hm2 hsm hor => ?_)
  dsimp only
  by_cases hnn : m = nrem
  · rw [if_pos (by simpa using hnn)]
    exact wpS_pure (q m st p h (fun _ _ => rfl) hm1 hm2 hsm)
  · rw [if_neg (by simpa using hnn)]
    have hlt := hor.resolve_left hnn
    by_cases hgt : m > 1
    · rw [if_pos hgt]
      refine wpS_bind (w_lt hc h (by omega) (by omega) ?_)
      by_cases hrose : r (g p lo) < r (g p (lo + m - 1))
      · simp only [hrose, decide_true, if_true]
        exact wpS_pure (q m st p h (fun _ _ => rfl) hm1 hm2 hsm)
      · simp only [hrose, decide_false, Bool.false_eq_true, if_false]
        rw [show lo + m - 1 = lo + (m - 1) by omega] at hrose hlt
        have hall : ∀ k, 0 ≤ k → k < m → r (g p (lo + k)) = r (g p (lo + (m - 1))) := by
          intro k _ hk
          have a1 := hsm 0 k (by omega) hk
          have a2 := hsm k (m - 1) (by omega) (by omega)
          rw [Nat.add_zero] at a1
          omega
        refine wpS_bind (w_rev h fun st' h' => ?_)
        have lw : Low p (kas_rev p lo (lo + m)) lo := fun i hi => g_revlow (by omega) hi
        have e := fun k => rev_eq (r := r) (p := p) (lo := lo) (i := 0) (j := m) (by omega) hall k
        rw [Nat.add_zero] at e
        refine w_descPart hc h' hn (by omega) ?_ fun k' st3 p3 a b => q k' st3 p3 a (lw.tr b)
        intro i j hij hj
        rw [e, e]
        by_cases hjn : j < m
        · rw [hall i (by omega) (by omega), hall j (by omega) hjn]; exact Nat.le_refl _
        · have hj' : j = m := by omega
          subst hj'
          by_cases hi' : i = j
          · subst hi'; exact Nat.le_refl _
          · rw [hall i (by omega) (by omega)]; exact Nat.le_of_lt hlt
    · rw [if_neg hgt]
      have hn1' : m = 1 := by omega
      subst hn1'
      refine w_descPart hc h hn (by omega) ?_ q
      intro i j hij hj
      by_cases hi' : i = j
      · subst hi'; exact Nat.le_refl _
      · have hi0 : i = 0 := by omega
        have hj1 : j = 1 := by omega
        subst hi0; subst hj1
        rw [show lo + 1 - 1 = lo + 0 by omega] at hlt
        exact Nat.le_of_lt hlt
theorem w_bin {st : SortSt} {p : Array Nat} {pend : Array (Nat × Nat × Nat)} {lo m ok : Nat} {Q : Bool → SortSt → Prop} (h : SI κ it n st p pend) (hn : lo + m ≤ n) (hok : ok ≤ m) (hs : Asc r p lo ok)
    (q : ∀ st' p', SI κ it n st' p' pend → Low p p' lo → Asc r p' lo m → Q true st') : wpS (model prog w) A E s (binarySort' lo m ok) Q st := by
  rw [binarySort'_eq]
  refine wpS_bind (wpS_mono (wpS_forRange (I := fun k c st' => ∃ p', c = (none, ()) ∧ SI κ it n st' p' pend ∧ Low p p' lo ∧ Asc r p' lo (min k m))
    (Q := fun c st' => ∃ p', c = (none, ()) ∧ SI κ it n st' p' pend ∧ Low p p' lo ∧ Asc r p' lo m) ?step ?fin ?init) ?post)
  case post =>
    rintro c st' ⟨p', rfl, hB', lw, hs'⟩
    exact wpS_pure (q st' p' hB' lw hs')
  case init =>
    refine ⟨p, rfl, h, fun _ _ => rfl, fun i j hij hj => ?_⟩
    by_cases h1 : ok = 0
    · have : i = j := by omega
      subst this; exact Nat.le_refl _
    · exact hs i j hij (by omega)
  case fin =>
    rintro c st' ⟨p', hc, hB', lw, hs'⟩
    refine ⟨p', hc, hB', lw, ?_⟩
    rwa [show min (max (max ok 1) m) m = m by omega] at hs'
  case step =>
    rintro k c st' hak hkn ⟨p', rfl, hB', lw, hs'⟩
    rw [show min k m = k by omega] at hs'
    have sz := hB'.pm.size
    refine wpS_bind (wpS_mono (wpS_forRange (I := fun x c st'' => st'' = st' ∧ ∃ l u, c = (none, l, u) ∧ l ≤ u ∧ u ≤ k ∧ u - l ≤ k - x ∧
        (∀ i, i < l → r (g p' (lo + i)) ≤ r (g p' (lo + k))) ∧ (∀ i, u ≤ i → i < k → r (g p' (lo + k)) < r (g p' (lo + i))))
      (Q := fun c st'' => st'' = st' ∧ ∃ l u, c = (none, l, u) ∧ l ≤ k ∧
        (∀ i, i < l → r (g p' (lo + i)) ≤ r (g p' (lo + k))) ∧ (∀ i, l ≤ i → i < k → r (g p' (lo + k)) < r (g p' (lo + i)))) ?istep ?ifin ?iinit) ?ipost)
    case iinit => exact ⟨rfl, 0, k, rfl, by omega, by omega, by omega, fun i hi => by omega, fun i h1 h2 => by omega⟩
    case ifin =>
      rintro c st'' ⟨rfl, l, u, rfl, hlr, hrk, hm, hlo, hhi⟩
      have : l = u := by omega
      subst this
      exact ⟨rfl, l, l, rfl, hrk, hlo, hhi⟩
    case istep =>
      rintro x c st'' _ hxk ⟨rfl, l, u, rfl, hlr, hrk, hm, hlo, hhi⟩
      dsimp only
      by_cases hge : l ≥ u
      · rw [if_pos hge]
        have : l = u := by omega
        subst this
        exact wpS_pure ⟨rfl, l, l, rfl, hrk, hlo, hhi⟩
      · rw [if_neg hge]
        refine wpS_bind (w_lt hc hB' (by omega) (by omega) ?_)
        by_cases hless : r (g p' (lo + k)) < r (g p' (lo + (l + u) / 2))
        · simp only [hless, decide_true, if_true]
          refine wpS_pure ⟨rfl, l, (l + u) / 2, rfl, by omega, by omega, by omega, hlo, fun i h1 h2 => ?_⟩
          exact Nat.lt_of_lt_of_le hless (hs' _ _ h1 h2)
        · simp only [hless, decide_false, Bool.false_eq_true, if_false]
          refine wpS_pure ⟨rfl, (l + u) / 2 + 1, u, rfl, by omega, by omega, by omega, fun i h1 => ?_, hhi⟩
          exact Nat.le_trans (hs' i ((l + u) / 2) (by omega) (by omega)) (Nat.not_lt.mp hless)
    case ipost =>
      rintro c st'' ⟨rfl, l, u, rfl, hlk, hlo, hhi⟩
      show wpS _ _ _ _ (do moveDown' (lo + k) (lo + l); pure (ForInStep.yield (none, ()))) _ _
      refine wpS_bind (w_move hB' fun st3 h3 => wpS_pure ⟨_, rfl, h3, lw.tr fun i hi => ?_, ?_⟩)
      · rw [g_bub (by omega) (by omega), if_neg (by omega), if_neg (by omega)]
      rw [show min (k + 1) m = k + 1 by omega]
      intro i j hij hj
      rw [g_bub (by omega) (by omega), g_bub (by omega) (by omega), show lo + k - (lo + k - (lo + l)) = lo + l by omega]
      by_cases i1 : i = l
      · rw [if_pos (by omega)]
        by_cases j1 : j = l
        · rw [if_pos (by omega)]; exact Nat.le_refl _
        · rw [if_neg (by omega), if_pos (by omega), show lo + j - 1 = lo + (j - 1) by omega]
          exact Nat.le_of_lt (hhi _ (by omega) (by omega))
      · rw [if_neg (by omega)]
        by_cases i2 : l < i
        · rw [if_pos (by omega), if_neg (by omega), if_pos (by omega), show lo + i - 1 = lo + (i - 1) by omega, show lo + j - 1 = lo + (j - 1) by omega]
          exact hs' _ _ (by omega) (by omega)
        · rw [if_neg (by omega)]
          by_cases j1 : j = l
          · rw [if_pos (by omega)]; exact hlo _ (by omega)
          · rw [if_neg (by omega)]
            by_cases j2 : l < j
            · rw [if_pos (by omega), show lo + j - 1 = lo + (j - 1) by omega]; exact hs' _ _ (by omega) (by omega)
            · rw [if_neg (by omega)]; exact hs' _ _ (by omega) (by omega)
end
end Tim
set_option maxHeartbeats 4000000
namespace Tim
open PySem PySem.W PyProof.Rows Srt
def setGallop' (m : Nat) : StateT SortSt Sem Unit := modify fun s => SortSt.mk' (kindOf s) (arrOf s) (pendingOf s) m (failedOf s)
def gallop' : Bool → Keyed → Array Keyed → Nat → Nat → Nat → StateT SortSt Sem (Option Nat) := sortPriv% PySem.Builtin.gallop
def mergeLo' : Array Keyed → Array Keyed → StateT SortSt Sem (Array Keyed) := sortPriv% PySem.Builtin.mergeLo
def mergeHi' : Array Keyed → Array Keyed → StateT SortSt Sem (Array Keyed) := sortPriv% PySem.Builtin.mergeHi
def beyond (left : Bool) (key : Keyed) (arr : Array Keyed) (base i : Nat) : StateT SortSt Sem (Option Bool) := do
  let x ← elem' arr (base + i)
  if left then lt' x key else return (← lt' key x).map (!·)
def galFin (left : Bool) (key : Keyed) (arr : Array Keyed) (base n lo hi : Nat) : StateT SortSt Sem (Option Nat) := do
  let mut lo := lo
  let mut hi := hi
  for _ in [0:n] do
    if lo ≥ hi then break
    let m := lo + (hi - lo) / 2
    let some more ← beyond left key arr base m | return none
    if more then lo := m + 1 else hi := m
  return some hi
theorem gallop'_eq (left : Bool) (key : Keyed) (arr : Array Keyed) (base n hint : Nat) : gallop' left key arr base n hint = (do
  let mut lastofs := 0
  let mut ofs := 1
  let some right ← beyond left key arr base hint | return none
  if right then
    let maxofs := n - hint
    for _ in [0:n] do
      if ofs ≥ maxofs then break
      let some more ← beyond left key arr base (hint + ofs) | return none
      if !more then break
      lastofs := ofs
      ofs := 2 * ofs + 1
    galFin left key arr base n (hint + lastofs + 1) (hint + min ofs maxofs)
  else
    let maxofs := hint + 1
    for _ in [0:n] do
      if ofs ≥ maxofs then break
      let some found ← beyond left key arr base (hint - ofs) | return none
      if found then break
      lastofs := ofs
      ofs := 2 * ofs + 1
    galFin left key arr base n (hint + 1 - min ofs maxofs) (hint - lastofs)) := rfl
abbrev S0 := Option (Array Keyed) × Array Keyed × Nat × Nat × Nat
abbrev S1 := Option (Array Keyed) × Array Keyed × Nat × Nat × Nat × Nat
abbrev S2 := Option (Array Keyed) × Array Keyed × Nat × Nat × Nat × Nat × Nat
def doneL (a b out : Array Keyed) (ia ib : Nat) : Array Keyed := out ++ a.extract ia a.size ++ b.extract ib b.size
def lastL (a b out : Array Keyed) (ia ib : Nat) : Array Keyed := out ++ b.extract ib b.size ++ a.extract ia a.size
def lo3 (a b out : Array Keyed) (ia ib mg k k1 : Nat) : StateT SortSt Sem (ForInStep S2) := do
  let y ← elem' a ia
  if (ia + 1 + 1 == a.size) = true then pure (.done (some (lastL a b (out.push y) (ia + 1) ib), out.push y, ia + 1, ib, mg, k, k1))
  else if (decide (k < 7) && decide (k1 < 7)) = true then pure (.done (none, out.push y, ia + 1, ib, mg, k, k1))
  else pure (.yield (none, out.push y, ia + 1, ib, mg, k, k1))
def lo2 (a b out : Array Keyed) (ia ib mg k bc : Nat) : StateT SortSt Sem (ForInStep S2) := do
  let y ← elem' b ib
  if (ib + 1 == b.size) = true then pure (.done (some (doneL a b (out.push y) ia (ib + 1)), out.push y, ia, ib + 1, mg, k, bc))
  else do
    let z ← elem' a ia
    let x ← gallop' true z b (ib + 1) (b.size - (ib + 1)) 0
    match x with
    | some k1 =>
      if k1 > 0 then
        if (ib + 1 + k1 == b.size) = true then pure (.done (some (doneL a b (out.push y ++ b.extract (ib + 1) (ib + 1 + k1)) ia (ib + 1 + k1)), out.push y ++ b.extract (ib + 1) (ib + 1 + k1), ia, ib + 1 + k1, mg, k, k1))
        else lo3 a b (out.push y ++ b.extract (ib + 1) (ib + 1 + k1)) ia (ib + 1 + k1) mg k k1
      else lo3 a b (out.push y) ia (ib + 1) mg k k1
    | _ => pure (.done (some (doneL a b (out.push y) ia (ib + 1)), out.push y, ia, ib + 1, mg, k, bc))
def lo1 (a b out : Array Keyed) (ia ib mg ac bc : Nat) : StateT SortSt Sem (ForInStep S2) := do
  setGallop' mg
  let y ← elem' b ib
  let x ← gallop' false y a ia (a.size - ia) 0
  match x with
  | some k =>
    if k > 0 then
      if (ia + k + 1 == a.size) = true then pure (.done (some (lastL a b (out ++ a.extract ia (ia + k)) (ia + k) ib), out ++ a.extract ia (ia + k), ia + k, ib, mg, k, bc))
      else if (ia + k == a.size) = true then pure (.done (some (doneL a b (out ++ a.extract ia (ia + k)) (ia + k) ib), out ++ a.extract ia (ia + k), ia + k, ib, mg, k, bc))
      else lo2 a b (out ++ a.extract ia (ia + k)) (ia + k) ib mg k bc
    else lo2 a b out ia ib mg k bc
  | _ => pure (.done (some (doneL a b out ia ib), out, ia, ib, mg, ac, bc))
def loA (a b : Array Keyed) (mg : Nat) (c : S1) : StateT SortSt Sem (ForInStep S1) := do
  let y ← elem' b c.snd.snd.snd.fst
  let z ← elem' a c.snd.snd.fst
  let x ← lt' y z
  match x with
  | some bWins =>
    if bWins = true then do
      let y ← elem' b c.snd.snd.snd.fst
      if (c.snd.snd.snd.fst + 1 == b.size) = true then pure (.done (some (doneL a b (c.snd.fst.push y) c.snd.snd.fst (c.snd.snd.snd.fst + 1)), c.snd.fst.push y, c.snd.snd.fst, c.snd.snd.snd.fst + 1, 0, c.snd.snd.snd.snd.snd + 1))
      else if c.snd.snd.snd.snd.snd + 1 ≥ mg then pure (.done (none, c.snd.fst.push y, c.snd.snd.fst, c.snd.snd.snd.fst + 1, 0, c.snd.snd.snd.snd.snd + 1))
      else pure (.yield (none, c.snd.fst.push y, c.snd.snd.fst, c.snd.snd.snd.fst + 1, 0, c.snd.snd.snd.snd.snd + 1))
    else do
      let z ← elem' a c.snd.snd.fst
      if (c.snd.snd.fst + 1 + 1 == a.size) = true then pure (.done (some (lastL a b (c.snd.fst.push z) (c.snd.snd.fst + 1) c.snd.snd.snd.fst), c.snd.fst.push z, c.snd.snd.fst + 1, c.snd.snd.snd.fst, c.snd.snd.snd.snd.fst + 1, 0))
      else if c.snd.snd.snd.snd.fst + 1 ≥ mg then pure (.done (none, c.snd.fst.push z, c.snd.snd.fst + 1, c.snd.snd.snd.fst, c.snd.snd.snd.snd.fst + 1, 0))
      else pure (.yield (none, c.snd.fst.push z, c.snd.snd.fst + 1, c.snd.snd.snd.fst, c.snd.snd.snd.snd.fst + 1, 0))
  | _ => pure (.done (some (doneL a b c.snd.fst c.snd.snd.fst c.snd.snd.snd.fst), c.snd.fst, c.snd.snd.fst, c.snd.snd.snd.fst, c.snd.snd.snd.snd.fst, c.snd.snd.snd.snd.snd))
def loB (a b : Array Keyed) (c : S2) : StateT SortSt Sem (ForInStep S2) :=
  if c.snd.snd.snd.snd.fst > 1 then lo1 a b c.snd.fst c.snd.snd.fst c.snd.snd.snd.fst (c.snd.snd.snd.snd.fst - 1) c.snd.snd.snd.snd.snd.fst c.snd.snd.snd.snd.snd.snd
  else lo1 a b c.snd.fst c.snd.snd.fst c.snd.snd.snd.fst c.snd.snd.snd.snd.fst c.snd.snd.snd.snd.snd.fst c.snd.snd.snd.snd.snd.snd
def loO (a b : Array Keyed) (c : S0) : StateT SortSt Sem (ForInStep S0) := do
  let s1 ← forIn [0:a.size + b.size] ((none, c.snd.fst, c.snd.snd.fst, c.snd.snd.snd.fst, 0, 0) : S1) fun _ x => loA a b c.snd.snd.snd.snd x
  match s1.fst with
  | some r => pure (.done (some r, s1.snd.fst, s1.snd.snd.fst, s1.snd.snd.snd.fst, c.snd.snd.snd.snd))
  | none => do
    liftM (rule "list.sort.gallop")
    let s2 ← forIn [0:a.size + b.size] ((none, s1.snd.fst, s1.snd.snd.fst, s1.snd.snd.snd.fst, c.snd.snd.snd.snd + 1, s1.snd.snd.snd.snd.fst, s1.snd.snd.snd.snd.snd) : S2) fun _ x => loB a b x
    match s2.fst with
    | some r => pure (.done (some r, s2.snd.fst, s2.snd.snd.fst, s2.snd.snd.snd.fst, s2.snd.snd.snd.snd.fst))
    | none => do
      setGallop' (s2.snd.snd.snd.snd.fst + 1)
      pure (.yield (none, s2.snd.fst, s2.snd.snd.fst, s2.snd.snd.snd.fst, s2.snd.snd.snd.snd.fst + 1))
theorem mergeLo'_eq0 (a b : Array Keyed) : mergeLo' a b = (do
  rule "list.sort.merge-lo"
  let total := a.size + b.size
  let done (out : Array Keyed) (ia ib : Nat) := out ++ a.extract ia a.size ++ b.extract ib b.size
  let lastOfA (out : Array Keyed) (ia ib : Nat) := out ++ b.extract ib b.size ++ a.extract ia a.size
  let mut out : Array Keyed := #[← elem' b 0]
  let mut ia := 0
  let mut ib := 1
  if ib == b.size then return done out ia ib
  if ia + 1 == a.size then return lastOfA out ia ib
  let mut minGallop := gallopOf (← get)
  for _ in [0:total] do
    let mut acount := 0
    let mut bcount := 0
    for _ in [0:total] do
      let some bWins ← lt' (← elem' b ib) (← elem' a ia) | return done out ia ib
      if bWins then
        out := out.push (← elem' b ib); ib := ib + 1; bcount := bcount + 1; acount := 0
        if ib == b.size then return done out ia ib
        if bcount ≥ minGallop then break
      else
        out := out.push (← elem' a ia); ia := ia + 1; acount := acount + 1; bcount := 0
        if ia + 1 == a.size then return lastOfA out ia ib
        if acount ≥ minGallop then break
    rule "list.sort.gallop"
    minGallop := minGallop + 1
    for _ in [0:total] do
      if minGallop > 1 then minGallop := minGallop - 1
      setGallop' minGallop
      let some k ← gallop' false (← elem' b ib) a ia (a.size - ia) 0 | return done out ia ib
      acount := k
      if k > 0 then
        out := out ++ a.extract ia (ia + k); ia := ia + k
        if ia + 1 == a.size then return lastOfA out ia ib
        if ia == a.size then return done out ia ib
      out := out.push (← elem' b ib); ib := ib + 1
      if ib == b.size then return done out ia ib
      let some k ← gallop' true (← elem' a ia) b ib (b.size - ib) 0 | return done out ia ib
      bcount := k
      if k > 0 then
        out := out ++ b.extract ib (ib + k); ib := ib + k
        if ib == b.size then return done out ia ib
      out := out.push (← elem' a ia); ia := ia + 1
      if ia + 1 == a.size then return lastOfA out ia ib
      if acount < 7 && bcount < 7 then break
    minGallop := minGallop + 1
    setGallop' minGallop
  unsupported "internal:list.sort.merge-bound") := rfl
theorem mergeLo'_eq (a b : Array Keyed) : mergeLo' a b = (do
  liftM (rule "list.sort.merge-lo")
  let y ← elem' b 0
  if (1 == b.size) = true then pure (doneL a b #[y] 0 1)
  else if (0 + 1 == a.size) = true then pure (lastL a b #[y] 0 1)
  else do
    let st ← get
    let c ← forIn [0:a.size + b.size] ((none, #[y], 0, 1, gallopOf st) : S0) fun _ x => loO a b x
    match c.fst with
    | some r => pure r
    | none => liftM (m := Sem) (unsupported "internal:list.sort.merge-bound")) := by
  rw [mergeLo'_eq0]
  dsimp only
  congr 1; funext _; congr 1; funext y
  congr 1
  congr 1
  congr 1; funext st
  congr 1
  · congr 1
    funext _ c
    unfold loO
    congr 1
    funext s1
    obtain ⟨s1, s1'⟩ := s1
    cases s1 with
    | some r => rfl
    | none =>
      dsimp only
      congr 1; funext _
      congr 1
      funext s2
      obtain ⟨s2, s2'⟩ := s2
      cases s2 <;> rfl
  · funext c
    obtain ⟨r, c'⟩ := c
    cases r <;> rfl
def doneH (a b out : Array Keyed) (na nb : Nat) : Array Keyed := a.extract 0 na ++ b.extract 0 nb ++ out.reverse
def firstH (a b out : Array Keyed) (na nb : Nat) : Array Keyed := b.extract 0 nb ++ a.extract 0 na ++ out.reverse
abbrev H0 := Option (Array Keyed) × Nat × Nat × Array Keyed × Nat
abbrev H1 := Option (Array Keyed) × Nat × Nat × Array Keyed × Nat × Nat
abbrev H2 := Option (Array Keyed) × Nat × Nat × Array Keyed × Nat × Nat × Nat
def hi3 (a b out : Array Keyed) (na nb mg k k1 : Nat) : StateT SortSt Sem (ForInStep H2) := do
  let y ← elem' a (na - 1)
  if (na - 1 == 0) = true then pure (.done (some (doneH a b (out.push y) (na - 1) nb), na - 1, nb, out.push y, mg, k, k1))
  else if (decide (k < 7) && decide (k1 < 7)) = true then pure (.done (none, na - 1, nb, out.push y, mg, k, k1))
  else pure (.yield (none, na - 1, nb, out.push y, mg, k, k1))
def hi2 (a b out : Array Keyed) (na nb mg k bc : Nat) : StateT SortSt Sem (ForInStep H2) := do
  let y ← elem' b (nb - 1)
  if (nb - 1 == 1) = true then pure (.done (some (firstH a b (out.push y) na (nb - 1)), na, nb - 1, out.push y, mg, k, bc))
  else do
    let z ← elem' a (na - 1)
    let x ← gallop' true z b 0 (nb - 1) (nb - 1 - 1)
    match x with
    | some at1 =>
      if nb - 1 - at1 > 0 then
        if (at1 == 1) = true then pure (.done (some (firstH a b (out.push y ++ (b.extract at1 (nb - 1)).reverse) na at1), na, at1, out.push y ++ (b.extract at1 (nb - 1)).reverse, mg, k, nb - 1 - at1))
        else if (at1 == 0) = true then pure (.done (some (doneH a b (out.push y ++ (b.extract at1 (nb - 1)).reverse) na at1), na, at1, out.push y ++ (b.extract at1 (nb - 1)).reverse, mg, k, nb - 1 - at1))
        else hi3 a b (out.push y ++ (b.extract at1 (nb - 1)).reverse) na at1 mg k (nb - 1 - at1)
      else hi3 a b (out.push y) na (nb - 1) mg k (nb - 1 - at1)
    | _ => pure (.done (some (doneH a b (out.push y) na (nb - 1)), na, nb - 1, out.push y, mg, k, bc))
def hi1 (a b out : Array Keyed) (na nb mg ac bc : Nat) : StateT SortSt Sem (ForInStep H2) := do
  setGallop' mg
  let y ← elem' b (nb - 1)
  let x ← gallop' false y a 0 na (na - 1)
  match x with
  | some at1 =>
    if na - at1 > 0 then
      if (at1 == 0) = true then pure (.done (some (doneH a b (out ++ (a.extract at1 na).reverse) at1 nb), at1, nb, out ++ (a.extract at1 na).reverse, mg, na - at1, bc))
      else hi2 a b (out ++ (a.extract at1 na).reverse) at1 nb mg (na - at1) bc
    else hi2 a b out na nb mg (na - at1) bc
  | _ => pure (.done (some (doneH a b out na nb), na, nb, out, mg, ac, bc))
def hiA (a b : Array Keyed) (mg : Nat) (c : H1) : StateT SortSt Sem (ForInStep H1) := do
  let y ← elem' b (c.snd.snd.fst - 1)
  let z ← elem' a (c.snd.fst - 1)
  let x ← lt' y z
  match x with
  | some aWins =>
    if aWins = true then do
      let z ← elem' a (c.snd.fst - 1)
      if (c.snd.fst - 1 == 0) = true then pure (.done (some (doneH a b (c.snd.snd.snd.fst.push z) (c.snd.fst - 1) c.snd.snd.fst), c.snd.fst - 1, c.snd.snd.fst, c.snd.snd.snd.fst.push z, c.snd.snd.snd.snd.fst + 1, 0))
      else if c.snd.snd.snd.snd.fst + 1 ≥ mg then pure (.done (none, c.snd.fst - 1, c.snd.snd.fst, c.snd.snd.snd.fst.push z, c.snd.snd.snd.snd.fst + 1, 0))
      else pure (.yield (none, c.snd.fst - 1, c.snd.snd.fst, c.snd.snd.snd.fst.push z, c.snd.snd.snd.snd.fst + 1, 0))
    else do
      let y ← elem' b (c.snd.snd.fst - 1)
      if (c.snd.snd.fst - 1 == 1) = true then pure (.done (some (firstH a b (c.snd.snd.snd.fst.push y) c.snd.fst (c.snd.snd.fst - 1)), c.snd.fst, c.snd.snd.fst - 1, c.snd.snd.snd.fst.push y, 0, c.snd.snd.snd.snd.snd + 1))
      else if c.snd.snd.snd.snd.snd + 1 ≥ mg then pure (.done (none, c.snd.fst, c.snd.snd.fst - 1, c.snd.snd.snd.fst.push y, 0, c.snd.snd.snd.snd.snd + 1))
      else pure (.yield (none, c.snd.fst, c.snd.snd.fst - 1, c.snd.snd.snd.fst.push y, 0, c.snd.snd.snd.snd.snd + 1))
  | _ => pure (.done (some (doneH a b c.snd.snd.snd.fst c.snd.fst c.snd.snd.fst), c.snd.fst, c.snd.snd.fst, c.snd.snd.snd.fst, c.snd.snd.snd.snd.fst, c.snd.snd.snd.snd.snd))
def hiB (a b : Array Keyed) (c : H2) : StateT SortSt Sem (ForInStep H2) :=
  if c.snd.snd.snd.snd.fst > 1 then hi1 a b c.snd.snd.snd.fst c.snd.fst c.snd.snd.fst (c.snd.snd.snd.snd.fst - 1) c.snd.snd.snd.snd.snd.fst c.snd.snd.snd.snd.snd.snd
  else hi1 a b c.snd.snd.snd.fst c.snd.fst c.snd.snd.fst c.snd.snd.snd.snd.fst c.snd.snd.snd.snd.snd.fst c.snd.snd.snd.snd.snd.snd
def hiO (a b : Array Keyed) (c : H0) : StateT SortSt Sem (ForInStep H0) := do
  let s1 ← forIn [0:a.size + b.size] ((none, c.snd.fst, c.snd.snd.fst, c.snd.snd.snd.fst, 0, 0) : H1) fun _ x => hiA a b c.snd.snd.snd.snd x
  match s1.fst with
  | some r => pure (.done (some r, s1.snd.fst, s1.snd.snd.fst, s1.snd.snd.snd.fst, c.snd.snd.snd.snd))
  | none => do
    liftM (rule "list.sort.gallop")
    let s2 ← forIn [0:a.size + b.size] ((none, s1.snd.fst, s1.snd.snd.fst, s1.snd.snd.snd.fst, c.snd.snd.snd.snd + 1, s1.snd.snd.snd.snd.fst, s1.snd.snd.snd.snd.snd) : H2) fun _ x => hiB a b x
    match s2.fst with
    | some r => pure (.done (some r, s2.snd.fst, s2.snd.snd.fst, s2.snd.snd.snd.fst, s2.snd.snd.snd.snd.fst))
    | none => do
      setGallop' (s2.snd.snd.snd.snd.fst + 1)
      pure (.yield (none, s2.snd.fst, s2.snd.snd.fst, s2.snd.snd.snd.fst, s2.snd.snd.snd.snd.fst + 1))
theorem mergeHi'_eq0 (a b : Array Keyed) : mergeHi' a b = (do
  rule "list.sort.merge-hi"
  let total := a.size + b.size
  let done (out : Array Keyed) (na nb : Nat) := a.extract 0 na ++ b.extract 0 nb ++ out.reverse
  let firstOfB (out : Array Keyed) (na nb : Nat) := b.extract 0 nb ++ a.extract 0 na ++ out.reverse
  let mut na := a.size - 1
  let mut nb := b.size
  let mut out : Array Keyed := #[← elem' a na]
  if na == 0 then return done out na nb
  if nb == 1 then return firstOfB out na nb
  let mut minGallop := gallopOf (← get)
  for _ in [0:total] do
    let mut acount := 0
    let mut bcount := 0
    for _ in [0:total] do
      let some aWins ← lt' (← elem' b (nb - 1)) (← elem' a (na - 1)) | return done out na nb
      if aWins then
        na := na - 1; out := out.push (← elem' a na); acount := acount + 1; bcount := 0
        if na == 0 then return done out na nb
        if acount ≥ minGallop then break
      else
        nb := nb - 1; out := out.push (← elem' b nb); bcount := bcount + 1; acount := 0
        if nb == 1 then return firstOfB out na nb
        if bcount ≥ minGallop then break
    rule "list.sort.gallop"
    minGallop := minGallop + 1
    for _ in [0:total] do
      if minGallop > 1 then minGallop := minGallop - 1
      setGallop' minGallop
      let some at_ ← gallop' false (← elem' b (nb - 1)) a 0 na (na - 1) | return done out na nb
      let k := na - at_
      acount := k
      if k > 0 then
        out := out ++ (a.extract at_ na).reverse; na := at_
        if na == 0 then return done out na nb
      nb := nb - 1; out := out.push (← elem' b nb)
      if nb == 1 then return firstOfB out na nb
      let some at_ ← gallop' true (← elem' a (na - 1)) b 0 nb (nb - 1) | return done out na nb
      let k := nb - at_
      bcount := k
      if k > 0 then
        out := out ++ (b.extract at_ nb).reverse; nb := at_
        if nb == 1 then return firstOfB out na nb
        if nb == 0 then return done out na nb
      na := na - 1; out := out.push (← elem' a na)
      if na == 0 then return done out na nb
      if acount < 7 && bcount < 7 then break
    minGallop := minGallop + 1
    setGallop' minGallop
  unsupported "internal:list.sort.merge-bound") := rfl
theorem mergeHi'_eq (a b : Array Keyed) : mergeHi' a b = (do
  liftM (rule "list.sort.merge-hi")
  let y ← elem' a (a.size - 1)
  if (a.size - 1 == 0) = true then pure (doneH a b #[y] (a.size - 1) b.size)
  else if (b.size == 1) = true then pure (firstH a b #[y] (a.size - 1) b.size)
  else do
    let st ← get
    let c ← forIn [0:a.size + b.size] ((none, a.size - 1, b.size, #[y], gallopOf st) : H0) fun _ x => hiO a b x
    match c.fst with
    | some r => pure r
    | none => liftM (m := Sem) (unsupported "internal:list.sort.merge-bound")) := by
  rw [mergeHi'_eq0]
  dsimp only
  congr 1; funext _; congr 1; funext y
  congr 1
  congr 1
  congr 1; funext st
  congr 1
  · congr 1
    funext _ c
    unfold hiO
    congr 1
    funext s1
    obtain ⟨s1, s1'⟩ := s1
    cases s1 with
    | some r => rfl
    | none =>
      dsimp only
      congr 1; funext _
      congr 1
      funext s2
      obtain ⟨s2, s2'⟩ := s2
      cases s2 <;> rfl
  · funext c
    obtain ⟨r, c'⟩ := c
    cases r <;> rfl
theorem mergeAt'_eq (i : Nat) : mergeAt' i = (do
  let s ← get
  let (some (sa, na, power), some (sb, nb, _)) := ((pendingOf s)[i]?, (pendingOf s)[i + 1]?) | unsupported "internal:list.sort.pending"
  set (setPending s (((pendingOf s).setIfInBounds i (sa, na + nb, power)).eraseIdxIfInBounds (i + 1)))
  let some k ← gallop' false (← elem' (arrOf s) sb) (arrOf s) sa na 0 | return false
  let (sa, na) := (sa + k, na - k)
  if na == 0 then return true
  let some nb ← gallop' true (← elem' (arrOf s) (sa + na - 1)) (arrOf s) sb nb (nb - 1) | return false
  if nb == 0 then return true
  let x := (arrOf s).extract sa sb
  let y := (arrOf s).extract sb (sb + nb)
  let merged ← if na ≤ nb then mergeLo' x y else mergeHi' x y
  modify fun s => setArr s (merged.toList.zipIdx.foldl (fun a (p, j) => a.setIfInBounds (sa + j) p) (arrOf s))
  return (failedOf (← get)).isNone) := rfl
abbrev e (l : List Nat) (i : Nat) : Nat := l.getD i 0
abbrev ar (it : Nat → Keyed) (l : List Nat) : Array Keyed := (l.map it).toArray
section
variable {prog : Program} {w : World} {A : Around} {E : Value → Shared → Prop} {s : Shared} {κ : SortKind} {it : Nat → Keyed} {n : Nat} {r : Nat → Nat}
theorem w_elem {l : List Nat} {i : Nat} (hi : i < l.length) : elem' (ar it l) i = pure (it (e l i)) := by
  rw [elem'_eq]
  have : (ar it l)[i]? = some (it (e l i)) := by simp [ar, e, hi]
  rw [this]
theorem w_gallop {left : Bool} {key : Keyed} {arr : Array Keyed} {base m hint : Nat} {st : SortSt} {Q : Option Nat → SortSt → Prop} (F : Nat → Bool) (hk : kindOf st = κ)
    (hb : ∀ i, i < m → ∀ (Q : Option Bool → SortSt → Prop), Q (some (F i)) st → wpS (model prog w) A E s (beyond left key arr base i) Q st)
    (mo : ∀ i j, i ≤ j → j < m → F j = true → F i = true) (hh : hint < m) (q : ∀ k, k ≤ m → (∀ i, i < k → F i = true) → (∀ i, k ≤ i → i < m → F i = false) → Q (some k) st) :
    wpS (model prog w) A E s (gallop' left key arr base m hint) Q st := by
  rw [gallop'_eq]
  dsimp only
  have mo' : ∀ i j, i ≤ j → j < m → F i = false → F j = false := fun i j hij hj h => by
    cases z : F j with
    | false => rfl
    | true => rw [mo i j hij hj z] at h; cases h
  have fin : ∀ lo hi, lo ≤ hi → hi ≤ m → (∀ i, i < lo → F i = true) → (∀ i, hi ≤ i → i < m → F i = false) → wpS (model prog w) A E s (galFin left key arr base m lo hi) Q st := by
    intro lo hi h1 h2 h3 h4
    unfold galFin
    refine wpS_bind (wpS_mono (wpS_forRange (I := fun x c st' => st' = st ∧ ∃ lo hi, c = (none, lo, hi) ∧ lo ≤ hi ∧ hi ≤ m ∧ hi - lo ≤ m - x ∧ (∀ i, i < lo → F i = true) ∧ (∀ i, hi ≤ i → i < m → F i = false))
      (Q := fun c st' => st' = st ∧ ∃ lo hi, c = (none, lo, hi) ∧ hi ≤ m ∧ (∀ i, i < hi → F i = true) ∧ (∀ i, hi ≤ i → i < m → F i = false)) ?step ?fin ⟨rfl, lo, hi, rfl, h1, h2, by omega, h3, h4⟩) ?post)
    case post =>
      rintro c st' ⟨rfl, lo, hi, rfl, a, b, d⟩
      exact wpS_pure (q hi a b d)
    case fin =>
      rintro c st' ⟨rfl, lo, hi, rfl, a, b, d, f, k⟩
      have : lo = hi := by omega
      subst this
      exact ⟨rfl, lo, lo, rfl, b, f, k⟩
    case step =>
      rintro x c st' _ hx ⟨rfl, lo, hi, rfl, a, b, d, f, k⟩
      dsimp only
      by_cases z : lo ≥ hi
      · rw [if_pos z]
        have : lo = hi := by omega
        subst this
        exact wpS_pure ⟨rfl, lo, lo, rfl, b, f, k⟩
      · rw [if_neg z]
        refine wpS_bind (hb _ (by omega) _ ?_)
        dsimp only
        cases zz : F (lo + (hi - lo) / 2) with
        | true =>
          rw [if_pos rfl]
          exact wpS_pure ⟨rfl, _, _, rfl, by omega, b, by omega, fun i hi => mo _ _ (by omega) (by omega) zz, k⟩
        | false =>
          rw [if_neg (by decide)]
          exact wpS_pure ⟨rfl, _, _, rfl, by omega, by omega, by omega, f, fun i h1 h2 => mo' _ _ h1 h2 zz⟩
  refine wpS_bind (hb hint hh _ ?_)
  dsimp only
  cases zr : F hint with
  | true =>
    rw [if_pos rfl]
    refine wpS_bind (wpS_mono (wpS_forRange (I := fun x c st' => st' = st ∧ ∃ lo ofs, c = (none, lo, ofs) ∧ lo < ofs ∧ lo < m - hint ∧ x + 1 ≤ ofs ∧ F (hint + lo) = true)
      (Q := fun c st' => st' = st ∧ ∃ lo ofs, c = (none, lo, ofs) ∧ lo < ofs ∧ lo < m - hint ∧ F (hint + lo) = true ∧ (m - hint ≤ ofs ∨ F (hint + ofs) = false)) ?step ?fn ⟨rfl, 0, 1, rfl, by omega, by omega, by omega, by simpa using zr⟩) ?post)
    case fn =>
      rintro c st' ⟨rfl, lo, ofs, rfl, a, b, d, f⟩
      exact ⟨rfl, lo, ofs, rfl, a, b, f, .inl (by omega)⟩
    case step =>
      rintro x c st' _ hx ⟨rfl, lo, ofs, rfl, a, b, d, f⟩
      dsimp only
      by_cases z : ofs ≥ m - hint
      · rw [if_pos z]
        exact wpS_pure ⟨rfl, lo, ofs, rfl, a, b, f, .inl z⟩
      · rw [if_neg z]
        refine wpS_bind (hb _ (by omega) _ ?_)
        dsimp only
        cases zz : F (hint + ofs) with
        | false =>
          rw [if_pos (by decide)]
          exact wpS_pure ⟨rfl, lo, ofs, rfl, a, b, f, .inr zz⟩
        | true =>
          rw [if_neg (by decide)]
          exact wpS_pure ⟨rfl, ofs, 2 * ofs + 1, rfl, by omega, by omega, by omega, zz⟩
    case post =>
      rintro c st' ⟨rfl, lo, ofs, rfl, a, b, f, k⟩
      dsimp only
      refine fin (hint + lo + 1) (hint + min ofs (m - hint)) (by omega) (by omega) (fun i hi => mo _ (hint + lo) (by omega) (by omega) f) fun i h1 h2 => ?_
      rcases k with k | k
      · omega
      · exact mo' (hint + ofs) i (by omega) h2 k
  | false =>
    rw [if_neg (by decide)]
    refine wpS_bind (wpS_mono (wpS_forRange (I := fun x c st' => st' = st ∧ ∃ lo ofs, c = (none, lo, ofs) ∧ lo < ofs ∧ lo ≤ hint ∧ x + 1 ≤ ofs ∧ F (hint - lo) = false)
      (Q := fun c st' => st' = st ∧ ∃ lo ofs, c = (none, lo, ofs) ∧ lo < ofs ∧ lo ≤ hint ∧ F (hint - lo) = false ∧ (hint + 1 ≤ ofs ∨ (ofs ≤ hint ∧ F (hint - ofs) = true))) ?step ?fn ⟨rfl, 0, 1, rfl, by omega, by omega, by omega, by simpa using zr⟩) ?post)
    case fn =>
      rintro c st' ⟨rfl, lo, ofs, rfl, a, b, d, f⟩
      exact ⟨rfl, lo, ofs, rfl, a, b, f, .inl (by omega)⟩
    case step =>
      rintro x c st' _ hx ⟨rfl, lo, ofs, rfl, a, b, d, f⟩
      dsimp only
      by_cases z : ofs ≥ hint + 1
      · rw [if_pos z]
        exact wpS_pure ⟨rfl, lo, ofs, rfl, a, b, f, .inl z⟩
      · rw [if_neg z]
        refine wpS_bind (hb _ (by omega) _ ?_)
        dsimp only
        cases zz : F (hint - ofs) with
        | true =>
          rw [if_pos rfl]
          exact wpS_pure ⟨rfl, lo, ofs, rfl, a, b, f, .inr ⟨by omega, zz⟩⟩
        | false =>
          rw [if_neg (by decide)]
          exact wpS_pure ⟨rfl, ofs, 2 * ofs + 1, rfl, by omega, by omega, by omega, zz⟩
    case post =>
      rintro c st' ⟨rfl, lo, ofs, rfl, a, b, f, k⟩
      dsimp only
      refine fin (hint + 1 - min ofs (hint + 1)) (hint - lo) (by omega) (by omega) (fun i hi => ?_) fun i h1 h2 => mo' (hint - lo) i (by omega) h2 f
      rcases k with k | k
      · omega
      · exact mo i (hint - ofs) (by omega) (by omega) k.2
variable (hc : HC prog w A E s κ it n r)
def Bd (n : Nat) (l : List Nat) : Prop := ∀ i, i < l.length → e l i < n
def Up (r : Nat → Nat) (l : List Nat) (base m : Nat) : Prop := ∀ i j, i ≤ j → j < m → r (e l (base + i)) ≤ r (e l (base + j))
include hc
theorem w_galR {x : Nat} {l : List Nat} {base m hint : Nat} {st : SortSt} {Q : Option Nat → SortSt → Prop} (hk : kindOf st = κ) (hx : x < n) (hl : Bd n l) (hz : base + m ≤ l.length) (hu : Up r l base m) (hh : hint < m)
    (q : ∀ k, k ≤ m → (∀ i, i < k → r (e l (base + i)) ≤ r x) → (∀ i, k ≤ i → i < m → r x < r (e l (base + i))) → Q (some k) st) :
    wpS (model prog w) A E s (gallop' false (it x) (ar it l) base m hint) Q st := by
  refine w_gallop (κ := κ) (fun i => !decide (r x < r (e l (base + i)))) hk (fun i hi Q q => ?_) (fun i j hij hj h => ?_) hh fun k k1 k2 k3 => q k k1 (fun i hi => ?_) fun i h1 h2 => ?_
  · unfold beyond
    rw [w_elem (by omega)]
    refine wpS_bind (wpS_pure ?_)
    rw [if_neg (by decide)]
    refine wpS_bind (hc _ _ hx (hl _ (by omega)) st _ hk (wpS_pure ?_))
    exact q
  · have := hu i j hij hj
    simp only [Bool.not_eq_true', decide_eq_false_iff_not] at h ⊢
    omega
  · have := k2 i hi
    simp only [Bool.not_eq_true', decide_eq_false_iff_not] at this
    omega
  · have := k3 i h1 h2
    simpa using this
theorem w_galL {x : Nat} {l : List Nat} {base m hint : Nat} {st : SortSt} {Q : Option Nat → SortSt → Prop} (hk : kindOf st = κ) (hx : x < n) (hl : Bd n l) (hz : base + m ≤ l.length) (hu : Up r l base m) (hh : hint < m)
    (q : ∀ k, k ≤ m → (∀ i, i < k → r (e l (base + i)) < r x) → (∀ i, k ≤ i → i < m → r x ≤ r (e l (base + i))) → Q (some k) st) :
    wpS (model prog w) A E s (gallop' true (it x) (ar it l) base m hint) Q st := by
  refine w_gallop (κ := κ) (fun i => decide (r (e l (base + i)) < r x)) hk (fun i hi Q q => ?_) (fun i j hij hj h => ?_) hh fun k k1 k2 k3 => q k k1 (fun i hi => ?_) fun i h1 h2 => ?_
  · unfold beyond
    rw [w_elem (by omega)]
    refine wpS_bind (wpS_pure ?_)
    rw [if_pos rfl]
    exact hc _ _ (hl _ (by omega)) hx st _ hk q
  · have := hu i j hij hj
    simp only [decide_eq_true_eq] at h ⊢
    omega
  · simpa using k2 i hi
  · simpa using k3 i h1 h2
end
end Tim
set_option maxHeartbeats 4000000
namespace Tim
open PySem PySem.W PyProof.Rows Srt
def So (r : Nat → Nat) (l : List Nat) : Prop := l.Pairwise fun x y => r x ≤ r y
theorem e_lt {l : List Nat} {i : Nat} (h : i < l.length) : e l i = l[i] := by simp [e, h]
theorem So.ix {r : Nat → Nat} {l : List Nat} (h : So r l) {i j : Nat} (hij : i ≤ j) (hj : j < l.length) : r (e l i) ≤ r (e l j) := by
  rcases Nat.lt_or_eq_of_le hij with h1 | h1
  · rw [e_lt (by omega), e_lt hj]; exact List.pairwise_iff_getElem.mp h i j (by omega) hj h1
  · subst h1; exact Nat.le_refl _
theorem So.up {r : Nat → Nat} {l : List Nat} (h : So r l) {base m : Nat} (hz : base + m ≤ l.length) : Up r l base m := fun i j hij hj => h.ix (by omega) (by omega)
theorem So.drop {r : Nat → Nat} {l : List Nat} (h : So r l) (i : Nat) : So r (l.drop i) := List.Pairwise.sublist (List.drop_sublist _ _) h
theorem So.take {r : Nat → Nat} {l : List Nat} (h : So r l) (i : Nat) : So r (l.take i) := List.Pairwise.sublist (List.take_sublist _ _) h
theorem so_app {r : Nat → Nat} {l m : List Nat} : So r (l ++ m) ↔ So r l ∧ So r m ∧ ∀ x ∈ l, ∀ y ∈ m, r x ≤ r y := List.pairwise_append
theorem mem_drop {l : List Nat} {i y : Nat} (h : y ∈ l.drop i) : ∃ j, i ≤ j ∧ j < l.length ∧ y = e l j := by
  obtain ⟨k, hk, rfl⟩ := List.mem_iff_getElem.mp h
  rw [List.length_drop] at hk
  refine ⟨i + k, by omega, by omega, ?_⟩
  rw [e_lt (by omega), List.getElem_drop]
theorem mem_take {l : List Nat} {i y : Nat} (h : y ∈ l.take i) : ∃ j, j < i ∧ j < l.length ∧ y = e l j := by
  obtain ⟨k, hk, rfl⟩ := List.mem_iff_getElem.mp h
  rw [List.length_take] at hk
  refine ⟨k, by omega, by omega, ?_⟩
  rw [e_lt (by omega), List.getElem_take]
section
variable {it : Nat → Keyed}
theorem ar_push (l : List Nat) (x : Nat) : (ar it l).push (it x) = ar it (l ++ [x]) := by simp [ar]
theorem ar_app (l m : List Nat) : ar it l ++ ar it m = ar it (l ++ m) := by simp [ar]
theorem ar_size (l : List Nat) : (ar it l).size = l.length := by simp [ar]
theorem ar_one (x : Nat) : (#[it x] : Array Keyed) = ar it [x] := rfl
theorem ar_rev (l : List Nat) : (ar it l).reverse = ar it l.reverse := by simp [ar]
theorem ar_ext (l : List Nat) (i j : Nat) : (ar it l).extract i j = ar it ((l.drop i).take (j - i)) := by
  simp [ar, List.extract_eq_take_drop, List.map_take, List.map_drop]
theorem ar_ext_end (l : List Nat) (i : Nat) : (ar it l).extract i (ar it l).size = ar it (l.drop i) := by
  rw [ar_ext, ar_size, List.take_of_length_le (by rw [List.length_drop]; exact Nat.le_refl _)]
end
structure LoI (r : Nat → Nat) (pa pb O : List Nat) (ia ib : Nat) : Prop where
  perm : (O ++ (pa.drop ia ++ pb.drop ib)).Perm (pa ++ pb)
  srt : So r O
  la : ∀ x ∈ O, ∀ j, ia ≤ j → j < pa.length → r x ≤ r (e pa j)
  lb : ∀ x ∈ O, ∀ j, ib ≤ j → j < pb.length → r x ≤ r (e pb j)
section
variable {r : Nat → Nat} {pa pb O : List Nat} {ia ib : Nat}
theorem take_drop_mem {l : List Nat} {i k y : Nat} (h : y ∈ (l.drop i).take k) : ∃ j, j < k ∧ i + j < l.length ∧ y = e l (i + j) := by
  obtain ⟨j, j1, j2, rfl⟩ := mem_take h
  rw [List.length_drop] at j2
  refine ⟨j, j1, by omega, ?_⟩
  rw [e_lt (by rw [List.length_drop]; omega), e_lt (by omega), List.getElem_drop]
theorem LoI.takeA (h : LoI r pa pb O ia ib) (ha : So r pa) (k : Nat) (hk : ∀ i, i < k → ∀ j, ib ≤ j → j < pb.length → r (e pa (ia + i)) ≤ r (e pb j)) : LoI r pa pb (O ++ (pa.drop ia).take k) (ia + k) ib := by
  refine ⟨?_, so_app.mpr ⟨h.srt, (ha.drop _).take _, fun x hx y hy => ?_⟩, fun x hx j j1 j2 => ?_, fun x hx j j1 j2 => ?_⟩
  · have e1 : O ++ (pa.drop ia).take k ++ (pa.drop (ia + k) ++ pb.drop ib) = O ++ (pa.drop ia ++ pb.drop ib) := by
      have : (pa.drop ia).take k ++ pa.drop (ia + k) = pa.drop ia := by
        rw [← List.drop_drop]; exact List.take_append_drop k (pa.drop ia)
      rw [List.append_assoc, ← List.append_assoc (List.take k _), this]
    rw [e1]; exact h.perm
  · obtain ⟨j, j1, j2, rfl⟩ := take_drop_mem hy
    exact h.la x hx _ (by omega) j2
  · rcases List.mem_append.mp hx with hx | hx
    · exact h.la x hx j (by omega) j2
    · obtain ⟨i, i1, i2, rfl⟩ := take_drop_mem hx
      exact ha.ix (by omega) j2
  · rcases List.mem_append.mp hx with hx | hx
    · exact h.lb x hx j j1 j2
    · obtain ⟨i, i1, i2, rfl⟩ := take_drop_mem hx
      exact hk i i1 j j1 j2
theorem LoI.takeB (h : LoI r pa pb O ia ib) (hb : So r pb) (k : Nat) (hk : ∀ i, i < k → ∀ j, ia ≤ j → j < pa.length → r (e pb (ib + i)) ≤ r (e pa j)) : LoI r pa pb (O ++ (pb.drop ib).take k) ia (ib + k) := by
  refine ⟨?_, so_app.mpr ⟨h.srt, (hb.drop _).take _, fun x hx y hy => ?_⟩, fun x hx j j1 j2 => ?_, fun x hx j j1 j2 => ?_⟩
  · have e1 : (O ++ (pb.drop ib).take k ++ (pa.drop ia ++ pb.drop (ib + k))).Perm (O ++ (pa.drop ia ++ pb.drop ib)) := by
      have : (pb.drop ib).take k ++ pb.drop (ib + k) = pb.drop ib := by
        rw [← List.drop_drop]; exact List.take_append_drop k (pb.drop ib)
      have e2 : (O ++ ((pb.drop ib).take k ++ (pa.drop ia ++ pb.drop (ib + k)))).Perm (O ++ (pa.drop ia ++ ((pb.drop ib).take k ++ pb.drop (ib + k)))) := by
        refine List.Perm.append_left _ ?_
        rw [← List.append_assoc, ← List.append_assoc]
        exact List.Perm.append_right _ List.perm_append_comm
      rw [this] at e2
      rw [List.append_assoc]
      exact e2
    exact e1.trans h.perm
  · obtain ⟨j, j1, j2, rfl⟩ := take_drop_mem hy
    exact h.lb x hx _ (by omega) j2
  · rcases List.mem_append.mp hx with hx | hx
    · exact h.la x hx j j1 j2
    · obtain ⟨i, i1, i2, rfl⟩ := take_drop_mem hx
      exact hk i i1 j j1 j2
  · rcases List.mem_append.mp hx with hx | hx
    · exact h.lb x hx j (by omega) j2
    · obtain ⟨i, i1, i2, rfl⟩ := take_drop_mem hx
      exact hb.ix (by omega) j2
theorem take_one {l : List Nat} {i : Nat} (h : i < l.length) : (l.drop i).take 1 = [e l i] := by
  rw [List.drop_eq_getElem_cons h, e_lt h]; rfl
theorem LoI.stepA (h : LoI r pa pb O ia ib) (ha : So r pa) (hl : ia < pa.length) (hk : ∀ j, ib ≤ j → j < pb.length → r (e pa ia) ≤ r (e pb j)) : LoI r pa pb (O ++ [e pa ia]) (ia + 1) ib := by
  have := h.takeA ha 1 fun i hi j j1 j2 => by
    have : i = 0 := by omega
    subst this; exact hk j j1 j2
  rwa [take_one hl] at this
theorem LoI.stepB (h : LoI r pa pb O ia ib) (hb : So r pb) (hl : ib < pb.length) (hk : ∀ j, ia ≤ j → j < pa.length → r (e pb ib) ≤ r (e pa j)) : LoI r pa pb (O ++ [e pb ib]) ia (ib + 1) := by
  have := h.takeB hb 1 fun i hi j j1 j2 => by
    have : i = 0 := by omega
    subst this; exact hk j j1 j2
  rwa [take_one hl] at this
def Res (it : Nat → Keyed) (r : Nat → Nat) (pa pb : List Nat) (R : Array Keyed) : Prop := ∃ L, R = ar it L ∧ L.Perm (pa ++ pb) ∧ So r L
theorem LoI.done {it : Nat → Keyed} (h : LoI r pa pb O ia ib) (ha : So r pa) (hi : pb.length ≤ ib) : Res it r pa pb (doneL (ar it pa) (ar it pb) (ar it O) ia ib) := by
  refine ⟨O ++ (pa.drop ia ++ pb.drop ib), ?_, h.perm, ?_⟩
  · unfold doneL
    rw [ar_ext_end, ar_ext_end, ar_app, ar_app, List.append_assoc]
  · rw [List.drop_eq_nil_of_le hi, List.append_nil]
    refine so_app.mpr ⟨h.srt, ha.drop _, fun x hx y hy => ?_⟩
    obtain ⟨j, j1, j2, rfl⟩ := mem_drop hy
    exact h.la x hx j j1 j2
theorem LoI.last {it : Nat → Keyed} (h : LoI r pa pb O ia ib) (ha : So r pa) (hb : So r pb) (hi : ia + 1 = pa.length) (hl : ∀ j, j < pb.length → r (e pb j) < r (e pa (pa.length - 1))) : Res it r pa pb (lastL (ar it pa) (ar it pb) (ar it O) ia ib) := by
  refine ⟨O ++ (pb.drop ib ++ pa.drop ia), ?_, (List.Perm.append_left _ List.perm_append_comm).trans h.perm, ?_⟩
  · unfold lastL
    rw [ar_ext_end, ar_ext_end, ar_app, ar_app, List.append_assoc]
  · refine so_app.mpr ⟨h.srt, so_app.mpr ⟨hb.drop _, ha.drop _, fun x hx y hy => ?_⟩, fun x hx y hy => ?_⟩
    · obtain ⟨i, i1, i2, rfl⟩ := mem_drop hx
      obtain ⟨j, j1, j2, rfl⟩ := mem_drop hy
      have : j = pa.length - 1 := by omega
      subst this; exact Nat.le_of_lt (hl i i2)
    · rcases List.mem_append.mp hy with hy | hy
      · obtain ⟨j, j1, j2, rfl⟩ := mem_drop hy
        exact h.lb x hx j j1 j2
      · obtain ⟨j, j1, j2, rfl⟩ := mem_drop hy
        exact h.la x hx j j1 j2
end
section
variable {prog : Program} {w : World} {A : Around} {E : Value → Shared → Prop} {s : Shared} {κ : SortKind} {it : Nat → Keyed} {n : Nat} {r : Nat → Nat} {p : Array Nat} {pend : Array (Nat × Nat × Nat)} {pa pb : List Nat}
theorem w_setG {st : SortSt} {m : Nat} {Q : Unit → SortSt → Prop} (h : SI κ it n st p pend) (q : ∀ st', SI κ it n st' p pend → Q () st') : wpS (model prog w) A E s (setGallop' m) Q st := by
  unfold setGallop'
  exact wpS_modify (q _ ⟨h.kind, h.failed, h.arr, h.pend, h.pm⟩)
def LI (κ : SortKind) (it : Nat → Keyed) (n : Nat) (r : Nat → Nat) (p : Array Nat) (pend : Array (Nat × Nat × Nat)) (pa pb : List Nat) (P : Nat) (st : SortSt) (out : Array Keyed) (ia ib : Nat) : Prop :=
  SI κ it n st p pend ∧ (∃ O, out = ar it O ∧ LoI r pa pb O ia ib) ∧ ia + 1 < pa.length ∧ ib < pb.length ∧ P ≤ ia + ib
def End (κ : SortKind) (it : Nat → Keyed) (n : Nat) (r : Nat → Nat) (p : Array Nat) (pend : Array (Nat × Nat × Nat)) (pa pb : List Nat) (st : SortSt) (R : Option (Array Keyed)) : Prop :=
  SI κ it n st p pend ∧ ∃ R', R = some R' ∧ Res it r pa pb R'
variable (hc : HC prog w A E s κ it n r) (ha : So r pa) (hb : So r pb) (da : Bd n pa) (db : Bd n pb) (hl : ∀ j, j < pb.length → r (e pb j) < r (e pa (pa.length - 1)))
include hc ha hb da db hl
theorem w_loA {st : SortSt} {P mg : Nat} {c : S1} (h : LI κ it n r p pend pa pb P st c.snd.fst c.snd.snd.fst c.snd.snd.snd.fst) :
    wpS (model prog w) A E s (loA (ar it pa) (ar it pb) mg c) (fun x st' => match x with
      | .done c => End κ it n r p pend pa pb st' c.1 ∨ (c.1 = none ∧ LI κ it n r p pend pa pb (P + 1) st' c.snd.fst c.snd.snd.fst c.snd.snd.snd.fst)
      | .yield c => c.1 = none ∧ LI κ it n r p pend pa pb (P + 1) st' c.snd.fst c.snd.snd.fst c.snd.snd.snd.fst) st := by
  obtain ⟨ret, out, ia, ib, ac, bc⟩ := c
  obtain ⟨hS, ⟨O, eO, L⟩, h1, h2, h3⟩ := h
  dsimp only at eO L h1 h2 h3 hS ⊢
  subst eO
  unfold loA
  dsimp only
  rw [w_elem h2, w_elem (by omega)]
  refine wpS_bind (wpS_pure (wpS_bind (wpS_pure (wpS_bind (hc _ _ (db _ h2) (da _ (by omega)) st _ hS.kind ?_)))))
  dsimp only
  by_cases z : r (e pb ib) < r (e pa ia)
  · rw [if_pos (by simpa using z)]
    refine wpS_bind (wpS_pure ?_)
    rw [ar_push, ar_size]
    have L' := L.stepB hb h2 fun j j1 j2 => Nat.le_trans (Nat.le_of_lt z) (ha.ix j1 j2)
    by_cases z1 : ib + 1 = pb.length
    · rw [if_pos (by simpa using z1)]
      exact wpS_pure (.inl ⟨hS, _, rfl, L'.done ha (by omega)⟩)
    · rw [if_neg (by simpa using z1)]
      split
      · exact wpS_pure (.inr ⟨rfl, hS, ⟨_, rfl, L'⟩, by omega, by dsimp only; omega, by dsimp only; omega⟩)
      · exact wpS_pure ⟨rfl, hS, ⟨_, rfl, L'⟩, by omega, by dsimp only; omega, by dsimp only; omega⟩
  · rw [if_neg (by simpa using z)]
    refine wpS_bind (wpS_pure ?_)
    rw [ar_push, ar_size]
    have L' := L.stepA ha (by omega) fun j j1 j2 => Nat.le_trans (Nat.not_lt.mp z) (hb.ix j1 j2)
    by_cases z1 : ia + 1 + 1 = pa.length
    · rw [if_pos (by simpa using z1)]
      exact wpS_pure (.inl ⟨hS, _, rfl, L'.last ha hb z1 hl⟩)
    · rw [if_neg (by simpa using z1)]
      split
      · exact wpS_pure (.inr ⟨rfl, hS, ⟨_, rfl, L'⟩, by dsimp only; omega, by dsimp only; omega, by dsimp only; omega⟩)
      · exact wpS_pure ⟨rfl, hS, ⟨_, rfl, L'⟩, by dsimp only; omega, by dsimp only; omega, by dsimp only; omega⟩
def G2 (κ : SortKind) (it : Nat → Keyed) (n : Nat) (r : Nat → Nat) (p : Array Nat) (pend : Array (Nat × Nat × Nat)) (pa pb : List Nat) (P : Nat) (x : ForInStep S2) (st' : SortSt) : Prop := match x with
  | .done c => End κ it n r p pend pa pb st' c.1 ∨ (c.1 = none ∧ LI κ it n r p pend pa pb P st' c.snd.fst c.snd.snd.fst c.snd.snd.snd.fst)
  | .yield c => c.1 = none ∧ LI κ it n r p pend pa pb P st' c.snd.fst c.snd.snd.fst c.snd.snd.snd.fst
theorem w_lo3 {st : SortSt} {P mg k k1 ia ib : Nat} {O : List Nat} (hS : SI κ it n st p pend) (L : LoI r pa pb O ia ib) (h1 : ia + 1 < pa.length) (h2 : ib < pb.length) (h3 : P ≤ ia + ib) (hk : ∀ j, ib ≤ j → j < pb.length → r (e pa ia) ≤ r (e pb j)) :
    wpS (model prog w) A E s (lo3 (ar it pa) (ar it pb) (ar it O) ia ib mg k k1) (G2 κ it n r p pend pa pb P) st := by
  unfold lo3
  rw [w_elem (by omega)]
  refine wpS_bind (wpS_pure ?_)
  rw [ar_push, ar_size]
  have L' := L.stepA ha (by omega) hk
  by_cases z1 : ia + 1 + 1 = pa.length
  · rw [if_pos (by simpa using z1)]
    exact wpS_pure (.inl ⟨hS, _, rfl, L'.last ha hb z1 hl⟩)
  · rw [if_neg (by simpa using z1)]
    split
    · exact wpS_pure (.inr ⟨rfl, hS, ⟨_, rfl, L'⟩, by dsimp only; omega, by dsimp only; omega, by dsimp only; omega⟩)
    · exact wpS_pure ⟨rfl, hS, ⟨_, rfl, L'⟩, by dsimp only; omega, by dsimp only; omega, by dsimp only; omega⟩
theorem w_lo2 {st : SortSt} {P mg k bc ia ib : Nat} {O : List Nat} (hS : SI κ it n st p pend) (L : LoI r pa pb O ia ib) (h1 : ia + 1 < pa.length) (h2 : ib < pb.length) (h3 : P ≤ ia + ib) (hk : ∀ j, ia ≤ j → j < pa.length → r (e pb ib) ≤ r (e pa j)) :
    wpS (model prog w) A E s (lo2 (ar it pa) (ar it pb) (ar it O) ia ib mg k bc) (G2 κ it n r p pend pa pb P) st := by
  unfold lo2
  rw [w_elem h2]
  refine wpS_bind (wpS_pure ?_)
  rw [ar_push, ar_size]
  have L' := L.stepB hb h2 hk
  by_cases z1 : ib + 1 = pb.length
  · rw [if_pos (by simpa using z1)]
    exact wpS_pure (.inl ⟨hS, _, rfl, L'.done ha (by omega)⟩)
  · rw [if_neg (by simpa using z1), w_elem (by omega)]
    refine wpS_bind (wpS_pure (wpS_bind (w_galL hc hS.kind (da _ (by omega)) db (by omega) (hb.up (by omega)) (by omega) fun k1 a1 a2 a3 => ?_)))
    dsimp only
    by_cases z2 : k1 > 0
    · rw [if_pos z2, ar_ext, ar_app]
      have L2 := L'.takeB hb (ib + 1 + k1 - (ib + 1)) fun i hi j j1 j2 => Nat.le_trans (Nat.le_of_lt (a2 i (by omega))) (ha.ix j1 j2)
      rw [show ib + 1 + (ib + 1 + k1 - (ib + 1)) = ib + 1 + k1 by omega] at L2
      by_cases z3 : ib + 1 + k1 = pb.length
      · rw [if_pos (by simpa using z3)]
        exact wpS_pure (.inl ⟨hS, _, rfl, L2.done ha (by omega)⟩)
      · rw [if_neg (by simpa using z3)]
        refine w_lo3 hc ha hb da db hl hS L2 h1 (by omega) (by omega) fun j j1 j2 => ?_
        have := a3 (j - (ib + 1)) (by omega) (by omega)
        rwa [show ib + 1 + (j - (ib + 1)) = j by omega] at this
    · rw [if_neg z2]
      refine w_lo3 hc ha hb da db hl hS L' h1 (by omega) (by omega) fun j j1 j2 => ?_
      have := a3 (j - (ib + 1)) (by omega) (by omega)
      rwa [show ib + 1 + (j - (ib + 1)) = j by omega] at this
theorem w_lo1 {st : SortSt} {P mg ac bc ia ib : Nat} {O : List Nat} (hS : SI κ it n st p pend) (L : LoI r pa pb O ia ib) (h1 : ia + 1 < pa.length) (h2 : ib < pb.length) (h3 : P ≤ ia + ib) :
    wpS (model prog w) A E s (lo1 (ar it pa) (ar it pb) (ar it O) ia ib mg ac bc) (G2 κ it n r p pend pa pb P) st := by
  unfold lo1
  refine wpS_bind (w_setG hS fun st' hS' => ?_)
  rw [w_elem h2]
  rw [ar_size]
  refine wpS_bind (wpS_pure (wpS_bind (w_galR hc hS'.kind (db _ h2) da (by omega) (ha.up (by omega)) (by omega) fun k a1 a2 a3 => ?_)))
  dsimp only
  have hlt : k < pa.length - ia := by
    rcases Nat.lt_or_eq_of_le a1 with z | z
    · exact z
    · have a := a2 (pa.length - ia - 1) (by omega)
      have b := hl ib h2
      rw [show ia + (pa.length - ia - 1) = pa.length - 1 by omega] at a
      omega
  have hk : ∀ j, ia + k ≤ j → j < pa.length → r (e pb ib) ≤ r (e pa j) := fun j j1 j2 => by
    have := a3 (j - ia) (by omega) (by omega)
    rw [show ia + (j - ia) = j by omega] at this
    exact Nat.le_of_lt this
  by_cases z2 : k > 0
  · rw [if_pos z2, ar_ext, ar_app]
    have L2 := L.takeA ha (ia + k - ia) fun i hi j j1 j2 => Nat.le_trans (a2 i (by omega)) (hb.ix j1 j2)
    rw [show ia + (ia + k - ia) = ia + k by omega] at L2
    by_cases z3 : ia + k + 1 = pa.length
    · rw [if_pos (by simpa using z3)]
      exact wpS_pure (.inl ⟨hS', _, rfl, L2.last ha hb z3 hl⟩)
    · rw [if_neg (by simpa using z3), if_neg (by simp; omega)]
      exact w_lo2 hc ha hb da db hl hS' L2 (by omega) h2 (by omega) hk
  · rw [if_neg z2]
    have : k = 0 := by omega
    subst this
    exact w_lo2 hc ha hb da db hl hS' L h1 h2 h3 hk
theorem w_loB {st : SortSt} {P : Nat} {c : S2} (h : LI κ it n r p pend pa pb P st c.snd.fst c.snd.snd.fst c.snd.snd.snd.fst) :
    wpS (model prog w) A E s (loB (ar it pa) (ar it pb) c) (G2 κ it n r p pend pa pb P) st := by
  obtain ⟨ret, out, ia, ib, mg, ac, bc⟩ := c
  obtain ⟨hS, ⟨O, eO, L⟩, h1, h2, h3⟩ := h
  dsimp only at eO L h1 h2 h3 hS ⊢
  subst eO
  unfold loB
  dsimp only
  split
  · exact w_lo1 hc ha hb da db hl hS L h1 h2 h3
  · exact w_lo1 hc ha hb da db hl hS L h1 h2 h3
theorem w_loO {st : SortSt} {P : Nat} {c : S0} (h : LI κ it n r p pend pa pb P st c.snd.fst c.snd.snd.fst c.snd.snd.snd.fst) :
    wpS (model prog w) A E s (loO (ar it pa) (ar it pb) c) (fun x st' => match x with
      | .done c => End κ it n r p pend pa pb st' c.1
      | .yield c => c.1 = none ∧ LI κ it n r p pend pa pb (P + 1) st' c.snd.fst c.snd.snd.fst c.snd.snd.snd.fst) st := by
  unfold loO
  have h1 := h.2.2.1
  refine wpS_bind (wpS_mono (wpS_forRange (I := fun x c st' => c.1 = none ∧ LI κ it n r p pend pa pb (P + x) st' c.snd.fst c.snd.snd.fst c.snd.snd.snd.fst)
    (Q := fun c st' => End κ it n r p pend pa pb st' c.1 ∨ (c.1 = none ∧ LI κ it n r p pend pa pb (P + 1) st' c.snd.fst c.snd.snd.fst c.snd.snd.snd.fst)) ?s1 ?e1 ⟨rfl, h⟩) ?p1)
  case e1 =>
    rintro c st' ⟨c1, k1, k2, k3, k4, k5⟩
    rw [ar_size, ar_size] at k5
    exact .inr ⟨c1, k1, k2, k3, k4, by omega⟩
  case s1 =>
    rintro x c st' _ _ ⟨c1, hL⟩
    refine wpS_mono (w_loA hc ha hb da db hl hL) fun y st'' hy => ?_
    cases y with
    | yield c => exact hy
    | done c =>
      rcases hy with hy | ⟨c2, k1, k2, k3, k4, k5⟩
      · exact .inl hy
      · exact .inr ⟨c2, k1, k2, k3, k4, by omega⟩
  case p1 =>
    rintro ⟨ret, c⟩ st' (⟨hS, R, rfl, hR⟩ | ⟨rfl, hL⟩)
    · exact wpS_pure ⟨hS, R, rfl, hR⟩
    · dsimp only
      refine wpS_bind (wpS_lift (wpAny_rule ⟨rfl, ?_⟩))
      refine wpS_bind (wpS_mono (wpS_forRange (I := fun x c st' => c.1 = none ∧ LI κ it n r p pend pa pb (P + 1) st' c.snd.fst c.snd.snd.fst c.snd.snd.snd.fst)
        (Q := fun c st' => End κ it n r p pend pa pb st' c.1 ∨ (c.1 = none ∧ LI κ it n r p pend pa pb (P + 1) st' c.snd.fst c.snd.snd.fst c.snd.snd.snd.fst)) ?s2 (fun c st' h => .inr h) ⟨rfl, hL⟩) ?p2)
      case s2 =>
        rintro x c st' _ _ ⟨c1, hL⟩
        refine wpS_mono (w_loB hc ha hb da db hl hL) fun y st'' hy => ?_
        cases y with
        | yield c => exact hy
        | done c => exact hy
      case p2 =>
        rintro ⟨ret, c⟩ st' (⟨hS, R, rfl, hR⟩ | ⟨rfl, hL⟩)
        · exact wpS_pure ⟨hS, R, rfl, hR⟩
        · dsimp only
          refine wpS_bind (w_setG hL.1 fun st'' h'' => wpS_pure ⟨rfl, h'', hL.2⟩)
theorem w_mergeLo {st : SortSt} {Q : Array Keyed → SortSt → Prop} (hS : SI κ it n st p pend) (na : 1 ≤ pa.length) (nb : 1 ≤ pb.length) (h0 : ∀ j, j < pa.length → r (e pb 0) ≤ r (e pa j))
    (q : ∀ R st', SI κ it n st' p pend → Res it r pa pb R → Q R st') : wpS (model prog w) A E s (mergeLo' (ar it pa) (ar it pb)) Q st := by
  rw [mergeLo'_eq]
  refine wpS_bind (wpS_lift (wpAny_rule ⟨rfl, ?_⟩))
  rw [w_elem (by omega)]
  refine wpS_bind (wpS_pure ?_)
  have L0 : LoI r pa pb [] 0 0 := ⟨List.Perm.refl _, List.Pairwise.nil, fun x hx => absurd hx List.not_mem_nil, fun x hx => absurd hx List.not_mem_nil⟩
  have L1 : LoI r pa pb [e pb 0] 0 1 := L0.stepB hb (by omega) fun j _ j2 => h0 j j2
  rw [ar_one, ar_size, ar_size]
  by_cases z1 : 1 = pb.length
  · rw [if_pos (by simpa using z1)]
    exact wpS_pure (q _ _ hS (L1.done ha (by omega)))
  · rw [if_neg (by simpa using z1)]
    by_cases z2 : 0 + 1 = pa.length
    · rw [if_pos (by simpa using z2)]
      exact wpS_pure (q _ _ hS (L1.last ha hb z2 hl))
    · rw [if_neg (by simpa using z2)]
      refine wpS_bind (wpS_get (wpS_bind (wpS_mono (wpS_forRange (I := fun x c st' => c.1 = none ∧ LI κ it n r p pend pa pb x st' c.snd.fst c.snd.snd.fst c.snd.snd.snd.fst)
        (Q := fun c st' => End κ it n r p pend pa pb st' c.1) ?sx ?ex ⟨rfl, hS, ⟨_, rfl, L1⟩, by dsimp only; omega, by dsimp only; omega, Nat.zero_le _⟩) ?px)))
      case sx =>
        rintro x c st' _ _ ⟨c1, hL⟩
        refine wpS_mono (w_loO hc ha hb da db hl hL) fun y st'' hy => ?_
        cases y with
        | yield c => exact hy
        | done c => exact hy
      case ex =>
        rintro c st' ⟨c1, k1, k2, k3, k4, k5⟩
        omega
      case px =>
        rintro ⟨ret, c⟩ st' ⟨hS', R, rfl, hR⟩
        exact wpS_pure (q R st' hS' hR)
end
end Tim
set_option maxHeartbeats 4000000
namespace Tim
open PySem PySem.W PyProof.Rows Srt
structure HiI (r : Nat → Nat) (pa pb S : List Nat) (na nb : Nat) : Prop where
  perm : (pa.take na ++ (pb.take nb ++ S)).Perm (pa ++ pb)
  srt : So r S
  la : ∀ x ∈ S, ∀ j, j < na → j < pa.length → r (e pa j) ≤ r x
  lb : ∀ x ∈ S, ∀ j, j < nb → j < pb.length → r (e pb j) ≤ r x
section
variable {r : Nat → Nat} {pa pb S : List Nat} {na nb : Nat}
theorem take_split {l : List Nat} {k m : Nat} (h : k ≤ m) : l.take k ++ (l.drop k).take (m - k) = l.take m := by
  have := List.take_append_drop k (l.take m)
  rw [List.take_take, Nat.min_eq_left h, List.drop_take] at this
  exact this
theorem HiI.dropA (h : HiI r pa pb S na nb) (ha : So r pa) (k : Nat) (hk : k ≤ na) (hn : na ≤ pa.length) (hq : ∀ i, k ≤ i → i < na → ∀ j, j < nb → j < pb.length → r (e pb j) ≤ r (e pa i)) : HiI r pa pb ((pa.drop k).take (na - k) ++ S) k nb := by
  refine ⟨?_, so_app.mpr ⟨(ha.drop _).take _, h.srt, fun x hx y hy => ?_⟩, fun x hx j j1 j2 => ?_, fun x hx j j1 j2 => ?_⟩
  · refine List.Perm.trans ?_ h.perm
    rw [← take_split hk, List.append_assoc]
    refine List.Perm.append_left _ ?_
    rw [← List.append_assoc, ← List.append_assoc]
    exact List.Perm.append_right _ List.perm_append_comm
  · obtain ⟨i, i1, i2, rfl⟩ := take_drop_mem hx
    exact h.la y hy _ (by omega) i2
  · rcases List.mem_append.mp hx with hx | hx
    · obtain ⟨i, i1, i2, rfl⟩ := take_drop_mem hx
      exact ha.ix (by omega) i2
    · exact h.la x hx j (by omega) j2
  · rcases List.mem_append.mp hx with hx | hx
    · obtain ⟨i, i1, i2, rfl⟩ := take_drop_mem hx
      exact hq _ (by omega) (by omega) j j1 j2
    · exact h.lb x hx j j1 j2
theorem HiI.dropB (h : HiI r pa pb S na nb) (hb : So r pb) (k : Nat) (hk : k ≤ nb) (hn : nb ≤ pb.length) (hq : ∀ i, k ≤ i → i < nb → ∀ j, j < na → j < pa.length → r (e pa j) ≤ r (e pb i)) : HiI r pa pb ((pb.drop k).take (nb - k) ++ S) na k := by
  refine ⟨?_, so_app.mpr ⟨(hb.drop _).take _, h.srt, fun x hx y hy => ?_⟩, fun x hx j j1 j2 => ?_, fun x hx j j1 j2 => ?_⟩
  · have := h.perm
    rw [← take_split hk, List.append_assoc] at this
    exact this
  · obtain ⟨i, i1, i2, rfl⟩ := take_drop_mem hx
    exact h.lb y hy _ (by omega) i2
  · rcases List.mem_append.mp hx with hx | hx
    · obtain ⟨i, i1, i2, rfl⟩ := take_drop_mem hx
      exact hq _ (by omega) (by omega) j j1 j2
    · exact h.la x hx j j1 j2
  · rcases List.mem_append.mp hx with hx | hx
    · obtain ⟨i, i1, i2, rfl⟩ := take_drop_mem hx
      exact hb.ix (by omega) i2
    · exact h.lb x hx j (by omega) j2
theorem HiI.stepA (h : HiI r pa pb S na nb) (ha : So r pa) (h1 : 1 ≤ na) (hn : na ≤ pa.length) (hq : ∀ j, j < nb → j < pb.length → r (e pb j) ≤ r (e pa (na - 1))) : HiI r pa pb (e pa (na - 1) :: S) (na - 1) nb := by
  have := h.dropA ha (na - 1) (by omega) hn fun i i1 i2 j j1 j2 => by
    have : i = na - 1 := by omega
    subst this; exact hq j j1 j2
  rw [show na - (na - 1) = 1 by omega, take_one (by omega)] at this
  exact this
theorem HiI.stepB (h : HiI r pa pb S na nb) (hb : So r pb) (h1 : 1 ≤ nb) (hn : nb ≤ pb.length) (hq : ∀ j, j < na → j < pa.length → r (e pa j) ≤ r (e pb (nb - 1))) : HiI r pa pb (e pb (nb - 1) :: S) na (nb - 1) := by
  have := h.dropB hb (nb - 1) (by omega) hn fun i i1 i2 j j1 j2 => by
    have : i = nb - 1 := by omega
    subst this; exact hq j j1 j2
  rw [show nb - (nb - 1) = 1 by omega, take_one (by omega)] at this
  exact this
theorem HiI.done {it : Nat → Keyed} (h : HiI r pa pb S na nb) (hb : So r pb) (h0 : na = 0) : Res it r pa pb (doneH (ar it pa) (ar it pb) (ar it S.reverse) na nb) := by
  refine ⟨pa.take na ++ (pb.take nb ++ S), ?_, h.perm, ?_⟩
  · unfold doneH
    rw [ar_ext, ar_ext, ar_rev, List.reverse_reverse, ar_app, ar_app, List.append_assoc]
    simp only [List.drop_zero, Nat.sub_zero]
  · subst h0
    rw [List.take_zero, List.nil_append]
    refine so_app.mpr ⟨hb.take _, h.srt, fun x hx y hy => ?_⟩
    obtain ⟨j, j1, j2, rfl⟩ := mem_take hx
    exact h.lb y hy j j1 j2
theorem HiI.first {it : Nat → Keyed} (h : HiI r pa pb S na nb) (ha : So r pa) (hb : So r pb) (h1 : nb = 1) (h0 : ∀ j, j < pa.length → r (e pb 0) < r (e pa j)) : Res it r pa pb (firstH (ar it pa) (ar it pb) (ar it S.reverse) na nb) := by
  refine ⟨pb.take nb ++ (pa.take na ++ S), ?_, ?_, ?_⟩
  · unfold firstH
    rw [ar_ext, ar_ext, ar_rev, List.reverse_reverse, ar_app, ar_app, List.append_assoc]
    simp only [List.drop_zero, Nat.sub_zero]
  · refine List.Perm.trans ?_ h.perm
    rw [← List.append_assoc, ← List.append_assoc]
    exact List.Perm.append_right _ List.perm_append_comm
  · refine so_app.mpr ⟨hb.take _, so_app.mpr ⟨ha.take _, h.srt, fun x hx y hy => ?_⟩, fun x hx y hy => ?_⟩
    · obtain ⟨j, j1, j2, rfl⟩ := mem_take hx
      exact h.la y hy j j1 j2
    · obtain ⟨i, i1, i2, rfl⟩ := mem_take hx
      rcases List.mem_append.mp hy with hy | hy
      · obtain ⟨j, j1, j2, rfl⟩ := mem_take hy
        have : i = 0 := by omega
        subst this; exact Nat.le_of_lt (h0 j j2)
      · exact h.lb y hy i i1 i2
end
theorem ar_pushr {it : Nat → Keyed} (S : List Nat) (x : Nat) : (ar it S.reverse).push (it x) = ar it (x :: S).reverse := by rw [ar_push, List.reverse_cons]
theorem ar_appr {it : Nat → Keyed} (S X : List Nat) : ar it S.reverse ++ (ar it X).reverse = ar it (X ++ S).reverse := by rw [ar_rev, ar_app, List.reverse_append]
section
variable {prog : Program} {w : World} {A : Around} {E : Value → Shared → Prop} {s : Shared} {κ : SortKind} {it : Nat → Keyed} {n : Nat} {r : Nat → Nat} {p : Array Nat} {pend : Array (Nat × Nat × Nat)} {pa pb : List Nat}
def HI (κ : SortKind) (it : Nat → Keyed) (n : Nat) (r : Nat → Nat) (p : Array Nat) (pend : Array (Nat × Nat × Nat)) (pa pb : List Nat) (P : Nat) (st : SortSt) (out : Array Keyed) (na nb : Nat) : Prop :=
  SI κ it n st p pend ∧ (∃ S, out = ar it S.reverse ∧ HiI r pa pb S na nb) ∧ (1 ≤ na ∧ na ≤ pa.length) ∧ (2 ≤ nb ∧ nb ≤ pb.length) ∧ P ≤ (pa.length - na) + (pb.length - nb)
variable (hc : HC prog w A E s κ it n r) (ha : So r pa) (hb : So r pb) (da : Bd n pa) (db : Bd n pb) (h0 : ∀ j, j < pa.length → r (e pb 0) < r (e pa j))
include hc ha hb da db h0
theorem w_hiA {st : SortSt} {P mg : Nat} {c : H1} (h : HI κ it n r p pend pa pb P st c.snd.snd.snd.fst c.snd.fst c.snd.snd.fst) :
    wpS (model prog w) A E s (hiA (ar it pa) (ar it pb) mg c) (fun x st' => match x with
      | .done c => End κ it n r p pend pa pb st' c.1 ∨ (c.1 = none ∧ HI κ it n r p pend pa pb (P + 1) st' c.snd.snd.snd.fst c.snd.fst c.snd.snd.fst)
      | .yield c => c.1 = none ∧ HI κ it n r p pend pa pb (P + 1) st' c.snd.snd.snd.fst c.snd.fst c.snd.snd.fst) st := by
  obtain ⟨ret, na, nb, out, ac, bc⟩ := c
  obtain ⟨hS, ⟨S, eS, L⟩, h1, h2, h3⟩ := h
  dsimp only at eS L h1 h2 h3 hS ⊢
  subst eS
  unfold hiA
  dsimp only
  rw [w_elem (by omega), w_elem (by omega)]
  refine wpS_bind (wpS_pure (wpS_bind (wpS_pure (wpS_bind (hc _ _ (db _ (by omega)) (da _ (by omega)) st _ hS.kind ?_)))))
  dsimp only
  by_cases z : r (e pb (nb - 1)) < r (e pa (na - 1))
  · rw [if_pos (by simpa using z)]
    refine wpS_bind (wpS_pure ?_)
    rw [ar_pushr]
    have L' := L.stepA ha h1.1 h1.2 fun j j1 j2 => Nat.le_trans (hb.ix (by omega) (by omega)) (Nat.le_of_lt z)
    by_cases z1 : na - 1 = 0
    · rw [if_pos (by simpa using z1)]
      exact wpS_pure (.inl ⟨hS, _, rfl, L'.done hb z1⟩)
    · rw [if_neg (by simpa using z1)]
      split
      · exact wpS_pure (.inr ⟨rfl, hS, ⟨_, rfl, L'⟩, by dsimp only; omega, by dsimp only; omega, by dsimp only; omega⟩)
      · exact wpS_pure ⟨rfl, hS, ⟨_, rfl, L'⟩, by dsimp only; omega, by dsimp only; omega, by dsimp only; omega⟩
  · rw [if_neg (by simpa using z)]
    refine wpS_bind (wpS_pure ?_)
    rw [ar_pushr]
    have L' := L.stepB hb (by omega) h2.2 fun j j1 j2 => Nat.le_trans (ha.ix (by omega) (by omega)) (Nat.not_lt.mp z)
    by_cases z1 : nb - 1 = 1
    · rw [if_pos (by simpa using z1)]
      exact wpS_pure (.inl ⟨hS, _, rfl, L'.first ha hb z1 h0⟩)
    · rw [if_neg (by simpa using z1)]
      split
      · exact wpS_pure (.inr ⟨rfl, hS, ⟨_, rfl, L'⟩, by dsimp only; omega, by dsimp only; omega, by dsimp only; omega⟩)
      · exact wpS_pure ⟨rfl, hS, ⟨_, rfl, L'⟩, by dsimp only; omega, by dsimp only; omega, by dsimp only; omega⟩
def K2 (κ : SortKind) (it : Nat → Keyed) (n : Nat) (r : Nat → Nat) (p : Array Nat) (pend : Array (Nat × Nat × Nat)) (pa pb : List Nat) (P : Nat) (x : ForInStep H2) (st' : SortSt) : Prop := match x with
  | .done c => End κ it n r p pend pa pb st' c.1 ∨ (c.1 = none ∧ HI κ it n r p pend pa pb P st' c.snd.snd.snd.fst c.snd.fst c.snd.snd.fst)
  | .yield c => c.1 = none ∧ HI κ it n r p pend pa pb P st' c.snd.snd.snd.fst c.snd.fst c.snd.snd.fst
theorem w_hi3 {st : SortSt} {P mg k k1 na nb : Nat} {S : List Nat} (hS : SI κ it n st p pend) (L : HiI r pa pb S na nb) (h1 : 1 ≤ na ∧ na ≤ pa.length) (h2 : 2 ≤ nb ∧ nb ≤ pb.length) (h3 : P ≤ (pa.length - na) + (pb.length - nb)) (hk : ∀ j, j < nb → j < pb.length → r (e pb j) ≤ r (e pa (na - 1))) :
    wpS (model prog w) A E s (hi3 (ar it pa) (ar it pb) (ar it S.reverse) na nb mg k k1) (K2 κ it n r p pend pa pb P) st := by
  unfold hi3
  rw [w_elem (by omega)]
  refine wpS_bind (wpS_pure ?_)
  rw [ar_pushr]
  have L' := L.stepA ha h1.1 h1.2 hk
  by_cases z1 : na - 1 = 0
  · rw [if_pos (by simpa using z1)]
    exact wpS_pure (.inl ⟨hS, _, rfl, L'.done hb z1⟩)
  · rw [if_neg (by simpa using z1)]
    split
    · exact wpS_pure (.inr ⟨rfl, hS, ⟨_, rfl, L'⟩, by dsimp only; omega, by dsimp only; omega, by dsimp only; omega⟩)
    · exact wpS_pure ⟨rfl, hS, ⟨_, rfl, L'⟩, by dsimp only; omega, by dsimp only; omega, by dsimp only; omega⟩
theorem w_hi2 {st : SortSt} {P mg k bc na nb : Nat} {S : List Nat} (hS : SI κ it n st p pend) (L : HiI r pa pb S na nb) (h1 : 1 ≤ na ∧ na ≤ pa.length) (h2 : 2 ≤ nb ∧ nb ≤ pb.length) (h3 : P ≤ (pa.length - na) + (pb.length - nb)) (hk : ∀ j, j < na → j < pa.length → r (e pa j) ≤ r (e pb (nb - 1))) :
    wpS (model prog w) A E s (hi2 (ar it pa) (ar it pb) (ar it S.reverse) na nb mg k bc) (K2 κ it n r p pend pa pb P) st := by
  unfold hi2
  rw [w_elem (by omega)]
  refine wpS_bind (wpS_pure ?_)
  rw [ar_pushr]
  have L' := L.stepB hb (by omega) h2.2 hk
  by_cases z1 : nb - 1 = 1
  · rw [if_pos (by simpa using z1)]
    exact wpS_pure (.inl ⟨hS, _, rfl, L'.first ha hb z1 h0⟩)
  · rw [if_neg (by simpa using z1), w_elem (by omega)]
    refine wpS_bind (wpS_pure (wpS_bind (w_galL hc hS.kind (da _ (by omega)) db (by omega) (hb.up (by omega)) (by omega) fun at1 a1 a2 a3 => ?_)))
    simp only [Nat.zero_add] at a2 a3
    dsimp only
    have pos : 1 ≤ at1 := by
      rcases Nat.eq_zero_or_pos at1 with z | z
      · have a := a3 0 (by omega) (by omega)
        have b := h0 (na - 1) (by omega)
        omega
      · exact z
    by_cases z2 : nb - 1 - at1 > 0
    · rw [if_pos z2, ar_ext, ar_appr]
      have L2 := L'.dropB hb at1 a1 (by omega) fun i i1 i2 j j1 j2 => Nat.le_trans (ha.ix (by omega) (by omega)) (a3 i i1 i2)
      by_cases z3 : at1 = 1
      · rw [if_pos (by simpa using z3)]
        exact wpS_pure (.inl ⟨hS, _, rfl, L2.first ha hb z3 h0⟩)
      · rw [if_neg (by simpa using z3), if_neg (by simp; omega)]
        exact w_hi3 hc ha hb da db h0 hS L2 h1 (by omega) (by omega) fun j j1 j2 => Nat.le_of_lt (a2 j j1)
    · rw [if_neg z2]
      exact w_hi3 hc ha hb da db h0 hS L' h1 (by omega) (by omega) fun j j1 j2 => Nat.le_of_lt (a2 j (by omega))
theorem w_hi1 {st : SortSt} {P mg ac bc na nb : Nat} {S : List Nat} (hS : SI κ it n st p pend) (L : HiI r pa pb S na nb) (h1 : 1 ≤ na ∧ na ≤ pa.length) (h2 : 2 ≤ nb ∧ nb ≤ pb.length) (h3 : P ≤ (pa.length - na) + (pb.length - nb)) :
    wpS (model prog w) A E s (hi1 (ar it pa) (ar it pb) (ar it S.reverse) na nb mg ac bc) (K2 κ it n r p pend pa pb P) st := by
  unfold hi1
  refine wpS_bind (w_setG hS fun st' hS' => ?_)
  rw [w_elem (by omega)]
  refine wpS_bind (wpS_pure (wpS_bind (w_galR hc hS'.kind (db _ (by omega)) da (by omega) (ha.up (by omega)) (by omega) fun at1 a1 a2 a3 => ?_)))
  simp only [Nat.zero_add] at a2 a3
  dsimp only
  by_cases z2 : na - at1 > 0
  · rw [if_pos z2, ar_ext, ar_appr]
    have L2 := L.dropA ha at1 a1 h1.2 fun i i1 i2 j j1 j2 => Nat.le_trans (hb.ix (by omega) (by omega)) (Nat.le_of_lt (a3 i i1 i2))
    by_cases z3 : at1 = 0
    · rw [if_pos (by simpa using z3)]
      exact wpS_pure (.inl ⟨hS', _, rfl, L2.done hb z3⟩)
    · rw [if_neg (by simpa using z3)]
      exact w_hi2 hc ha hb da db h0 hS' L2 (by omega) h2 (by omega) fun j j1 j2 => a2 j j1
  · rw [if_neg z2]
    exact w_hi2 hc ha hb da db h0 hS' L h1 h2 h3 fun j j1 j2 => a2 j (by omega)
theorem w_hiB {st : SortSt} {P : Nat} {c : H2} (h : HI κ it n r p pend pa pb P st c.snd.snd.snd.fst c.snd.fst c.snd.snd.fst) :
    wpS (model prog w) A E s (hiB (ar it pa) (ar it pb) c) (K2 κ it n r p pend pa pb P) st := by
  obtain ⟨ret, na, nb, out, mg, ac, bc⟩ := c
  obtain ⟨hS, ⟨S, eS, L⟩, h1, h2, h3⟩ := h
  dsimp only at eS L h1 h2 h3 hS ⊢
  subst eS
  unfold hiB
  dsimp only
  split
  · exact w_hi1 hc ha hb da db h0 hS L h1 h2 h3
  · exact w_hi1 hc ha hb da db h0 hS L h1 h2 h3
theorem w_hiO {st : SortSt} {P : Nat} {c : H0} (h : HI κ it n r p pend pa pb P st c.snd.snd.snd.fst c.snd.fst c.snd.snd.fst) :
    wpS (model prog w) A E s (hiO (ar it pa) (ar it pb) c) (fun x st' => match x with
      | .done c => End κ it n r p pend pa pb st' c.1
      | .yield c => c.1 = none ∧ HI κ it n r p pend pa pb (P + 1) st' c.snd.snd.snd.fst c.snd.fst c.snd.snd.fst) st := by
  unfold hiO
  have h1 := h.2.2.1
  refine wpS_bind (wpS_mono (wpS_forRange (I := fun x c st' => c.1 = none ∧ HI κ it n r p pend pa pb (P + x) st' c.snd.snd.snd.fst c.snd.fst c.snd.snd.fst)
    (Q := fun c st' => End κ it n r p pend pa pb st' c.1 ∨ (c.1 = none ∧ HI κ it n r p pend pa pb (P + 1) st' c.snd.snd.snd.fst c.snd.fst c.snd.snd.fst)) ?s1 ?e1 ⟨rfl, h⟩) ?p1)
  case e1 =>
    rintro c st' ⟨c1, k1, k2, k3, k4, k5⟩
    rw [ar_size, ar_size] at k5
    exact .inr ⟨c1, k1, k2, k3, k4, by omega⟩
  case s1 =>
    rintro x c st' _ _ ⟨c1, hL⟩
    refine wpS_mono (w_hiA hc ha hb da db h0 hL) fun y st'' hy => ?_
    cases y with
    | yield c => exact hy
    | done c =>
      rcases hy with hy | ⟨c2, k1, k2, k3, k4, k5⟩
      · exact .inl hy
      · exact .inr ⟨c2, k1, k2, k3, k4, by omega⟩
  case p1 =>
    rintro ⟨ret, c⟩ st' (⟨hS, R, rfl, hR⟩ | ⟨rfl, hL⟩)
    · exact wpS_pure ⟨hS, R, rfl, hR⟩
    · dsimp only
      refine wpS_bind (wpS_lift (wpAny_rule ⟨rfl, ?_⟩))
      refine wpS_bind (wpS_mono (wpS_forRange (I := fun x c st' => c.1 = none ∧ HI κ it n r p pend pa pb (P + 1) st' c.snd.snd.snd.fst c.snd.fst c.snd.snd.fst)
        (Q := fun c st' => End κ it n r p pend pa pb st' c.1 ∨ (c.1 = none ∧ HI κ it n r p pend pa pb (P + 1) st' c.snd.snd.snd.fst c.snd.fst c.snd.snd.fst)) ?s2 (fun c st' h => .inr h) ⟨rfl, hL⟩) ?p2)
      case s2 =>
        rintro x c st' _ _ ⟨c1, hL⟩
        refine wpS_mono (w_hiB hc ha hb da db h0 hL) fun y st'' hy => ?_
        cases y with
        | yield c => exact hy
        | done c => exact hy
      case p2 =>
        rintro ⟨ret, c⟩ st' (⟨hS, R, rfl, hR⟩ | ⟨rfl, hL⟩)
        · exact wpS_pure ⟨hS, R, rfl, hR⟩
        · dsimp only
          refine wpS_bind (w_setG hL.1 fun st'' h'' => wpS_pure ⟨rfl, h'', hL.2⟩)
theorem w_mergeHi {st : SortSt} {Q : Array Keyed → SortSt → Prop} (hS : SI κ it n st p pend) (na : 1 ≤ pa.length) (nb : 1 ≤ pb.length) (hl : ∀ j, j < pb.length → r (e pb j) ≤ r (e pa (pa.length - 1)))
    (q : ∀ R st', SI κ it n st' p pend → Res it r pa pb R → Q R st') : wpS (model prog w) A E s (mergeHi' (ar it pa) (ar it pb)) Q st := by
  rw [mergeHi'_eq]
  refine wpS_bind (wpS_lift (wpAny_rule ⟨rfl, ?_⟩))
  rw [ar_size, w_elem (by omega)]
  refine wpS_bind (wpS_pure ?_)
  have L0 : HiI r pa pb [] pa.length pb.length := ⟨by rw [List.take_length, List.take_length, List.append_nil], List.Pairwise.nil, fun x hx => absurd hx List.not_mem_nil, fun x hx => absurd hx List.not_mem_nil⟩
  have L1 := L0.stepA ha na (Nat.le_refl _) fun j _ j2 => hl j j2
  rw [show (#[it (e pa (pa.length - 1))] : Array Keyed) = ar it [e pa (pa.length - 1)].reverse from rfl, ar_size]
  by_cases z1 : pa.length - 1 = 0
  · rw [if_pos (by simpa using z1)]
    exact wpS_pure (q _ _ hS (L1.done hb z1))
  · rw [if_neg (by simpa using z1)]
    by_cases z2 : pb.length = 1
    · rw [if_pos (by simpa using z2)]
      exact wpS_pure (q _ _ hS (L1.first ha hb z2 h0))
    · rw [if_neg (by simpa using z2)]
      refine wpS_bind (wpS_get (wpS_bind (wpS_mono (wpS_forRange (I := fun x c st' => c.1 = none ∧ HI κ it n r p pend pa pb x st' c.snd.snd.snd.fst c.snd.fst c.snd.snd.fst)
        (Q := fun c st' => End κ it n r p pend pa pb st' c.1) ?sx ?ex ⟨rfl, hS, ⟨_, rfl, L1⟩, by dsimp only; omega, by dsimp only; omega, Nat.zero_le _⟩) ?px)))
      case sx =>
        rintro x c st' _ _ ⟨c1, hL⟩
        refine wpS_mono (w_hiO hc ha hb da db h0 hL) fun y st'' hy => ?_
        cases y with
        | yield c => exact hy
        | done c => exact hy
      case ex =>
        rintro c st' ⟨c1, k1, k2, k3, k4, k5⟩
        omega
      case px =>
        rintro ⟨ret, c⟩ st' ⟨hS', R, rfl, hR⟩
        exact wpS_pure (q R st' hS' hR)
end
end Tim
set_option maxHeartbeats 4000000
namespace Tim
open PySem PySem.W PyProof.Rows Srt
theorem fold_put {α : Type} (k : Nat) : ∀ (xs : List α) (m : Nat) (P Y Z : List α), P.length = k + m → Y.length = xs.length → (xs.zipIdx m).foldl (fun (a : Array α) (q : α × Nat) => a.setIfInBounds (k + q.2) q.1) (P ++ (Y ++ Z)).toArray = (P ++ (xs ++ Z)).toArray
  | [], m, P, Y, Z, _, hY => by
    have : Y = [] := List.eq_nil_of_length_eq_zero hY
    subst this; rfl
  | x :: xs, m, P, Y, Z, hP, hY => by
    cases Y with
    | nil => cases hY
    | cons y Y =>
      rw [List.zipIdx_cons, List.foldl_cons]
      have e : (P ++ (y :: Y ++ Z)).toArray.setIfInBounds (k + m) x = ((P ++ [x]) ++ (Y ++ Z)).toArray := by
        rw [List.setIfInBounds_toArray]
        congr 1
        rw [List.set_append_right _ _ (by omega), show k + m - P.length = 0 by omega]
        simp
      show List.foldl _ ((P ++ (y :: Y ++ Z)).toArray.setIfInBounds (k + m) x) _ = _
      rw [e, fold_put k xs (m + 1) (P ++ [x]) Y Z (by simp; omega) (by simpa using hY)]
      simp
def PendOk (r : Nat → Nat) : List (Nat × Nat × Nat) → Nat → List (List Nat) → Prop
  | [], _, [] => True
  | x :: R, a, L :: Ls => x.1 = a ∧ x.2.1 = L.length ∧ 1 ≤ L.length ∧ So r L ∧ PendOk r R (a + L.length) Ls
  | _, _, _ => False
section
variable {r : Nat → Nat}
theorem PendOk.len : ∀ {R : List (Nat × Nat × Nat)} {a : Nat} {Ls : List (List Nat)}, PendOk r R a Ls → R.length = Ls.length
  | [], _, [], _ => rfl
  | [], _, _ :: _, h => h.elim
  | _ :: _, _, [], h => h.elim
  | x :: R, a, L :: Ls, h => by rw [List.length_cons, List.length_cons, h.2.2.2.2.len]
theorem PendOk.split : ∀ {R1 R2 : List (Nat × Nat × Nat)} {a : Nat} {Ls : List (List Nat)}, PendOk r (R1 ++ R2) a Ls → ∃ L1 L2, Ls = L1 ++ L2 ∧ PendOk r R1 a L1 ∧ PendOk r R2 (a + L1.flatten.length) L2
  | [], R2, a, Ls, h => ⟨[], Ls, rfl, trivial, by simpa using h⟩
  | x :: R1, R2, a, [], h => h.elim
  | x :: R1, R2, a, L :: Ls, h => by
    obtain ⟨h1, h2, h3, h4, h5⟩ := h
    obtain ⟨L1, L2, rfl, a1, a2⟩ := h5.split
    refine ⟨L :: L1, L2, rfl, ⟨h1, h2, h3, h4, a1⟩, ?_⟩
    rw [List.flatten_cons, List.length_append, ← Nat.add_assoc]; exact a2
theorem PendOk.app : ∀ {R1 R2 : List (Nat × Nat × Nat)} {a : Nat} {L1 L2 : List (List Nat)}, PendOk r R1 a L1 → PendOk r R2 (a + L1.flatten.length) L2 → PendOk r (R1 ++ R2) a (L1 ++ L2)
  | [], R2, a, [], L2, _, h => by simpa using h
  | [], _, _, _ :: _, _, h, _ => h.elim
  | _ :: _, _, _, [], _, h, _ => h.elim
  | x :: R1, R2, a, L :: L1, L2, h, h' => by
    obtain ⟨h1, h2, h3, h4, h5⟩ := h
    refine ⟨h1, h2, h3, h4, h5.app ?_⟩
    rw [List.flatten_cons, List.length_append, ← Nat.add_assoc] at h'; exact h'
theorem PendOk.few : ∀ {R : List (Nat × Nat × Nat)} {a : Nat} {Ls : List (List Nat)}, PendOk r R a Ls → Ls.length ≤ Ls.flatten.length
  | [], _, [], _ => Nat.le_refl _
  | [], _, _ :: _, h => h.elim
  | _ :: _, _, [], h => h.elim
  | x :: R, a, L :: Ls, h => by
    have := h.2.2.2.2.few
    have := h.2.2.1
    rw [List.flatten_cons, List.length_append, List.length_cons]; omega
end
section
variable {prog : Program} {w : World} {A : Around} {E : Value → Shared → Prop} {s : Shared} {κ : SortKind} {it : Nat → Keyed} {n : Nat} {r : Nat → Nat}
def Jr (κ : SortKind) (it : Nat → Keyed) (n : Nat) (r : Nat → Nat) (st : SortSt) (R : List Nat) (k : Nat) : Prop := ∃ p pend Ls, SI κ it n st p pend ∧ PendOk r pend.toList 0 Ls ∧ p.toList = Ls.flatten ++ R ∧ Ls.length = k
theorem pm_list {p : Array Nat} (h : Pm n p) : p.toList.Perm (List.range n) := Array.perm_iff_toList_perm.mp h
theorem pm_of {l : List Nat} (h : l.Perm (List.range n)) : Pm n l.toArray := Array.perm_iff_toList_perm.mpr (by simpa using h)
theorem bd_of {l m : List Nat} (h : l.Perm (List.range n)) (hm : ∀ x ∈ m, x ∈ l) : Bd n m := fun i hi => by
  have : e m i ∈ l := hm _ (by rw [e_lt hi]; exact List.getElem_mem hi)
  exact List.mem_range.mp (h.mem_iff.mp this)
theorem map_ar {p : Array Nat} : p.map it = ar it p.toList := by
  apply Array.toList_inj.mp
  simp [ar]
theorem e_app {P l Z : List Nat} {i : Nat} (hi : i < l.length) : e (P ++ (l ++ Z)) (P.length + i) = e l i := by
  rw [e_lt (by simp; omega), e_lt hi, List.getElem_append_right (by omega)]
  simp only [Nat.add_sub_cancel_left]
  rw [List.getElem_append_left hi]
variable (hc : HC prog w A E s κ it n r)
include hc
theorem w_mergeAt {st : SortSt} {R : List Nat} {k i : Nat} {Q : Bool → SortSt → Prop} (h : Jr κ it n r st R k) (hi : i + 1 < k) (q : ∀ st', Jr κ it n r st' R (k - 1) → Q true st') : wpS (model prog w) A E s (mergeAt' i) Q st := by
  obtain ⟨p, pend, Ls, hS, hP, hp, hk⟩ := h
  have pl := hP.len
  have hpz : pend.toList.length = pend.size := Array.length_toList
  have sp : pend.toList = pend.toList.take i ++ (pend.toList[i]'(by omega) :: pend.toList[i + 1]'(by omega) :: pend.toList.drop (i + 2)) := by
    have e1 := List.drop_eq_getElem_cons (l := pend.toList) (i := i) (by omega)
    have e2 := List.drop_eq_getElem_cons (l := pend.toList) (i := i + 1) (by omega)
    rw [← e2, ← e1, List.take_append_drop]
  have g0 : pend[i]? = some (pend.toList[i]'(by omega)) := by rw [← Array.getElem?_toList]; exact List.getElem?_eq_getElem (by omega)
  have g1 : pend[i + 1]? = some (pend.toList[i + 1]'(by omega)) := by rw [← Array.getElem?_toList]; exact List.getElem?_eq_getElem (by omega)
  have ti : (pend.toList.take i).length = i := by rw [List.length_take]; omega
  generalize pend.toList[i]'(by omega) = X at sp g0
  generalize pend.toList[i + 1]'(by omega) = Y at sp g1
  generalize pend.toList.take i = pre at sp ti
  generalize pend.toList.drop (i + 2) = post at sp
  rw [sp] at hP
  obtain ⟨Lp, Lr, rfl, hp1, hp2⟩ := hP.split
  match Lr, hp2 with
  | [], hp2 => exact hp2.elim
  | [_], hp2 => exact hp2.2.2.2.2.elim
  | LA :: LB :: Lq, hp2 =>
  obtain ⟨x1, x2, x3, x4, y1, y2, y3, y4, hq⟩ := hp2
  obtain ⟨sa, na, pw⟩ := X
  obtain ⟨sb, nb, pw2⟩ := Y
  dsimp only at x1 x2 y1 y2
  rw [Nat.zero_add] at x1 y1
  subst x1 x2 y2
  subst y1
  have np : (pend.setIfInBounds i (Lp.flatten.length, LA.length + LB.length, pw)).eraseIdxIfInBounds (i + 1) = (pre ++ (Lp.flatten.length, LA.length + LB.length, pw) :: post).toArray := by
    apply Array.toList_inj.mp
    rw [Array.toList_eraseIdxIfInBounds, Array.toList_setIfInBounds, sp, List.set_append_right _ _ (by omega), ti, Nat.sub_self, List.set_cons_zero, List.eraseIdx_append_of_length_le (by omega), ti]
    simp
  have fl : (Lp ++ LA :: LB :: Lq).flatten ++ R = Lp.flatten ++ (LA ++ (LB ++ (Lq.flatten ++ R))) := by simp
  rw [fl] at hp
  have pr := pm_list hS.pm
  rw [hp] at pr
  have len : (Lp.flatten ++ (LA ++ (LB ++ (Lq.flatten ++ R)))).length = n := by rw [pr.length_eq, List.length_range]
  simp only [List.length_append] at len
  have earr : arrOf st = ar it (Lp.flatten ++ (LA ++ (LB ++ (Lq.flatten ++ R)))) := by rw [hS.arr, map_ar, hp]
  have eA : ∀ j, j < LA.length → e (Lp.flatten ++ (LA ++ (LB ++ (Lq.flatten ++ R)))) (Lp.flatten.length + j) = e LA j := fun j hj => e_app hj
  have eB : ∀ j, j < LB.length → e (Lp.flatten ++ (LA ++ (LB ++ (Lq.flatten ++ R)))) (Lp.flatten.length + LA.length + j) = e LB j := fun j hj => by
    have := e_app (P := Lp.flatten ++ LA) (l := LB) (Z := Lq.flatten ++ R) hj
    rw [List.length_append, List.append_assoc] at this
    exact this
  have bd : Bd n (Lp.flatten ++ (LA ++ (LB ++ (Lq.flatten ++ R)))) := bd_of pr fun _ h => h
  have hlen : (Lp.flatten ++ (LA ++ (LB ++ (Lq.flatten ++ R)))).length = Lp.flatten.length + (LA.length + (LB.length + (Lq.flatten.length + R.length))) := by simp only [List.length_append]
  have kk : (Lp ++ (LA ++ LB) :: Lq).length = k - 1 := by
    simp only [List.length_append, List.length_cons] at hk ⊢; omega
  have fin : ∀ (st' : SortSt) (M : List Nat), M.Perm (LA ++ LB) → So r M → kindOf st' = κ → failedOf st' = none → pendingOf st' = (pre ++ (Lp.flatten.length, LA.length + LB.length, pw) :: post).toArray →
      arrOf st' = ar it (Lp.flatten ++ (M ++ (Lq.flatten ++ R))) → Jr κ it n r st' R (k - 1) := fun st' M hM hs h1 h2 h3 h4 => by
    have ml : M.length = LA.length + LB.length := by rw [hM.length_eq, List.length_append]
    have prm : (Lp.flatten ++ (M ++ (Lq.flatten ++ R))).Perm (List.range n) := by
      refine List.Perm.trans (List.Perm.append_left _ ?_) pr
      rw [← List.append_assoc LA LB]
      exact List.Perm.append_right _ hM
    refine ⟨(Lp.flatten ++ (M ++ (Lq.flatten ++ R))).toArray, _, Lp ++ M :: Lq, ⟨h1, h2, ?_, h3, pm_of prm⟩, ?_, by simp, ?_⟩
    · rw [h4, map_ar]
    · refine hp1.app ⟨by dsimp only; omega, by dsimp only; omega, by omega, hs, ?_⟩
      rw [ml]
      rw [← Nat.add_assoc, show 0 + Lp.flatten.length + LA.length + LB.length = 0 + Lp.flatten.length + LA.length + LB.length from rfl]
      exact hq
    · simp only [List.length_append, List.length_cons] at kk ⊢; omega
  rw [mergeAt'_eq]
  refine wpS_bind (wpS_get ?_)
  rw [hS.pend, g0, g1]
  dsimp only
  refine wpS_bind ?_
  show wpS _ _ _ _ (modify fun _ => _) _ _
  refine wpS_modify ?_
  rw [np, earr]
  rw [w_elem (by omega)]
  refine wpS_bind (wpS_pure (wpS_bind (w_galR hc hS.kind (bd _ (by omega)) bd (by omega) (fun i j hij hj => by rw [eA i (by omega), eA j hj]; exact x4.ix hij hj) (by omega) fun k1 a1 a2 a3 => ?_)))
  have b0 := eB 0 (by omega)
  rw [Nat.add_zero] at b0
  rw [b0] at a2 a3
  have a2 : ∀ i, i < k1 → r (e LA i) ≤ r (e LB 0) := fun i hi => by have := a2 i hi; rwa [eA i (by omega)] at this
  have a3 : ∀ i, k1 ≤ i → i < LA.length → r (e LB 0) < r (e LA i) := fun i h1 h2 => by have := a3 i h1 h2; rwa [eA i h2] at this
  dsimp only
  by_cases z1 : LA.length - k1 = 0
  · rw [if_pos (by simpa using z1)]
    refine wpS_pure (q _ (fin _ (LA ++ LB) (List.Perm.refl _) (so_app.mpr ⟨x4, y4, fun x hx y hy => ?_⟩) hS.kind hS.failed rfl ?_))
    · obtain ⟨i, hi, rfl⟩ := List.mem_iff_getElem.mp hx
      obtain ⟨j, hj, rfl⟩ := List.mem_iff_getElem.mp hy
      rw [← e_lt hi, ← e_lt hj]
      exact Nat.le_trans (a2 i (by omega)) (y4.ix (Nat.zero_le _) hj)
    · show arrOf st = _
      rw [earr, List.append_assoc LA LB]
  · rw [if_neg (by simpa using z1)]
    have el : Lp.flatten.length + k1 + (LA.length - k1) - 1 = Lp.flatten.length + (LA.length - 1) := by omega
    rw [el, w_elem (by omega), eA _ (by omega)]
    refine wpS_bind (wpS_pure (wpS_bind (w_galL hc (by exact hS.kind) (by have := bd (Lp.flatten.length + (LA.length - 1)) (by omega); rwa [eA _ (by omega)] at this) bd (by omega) (fun i j hij hj => by rw [eB i (by omega), eB j hj]; exact y4.ix hij hj) (by omega) fun k2 b1 b2 b3 => ?_)))
    have b2 : ∀ i, i < k2 → r (e LB i) < r (e LA (LA.length - 1)) := fun i hi => by have := b2 i hi; rwa [eB i (by omega)] at this
    have b3 : ∀ i, k2 ≤ i → i < LB.length → r (e LA (LA.length - 1)) ≤ r (e LB i) := fun i h1 h2 => by have := b3 i h1 h2; rwa [eB i h2] at this
    dsimp only
    by_cases z2 : k2 = 0
    · rw [if_pos (by simpa using z2)]
      refine wpS_pure (q _ (fin _ (LA ++ LB) (List.Perm.refl _) (so_app.mpr ⟨x4, y4, fun x hx y hy => ?_⟩) hS.kind hS.failed rfl ?_))
      · obtain ⟨i, hi, rfl⟩ := List.mem_iff_getElem.mp hx
        obtain ⟨j, hj, rfl⟩ := List.mem_iff_getElem.mp hy
        rw [← e_lt hi, ← e_lt hj]
        exact Nat.le_trans (x4.ix (j := LA.length - 1) (by omega) (by omega)) (b3 j (by omega) hj)
      · show arrOf st = _
        rw [earr, List.append_assoc LA LB]
    · rw [if_neg (by simpa using z2)]
      have ex : (ar it (Lp.flatten ++ (LA ++ (LB ++ (Lq.flatten ++ R))))).extract (Lp.flatten.length + k1) (Lp.flatten.length + LA.length) = ar it (LA.drop k1) := by
        rw [ar_ext, ← List.drop_drop, List.drop_left, List.drop_append_of_le_length (by omega), List.take_append_of_le_length (by rw [List.length_drop]; omega), List.take_of_length_le (by rw [List.length_drop]; omega)]
      have ey : (ar it (Lp.flatten ++ (LA ++ (LB ++ (Lq.flatten ++ R))))).extract (Lp.flatten.length + LA.length) (Lp.flatten.length + LA.length + k2) = ar it (LB.take k2) := by
        rw [ar_ext, ← List.drop_drop, List.drop_left, List.drop_left, List.take_append_of_le_length (by omega), Nat.add_sub_cancel_left]
      rw [ex, ey]
      have la : (LA.drop k1).length = LA.length - k1 := List.length_drop
      have lb : (LB.take k2).length = k2 := by rw [List.length_take]; omega
      have ea : ∀ j, j < LA.length - k1 → e (LA.drop k1) j = e LA (k1 + j) := fun j hj => by rw [e_lt (by omega), e_lt (by omega), List.getElem_drop]
      have eb : ∀ j, j < k2 → e (LB.take k2) j = e LB j := fun j hj => by rw [e_lt (by omega), e_lt (by omega), List.getElem_take]
      have hl : ∀ j, j < (LB.take k2).length → r (e (LB.take k2) j) < r (e (LA.drop k1) ((LA.drop k1).length - 1)) := fun j hj => by
        rw [la, eb j (by omega), ea _ (by omega), show k1 + (LA.length - k1 - 1) = LA.length - 1 by omega]
        exact b2 j (by omega)
      have h0 : ∀ j, j < (LA.drop k1).length → r (e (LB.take k2) 0) < r (e (LA.drop k1) j) := fun j hj => by
        rw [eb 0 (by omega), ea j (by omega)]
        exact a3 _ (by omega) (by omega)
      have dA : Bd n (LA.drop k1) := bd_of pr fun x hx => List.mem_append_right _ (List.mem_append_left _ (List.mem_of_mem_drop hx))
      have dB : Bd n (LB.take k2) := bd_of pr fun x hx => List.mem_append_right _ (List.mem_append_right _ (List.mem_append_left _ (List.mem_of_mem_take hx)))
      have S1 : SI κ it n (setPending st (pre ++ (Lp.flatten.length, LA.length + LB.length, pw) :: post).toArray) p (pre ++ (Lp.flatten.length, LA.length + LB.length, pw) :: post).toArray := ⟨hS.kind, hS.failed, hS.arr, rfl, hS.pm⟩
      have aft : ∀ (M : Array Keyed) (st' : SortSt), SI κ it n st' p (pre ++ (Lp.flatten.length, LA.length + LB.length, pw) :: post).toArray → Res it r (LA.drop k1) (LB.take k2) M → wpS (model prog w) A E s (do
          modify fun s => setArr s (M.toList.zipIdx.foldl (fun a (x : Keyed × Nat) => a.setIfInBounds (Lp.flatten.length + k1 + x.2) x.1) (arrOf s))
          return (failedOf (← get)).isNone) Q st' := by
        rintro M st' hS' ⟨L, rfl, hL, sL⟩
        refine wpS_bind (wpS_modify (wpS_bind (wpS_get (wpS_pure ?_))))
        have ef : failedOf (setArr st' ((ar it L).toList.zipIdx.foldl (fun a (x : Keyed × Nat) => a.setIfInBounds (Lp.flatten.length + k1 + x.2) x.1) (arrOf st'))) = none := hS'.failed
        rw [ef]
        have ll : L.length = LA.length - k1 + k2 := by rw [hL.length_eq, List.length_append, la, lb]
        refine q _ (fin _ (LA.take k1 ++ (L ++ LB.drop k2)) ?_ ?_ hS'.kind hS'.failed hS'.pend ?_)
        · refine (List.Perm.append_left _ (List.Perm.append_right _ hL)).trans ?_
          rw [List.append_assoc, List.take_append_drop, ← List.append_assoc, List.take_append_drop]
        · have inL : ∀ y ∈ L, (∃ j, k1 ≤ j ∧ j < LA.length ∧ y = e LA j) ∨ ∃ j, j < k2 ∧ y = e LB j := fun y hy => by
            rcases List.mem_append.mp (hL.mem_iff.mp hy) with hy | hy
            · obtain ⟨j, j1, j2, rfl⟩ := mem_drop hy
              exact .inl ⟨j, j1, j2, rfl⟩
            · obtain ⟨j, j1, j2, rfl⟩ := mem_take hy
              exact .inr ⟨j, j1, rfl⟩
          refine so_app.mpr ⟨x4.take _, so_app.mpr ⟨sL, y4.drop _, fun x hx y hy => ?_⟩, fun x hx y hy => ?_⟩
          · obtain ⟨j, j1, j2, rfl⟩ := mem_drop hy
            rcases inL x hx with ⟨i, i1, i2, rfl⟩ | ⟨i, i1, rfl⟩
            · exact Nat.le_trans (x4.ix (j := LA.length - 1) (by omega) (by omega)) (b3 j j1 j2)
            · exact y4.ix (by omega) j2
          · obtain ⟨i, i1, i2, rfl⟩ := mem_take hx
            rcases List.mem_append.mp hy with hy | hy
            · rcases inL y hy with ⟨j, j1, j2, rfl⟩ | ⟨j, j1, rfl⟩
              · exact x4.ix (by omega) j2
              · exact Nat.le_trans (a2 i i1) (y4.ix (Nat.zero_le _) (by omega))
            · obtain ⟨j, j1, j2, rfl⟩ := mem_drop hy
              exact Nat.le_trans (a2 i i1) (y4.ix (Nat.zero_le _) j2)
        · show (ar it L).toList.zipIdx.foldl (fun a (x : Keyed × Nat) => a.setIfInBounds (Lp.flatten.length + k1 + x.2) x.1) (arrOf st') = _
          have e1 : arrOf st' = ((Lp.flatten ++ LA.take k1).map it ++ ((LA.drop k1 ++ LB.take k2).map it ++ (LB.drop k2 ++ (Lq.flatten ++ R)).map it)).toArray := by
            rw [hS'.arr, map_ar, hp]
            show (List.map it _).toArray = _
            congr 1
            rw [← List.map_append, ← List.map_append]
            congr 1
            have q1 := List.take_append_drop k1 LA
            have q2 := List.take_append_drop k2 LB
            calc Lp.flatten ++ (LA ++ (LB ++ (Lq.flatten ++ R))) = Lp.flatten ++ ((LA.take k1 ++ LA.drop k1) ++ ((LB.take k2 ++ LB.drop k2) ++ (Lq.flatten ++ R))) := by rw [q1, q2]
              _ = _ := by simp only [List.append_assoc]
          rw [e1]
          have := fold_put (Lp.flatten.length + k1) (L.map it) 0 ((Lp.flatten ++ LA.take k1).map it) ((LA.drop k1 ++ LB.take k2).map it) ((LB.drop k2 ++ (Lq.flatten ++ R)).map it) (by rw [List.length_map, List.length_append, List.length_take]; omega) (by rw [List.length_map, List.length_map, List.length_append, la, lb, ll])
          refine Eq.trans this ?_
          show _ = (List.map it _).toArray
          congr 1
          rw [← List.map_append, ← List.map_append]
          congr 1
          simp only [List.append_assoc]
      by_cases z3 : LA.length - k1 ≤ k2
      · rw [if_pos z3]
        exact wpS_bind (w_mergeLo hc (x4.drop _) (y4.take _) dA dB hl S1 (by omega) (by omega) (fun j hj => Nat.le_of_lt (h0 j hj)) fun M st' h1 h2 => aft M st' h1 h2)
      · rw [if_neg z3]
        exact wpS_bind (w_mergeHi hc (x4.drop _) (y4.take _) dA dB h0 S1 (by omega) (by omega) (fun j hj => Nat.le_of_lt (hl j hj)) fun M st' h1 h2 => aft M st' h1 h2)
end
end Tim
set_option maxHeartbeats 4000000
namespace Tim
open PySem PySem.W PyProof.Rows Srt
section
variable {prog : Program} {w : World} {A : Around} {E : Value → Shared → Prop} {s : Shared} {κ : SortKind} {it : Nat → Keyed} {n : Nat} {r : Nat → Nat}
theorem g_list {p : Array Nat} (i : Nat) : g p i = e p.toList i := by
  rw [g_eq]
  show _ = p.toList.getD i 0
  rw [List.getD_eq_getElem?_getD, Array.getElem?_toList]
theorem run_of {p p' : Array Nat} {Ls : List (List Nat)} {R : List Nat} {lo m : Nat} (hp : p.toList = Ls.flatten ++ R) (hz : p'.toList.length = p.toList.length) (hlo : Ls.flatten.length = lo) (lw : Low p p' lo) (hm : lo + m ≤ p.toList.length) (ha : Asc r p' lo m) : ∃ W R', p'.toList = Ls.flatten ++ (W ++ R') ∧ So r W ∧ W.length = m := by
  have lp : p.toList.length = lo + R.length := by rw [hp, List.length_append, hlo]
  refine ⟨(p'.toList.drop lo).take m, (p'.toList.drop lo).drop m, ?_, ?_, by rw [List.length_take, List.length_drop]; omega⟩
  · rw [List.take_append_drop]
    have : p'.toList.take lo = Ls.flatten := by
      refine List.ext_getElem (by rw [List.length_take]; omega) fun i h1 h2 => ?_
      rw [List.getElem_take]
      have a := lw i (by omega)
      rw [g_list, g_list, e_lt (by omega), e_lt (by omega)] at a
      rw [a]
      simp only [hp]
      rw [List.getElem_append_left (by omega)]
    rw [← this, List.take_append_drop]
  · refine List.pairwise_iff_getElem.mpr fun i j hi hj hij => ?_
    rw [List.length_take, List.length_drop] at hi hj
    simp only [List.getElem_take, List.getElem_drop]
    have := ha i j (by omega) (by omega)
    rw [g_list, g_list, e_lt (by omega), e_lt (by omega)] at this
    exact this
theorem PendOk.pw : ∀ {R : List (Nat × Nat × Nat)} {a : Nat} {Ls : List (List Nat)} (i pw : Nat), PendOk r R a Ls → PendOk r (R.modify i fun x => (x.fst, x.2.fst, pw)) a Ls
  | [], _, [], i, _, _ => by cases i <;> exact trivial
  | [], _, _ :: _, _, _, h => h.elim
  | _ :: _, _, [], _, _, h => h.elim
  | x :: R, a, L :: Ls, 0, pw, h => h
  | x :: R, a, L :: Ls, i + 1, pw, h => ⟨h.1, h.2.1, h.2.2.1, h.2.2.2.1, h.2.2.2.2.pw i pw⟩
variable (hc : HC prog w A E s κ it n r)
include hc
theorem w_runs {st : SortSt} {Q : Unit → SortSt → Prop} (h2 : 2 ≤ n) (hS : SI κ it n st (List.range n).toArray #[]) (q : ∀ st' p, SI κ it n st' p (pendingOf st') → So r p.toList → Q () st') : wpS (model prog w) A E s sortRuns' Q st := by
  rw [sortRuns'_eq]
  refine wpS_bind (wpS_get ?_)
  dsimp only
  have hsz : (arrOf st).size = n := by rw [hS.arr, Array.size_map, hS.pm.size]
  simp only [hsz]
  generalize minRun' n n 0 = mr
  refine wpS_bind (wpS_mono (wpS_forRange
    (I := fun x c st' => ∃ lo R k, c = (none, lo) ∧ Jr κ it n r st' R k ∧ lo + R.length = n ∧ x ≤ lo)
    (Q := fun c st' => ∃ k, c = (none, n) ∧ Jr κ it n r st' [] k) ?step ?fin ⟨0, List.range n, 0, rfl, ⟨_, _, [], hS, trivial, by simp, rfl⟩, by simp, Nat.le_refl _⟩) ?post)
  case fin =>
    rintro c st' ⟨lo, R, k, rfl, hJ, hl, hx⟩
    have : R = [] := List.eq_nil_of_length_eq_zero (by omega)
    subst this
    simp only [List.length_nil] at hl
    exact ⟨k, by rw [show lo = n by omega], hJ⟩
  case step =>
    rintro x c st' _ hx ⟨lo, R, k, rfl, hJ, hl, hxl⟩
    dsimp only
    by_cases z : lo ≥ n
    · rw [if_pos z]
      have : R = [] := List.eq_nil_of_length_eq_zero (by omega)
      subst this
      simp only [List.length_nil] at hl
      exact wpS_pure ⟨k, by rw [show lo = n by omega], hJ⟩
    · rw [if_neg z]
      obtain ⟨p, pend, Ls, hS', hP, hp, hk⟩ := hJ
      have pz : p.toList.length = n := by rw [(pm_list hS'.pm).length_eq, List.length_range]
      have hlo : Ls.flatten.length = lo := by rw [hp, List.length_append] at pz; omega
      refine wpS_bind (w_count hc hS' (by omega) (by omega) fun m st2 p2 hS2 lw2 m1 m2 as2 => ?_)
      dsimp only
      have go : ∀ (m : Nat) (st2 : SortSt) (p2 : Array Nat), SI κ it n st2 p2 pend → Low p p2 lo → 1 ≤ m → lo + m ≤ n → Asc r p2 lo m →
        ∃ W R', Jr κ it n r st2 (W ++ R') k ∧ So r W ∧ W.length = m ∧ lo + m + R'.length = n := fun m st2 p2 hS2 lw2 m1 m2 as2 => by
        have pz2 : p2.toList.length = n := by rw [(pm_list hS2.pm).length_eq, List.length_range]
        obtain ⟨W, R', e1, e2, e3⟩ := run_of (r := r) hp (by omega) hlo lw2 (by omega) as2
        refine ⟨W, R', ⟨p2, pend, Ls, hS2, hP, e1, hk⟩, e2, e3, ?_⟩
        rw [e1, List.length_append, List.length_append] at pz2; omega
      have push : ∀ (m : Nat) (st3 : SortSt) (W R' : List Nat) (k : Nat), Jr κ it n r st3 (W ++ R') k → So r W → W.length = m → 1 ≤ m → lo + m + R'.length = n →
          ∃ lo' R k, ((none, lo + m) : Option Unit × Nat) = (none, lo') ∧ Jr κ it n r (setPending st3 ((pendingOf st3).push (lo, m, 0))) R k ∧ lo' + R.length = n ∧ x + 1 ≤ lo' := fun m st3 W R' k hJ sW lW m1 hl' => by
        obtain ⟨p, pend, Ls, hS3, hP, hp, hk⟩ := hJ
        have pz : p.toList.length = n := by rw [(pm_list hS3.pm).length_eq, List.length_range]
        have hlo : Ls.flatten.length = lo := by rw [hp, List.length_append, List.length_append] at pz; omega
        refine ⟨lo + m, R', (Ls ++ [W]).length, rfl, ⟨p, pend.push (lo, m, 0), Ls ++ [W], ⟨hS3.kind, hS3.failed, hS3.arr, by show (pendingOf st3).push _ = _; rw [hS3.pend], hS3.pm⟩, ?_, by rw [hp]; simp, rfl⟩, hl', by omega⟩
        rw [Array.toList_push]
        exact hP.app ⟨by dsimp only; omega, by dsimp only; omega, by omega, sW, trivial⟩
      have szJ : ∀ {st R k}, Jr κ it n r st R k → (pendingOf st).size = k := fun {st R k} hJ => by
        obtain ⟨p, pend, Ls, hS3, hP, hp, hk⟩ := hJ
        rw [hS3.pend, ← hk, ← hP.len, Array.length_toList]
      have pwJ : ∀ {st R k} (i pw : Nat), Jr κ it n r st R k → Jr κ it n r (setPending st ((pendingOf st).modify i fun x => (x.fst, x.2.fst, pw))) R k := fun {st R k} i pw hJ => by
        obtain ⟨p, pend, Ls, hS3, hP, hp, hk⟩ := hJ
        refine ⟨p, pend.modify i fun x => (x.fst, x.2.fst, pw), Ls, ⟨hS3.kind, hS3.failed, hS3.arr, congrArg (fun z : Array (Nat × Nat × Nat) => z.modify i fun x => (x.fst, x.2.fst, pw)) hS3.pend, hS3.pm⟩, ?_, hp, hk⟩
        rw [Array.toList_modify]
        exact hP.pw i pw
      by_cases hlt : m < mr
      all_goals first
        | (rw [if_pos hlt]
           refine wpS_bind (wpS_lift (wpAny_rule ⟨rfl, ?_⟩))
           refine wpS_bind (w_bin hc hS2 (by omega) (by omega) as2 fun st3 p3 hS3 lw3 as3 => ?_)
           rw [if_neg (by decide)]
           obtain ⟨W, R', j1, j2, j3, j4⟩ := go (min (n - lo) mr) st3 p3 hS3 (lw2.tr lw3) (by omega) (by omega) as3
           have j5 : 1 ≤ min (n - lo) mr := by omega
           generalize min (n - lo) mr = m3 at j3 j4 j5)
        | (rw [if_neg hlt]
           obtain ⟨W, R', j1, j2, j3, j4⟩ := go m st2 p2 hS2 lw2 m1 (by omega) as2
           have j5 : 1 ≤ m := m1
           generalize m = m3 at j3 j4 j5
           generalize st2 = st3 at j1)
      all_goals (
        refine wpS_bind (wpS_get ?_)
        cases hbk : (pendingOf st3).back? with
        | none =>
          dsimp only
          exact wpS_bind (wpS_modify (wpS_pure (push m3 st3 W R' k j1 j2 j3 j5 j4)))
        | some v =>
          obtain ⟨s1, n1, pw0⟩ := v
          dsimp only
          generalize power' n (2 * s1 + n1) (2 * s1 + n1 + n1 + m3) n = pw
          refine wpS_bind (wpS_mono (wpS_forRange (I := fun _ c st' => ∃ k, c = (none, ()) ∧ Jr κ it n r st' (W ++ R') k) (Q := fun c st' => ∃ k, c = (none, ()) ∧ Jr κ it n r st' (W ++ R') k) ?_ (fun c st' h => h) ⟨k, rfl, j1⟩) ?_)
          · rintro y c st4 _ _ ⟨k4, rfl, hJ4⟩
            refine wpS_bind (wpS_get ?_)
            have sz := szJ hJ4
            rw [sz]
            by_cases c1 : k4 > 1
            · rw [if_pos c1]
              cases hv : (pendingOf st4)[k4 - 2]? with
              | none => dsimp only; exact wpS_pure ⟨k4, rfl, hJ4⟩
              | some v =>
                obtain ⟨u1, u2, older⟩ := v
                dsimp only
                by_cases c2 : older ≤ pw
                · rw [if_pos c2]; exact wpS_pure ⟨k4, rfl, hJ4⟩
                · rw [if_neg c2]
                  refine wpS_bind (w_mergeAt hc hJ4 (by omega) fun st5 hJ5 => ?_)
                  exact wpS_pure ⟨_, rfl, hJ5⟩
            · rw [if_neg c1]
              dsimp only
              exact wpS_pure ⟨k4, rfl, hJ4⟩
          · rintro c st4 ⟨k4, rfl, hJ4⟩
            dsimp only
            exact wpS_bind (wpS_modify (wpS_bind (wpS_modify (wpS_pure (push m3 _ W R' k4 (pwJ _ _ hJ4) j2 j3 j5 j4))))))
  case post =>
    rintro c st' ⟨k, rfl, hJ⟩
    dsimp only
    have szJ : ∀ {st R k}, Jr κ it n r st R k → (pendingOf st).size = k := fun {st R k} hJ => by
      obtain ⟨p, pend, Ls, hS3, hP, hp, hk⟩ := hJ
      rw [hS3.pend, ← hk, ← hP.len, Array.length_toList]
    have k0 : k ≤ n := by
      obtain ⟨p, pend, Ls, hS3, hP, hp, hk⟩ := hJ
      have := hP.few
      have pz : p.toList.length = n := by rw [(pm_list hS3.pm).length_eq, List.length_range]
      rw [hp, List.append_nil] at pz
      omega
    have fin : ∀ st k, Jr κ it n r st [] k → k ≤ 1 → Q () st := fun st k hJ hk1 => by
      obtain ⟨p, pend, Ls, hS3, hP, hp, hk⟩ := hJ
      have hS4 := hS3
      rw [← hS3.pend] at hS4
      refine q st p hS4 ?_
      rw [hp, List.append_nil]
      match Ls, pend.toList, hP with
      | [], _, _ => exact List.Pairwise.nil
      | [L], x :: R, hP => simpa using hP.2.2.2.1
      | [L], [], hP => exact hP.elim
      | _ :: _ :: _, _, _ => simp only [List.length_cons] at hk; omega
    refine wpS_bind (wpS_mono (wpS_forRange (I := fun x c st' => ∃ k, c = (none, ()) ∧ Jr κ it n r st' [] k ∧ (k ≤ 1 ∨ k + x ≤ n)) (Q := fun c st' => ∃ k, c = (none, ()) ∧ Jr κ it n r st' [] k ∧ k ≤ 1) ?_ ?_ ⟨k, rfl, hJ, .inr (by omega)⟩) ?_)
    · rintro y c st4 _ _ ⟨k4, rfl, hJ4, b4⟩
      refine wpS_bind (wpS_get ?_)
      have sz := szJ hJ4
      rw [sz]
      by_cases c1 : k4 ≤ 1
      · rw [if_pos c1]; exact wpS_pure ⟨k4, rfl, hJ4, c1⟩
      · rw [if_neg c1]
        refine wpS_bind (w_mergeAt hc hJ4 ?_ fun st5 hJ5 => wpS_pure ⟨_, rfl, hJ5, by omega⟩)
        have le : ∀ (c : Prop) [Decidable c] (a b : Nat), a + 1 < k4 → b + 1 < k4 → (if c then a else b) + 1 < k4 := fun c _ a b ha hb => by
          split
          · exact ha
          · exact hb
        exact le _ _ _ (by omega) (by omega)
    · rintro c st4 ⟨k4, rfl, hJ4, b4⟩
      exact ⟨k4, rfl, hJ4, by omega⟩
    · rintro c st4 ⟨k4, rfl, hJ4, b4⟩
      exact wpS_pure (fin st4 k4 hJ4 b4)
end
end Tim
set_option maxHeartbeats 3200000
namespace Srt
open PySem PySem.W PyProof.Rows
section
variable {prog : Program} {w : World} {A : Around} {E : Value → Shared → Prop} {s : Shared}
theorem list_sort_big {κ : SortKind} {lt : Nat → Nat → Bool} (O : Ord lt) {a : Addr} {vs : List Value} {n : Nat} {P : PySem.Fin → Shared → Prop} (ho : s.heap.get? a = some (seqObj "list" vs.toArray n)) (h64 : vs.length < 4000)
    (hk : ∀ h', (∀ b o, b ≠ a → s.heap.get? b = some o → h'.get? b = some o) → 2 ≤ vs.length → ∀ Q : SortKind → Shared → Prop, Q κ { s with heap := h' } → wpAny (model prog w) A (keyKind' vs.toArray) Q E { s with heap := h' })
    (hc : ∀ h', (∀ b o, b ≠ a → s.heap.get? b = some o → h'.get? b = some o) → ∀ i j (C : Bool → Shared → Prop), i < vs.length → j < vs.length → C (lt i j) { s with heap := h' } → kas_ask prog w A κ vs i j C { s with heap := h' })
    (h : ∀ p : Array Nat, Pm vs.length p → Sto lt p vs.length → P (.done (.ret .none)) { s with heap := sortedHeap s.heap a vs (p.toList.map fun i => vs.getD i Value.none).toArray }) :
    wpAny (model prog w) A (Builtin.«list.sort» ⟨[.ref a], []⟩) P E s := by
  rw [list_sort_plain]
  have ha : a < s.heap.objs.size := Heap.lt_size ho
  refine wpAny_bind (listItems_at ho rfl ?_)
  refine wpAny_bind (listUpdate_at ho rfl ?_ (by rw [List.size_toArray, sizeLine_eq]; omega) (Nat.zero_le _))
  obtain ⟨e1, ho1⟩ : ∃ e1, (s.heap.update a (Obj.mapSeq fun _ => #[])).get? a = some (seqObj "list" #[] e1) := ⟨_, get?_update_seq ho (fun _ => #[])⟩
  refine wpAny_bind (seqEpoch_at ho1 rfl ?_)
  refine wpAny_bind (wpAny_newTuple ?_ (by show vs.length ≤ _; rw [sizeLine_eq]; omega))
  refine wpAny_bind (wpAny_newList ?_ (Nat.zero_le _))
  refine wpAny_holding ?_
  have keep : ∀ b o, b ≠ a → s.heap.get? b = some o → (((s.heap.update a (Obj.mapSeq fun _ => #[])).push (seqObj "tuple" vs.toArray 0)).push (seqObj "list" #[] 0)).get? b = some o := fun b o ne q => by
    have hlt : b < s.heap.objs.size := Heap.lt_size q
    rw [Heap.get?_push_ne _ _ _ (by rw [size_push', Heap.size_update]; exact Nat.ne_of_lt (Nat.lt_succ_of_lt hlt)), Heap.get?_push_ne _ _ _ (by rw [Heap.size_update]; exact Nat.ne_of_lt hlt), Heap.get?_update_ne _ _ _ _ ne]
    exact q
  have ho6 : (((s.heap.update a (Obj.mapSeq fun _ => #[])).push (seqObj "tuple" vs.toArray 0)).push (seqObj "list" #[] 0)).get? a = some (seqObj "list" #[] e1) := by
    rw [Heap.get?_push_ne _ _ _ (by rw [size_push', Heap.size_update]; exact Nat.ne_of_lt (Nat.lt_succ_of_lt ha)), Heap.get?_push_ne _ _ _ (by rw [Heap.size_update]; exact Nat.ne_of_lt ha)]
    exact ho1
  show wpAny (model prog w) A _ P E { s with heap := ((s.heap.update a (Obj.mapSeq fun _ => #[])).push (seqObj "tuple" vs.toArray 0)).push (seqObj "list" #[] 0) }
  dsimp only
  have hsz : vs.toArray.size = vs.length := by simp
  by_cases h2 : vs.toArray.size < 2
  · rw [if_pos h2, if_pos h2]
    refine wpAny_bind (wpAny_pure ?_)
    rw [StateT.run_pure]
    refine wpAny_bind (wpAny_pure ?_)
    dsimp only
    refine wpAny_bind (seqEpoch_at ho6 rfl ?_)
    refine wpAny_bind (listUpdate_at ho6 rfl ?_ (hsz2 := by rw [Array.size_map]; show (pairsOf vs).size ≤ _; rw [pairsOf_size, sizeLine_eq]; omega))
    simp only [bne_self_eq_false, Bool.false_eq_true, if_false]
    have fin := h (List.range vs.length).toArray (Array.Perm.refl _) (fun i j hij hj => by
      have : i = j := by omega
      subst this; exact Tim.irr' O _)
    have e : (List.range vs.length).toArray.toList.map (fun i => vs.getD i Value.none) = vs := by
      refine List.ext_getElem? fun i => ?_
      simp only [List.getElem?_map]
      by_cases hi : i < vs.length
      · simp [hi]
      · simp [Nat.le_of_not_lt hi]
    rw [e] at fin
    have e2 : (Array.map (fun x => x.snd) (vs.toArray.zip vs.toArray)) = vs.toArray := by
      apply Array.toList_inj.mp
      simp [List.map_snd_zip]
    rw [show Array.map (fun x : Keyed => x.snd) (arrOf (SortSt.mk' general' (vs.toArray.zip vs.toArray) #[] 7 none)) = vs.toArray from e2]
    exact wpAny_pure fin
  · rw [if_neg h2, if_neg h2]
    have h2' : 2 ≤ vs.length := by rw [hsz] at h2; exact Nat.not_lt.mp (by assumption)
    refine wpAny_bind (hk _ keep h2' _ ?_)
    have ex : SortSt.mk' κ (vs.toArray.zip vs.toArray) #[] 7 none = SortSt.mk' κ ((List.range vs.length).toArray.map (kas_item (vs.toArray.zip vs.toArray))) #[] 7 none := by
      have e := kas_range (vs.toArray.zip vs.toArray)
      rw [show (vs.toArray.zip vs.toArray).size = vs.length by simp] at e
      rw [e]
    have hcc : Tim.HC prog w A E { s with heap := ((s.heap.update a (Obj.mapSeq fun _ => #[])).push (seqObj "tuple" vs.toArray 0)).push (seqObj "list" #[] 0) } κ (kas_item (vs.toArray.zip vs.toArray)) vs.length (Tim.rk lt vs.length) := fun i j hi hj st Q hk q => by
      rw [lt'_eq]
      refine wpS_bind (wpS_get ?_)
      rw [hk]
      have := hc _ keep i j (fun b s' => s' = { s with heap := ((s.heap.update a (Obj.mapSeq fun _ => #[])).push (seqObj "tuple" vs.toArray 0)).push (seqObj "list" #[] 0) } ∧ b = lt i j) hi hj ⟨rfl, rfl⟩
      rw [kat_ask_eq rfl] at this
      refine wpS_bind (wpS_lift (wpAny_attempt (wpAny_mono this (fun b s' hb => ⟨hb.1, ?_⟩) fun _ _ hF => hF.elim)))
      rw [hb.2, Tim.rk_lt O hi]
      exact wpS_pure q
    refine wpAny_bind (wpAny_mono (Tim.w_runs hcc (Q := fun _ st' => ∃ p : Array Nat, Pm vs.length p ∧ Sto lt p vs.length ∧ arrOf st' = p.map (kas_item (vs.toArray.zip vs.toArray)) ∧ failedOf st' = none) h2' ?_ fun st' p hS so => ⟨p, hS.pm, ?_, hS.arr, hS.failed⟩) ?_ fun _ _ e => e)
    · exact ⟨rfl, rfl, by rw [ex], rfl, Array.Perm.refl _⟩
    · intro i j hij hj
      have pz : p.toList.length = vs.length := by rw [Array.length_toList, hS.pm.size]
      have le := so.ix hij (by omega)
      rw [← Tim.g_list, ← Tim.g_list] at le
      rw [Tim.rk_lt O (hS.pm.lt (by omega) j)]
      simpa using le
    · rintro ⟨⟨⟩, st'⟩ s' ⟨rfl, p, hp, hs, har, hf⟩
      dsimp only
      rw [kat_snds rfl har]
      refine wpAny_bind (seqEpoch_at ho6 rfl ?_)
      refine wpAny_bind (listUpdate_at ho6 rfl ?_ (Nat.zero_le _) (by rw [List.size_toArray, List.length_map, Array.length_toList, hp.size, sizeLine_eq]; omega))
      rw [hf]
      simp only [bne_self_eq_false, Bool.false_eq_true, if_false]
      exact wpAny_pure (h p hp hs)
theorem sorted_rawB {κ : SortKind} {lt : Nat → Nat → Bool} (O : Ord lt) {v : Value} (I : List Value → Prop) {Q : Value → Shared → Prop} (h64 : ∀ vs, I vs → vs.length < 4000)
    (hcol : ∀ (Q : List Value → Shared → Prop), (∀ vs h1 t1, I vs → (∀ b o, s.heap.get? b = some o → h1.get? b = some o) → Q vs { s with heap := h1, toks := t1 }) → wpAny (model prog w) A.in1 (collect v) Q E s)
    (hk : ∀ vs h' t', I vs → (∀ b o, s.heap.get? b = some o → h'.get? b = some o) → 2 ≤ vs.length → ∀ Q : SortKind → Shared → Prop, Q κ { s with heap := h', toks := t' } → wpAny (model prog w) A.in1.in1 (keyKind' vs.toArray) Q E { s with heap := h', toks := t' })
    (hc : ∀ vs h' t', I vs → (∀ b o, s.heap.get? b = some o → h'.get? b = some o) → ∀ i j (C : Bool → Shared → Prop), i < vs.length → j < vs.length → C (lt i j) { s with heap := h', toks := t' } → kas_ask prog w A.in1.in1 κ vs i j C { s with heap := h', toks := t' })
    (h : ∀ vs (p : Array Nat) (h1 h' : Heap) t' l e, I vs → Pm vs.length p → Sto lt p vs.length → (∀ b o, s.heap.get? b = some o → h1.get? b = some o) → (∀ b o, h1.get? b = some o → h'.get? b = some o) → h1.objs.size ≤ l → h'.get? l = some (seqObj "list" (p.toList.map fun i => vs.getD i Value.none).toArray e) → Q (.ref l) { s with heap := h', toks := t' }) :
    wpAny (model prog w) A (call (.builtin "sorted") [v]) Q E s := by
  refine Calls.call_function_entry kind_sorted plain_sorted entry_sorted (args_sorted1 _) ?_
  unfold Builtin.«sorted»
  refine wpAny_bind (m := checkCount "sorted" 1 1 _) (wpAny_pure ?_)
  refine wpAny_bind (hcol _ fun vs h1 t1 hI k1 => ?_)
  have h64 := h64 vs hI
  refine wpAny_bind (wpAny_newList ?_ (by rw [sizeLine_eq]; omega))
  have hoL : (h1.push (seqObj "list" vs.toArray 0)).get? h1.objs.size = some (seqObj "list" vs.toArray 0) := Heap.get?_push_size _ rfl
  show wpAny _ _ _ _ _ { s with heap := h1.push (seqObj "list" vs.toArray 0), toks := t1 }
  have k3 : ∀ b o, h1.get? b = some o → b ≠ h1.objs.size ∧ (h1.push (seqObj "list" vs.toArray 0)).get? b = some o := fun b o q =>
    ⟨Nat.ne_of_lt (Heap.lt_size q), Heap.get?_push_of_some _ q⟩
  have k2 : ∀ b o, s.heap.get? b = some o → b ≠ h1.objs.size ∧ (h1.push (seqObj "list" vs.toArray 0)).get? b = some o := fun b o q => k3 b o (k1 b o q)
  refine wpAny_bind (wpAny_holding (wpAny_call_entry slot_list_sort ⟨_, hoL, rfl⟩ entry_list_sort (list_sort_big (s := { s with heap := h1.push (seqObj "list" vs.toArray 0), toks := t1 }) (κ := κ) O hoL h64 (fun h' k l2 Q q => ?_) (fun h' k i j C hi hj q => ?_) fun p hp hs => ⟨_, rfl, ?_⟩) (args_list_sort _)))
  · exact hk vs h' t1 hI (fun b o q => k b o (k2 b o q).1 (k2 b o q).2) l2 Q q
  · exact hc vs h' t1 hI (fun b o q => k b o (k2 b o q).1 (k2 b o q).2) i j C hi hj q
  · refine wpAny_pure ⟨_, rfl, ?_⟩
    have hz : h1.objs.size < (h1.push (seqObj "list" vs.toArray 0)).objs.size := by rw [size_push']; exact Nat.lt_succ_self _
    obtain ⟨e, he⟩ : ∃ e, (sortedHeap (h1.push (seqObj "list" vs.toArray 0)) h1.objs.size vs (p.toList.map fun i => vs.getD i Value.none).toArray).get? h1.objs.size = some (seqObj "list" (p.toList.map fun i => vs.getD i Value.none).toArray e) := by
      unfold sortedHeap
      obtain ⟨e1, ho1⟩ : ∃ e1, ((h1.push (seqObj "list" vs.toArray 0)).update h1.objs.size (Obj.mapSeq fun _ => #[])).get? h1.objs.size = some (seqObj "list" #[] e1) := ⟨_, get?_update_seq hoL (fun _ => #[])⟩
      have ho6 : ((((h1.push (seqObj "list" vs.toArray 0)).update h1.objs.size (Obj.mapSeq fun _ => #[])).push (seqObj "tuple" vs.toArray 0)).push (seqObj "list" #[] 0)).get? h1.objs.size = some (seqObj "list" #[] e1) := by
        exact Heap.get?_push_of_some _ (Heap.get?_push_of_some _ ho1)
      exact ⟨_, get?_update_seq ho6 fun _ => _⟩
    refine h vs p h1 _ t1 h1.objs.size e hI hp hs k1 (fun b o q => ?_) (Nat.le_refl _) he
    have q2 := k3 b o q
    unfold sortedHeap
    rw [Heap.get?_update_ne _ _ _ _ q2.1]
    refine Heap.get?_push_of_some _ (Heap.get?_push_of_some _ ?_)
    rw [Heap.get?_update_ne _ _ _ _ q2.1]
    exact q2.2
end
end Srt
set_option maxHeartbeats 3200000
namespace Srt
open PySem PySem.W PyProof.Rows L2
theorem sortT_coreB {X : Cx} {pins : List (Addr × Obj)} {σ : L2.St} {H : Hp} {s : Shared} (I : Inv X pins σ H s) {v : Value} {ps : List Row} {Q : VK} (hT : ∀ q ∈ ps, SqT X.K H q.1 (q.2.map kV)) (hS : ∀ q ∈ ps, ∀ q' ∈ ps, q.2.map isL = q'.2.map isL) (h0 : ∀ q ∈ ps, q.2 ≠ []) (h64 : ps.length < 4000)
    (hcol : ∀ (Q : List Value → Shared → Prop), (∀ h1 t1, (∀ b o, s.heap.get? b = some o → h1.get? b = some o) → Q (ps.map fun q => Value.ref q.1) { s with heap := h1, toks := t1 }) → wpAny (model X.prog X.w) X.A.in1 (collect v) Q X.xe s)
    (h : ∀ (l : Addr) (ps' : List Row), H l = none → ps'.Perm ps → ps'.Pairwise (fun a b => ltR b.2 a.2 = false) → Q (.ref l) (upd H l (.lst (ps'.map rRef)))) :
    wpAny (model X.prog X.w) X.A (call (.builtin "sorted") [v]) (EP X pins σ Q) X.xe s := by
  have lz : (ps.map fun q => Value.ref q.1).length = ps.length := List.length_map ..
  refine sorted_rawB (κ := tuples' true) (ord_rows fun i => (ps.getD i (0, [])).2) (fun vs => vs = ps.map fun q => Value.ref q.1) (fun vs e => by rw [e, lz]; exact h64) (fun Q hq => hcol Q fun h1 t1 k => hq _ h1 t1 rfl k) ?_ ?_ ?_
  · rintro vs h' t' rfl k l2 Q hq
    rw [lz] at l2
    have I' : Inv X pins σ H { s with heap := h', toks := t' } := I.kept k
    obtain ⟨fs, t, l, f⟩ := tups_of I' ps hT h0
    obtain ⟨q0, r0, e0⟩ : ∃ q0 r0, ps = q0 :: r0 := by
      match ps, l2 with
      | q0 :: r0, _ => exact ⟨q0, r0, rfl⟩
    have m0 : q0 ∈ ps := by rw [e0]; exact .head _
    obtain ⟨k0, r1, e1⟩ : ∃ k0 r1, q0.2 = k0 :: r1 := by
      cases e : q0.2 with
      | nil => exact absurd e (h0 q0 m0)
      | cons k r => exact ⟨k, r, rfl⟩
    refine kat_kind (s := { s with heap := h', toks := t' }) (T := if isL k0 = true then Value.type "int" else Value.type "str") t (by omega) (fun v hv => ?_) (by split <;> rfl) ?_
    · obtain ⟨q, hq, k', r', e', rk⟩ := f v hv
      have := hS q hq q0 m0
      rw [e', e1] at this
      simp only [List.map_cons, List.cons.injEq] at this
      rw [← this.1]
      exact looks_key rk
    · have : ((if isL k0 = true then Value.type "int" else Value.type "str") != Value.type "tuple") = true := by split <;> rfl
      rw [this]; exact hq
  · rintro vs h' t' rfl k i j C hi hj hC
    rw [lz] at hi hj
    have I' : Inv X pins σ H { s with heap := h', toks := t' } := I.kept k
    show wpAny _ _ (keyLt' _ ((ps.map fun q => Value.ref q.1).getD i Value.none) ((ps.map fun q => Value.ref q.1).getD j Value.none)) C _ _
    have ei : (ps.map fun q => Value.ref q.1).getD i Value.none = Value.ref ps[i].1 := by simp [hi]
    have ej : (ps.map fun q => Value.ref q.1).getD j Value.none = Value.ref ps[j].1 := by simp [hj]
    have fi : ps.getD i (0, []) = ps[i] := by simp [hi]
    have fj : ps.getD j (0, []) = ps[j] := by simp [hj]
    rw [ei, ej]
    rw [fi, fj] at hC
    obtain ⟨ui, ri, ⟨oi, hoi, hci, ni, hdi⟩, zi⟩ := I'.tuple (hT ps[i] (List.getElem_mem hi))
    obtain ⟨uj, rj, ⟨oj, hoj, hcj, nj, hdj⟩, zj⟩ := I'.tuple (hT ps[j] (List.getElem_mem hj))
    have sh := hS _ (List.getElem_mem hi) _ (List.getElem_mem hj)
    have el : ui.length = uj.length := by
      rw [← ri.length, ← rj.length, List.length_map, List.length_map]
      simpa using congrArg List.length sh
    refine kat_lt hoi hdi hoj hdj (lex_go (by simp [el]) 0 sh ri rj hC)
  · rintro vs p h1 h' t' l e rfl pm st k1 k zl hl
    have I : Inv X pins σ H { s with heap := h1, toks := t' } := I.kept k1
    have pl := pm.toList
    rw [lz] at pl pm st
    have hz := pm.size
    have mem : ∀ i ∈ p.toList, i < ps.length := fun i hi => by simpa using pl.mem_iff.mp hi
    have e1 : (p.toList.map fun i => (ps.map fun q => Value.ref q.1).getD i Value.none) = (p.toList.map fun i => ps.getD i (0, [])).map fun q => Value.ref q.1 := by
      rw [List.map_map]
      refine List.map_congr_left fun i hi => ?_
      have := mem i hi
      simp [this]
    rw [e1] at hl
    have pp : (p.toList.map fun i => ps.getD i (0, [])).Perm ps := by
      have := pl.map (fun i => ps.getD i ((0, []) : Row))
      rwa [map_range_getD] at this
    have pw : (p.toList.map fun i => ps.getD i ((0, []) : Row)).Pairwise (fun a b => ltR b.2 a.2 = false) := by
      rw [List.pairwise_map]
      exact st.pairwise hz
    refine ⟨.ref l, _, I.laid (t' := t') (o := .lst ((p.toList.map fun i => ps.getD i (0, [])).map rRef)) k zl ⟨?_, _, e, vals_map rRef (fun q => Value.ref q.1) (fun _ => rfl) _, hl⟩, rfl, h l _ (I.hok.fresh zl) pp pw⟩
    rw [List.length_map, pp.length_eq, sizeLine_eq]
    omega
def RawD (d : Addr) (es : Array DictEntry) (ep : Nat) (h : Heap) : Prop := ∃ o, h.get? d = some o ∧ o.ExactDict ∧ o.data = .dict es ep
section
variable {prog : Program} {w : World} {A : Around} {E : Value → Shared → Prop} {s : Shared} {d : Addr} {es : Array DictEntry} {ep : Nat}
theorem RawD.ty (h : RawD d es ep s.heap) : s.TypeIs (.ref d) "dict" := let ⟨o, e, c, _⟩ := h; ⟨o, e, c.1⟩
theorem RawD.keep {h h' : Heap} (x : RawD d es ep h) (k : ∀ o, h.get? d = some o → h'.get? d = some o) : RawD d es ep h' := let ⟨o, e, r⟩ := x; ⟨o, k _ e, r⟩
theorem RawD.lt {h : Heap} (x : RawD d es ep h) : d < h.objs.size := let ⟨_, e, _⟩ := x; Heap.lt_size e
theorem raw_iter {Q : Value → Shared → Prop} (lo : (d == sysModules) = false) (x : RawD d es ep s.heap)
    (q : Q (.ref s.heap.objs.size) { s with heap := s.heap.push { cls := .type "dict_keyiterator", data := .fields #[.ref d, .int 0 0, .int es.size 0, .int ep 0] } }) :
    wpAny (model prog w) A (pyIter (.ref d)) Q E s := by
  have hT := x.ty
  obtain ⟨o, ho, hc, hdat⟩ := x
  refine wpAny_pyIter_slot hT F.slot_dict_iter (wpAny_call_entry F.slot_dict_iter hT F.entry_dict_iter ?_ (F.args_dict_iter_1 _))
  unfold Builtin.«dict.__iter__» Builtin.Dict.dictSlotNone
  refine wpAny_bind (wpAny_bind (wpAny_notOrdered_dict hT ?_))
  show wpAny _ _ (pure (Value.ref d)) _ _ s
  refine wpAny_pure ?_
  show wpAny _ _ (Builtin.Dict.showsAll d >>= _) _ _ s
  unfold Builtin.Dict.showsAll
  rw [if_neg (by rw [lo]; exact Bool.false_ne_true)]
  refine wpAny_bind (wpAny_pure (wpAny_bind (wpAny_dictEntries ho hdat (wpAny_bind (wpAny_dictEpoch ho hdat ?_)))))
  refine wpAny_bind (wpAny_newObj_type (wpAny_pure ⟨_, rfl, "dict_keyiterator", _, ⟨_, Heap.get?_push_size _ rfl, rfl⟩, F.slot_dict_keyiterator_next.lookup, ?_⟩))
  simpa [rawInt] using q
theorem raw_next {it : Addr} {i : Nat} {Q : Option Value → Shared → Prop} (hit : s.heap.IsKeyIter it d i es.size ep) (x : RawD d es ep s.heap) (hi : i < es.size)
    (q : ∀ h', h'.IsKeyIter it d (i + 1) es.size ep → Heap.SameBut it s.heap h' → Q (some es[i].key) { s with heap := h' }) :
    wpAny (model prog w) A (pyNext (.ref it)) Q E s := by
  obtain ⟨o, ho, hc, hd⟩ := id hit
  obtain ⟨od, hod, hcd, hdd⟩ := x
  unfold pyNext
  refine wpAny_bind (wpAny_attempt (wpAny_callSpecial?_slot (name := Str.ofString "__next__") hit.typeIs F.slot_dict_keyiterator_next
    (wpAny_call_entry F.slot_dict_keyiterator_next hit.typeIs F.entry_dict_keyiterator_next ?_ (F.args_dict_keyiterator_next_1 _))))
  refine wpAny_bind (wpAny_pure (wpAny_bind (wpAny_bind ?_)))
  first | refine wpAny_bind (wpAny_typeNameOfWhole_keyiter hit.typeIs (wpAny_pure ?_)) | refine wpAny_bind (wpAny_typeNameOf_keyiter hit.typeIs (wpAny_pure ?_))
  refine wpAny_bind (wpAny_fieldsOf ho hd ?_)
  have hown : Builtin.Dict_items.ownsTuple "dict_keyiterator" = false := by decide
  simp only [hown, Bool.false_eq_true, if_false]
  show wpAny _ _ (if (Value.ref d == Value.none) = true then _ else _) _ _ s
  rw [if_neg (show ¬ ((Value.ref d == Value.none) = true) from Bool.false_ne_true)]
  refine wpAny_bind (wpAny_pure (wpAny_bind (wpAny_dictEntries hod hdd ?_)))
  rw [if_neg (by simp)]
  refine wpAny_bind (wpAny_pure (wpAny_bind (wpAny_dictEpoch hod hdd ?_)))
  rw [if_neg (by simp)]
  refine wpAny_pure ?_
  simp only [show ¬ ((i : Int) < 0) from by omega, if_false, Int.toNat_natCast, Array.getElem?_eq_getElem hi]
  refine wpAny_bind ?_
  first | refine wpAny_bind (wpAny_typeNameOfWhole_keyiter hit.typeIs (wpAny_pure ?_)) | refine wpAny_bind (wpAny_typeNameOf_keyiter hit.typeIs (wpAny_pure ?_))
  refine wpAny_bind (wpAny_isOneOf_keyiter hit.typeIs ?_)
  show wpAny _ _ (setField (.ref it) 1 (rawInt ((i : Int) + 1)) >>= _) _ _ s
  refine wpAny_bind (wpAny_setField ho hd (by simp) ?_)
  have hit' : (s.heap.update it (Obj.mapFields (·.setIfInBounds 1 (rawInt ((i : Int) + 1))))).IsKeyIter it d (i + 1) es.size ep :=
    ⟨_, Heap.get?_update_self _ ho (Obj.isFreed_of_fields (Obj.data_mapFields hd _)), (Obj.cls_mapFields ..).trans hc, by rw [Obj.data_mapFields hd]; simp [rawInt]⟩
  refine wpAny_bind (wpAny_holding (wpAny_bind (wpAny_isOneOf_keyiter (s := { s with heap := s.heap.update it (Obj.mapFields (·.setIfInBounds 1 (rawInt ((i : Int) + 1)))) }) hit'.typeIs ?_)))
  show wpAny _ _ (pure es[i].key) _ _ _
  exact wpAny_pure (wpAny_pure ⟨_, rfl, wpAny_pure (q _ hit' (Heap.SameBut.update ..))⟩)
theorem raw_end {it : Addr} {Q : Option Value → Shared → Prop} (hh : A.handled = none) (hit : s.heap.IsKeyIter it d es.size es.size ep) (x : RawD d es ep s.heap)
    (q : ∀ h', Heap.ExtBut it s.heap h' → Q none { s with heap := h' }) : wpAny (model prog w) A (pyNext (.ref it)) Q E s := by
  obtain ⟨o, ho, hc, hd⟩ := id hit
  obtain ⟨od, hod, hcd, hdd⟩ := x
  unfold pyNext
  refine wpAny_bind (wpAny_attempt (wpAny_callSpecial?_slot (name := Str.ofString "__next__") hit.typeIs F.slot_dict_keyiterator_next
    (wpAny_call_entry F.slot_dict_keyiterator_next hit.typeIs F.entry_dict_keyiterator_next ?_ (F.args_dict_keyiterator_next_1 _))))
  refine wpAny_bind (wpAny_pure (wpAny_bind (wpAny_bind ?_)))
  first | refine wpAny_bind (wpAny_typeNameOfWhole_keyiter hit.typeIs (wpAny_pure ?_)) | refine wpAny_bind (wpAny_typeNameOf_keyiter hit.typeIs (wpAny_pure ?_))
  refine wpAny_bind (wpAny_fieldsOf ho hd ?_)
  have hown : Builtin.Dict_items.ownsTuple "dict_keyiterator" = false := by decide
  simp only [hown, Bool.false_eq_true, if_false]
  show wpAny _ _ (if (Value.ref d == Value.none) = true then _ else _) _ _ s
  rw [if_neg (show ¬ ((Value.ref d == Value.none) = true) from Bool.false_ne_true)]
  refine wpAny_bind (wpAny_pure (wpAny_bind (wpAny_dictEntries hod hdd ?_)))
  rw [if_neg (by simp)]
  refine wpAny_bind (wpAny_pure (wpAny_bind (wpAny_dictEpoch hod hdd ?_)))
  rw [if_neg (by simp)]
  refine wpAny_pure ?_
  simp only [show ¬ ((es.size : Int) < 0) from by omega, if_false, Int.toNat_natCast, Array.getElem?_eq_none (Nat.le_refl _)]
  refine wpAny_bind ?_
  first | refine wpAny_bind (wpAny_typeNameOfWhole_keyiter hit.typeIs (wpAny_pure ?_)) | refine wpAny_bind (wpAny_typeNameOf_keyiter hit.typeIs (wpAny_pure ?_))
  show wpAny _ _ (setField (.ref it) 0 .none >>= _) _ _ s
  refine wpAny_bind (wpAny_setField ho hd (by simp) ?_)
  show wpAny _ _ (newExc (.type "StopIteration") [] >>= _) _ _ _
  refine wpAny_bind ?_
  simp only [newExc, newTuple]
  refine wpAny_bind (wpAny_newObj_type ?_ (by size_fits))
  refine wpAny_bind (m := firstArgMember _ _) (wpAny_of_eq (a := Value.none) (by first | rfl | (simp only [firstArgMember]; rfl)) ?_)
  refine wpAny_newObj_type ?_ (by size_fits)
  simp only [raiseNew]
  refine wpAny_bind (wpAny_handled ?_)
  rw [show A.in1.handled = none from hh]
  refine wpAny_bind (wpAny_pure (wpAny_throw ?_))
  refine wpAny_bind (wpAny_isInstance (T := "StopIteration") (b := true) ⟨_, Heap.get?_push_size _ rfl, rfl⟩ isSubtype_stop ?_)
  exact wpAny_pure (q _ (((Heap.SameBut.update ..).extBut.push _).push _))
theorem raw_walk (hh : A.handled = none) (I d : Addr) (hne : d ≠ I) (es : Array DictEntry) (ep : Nat) :
    Walks prog w A I [I, d] [I] es.size (fun i v => ∃ e, es[i]? = some e ∧ v = e.key) (fun i h => h.IsKeyIter I d i es.size ep ∧ RawD d es ep h) where
  sub := fun b hb => by simp at hb; simp [hb]
  frame := fun _ _ _ st hk => ⟨st.1.at fun o e => hk I (by simp) o e, st.2.keep fun o e => hk d (by simp) o e⟩
  item := fun i s Q E hi st hQ => raw_next st.1 st.2 hi fun h' hit' hs' => hQ _ h' s.toks ⟨es[i], by simp [hi], rfl⟩ ⟨hit', st.2.keep fun o e => hs'.extBut d o hne e⟩ fun b o hb e => hs'.extBut b o (fun h => hb (by simp [h])) e
  done := fun s Q E st hQ => raw_end hh st.1 st.2 fun h' he' => hQ h' s.toks fun b o hb e => he' b o (fun h => hb (by simp [h])) e
  self := fun _ _ _ _ st hQ => wpAny_pyIter_keyiter st.1 hQ
theorem raw_src (lo : (d == sysModules) = false) : KdlSrc prog w "dict" d d es.size (fun i v => ∃ e, es[i]? = some e ∧ v = e.key) (RawD d es ep) where
  type := fun _ x => x.ty
  there := fun _ x => ⟨x.lt, x.lt⟩
  keep := fun _ _ x hk => x.keep fun o e => hk d (.inl rfl) o e
  notList := by decide
  notTuple := by decide
  hint := fun _ _ _ _ x hq => kdl_hint_dict x.ty hq
  iter := fun _ _ hh x => ⟨_, _, (fun _ _ hq => raw_iter lo x hq), raw_walk hh _ d (Nat.ne_of_lt x.lt) es ep, ⟨⟨_, Heap.get?_push_size _ rfl, rfl, rfl⟩, x.keep fun o e => Heap.get?_push_of_some _ e⟩⟩
end
section
variable {X : Cx}
theorem call_sortedDT (hc : X.calm = true) : CallR X (.builtin "sorted") (fun xs H Q => ∃ (d : Addr) (kvs : List (List Key × V)), xs = [.ref d] ∧ H d = some (.dT kvs) ∧ kvs.length < 4000 ∧ (∀ k ∈ kvs.map (·.1), ∀ k' ∈ kvs.map (·.1), k.map isL = k'.map isL) ∧ (∀ k ∈ kvs.map (·.1), k ≠ []) ∧
    ∀ (l : Addr) (ps ps' : List Row), H l = none → ps.map (·.2) = kvs.map (·.1) → (∀ q ∈ ps, H q.1 = some (.tup (q.2.map kV))) → ps'.Perm ps → ps'.Pairwise (fun a b => ltR b.2 a.2 = false) → Q (.ref l) (upd H l (.lst (ps'.map rRef)))) := by
  intro pins s σ H xs us Q I r h
  obtain ⟨d, kvs, rfl, hd, h4, sh, ne, q⟩ := h
  obtain ⟨u, rfl, rx⟩ := vals1 r
  cases rx
  obtain ⟨z, lo, xs, rel, o, es, ep, h1, h2, h3, h5, h6⟩ := dt_of I.hok hd
  clear h6
  obtain ⟨ps, hps⟩ : ∃ ps : List Row, ps = xs.map fun x => (x.2.1, x.1) := ⟨_, rfl⟩
  have k1 : ps.map (·.2) = kvs.map (·.1) ∧ ∀ q ∈ ps, H q.1 = some (.tup (q.2.map kV)) := by
    rw [hps]
    clear hps h5 h4 sh ne q hd z
    induction rel with
    | nil => exact ⟨rfl, fun q hq => by cases hq⟩
    | cons r t ih =>
      refine ⟨by rw [List.map_cons, List.map_cons, List.map_cons, ih.1, r.1], fun q hq => ?_⟩
      rw [List.map_cons] at hq
      rcases List.mem_cons.mp hq with e | e
      · rw [e]
        have := r.2.1
        rw [r.1] at this
        exact this
      · exact ih.2 q e
  have kl : kvs.length = xs.length := rel.length
  have hmem : ∀ q ∈ ps, q.2 ∈ kvs.map (·.1) := fun q hq => by rw [← k1.1]; exact List.mem_map.mpr ⟨q, hq, rfl⟩
  have pl : ps.length = xs.length := by rw [hps, List.length_map]
  have el : es.size = xs.length := by rw [← Array.length_toList, h5, List.length_map]
  refine sortT_coreB I (fun q hq => SqT.of (k1.2 q hq)) (fun a ha b hb => sh _ (hmem a ha) _ (hmem b hb)) (fun a ha => ne _ (hmem a ha)) (by omega) (fun Q hq => ?_) (fun l ps' hl pm pw => q l ps ps' hl k1.1 k1.2 pm pw)
  refine kdu_collect (A := X.A.in1) (raw_src (d := d) (es := es) (ep := ep) lo) (I.ok.hd hc) ⟨o, h1, h2, h3⟩ (by rw [el, ← kl]; exact z) fun h' tk acc hk hacc => ?_
  have ea : acc.toList = ps.map fun q => Value.ref q.1 := by
    have e2 : (ps.map fun q => Value.ref q.1) = es.toList.map (·.key) := by
      rw [h5, hps, List.map_map, List.map_map]
      rfl
    rw [e2]
    refine List.ext_getElem? fun i => ?_
    rw [List.getElem?_map]
    by_cases hi : i < es.size
    · have hi' : i < acc.size := by rw [hacc.1]; exact hi
      obtain ⟨e, he, hv⟩ := hacc.2 i acc[i] (by simp [hi'])
      rw [Array.getElem?_toList, Array.getElem?_toList, he, Array.getElem?_eq_getElem hi', hv]
      rfl
    · rw [List.getElem?_eq_none (by rw [Array.length_toList, hacc.1]; exact Nat.not_lt.mp (by assumption)), List.getElem?_eq_none (by rw [Array.length_toList]; exact Nat.not_lt.mp (by assumption))]
      rfl
  rw [ea]
  exact hq h' tk hk
end
end Srt
namespace L2
open PySem PySem.Spec PyProof.Rows
section
variable {X : Cx}
theorem pe_disp1T {pos : Pos} {k v : Expr} {tk tv : TE} (hu : X.A.units + 1 < cLine) (hk : PE X k tk) (hv : PE X v tv) : PE X (.Dict [some k] [v] pos) (fun σ H Q => ∀ p, H p = none → tk σ (upd H p (.dT [])) fun x H1 => tv σ H1 fun y H2 => ∃ (b : Addr) (ks : List Key), x = .ref b ∧ H2 p = some (.dT []) ∧ H2 b = some (.tup (ks.map kV)) ∧ Q (.ref p) (upd H2 p (.dT (putK [] ks y)))) := by
  intro pins s σ H Q I q
  have hn := I.hok.fresh (Nat.le_refl s.heap.objs.size)
  have I1 := I.laid (a := s.heap.objs.size) (o := .dT []) (h' := s.heap.push { cls := .type "dict", data := .dict #[] }) (t' := s.toks) (fun _ _ q => Heap.get?_push_of_some _ q) (Nat.le_refl _) (dt_empty s.heap I.big)
  refine wpAny_Dict_any rfl rfl (by simp) (by simp) (pairTrees_cons_walk (thn (hk pins _ σ _ _ I1 (q _ hn)) fun kv s1 ⟨x, H1, J1, r1, q1⟩ => thn (hv pins s1 σ H1 _ J1 q1) fun vv s2 ⟨y, H2, J2, r2, b, ks, ex, e, eb, q2⟩ => pairTrees_nil_walk ?_))
  subst ex
  cases (show kv = Value.ref b from r1)
  obtain ⟨z, hd, xs, rel, dd⟩ := dt_of J2.hok e
  cases rel
  unfold storeAll
  simp only [List.forIn_cons, List.forIn_nil]
  refine wpAny_bind (wpAny_bind (wpAny_dictSet_heap (knd := tupleKind (mixKind X.prog X.w)) (show X.A.units < cLine by omega) (key_of J2.hok eb) dd (fun h' dd' hs => wpAny_pure (wpAny_pure ?_)) (by simp)))
  obtain ⟨o', es, ep, hq, h2, h3, h4, _, h5⟩ := dd'
  refine ⟨.ref s.heap.objs.size, _, ?_, rfl, q2⟩
  have hl : (putK ([] : List (List Key × V)) ks y).length ≤ sizeLine := by
    rw [sizeLine_eq]; have := length_putK ([] : List (List Key × V)) ks y; simp at this; omega
  have rel0 : KT H2 [] [] := .nil
  refine d_write J2 (by rw [e]; exact True.intro) hs ⟨o', hq⟩ ⟨hl, hd, _, (rel0.put ks eb r2).keeps fun c ys ec => ?_, o', es, ep, hq, h2, h3, h4, h5⟩
  rw [upd_ne (ne_of ec e (fun z => nomatch z))]
  exact ec
end
end L2
set_option maxHeartbeats 1000000
namespace L2
open PySem PySem.Spec PyProof.Rows
end L2
set_option maxHeartbeats 400000
namespace L2
open PySem PySem.Spec PyProof.Rows
end L2
set_option maxHeartbeats 1000000
namespace PySem
end PySem
namespace PySem
end PySem
set_option maxHeartbeats 1000000
namespace L2
open PySem PySem.Spec PyProof.Rows
end L2
set_option maxHeartbeats 1000000
namespace HT
open PySem PyProof.Rows
end HT
namespace L2
open PySem PySem.Spec PyProof.Rows
end L2
set_option maxHeartbeats 4000000
namespace HT
open PySem PyProof.Rows L2
section
open PySem.SeqAt
open PySem.AutoSeq1 (wpAny_loadPart')
open PySem.MeetsSeq PySem.MeetsSeq2 PySem.MeetsSeq3
end
end HT
namespace L2
open PySem PySem.Spec PyProof.Rows
end L2
set_option maxHeartbeats 1000000
namespace L2
open PySem PySem.Spec PyProof.Rows
theorem op_neNil {X : Cx} (hu : X.A.units + 64 < cLine) : OpR X (compareOp .NotEq) (fun x y H Q => ∃ (a b : Addr) (xs : List V), x = .ref a ∧ y = .ref b ∧ SqL X.K H a xs ∧ SqL X.K H b [] ∧ Q (.bl (!xs.isEmpty)) H) := by
  intro pins s σ H x y u v Q I rx ry h
  obtain ⟨a, b, xs, rfl, rfl, ha, hb, q⟩ := h
  cases rx
  cases ry
  cases xs with
  | nil => exact op_neD hu pins s σ H (.ref a) (.ref b) _ _ Q I rfl rfl ⟨.list [], .list [], .lst ha .nil, .lst hb .nil, rfl, rfl, by decide, q⟩
  | cons x xs =>
    obtain ⟨its, r1, h1, _⟩ := I.list ha
    obtain ⟨its2, r2, h2, _⟩ := I.list hb
    have l1 := r1.length
    have l2 := r2.length
    refine SeqAt.RcNeAt.lists_lengths h1.isList h2.isList (by simp at l1 l2 ⊢; omega) (by omega) X.prog X.w _ _ ⟨.bl _, H, I, rfl, q⟩
end L2
set_option maxHeartbeats 1000000
namespace L2
open PySem PySem.Spec PyProof.Rows
end L2
set_option maxHeartbeats 1000000
namespace L2
open PySem PySem.Spec PyProof.Rows
def Flt : V → V → Bool
  | .non, .non => true
  | .non, .bl _ => true
  | .non, .int _ => true
  | .non, .str _ => true
  | .bl _, .non => true
  | .bl _, .bl _ => true
  | .bl _, .str _ => true
  | .int _, .non => true
  | .int _, .int _ => true
  | .int _, .str _ => true
  | .str _, .non => true
  | .str _, .bl _ => true
  | .str _, .int _ => true
  | .str _, .str _ => true
  | _, _ => false
def Eqs (K : PySem.W.Frag) (H : Hp) : Nat → V → V → Bool → Prop
  | 0, x, y, b => Flt x y = true ∧ b = decide (x = y)
  | n + 1, x, y, b => (Flt x y = true ∧ b = decide (x = y)) ∨
      (∃ (a c : Addr) (xs ys : List V) (e : Nat → Bool), x = .ref a ∧ y = .ref c ∧ ((SqT K H a xs ∧ SqT K H c ys) ∨ (SqL K H a xs ∧ SqL K H c ys)) ∧ (∀ (j : Nat) p q, xs[j]? = some p → ys[j]? = some q → Eqs K H n p q (e j)) ∧ b = ((List.range (min xs.length ys.length)).all e && xs.length == ys.length)) ∨
      (∃ (a : Addr) (xs : List V), x = .ref a ∧ y = .non ∧ SqT K H a xs ∧ b = false) ∨
      (∃ (a : Addr) (xs : List V), x = .non ∧ y = .ref a ∧ SqT K H a xs ∧ b = false)
theorem Eqs.flat {K : PySem.W.Frag} {H : Hp} {n : Nat} {x y : V} (h : Flt x y = true) : Eqs K H n x y (decide (x = y)) := by
  cases n with
  | zero => exact ⟨h, rfl⟩
  | succ n => exact .inl ⟨h, rfl⟩
theorem all_dec {α : Type} [DecidableEq α] {xs ys : List V} {ds es : List α} (l1 : ds.length = xs.length) (l2 : es.length = ys.length) : ((List.range (min xs.length ys.length)).all (fun j => decide (ds[j]? = es[j]?)) && xs.length == ys.length) = decide (ds = es) := by
  by_cases h : xs.length = ys.length
  · rw [Bool.eq_iff_iff, Bool.and_eq_true, List.all_eq_true, decide_eq_true_eq]
    constructor
    · rintro ⟨ha, _⟩
      refine List.ext_getElem? fun i => ?_
      by_cases hi : i < xs.length
      · exact of_decide_eq_true (ha i (List.mem_range.mpr (by omega)))
      · rw [List.getElem?_eq_none (by omega), List.getElem?_eq_none (by omega)]
    · rintro rfl
      exact ⟨fun j _ => decide_eq_true rfl, by simpa using h⟩
  · have : (xs.length == ys.length) = false := by simpa using h
    rw [this, Bool.and_false, decide_eq_false fun e => h (by rw [← l1, ← l2, e])]
theorem Eqs.seq {K : PySem.W.Frag} {H : Hp} {n : Nat} {a c : Addr} {xs ys : List V} {α : Type} [DecidableEq α] {ds es : List α} (hh : (SqT K H a xs ∧ SqT K H c ys) ∨ (SqL K H a xs ∧ SqL K H c ys)) (l1 : ds.length = xs.length) (l2 : es.length = ys.length)
    (h : ∀ (j : Nat) p q d e, xs[j]? = some p → ys[j]? = some q → ds[j]? = some d → es[j]? = some e → Eqs K H n p q (decide (d = e))) : Eqs K H (n + 1) (.ref a) (.ref c) (decide (ds = es)) := by
  refine .inr (.inl ⟨a, c, xs, ys, fun j => decide (ds[j]? = es[j]?), rfl, rfl, hh, fun j p q hp hq => ?_, (all_dec l1 l2).symm⟩)
  have j1 : j < ds.length := by rw [l1]; exact (List.getElem?_eq_some_iff.mp hp).1
  have j2 : j < es.length := by rw [l2]; exact (List.getElem?_eq_some_iff.mp hq).1
  have := h j p q ds[j] es[j] hp hq (List.getElem?_eq_getElem j1) (List.getElem?_eq_getElem j2)
  show Eqs K H n p q (decide (ds[j]? = es[j]?))
  rw [List.getElem?_eq_getElem j1, List.getElem?_eq_getElem j2]
  have e : decide (some ds[j] = some es[j]) = decide (ds[j] = es[j]) := by
    rw [Bool.eq_iff_iff, decide_eq_true_eq, decide_eq_true_eq]
    exact ⟨fun h => Option.some.inj h, fun h => by rw [h]⟩
  rw [e]; exact this
theorem Eqs.pair {K : PySem.W.Frag} {H : Hp} {n : Nat} {a c : Addr} {x1 x2 y1 y2 : V} {b1 b2 : Bool} (h1 : SqT K H a [x1, x2]) (h2 : SqT K H c [y1, y2]) (e1 : Eqs K H n x1 y1 b1) (e2 : Eqs K H n x2 y2 b2) : Eqs K H (n + 1) (.ref a) (.ref c) (b1 && b2) := by
  refine .inr (.inl ⟨a, c, _, _, fun j => if j = 0 then b1 else b2, rfl, rfl, .inl ⟨h1, h2⟩, fun j p q hp hq => ?_, ?_⟩)
  · match j, hp, hq with
    | 0, hp, hq => cases hp; cases hq; exact e1
    | 1, hp, hq => cases hp; cases hq; exact e2
    | j + 2, hp, _ => simp at hp
  · show (b1 && b2) = ((List.range 2).all (fun j => if j = 0 then b1 else b2) && (2 == 2))
    simp [List.range_succ, List.all_append]
section
variable {X : Cx} {pins : List (Addr × Obj)} {σ : St} {H : Hp} {s : Shared}
theorem eqs_refl (I : Inv X pins σ H s) : ∀ (n : Nat) {x : V} {b : Bool}, Eqs X.K H n x x b → b = true
  | 0, x, b, ⟨_, e⟩ => by rw [e, decide_eq_true rfl]
  | n + 1, x, b, h => by
    rcases h with ⟨_, e⟩ | ⟨a, c, xs, ys, e, e1, e2, hh, hj, eb⟩ | ⟨a, xs, e1, e2, _⟩ | ⟨a, xs, e1, e2, _⟩
    · rw [e, decide_eq_true rfl]
    · rw [e1] at e2
      injection e2 with e2
      subst e2
      have ex : xs = ys := by
        rcases hh with ⟨h1, h2⟩ | ⟨h1, h2⟩
        · exact I.tuple_inj h1 h2
        · exact I.list_inj h1 h2
      subst ex
      rw [eb, Bool.and_eq_true]
      refine ⟨List.all_eq_true.mpr fun j hj' => ?_, by simp⟩
      have hj' := List.mem_range.mp hj'
      have hjx : j < xs.length := by omega
      exact eqs_refl I n (hj j _ _ (List.getElem?_eq_getElem hjx) (List.getElem?_eq_getElem hjx))
    · rw [e1] at e2; cases e2
    · rw [e1] at e2; cases e2
theorem flt_at {x y : V} {v u : Value} (h : Flt x y = true) (rx : RelV x v) (ry : RelV y u) (A : Around) : SeqAt.EqAt A s v u (decide (x = y)) := by
  have sw : ∀ {b c : Bool}, SeqAt.EqAt A s v u b → b = c → SeqAt.EqAt A s v u c := fun h e => e ▸ h
  cases x <;> cases y <;> simp only [Flt, Bool.false_eq_true] at h <;> simp only [RelV] at rx ry
  · subst rx; subst ry; exact SeqAt.EqAt.same _
  · subst rx; subst ry; exact sw (SeqAt.EqAt.none_bool _) (by simp)
  · obtain ⟨t, rfl⟩ := ry; subst rx; exact sw (SeqAt.EqAt.none_int _ _) (by simp)
  · obtain ⟨t, rfl⟩ := ry; subst rx; exact sw (SeqAt.EqAt.none_str _ _) (by simp)
  · subst rx; subst ry; exact sw (SeqAt.EqAt.bool_none _) (by simp)
  · subst rx; subst ry; exact sw (SeqAt.EqAt.bool_bool _ _) (by rw [Bool.eq_iff_iff]; simp)
  · obtain ⟨t, rfl⟩ := ry; subst rx; exact sw (SeqAt.EqAt.bool_str _ _ _) (by simp)
  · obtain ⟨t, rfl⟩ := rx; subst ry; exact sw (SeqAt.EqAt.int_none _ _) (by simp)
  · obtain ⟨t, rfl⟩ := rx; obtain ⟨t', rfl⟩ := ry; exact sw (SeqAt.EqAt.int_int _ _ _ _) (by rw [Bool.eq_iff_iff]; simp)
  · obtain ⟨t, rfl⟩ := rx; obtain ⟨t', rfl⟩ := ry; exact sw (SeqAt.EqAt.int_str _ _ _ _) (by simp)
  · obtain ⟨t, rfl⟩ := rx; subst ry; exact sw (SeqAt.EqAt.str_none _ _) (by simp)
  · obtain ⟨t, rfl⟩ := rx; subst ry; exact sw (SeqAt.EqAt.str_bool _ _ _) (by simp)
  · obtain ⟨t, rfl⟩ := rx; obtain ⟨t', rfl⟩ := ry; exact sw (SeqAt.EqAt.str_int _ _ _ _) (by simp)
  · obtain ⟨t, rfl⟩ := rx; obtain ⟨t', rfl⟩ := ry; exact sw (SeqAt.EqAt.str_str _ _ _ _) (by rw [Bool.eq_iff_iff]; simp)
theorem val_at {xs : List V} {its : List Value} (r : Vals xs its) {j : Nat} (h : j < its.toArray.size) : ∃ x, xs[j]? = some x ∧ RelV x its.toArray[j] := by
  have l := r.length
  have hj : j < xs.length := by simpa [l] using h
  obtain ⟨v, e, rv⟩ := r.get (i := j) (x := xs[j]) (by simp [hj])
  have w1 : its.toArray[j] = v := by
    have := (List.getElem?_eq_some_iff.mp e).2
    simpa using this
  exact ⟨xs[j], by simp [hj], by rw [w1]; exact rv⟩
theorem in1_units (A : Around) : A.in1.units ≤ A.units + 1 := by first | exact Nat.le_refl _ | exact Nat.le_succ _
theorem eqs_at (I : Inv X pins σ H s) : ∀ (n : Nat) {x y : V} {b : Bool} {v u : Value} {A : Around}, A.units + n < cLine → Eqs X.K H n x y b → RelV x v → RelV y u → SeqAt.EqAt A s v u b
  | 0, x, y, b, v, u, A, _, ⟨h, e⟩, rx, ry => by rw [e]; exact flt_at h rx ry A
  | n + 1, x, y, b, v, u, A, hu, h, rx, ry => by
    rcases id h with ⟨h, e⟩ | ⟨a, c, xs, ys, e, rfl, rfl, hh, hj, eb⟩ | ⟨a, xs, rfl, rfl, h1, e⟩ | ⟨a, xs, rfl, rfl, h1, e⟩
    · rw [e]; exact flt_at h rx ry A
    · cases rx
      cases ry
      by_cases hne : a = c
      · subst hne
        rw [eqs_refl I (n + 1) h]
        exact SeqAt.EqAt.same _
      refine SeqAt.EqAt.of_refs hne ?_
      have iu := in1_units A
      rcases hh with ⟨h1, h2⟩ | ⟨h1, h2⟩
      · obtain ⟨its, r1, p1, _⟩ := I.tuple h1
        obtain ⟨its2, r2, p2, _⟩ := I.tuple h2
        have := SeqAt.RcAt.tuples (A := A) (e := e) p1 p2 (by omega) fun j j1 j2 => ?_
        · rw [List.size_toArray, List.size_toArray, ← r1.length, ← r2.length] at this
          rw [eb]; exact this
        · obtain ⟨p, ep, rp⟩ := val_at r1 j1
          obtain ⟨q, eq, rq⟩ := val_at r2 j2
          exact eqs_at I n (by omega) (hj j p q ep eq) rp rq
      · obtain ⟨its, r1, p1, _⟩ := I.list h1
        obtain ⟨its2, r2, p2, _⟩ := I.list h2
        have m1 := r1.length
        have m2 := r2.length
        by_cases hl : xs.length = ys.length
        · have := SeqAt.RcAt.lists (A := A) (e := e) p1.isList p2.isList (by rw [List.size_toArray, List.size_toArray]; omega) (by omega) fun j j1 j2 => ?_
          · rw [List.size_toArray, ← m1] at this
            rw [eb, hl, Nat.min_self, ← hl]
            simpa using this
          · obtain ⟨p, ep, rp⟩ := val_at r1 j1
            obtain ⟨q, eq, rq⟩ := val_at r2 j2
            exact eqs_at I n (by omega) (hj j p q ep eq) rp rq
        · have := SeqAt.RcAt.lists_lengths (A := A) p1.isList p2.isList (by rw [List.size_toArray, List.size_toArray]; simp; omega) (by omega)
          have eb' : b = false := by rw [eb]; simp [hl]
          rw [eb']; exact this
    · cases rx
      cases ry
      obtain ⟨its, r1, p1, _⟩ := I.tuple h1
      rw [e]; exact SeqAt.EqAt.tuple_none p1 (by omega)
    · cases rx
      cases ry
      obtain ⟨its, r1, p1, _⟩ := I.tuple h1
      rw [e]; exact SeqAt.EqAt.none_tuple p1 (by omega)
end
section
variable {X : Cx}
inductive REqsP (K : PySem.W.Frag) (x : V) (y : V) (H : Hp) (Q : VK) : Prop
  | mk (n : Nat) (b : Bool) (a c : Addr) : (x = .ref a) → (y = .ref c) → (n ≤ 30) → (Eqs K H (n + 1) x y b) → (Q (.bl b) H) → REqsP K x y H Q
def rEqs (K : PySem.W.Frag) : V → V → Hp → VK → Prop := fun x y H Q => REqsP K x y H Q
inductive RNesP (K : PySem.W.Frag) (x : V) (y : V) (H : Hp) (Q : VK) : Prop
  | mk (n : Nat) (b : Bool) (a c : Addr) : (x = .ref a) → (y = .ref c) → (n ≤ 30) → (Eqs K H (n + 1) x y b) → (Q (.bl (!b)) H) → RNesP K x y H Q
def rNes (K : PySem.W.Frag) : V → V → Hp → VK → Prop := fun x y H Q => RNesP K x y H Q
theorem op_eqs (hu : X.A.units + 64 < cLine) : OpR X (compareOp .Eq) (rEqs X.K) := by
  intro pins s σ H x y v u Q I rx ry h
  obtain ⟨n, b, a, c, rfl, rfl, hn, h, q⟩ := h
  cases rx
  cases ry
  have iu := in1_units X.A
  rcases h with ⟨h, _⟩ | ⟨a', c', xs, ys, e, e1, e2, hh, hj, eb⟩ | ⟨_, _, _, e2, _⟩ | ⟨_, _, e1, _⟩
  · cases h
  · cases e1
    cases e2
    rcases hh with ⟨h1, h2⟩ | ⟨h1, h2⟩
    · obtain ⟨its, r1, p1, _⟩ := I.tuple h1
      obtain ⟨its2, r2, p2, _⟩ := I.tuple h2
      refine (SeqAt.RcAt.tuples (A := X.A) (e := e) p1 p2 (by omega) fun j j1 j2 => ?_) X.prog X.w X.xe _ ⟨.bl _, H, I, rfl, ?_⟩
      · obtain ⟨p, ep, rp⟩ := val_at r1 j1
        obtain ⟨q, eq, rq⟩ := val_at r2 j2
        exact eqs_at I n (by omega) (hj j p q ep eq) rp rq
      · rw [List.size_toArray, List.size_toArray, ← r1.length, ← r2.length, ← eb]
        exact q
    · obtain ⟨its, r1, p1, _⟩ := I.list h1
      obtain ⟨its2, r2, p2, _⟩ := I.list h2
      have m1 := r1.length
      have m2 := r2.length
      by_cases hl : xs.length = ys.length
      · refine (SeqAt.RcAt.lists (A := X.A) (e := e) p1.isList p2.isList (by rw [List.size_toArray, List.size_toArray]; omega) (by omega) fun j j1 j2 => ?_) X.prog X.w X.xe _ ⟨.bl _, H, I, rfl, ?_⟩
        · obtain ⟨p, ep, rp⟩ := val_at r1 j1
          obtain ⟨q, eq, rq⟩ := val_at r2 j2
          exact eqs_at I n (by omega) (hj j p q ep eq) rp rq
        · have : b = (List.range its.toArray.size).all e := by
            rw [eb, hl, Nat.min_self, ← hl, List.size_toArray, ← m1]
            simp
          rw [← this]; exact q
      · refine (SeqAt.RcAt.lists_lengths (A := X.A) p1.isList p2.isList (by rw [List.size_toArray, List.size_toArray]; simp; omega) (by omega)) X.prog X.w X.xe _ ⟨.bl _, H, I, rfl, ?_⟩
        have eb' : b = false := by rw [eb]; simp [hl]
        rw [← eb']; exact q
  · cases e2
  · cases e1
theorem op_nes (hu : X.A.units + 64 < cLine) : OpR X (compareOp .NotEq) (rNes X.K) := by
  intro pins s σ H x y v u Q I rx ry h
  obtain ⟨n, b, a, c, rfl, rfl, hn, h, q⟩ := h
  cases rx
  cases ry
  have iu := in1_units X.A
  rcases h with ⟨h, _⟩ | ⟨a', c', xs, ys, e, e1, e2, hh, hj, eb⟩ | ⟨_, _, _, e2, _⟩ | ⟨_, _, e1, _⟩
  · cases h
  · cases e1
    cases e2
    rcases hh with ⟨h1, h2⟩ | ⟨h1, h2⟩
    · obtain ⟨its, r1, p1, _⟩ := I.tuple h1
      obtain ⟨its2, r2, p2, _⟩ := I.tuple h2
      refine (SeqAt.RcNeAt.tuples (A := X.A) (e := e) p1 p2 (by omega) fun j j1 j2 => ?_) X.prog X.w X.xe _ ⟨.bl _, H, I, rfl, ?_⟩
      · obtain ⟨p, ep, rp⟩ := val_at r1 j1
        obtain ⟨q, eq, rq⟩ := val_at r2 j2
        exact eqs_at I n (by omega) (hj j p q ep eq) rp rq
      · rw [List.size_toArray, List.size_toArray, ← r1.length, ← r2.length, ← eb]
        exact q
    · obtain ⟨its, r1, p1, _⟩ := I.list h1
      obtain ⟨its2, r2, p2, _⟩ := I.list h2
      have m1 := r1.length
      have m2 := r2.length
      by_cases hl : xs.length = ys.length
      · refine (SeqAt.RcNeAt.lists (A := X.A) (e := e) p1.isList p2.isList (by rw [List.size_toArray, List.size_toArray]; omega) (by omega) fun j j1 j2 => ?_) X.prog X.w X.xe _ ⟨.bl _, H, I, rfl, ?_⟩
        · obtain ⟨p, ep, rp⟩ := val_at r1 j1
          obtain ⟨q, eq, rq⟩ := val_at r2 j2
          exact eqs_at I n (by omega) (hj j p q ep eq) rp rq
        · have : b = (List.range its.toArray.size).all e := by
            rw [eb, hl, Nat.min_self, ← hl, List.size_toArray, ← m1]
            simp
          rw [← this]; exact q
      · refine (SeqAt.RcNeAt.lists_lengths (A := X.A) p1.isList p2.isList (by rw [List.size_toArray, List.size_toArray]; simp; omega) (by omega)) X.prog X.w X.xe _ ⟨.bl _, H, I, rfl, ?_⟩
        have eb' : b = false := by rw [eb]; simp [hl]
        rw [eb'] at q; exact q
  · cases e2
  · cases e1
end
end L2
set_option maxHeartbeats 1000000
namespace L2
open PySem PySem.Spec PyProof.Rows
end L2
set_option maxHeartbeats 1000000
namespace PySem
open PyProof.Rows
end PySem
namespace L2
open PySem PySem.Spec PyProof.Rows
end L2
set_option maxHeartbeats 1000000
namespace PySem
open PyProof.Rows
namespace F
end F
end PySem
namespace L2
open PySem PySem.Spec PyProof.Rows
end L2
set_option maxHeartbeats 1000000
namespace Wk
open PySem
end Wk
set_option maxHeartbeats 1000000
namespace L2
open PySem
theorem while_gh {c : TT} {tb : TS} {D : Ends} {σ : St} {H : Hp} (Pv : Nat → St → Hp → Prop) {m0 : Nat} (h0 : Pv m0 σ H)
    (hs : ∀ m σ H, Pv m σ H → c σ H fun b H1 => if b = true then tb { D with nx := fun σ' H' => ∃ m', m' < m ∧ Pv m' σ' H', ct := fun σ' H' => ∃ m', m' < m ∧ Pv m' σ' H', bk := D.nx } σ H1 else D.nx σ H1)
    (mono : ∀ σ H Q Q', (∀ b H1, Q b H1 → Q' b H1) → c σ H Q → c σ H Q') : tWhile c tb D σ H := by
  refine ⟨Pv, ⟨m0, h0⟩, fun m σ H p => ?_⟩
  refine mono σ H _ _ (fun b H1 q => ?_) (hs m σ H p)
  cases b with
  | true => exact ⟨_, fun _ _ h => h, q⟩
  | false => exact q
theorem same_set {H0 H : Hp} {a : Addr} {o : HO} (s : Same H0 H) (n : H0 a = none) : Same H0 (upd H a o) := fun b u e => by
  rw [upd_ne (ne_of_none e n)]; exact s b u e
theorem map_some {α β : Type} {f : α → β} {l : List α} {i : Nat} {x : β} (h : (l.map f)[i]? = some x) : ∃ z, l[i]? = some z ∧ x = f z := by
  rw [List.getElem?_map] at h
  cases q : l[i]? with
  | none => rw [q] at h; cases h
  | some z => rw [q] at h; exact ⟨z, rfl, (Option.some.inj h).symm⟩
end L2
namespace Wk
open PySem L2
end Wk
set_option maxHeartbeats 4000000
namespace K23
open PySem L2 M24
def top (i : Nat) : Stmt := PySem.Challenge.pw_joinedever_k23_pieces_of_a_stretch.main.body.getD i (.Pass ⟨0, 0, 0, 0⟩)
abbrev sPin : Stmt := top 1
abbrev sPo : Stmt := top 2
abbrev sDeck : Stmt := top 4
abbrev sTake : Stmt := top 5
abbrev sHalves : Stmt := top 6
abbrev sSize : Stmt := top 7
abbrev sStretch : Stmt := top 8
abbrev sPairs : Stmt := top 9
abbrev sRight : Stmt := top 10
abbrev sLaw : Stmt := top 11
structure Txt (mg : Str → Option Value) : Prop where
  isinstance : mg "isinstance" = none
  int : mg "int" = none
  bool : mg "bool" = none
  tuple : mg "tuple" = none
  len : mg "len" = none
  range : mg "range" = none
  sum : mg "sum" = none
  str : mg "str" = none
  max : mg "max" = none
  min : mg "min" = none
  sorted : mg "sorted" = none
  list : mg "list" = none
theorem _root_.L2.PSs.imp {X : Cx} {st : List PySem.Stmt} {t t' : TS} (h : PSs X st t) (f : ∀ D σ H, t' D σ H → t D σ H) : PSs X st t' := fun pins s σ H D I h' => h pins s σ H D I (f D σ H h')
def Prs (H : Hp) : List Addr → List (Int × Int) → Prop
  | [], [] => True
  | r :: rs, x :: xs => H r = some (.tup [.int x.1, .int x.2]) ∧ Prs H rs xs
  | _, _ => False
theorem Prs.same {H H' : Hp} (e : Same H H') : ∀ {rs : List Addr} {xs : List (Int × Int)}, Prs H rs xs → Prs H' rs xs
  | [], [], _ => trivial
  | r :: rs, x :: xs, h => ⟨e _ _ h.1, Prs.same e h.2⟩
theorem Prs.app {H : Hp} : ∀ {rs rs' : List Addr} {xs ys : List (Int × Int)}, Prs H rs xs → Prs H rs' ys → Prs H (rs ++ rs') (xs ++ ys)
  | [], _, [], _, _, h => h
  | r :: rs, _, x :: xs, _, h, h' => ⟨h.1, Prs.app h.2 h'⟩
theorem Prs.len {H : Hp} : ∀ {rs : List Addr} {xs : List (Int × Int)}, Prs H rs xs → rs.length = xs.length
  | [], [], _ => rfl
  | r :: rs, x :: xs, h => by simp [Prs.len h.2]
theorem Prs.get {H : Hp} : ∀ {rs : List Addr} {xs : List (Int × Int)} {i : Nat} {r : Addr}, Prs H rs xs → rs[i]? = some r → ∃ x, xs[i]? = some x ∧ H r = some (.tup [.int x.1, .int x.2])
  | [], [], i, r, _, e => by simp at e
  | r' :: rs, x :: xs, 0, r, h, e => by simp at e; subst e; exact ⟨x, rfl, h.1⟩
  | r' :: rs, x :: xs, i + 1, r, h, e => by
    obtain ⟨y, h1, h2⟩ := Prs.get (i := i) h.2 (by simpa using e)
    exact ⟨y, by simpa using h1, h2⟩
theorem Prs.one {H : Hp} {r : Addr} {a b : Int} (h : H r = some (.tup [.int a, .int b])) : Prs H [r] [(a, b)] := ⟨h, trivial⟩
theorem tAnd_of {t u : TT} {σ : St} {H : Hp} {Q : Bool → Hp → Prop} (x y : Bool) (h1 : ∀ Q' : Bool → Hp → Prop, Q' x H → t σ H Q') (h2 : ∀ Q' : Bool → Hp → Prop, Q' y H → u σ H Q') (h : Q (x && y) H) : tAnd t u σ H Q := by
  refine h1 _ ?_
  cases x with
  | true => exact iteT (h2 _ h)
  | false => exact iteF h
theorem tOr_of {t u : TT} {σ : St} {H : Hp} {Q : Bool → Hp → Prop} (x y : Bool) (h1 : ∀ Q' : Bool → Hp → Prop, Q' x H → t σ H Q') (h2 : ∀ Q' : Bool → Hp → Prop, Q' y H → u σ H Q') (h : Q (x || y) H) : tOr t u σ H Q := by
  refine h1 _ ?_
  cases x with
  | true => exact iteT h
  | false => exact iteF (h2 _ h)
def spPin (n : Nat) : Sp := fun vs H Q _ => ∃ (f l lo hi : Int), vs = [.int f, .int l, .int lo, .int hi] ∧ f < l ∧ l - f ≤ 2 ^ n ∧ n ≤ 6 ∧
  ∀ (a : Addr) (rs : List Addr) (H' : Hp), Same H H' → H a = none → H' a = some (.lst (rs.map V.ref)) → Prs H' rs (pin n f l lo hi) → Q (.ref a) H'
def spPo : Sp := fun vs H Q _ => ∃ (sz lo hi : Int), vs = [.int sz, .int lo, .int hi] ∧ 0 < sz ∧ sz ≤ 64 ∧
  ∀ (a : Addr) (rs : List Addr) (H' : Hp), Same H H' → H' a = some (.tup (rs.map V.ref)) → Prs H' rs (pin 6 0 sz lo hi) → Q (.ref a) H'
section
variable {P : Program} {w : World} {K : PySem.W.Frag} {mg : Str → Option Value} {base : Heap}
theorem scPin : FnScope ["first", "last", "low", "high", "middle"] ["first", "last", "low", "high"] (defScope sPin) := ⟨rfl, rfl, rfl, by decide +kernel, rfl, by decide +kernel, by decide +kernel⟩
theorem ok_pin {f : Addr} {fd : FuncData} (F : Fun K "pieces_in" "pieces_in" sPin f fd) (b : Binds K fd ["first", "last", "low", "high"] []) (hm : mg "pieces_in" = some (.ref f)) :
    ∀ n, FnOk P w K mg base CX0 (n + 1) f fd ["first", "last", "low", "high"] (spPin n) := by
  intro n
  induction n with
  | zero =>
    refine F.ok scPin (fun vs H Q E h => ?_) (fun cdv A outer s H vs Q E hr h => ?_)
    · obtain ⟨_, _, _, _, rfl, _⟩ := h; rfl
    · obtain ⟨f', l, lo, hi, rfl, h1, h2, h3, k⟩ := h
      have h2 : l - f' ≤ 1 := h2
      refine ⟨_, pss_cons (ps_if (PW.pt (pw_and (pt_cmpR op_le (pv 2) (pv 0) (nomark _)) (pw_and1 (pt_cmpR op_le (pv 1) (pv 3) (nomark _))))) (pss_one (ps_ret (pe_lst (pa_cons (pe_tup (pa_cons (pv 0) (pa_cons (pv 1) pa_nil))) pa_nil)))) pss_nil)
        (pss_cons (ps_if (PW.pt (pw_or (pt_cmpR op_le (pv 1) (pv 2) (nomark _)) (pw_or1 (pt_cmpR op_le (pv 3) (pv 0) (nomark _))))) (pss_one (ps_ret (pe_lst pa_nil))) pss_nil) pss_never), ?_⟩
      refine tAnd_of (decide (lo ≤ f')) (decide (l ≤ hi)) (fun Q' q => ⟨_, rfl, _, rfl, _, _, rfl, rfl, _, rfl, q⟩) (fun Q' q => ⟨_, rfl, _, rfl, _, _, rfl, rfl, _, rfl, q⟩) ?_
      refine ite2 (fun c => ?_) (fun c => ?_)
      · have c : lo ≤ f' ∧ l ≤ hi := by simpa using c
        refine ⟨_, rfl, _, rfl, small (by simp), fun t ht => ⟨small (by simp), fun a ha => ?_⟩⟩
        have ha' : H a = none := (same_new ht).free ha
        refine k a [t] _ ((same_new ht).trans (same_new ha)) ha' upd_same ?_
        have e : pin 0 f' l lo hi = [(f', l)] := by rw [pin, if_pos c]
        rw [e]
        exact Prs.one (same_new ha _ _ upd_same)
      · have c : ¬ (lo ≤ f' ∧ l ≤ hi) := by simpa using c
        dsimp only [tNext]
        refine tOr_of (decide (l ≤ lo)) (decide (hi ≤ f')) (fun Q' q => ⟨_, rfl, _, rfl, _, _, rfl, rfl, _, rfl, q⟩) (fun Q' q => ⟨_, rfl, _, rfl, _, _, rfl, rfl, _, rfl, q⟩) ?_
        refine ite2 (fun d => ?_) (fun d => ?_)
        · refine ⟨small (by simp), fun a ha => ?_⟩
          have e : pin 0 f' l lo hi = [] := by rw [pin, if_neg c]
          exact k a [] _ (same_new ha) ha upd_same (by rw [e]; trivial)
        · have d : ¬ (l ≤ lo ∨ hi ≤ f') := by simpa using d
          omega
  | succ n ih =>
    refine F.ok scPin (fun vs H Q E h => ?_) (fun cdv A outer s H vs Q E hr h => ?_)
    · obtain ⟨_, _, _, _, rfl, _⟩ := h; rfl
    · obtain ⟨f', l, lo, hi, rfl, h1, h2, h3, k⟩ := h
      have h2 : l - f' ≤ 2 * 2 ^ n := by rw [Int.pow_succ] at h2; omega
      refine ⟨_, pss_cons (ps_if (PW.pt (pw_and (pt_cmpR op_le (pv 2) (pv 0) (nomark _)) (pw_and1 (pt_cmpR op_le (pv 1) (pv 3) (nomark _))))) (pss_one (ps_ret (pe_lst (pa_cons (pe_tup (pa_cons (pv 0) (pa_cons (pv 1) pa_nil))) pa_nil)))) pss_nil)
        (pss_cons (ps_if (PW.pt (pw_or (pt_cmpR op_le (pv 1) (pv 2) (nomark _)) (pw_or1 (pt_cmpR op_le (pv 3) (pv 0) (nomark _))))) (pss_one (ps_ret (pe_lst pa_nil))) pss_nil)
        (pss_cons (ps_set (i := 4) scPin.nd rfl (Or.inl rfl) (pe_op op_fdiv (pe_op op_add (pv 0) (pv 1)) pe_int))
        (pss_one (ps_ret (pe_op op_cat (pe_call ih hr rfl hm F.kp b .nil pass0 (pa_cons (pv 0) (pa_cons (pv 4) (pa_cons (pv 2) (pa_cons (pv 3) pa_nil)))))
          (pe_call ih hr rfl hm F.kp b .nil pass0 (pa_cons (pv 4) (pa_cons (pv 1) (pa_cons (pv 2) (pa_cons (pv 3) pa_nil)))))))))), ?_⟩
      refine tAnd_of (decide (lo ≤ f')) (decide (l ≤ hi)) (fun Q' q => ⟨_, rfl, _, rfl, _, _, rfl, rfl, _, rfl, q⟩) (fun Q' q => ⟨_, rfl, _, rfl, _, _, rfl, rfl, _, rfl, q⟩) ?_
      refine ite2 (fun c => ?_) (fun c => ?_)
      · have c : lo ≤ f' ∧ l ≤ hi := by simpa using c
        refine ⟨_, rfl, _, rfl, small (by simp), fun t ht => ⟨small (by simp), fun a ha => ?_⟩⟩
        have ha' : H a = none := (same_new ht).free ha
        refine k a [t] _ ((same_new ht).trans (same_new ha)) ha' upd_same ?_
        have e : pin (n + 1) f' l lo hi = [(f', l)] := by rw [pin, if_pos c]
        rw [e]
        exact Prs.one (same_new ha _ _ upd_same)
      · have c : ¬ (lo ≤ f' ∧ l ≤ hi) := by simpa using c
        dsimp only [tNext]
        refine tOr_of (decide (l ≤ lo)) (decide (hi ≤ f')) (fun Q' q => ⟨_, rfl, _, rfl, _, _, rfl, rfl, _, rfl, q⟩) (fun Q' q => ⟨_, rfl, _, rfl, _, _, rfl, rfl, _, rfl, q⟩) ?_
        refine ite2 (fun d => ?_) (fun d => ?_)
        · have d : l ≤ lo ∨ hi ≤ f' := by simpa using d
          refine ⟨small (by simp), fun a ha => ?_⟩
          have e : pin (n + 1) f' l lo hi = [] := by rw [pin, if_neg c, if_pos d]
          exact k a [] _ (same_new ha) ha upd_same (by rw [e]; trivial)
        · have d : ¬ (l ≤ lo ∨ hi ≤ f') := by simpa using d
          have e : pin (n + 1) f' l lo hi = pin n f' ((f' + l) / 2) lo hi ++ pin n ((f' + l) / 2) l lo hi := by rw [pin, if_neg c, if_neg d]
          dsimp only [tNext]
          refine ⟨_, rfl, _, rfl, _, _, rfl, rfl, _, _, rfl, rfl, ⟨by decide, by decide⟩, ?_⟩
          have hp : (1 : Int) ≤ 2 ^ n := by
            have := Int.pow_pos (n := 2) (m := n) (by decide); omega
          refine ⟨_, rfl, _, rfl, _, rfl, _, rfl, _, _, _, _, rfl, by omega, by omega, by omega, fun a1 rs1 H1 s1 n1 l1 p1 => ?_⟩
          refine ⟨_, rfl, _, rfl, _, rfl, _, rfl, _, _, _, _, rfl, by omega, by omega, by omega, fun a2 rs2 H2 s2 n2 l2 p2 => ?_⟩
          have q1 := p1.len
          have q2 := p2.len
          have m1 := pin_len n f' ((f' + l) / 2) lo hi
          have m2 := pin_len n ((f' + l) / 2) l lo hi
          have m3 : 2 ^ n ≤ 2 ^ 6 := Nat.pow_le_pow_right (by decide) (by omega)
          refine ⟨a1, a2, _, _, rfl, rfl, s2 _ _ l1, l2, small (by simp; omega), fun a ha => ?_⟩
          have s3 := (s1.trans s2).trans (same_new (o := .lst (rs1.map V.ref ++ rs2.map V.ref)) ha)
          refine k a (rs1 ++ rs2) _ s3 ((s1.trans s2).free ha) (by rw [upd_same, List.map_append]) ?_
          rw [e]
          exact ((p1.same s2).app p2).same (same_new ha)
end
structure DeckAt (H : Hp) (a c : Addr) : Prop where
  ne : a ≠ c
  ex : ∃ (S k : Int) (cs : List Int), H a = some (.lst [.ref c, .int S, .int k]) ∧ H c = some (.lst (cs.map V.int)) ∧ cs.length ≤ 63
def But (a c : Addr) (H H' : Hp) : Prop := ∀ b o, H b = some o → b ≠ a → b ≠ c → H' b = some o
theorem But.trans {a c : Addr} {H H1 H2 : Hp} (h : But a c H H1) (h' : But a c H1 H2) : But a c H H2 := fun b o e n1 n2 => h' b o (h b o e n1 n2) n1 n2
theorem but_same {a c : Addr} {H H' : Hp} (h : Same H H') : But a c H H' := fun b o e _ _ => h b o e
def spDeck (K : PySem.W.Frag) : Sp := fun vs H Q _ => ∃ (s : Addr) (ns : List Int), vs = [.ref s] ∧ SqL K H s (ns.map V.int) ∧ ns.length ≤ 63 ∧
  ∀ (a c : Addr) (H' : Hp), Same H H' → H a = none → H c = none → DeckAt H' a c → Q (.ref a) H'
def spTake : Sp := fun vs H Q _ => ∃ (a c : Addr) (m : Int), vs = [.ref a, .int m] ∧ DeckAt H a c ∧ 0 < m ∧ m < 1000000 ∧
  ∀ (v : Int) (H' : Hp), 0 ≤ v → v < m → But a c H H' → DeckAt H' a c → Q (.int v) H'
theorem cut63 {ns : List Int} (h : ns.length ≤ 63) : cutV (ns.map V.int) none (some 63) = ns.map V.int := by
  unfold cutV
  rw [HT.sIx_none, show (63 : Int) = ((63 : Nat) : Int) from rfl, HT.sIx_nat]
  simp only [List.length_map, List.drop_zero]
  exact List.take_of_length_le (by simp; omega)
theorem repInts {K : PySem.W.Frag} {H : Hp} : ∀ ns : List Int, RepAll K H (ns.map V.int) (ns.map PyData.int)
  | [] => .nil
  | n :: ns => .cons (.int n) (repInts ns)
theorem layAllInts : ∀ ns : List Int, PyData.canLayAll0 (ns.map PyData.int) = true
  | [] => rfl
  | n :: ns => by rw [List.map_cons, PyData.canLayAll0, layAllInts ns]; rfl
theorem layInts (ns : List Int) : (PyData.list (ns.map PyData.int)).canLay0 = true := layAllInts ns
theorem depthAllInts : ∀ ns : List Int, PyData.depthAll (ns.map PyData.int) ≤ 1
  | [] => by decide
  | n :: ns => by
    have := depthAllInts ns
    rw [List.map_cons]
    simp only [PyData.depthAll, PyData.depth]
    omega
theorem depthInts (ns : List Int) : (PyData.list (ns.map PyData.int)).depth ≤ 20 := by
  have := depthAllInts ns
  simp only [PyData.depth]
  omega
theorem eqvNil (xs : List PyData) : PyData.eqv (.list xs) (.list []) = xs.isEmpty := by
  cases xs <;> simp [PyData.eqv, PyData.eqvAll]
section
variable {P : Program} {w : World} {K : PySem.W.Frag} {mg : Str → Option Value} {base : Heap}
theorem scPo : FnScope ["size", "low", "high"] ["size", "low", "high"] (defScope sPo) := ⟨rfl, rfl, rfl, by decide +kernel, rfl, by decide +kernel, by decide +kernel⟩
theorem ok_po {f g : Addr} {fd fg : FuncData} (F : Fun K "pieces_of" "pieces_of" sPo f fd) (T : Txt mg) (Fg : Fun K "pieces_in" "pieces_in" sPin g fg) (bg : Binds K fg ["first", "last", "low", "high"] []) (hm : mg "pieces_in" = some (.ref g)) :
    FnOk P w K mg base CX0 8 f fd ["size", "low", "high"] spPo := by
  have G : FnOk P w K mg base CX0 7 g fg ["first", "last", "low", "high"] (spPin 6) := ok_pin Fg bg hm 6
  refine F.ok scPo (fun vs H Q E h => ?_) (fun cdv A outer s H vs Q E hr h => ?_)
  · obtain ⟨_, _, _, rfl, _⟩ := h; rfl
  · obtain ⟨sz, lo, hi, rfl, h1, h2, k⟩ := h
    refine ⟨_, pss_one (ps_ret (pe_callTy call_tuple_of (by rfl) T.tuple (by decide +kernel) (pa_cons (pe_call G hr rfl hm Fg.kp bg .nil pass0 (pa_cons pe_int (pa_cons (pv 0) (pa_cons (pv 1) (pa_cons (pv 2) pa_nil))))) pa_nil))), ?_⟩
    refine ⟨_, rfl, _, rfl, _, rfl, 0, sz, lo, hi, rfl, by omega, by omega, by omega, fun a rs H' s1 n1 l1 p1 => ?_⟩
    exact ⟨a, _, rfl, .inl ⟨SqL.of l1, fun t ht => k t rs _ (s1.trans (same_new ht)) upd_same (p1.same (same_new ht))⟩⟩
theorem scDeck : FnScope ["_law_script", "_law_cells"] ["_law_script"] (defScope sDeck) := ⟨rfl, rfl, rfl, by decide +kernel, rfl, by decide +kernel, by decide +kernel⟩
theorem ok_deck {f : Addr} {fd : FuncData} (F : Fun K "_law_deck" "_law_deck" sDeck f fd) (T : Txt mg) : FnOk P w K mg base CX0 1 f fd ["_law_script"] (spDeck K) := by
  refine F.ok scDeck (fun vs H Q E h => ?_) (fun cdv A outer s H vs Q E hr h => ?_)
  · obtain ⟨_, _, rfl, _⟩ := h; rfl
  · obtain ⟨sa, ns, rfl, hS, hl, k⟩ := h
    refine ⟨_, pss_cons (ps_set (i := 1) scDeck.nd rfl (Or.inl rfl) (pe_callTy call_list_of (by rfl) T.list (by decide +kernel) (pa_cons (pe_slice sl_list (pv 0) po_none (po_some pe_int)) pa_nil)))
      (pss_one (ps_ret (pe_lst (pa_cons (pe_rev (pv 1) (po_some (pe_un un_neg pe_int)) (fun o i => [o, i]) (fun _ _ => by with_unfolding_all rfl)) (pa_cons (pe_op op_add (pe_op op_mod (pe_callB (call_sum rfl) (by rfl) T.sum PyProof.Rows.boot_sum (pa_cons (pv 1) pa_nil)) pe_int)
        (pe_callB call_len_seq (by rfl) T.len PySem.boot_len (pa_cons (pv 1) pa_nil))) (pa_cons pe_int pa_nil)))))), ?_⟩
    refine ⟨_, rfl, 63, rfl, sa, _, rfl, hS, fun p hp => ?_⟩
    rw [cut63 hl]
    refine ⟨p, _, rfl, .inl (SqL.of upd_same), fun d hd => ?_⟩
    refine ⟨_, rfl, _, rfl, _, rfl, rfl, d, _, rfl, SqL.of upd_same, fun c hc => ?_⟩
    have e1 : Same H (upd (upd (upd H p (.lst (ns.map V.int))) d (.lst (ns.map V.int))) c (.lst (ns.map V.int).reverse)) := ((same_new hp).trans (same_new hd)).trans (same_new hc)
    have cd : upd (upd (upd H p (.lst (ns.map V.int))) d (.lst (ns.map V.int))) c (.lst (ns.map V.int).reverse) d = some (.lst (ns.map V.int)) := same_new hc _ _ upd_same
    refine ⟨_, rfl, d, ns, rfl, SqL.of cd, _, _, rfl, rfl, (by show (0 : Int) < 2147483629; decide), _, rfl, d, _, rfl, .inl (SqL.of cd), _, _, rfl, rfl, small (by simp), fun a ha => ?_⟩
    refine k a c _ (e1.trans (same_new ha)) (e1.free ha) (((same_new hp).trans (same_new hd)).free hc) ⟨?_, _, _, ns.reverse, upd_same, ?_, by simpa using hl⟩
    · exact (ne_of_none upd_same ha).symm
    · rw [upd_ne (ne_of_none upd_same ha), upd_same, List.map_reverse]
theorem scTake : FnScope ["_law_deck_here", "_law_most", "_law_number"] ["_law_deck_here", "_law_most"] (defScope sTake) := ⟨rfl, rfl, rfl, by decide +kernel, rfl, by decide +kernel, by decide +kernel⟩
def tMix : TS := fun D σ H => ∃ (a c : Addr) (m num S k : Int) , σ = [some (.ref a), some (.int m), some (.int num)] ∧ H a = some (.lst [.ref c, .int S, .int k]) ∧ 0 < m ∧ ∀ v, 0 ≤ v → v < m → D.rt (.int v) H
theorem ok_take {f : Addr} {fd : FuncData} (F : Fun K "_law_take" "_law_take" sTake f fd) : FnOk P w K mg base CX0 1 f fd ["_law_deck_here", "_law_most"] spTake := by
  refine F.ok scTake (fun vs H Q E h => ?_) (fun cdv A outer s H vs Q E hr h => ?_)
  · obtain ⟨_, _, _, rfl, _⟩ := h; rfl
  · obtain ⟨a, c, m, rfl, DA, h1, h2, k⟩ := h
    obtain ⟨nac, S, k0, cs, ha, hc, hl⟩ := id DA
    refine ⟨_, pss_cons (ps_asg (pe_op op_add (pe_ix ix_list (pv 0) pe_int (fun _ _ => rfl)) pe_int) (pg_sub (pv 0) pe_int set_list))
      (pss_cons (ps_set (i := 2) scTake.nd rfl (Or.inl rfl) (pe_ix ix_list (pv 0) pe_int (fun _ _ => rfl)))
      (pss_cons (ps_if (pt_cmpR (op_neD hr.units) (pe_ix ix_list (pv 0) pe_int (fun _ _ => rfl)) (pe_lst pa_nil) (nomark _))
        (pss_cons (ps_set (i := 2) scTake.nd rfl (Or.inl rfl) (pe_bm0 PySem.F.plainAttrs_list PySem.F.slot_list_pop PySem.F.type_list_pop mt_pop (pe_ix ix_list (pv 0) pe_int (fun _ _ => rfl))))
        (pss_one (ps_if (pt_cmpR op_ge (pv 2) (pe_op op_pow pe_int pe_int) (nomark _))
          (pss_cons (ps_expr (pe_bm PySem.F.plainAttrs_list PySem.F.slot_list_append PySem.F.type_list_append mt_append (pe_ix ix_list (pv 0) pe_int (fun _ _ => rfl)) (pa_cons (pe_op op_fdiv (pv 2) (pv 1)) pa_nil)))
          (pss_one (ps_ret (pe_op op_mod (pv 2) (pv 1))))) pss_nil))) pss_nil)
      (PSs.imp (t' := tMix) (pss_cons (ps_set (i := 2) scTake.nd rfl (Or.inl rfl) (pe_op op_mod (pe_op op_add (pe_op op_add (pe_op op_mul (pe_op op_mod (pv 2) pe_int) pe_int) (pe_op op_mul pe_int (pe_ix ix_list (pv 0) pe_int (fun _ _ => rfl)))) pe_int) pe_int))
        (pss_cons (ps_set (i := 2) scTake.nd rfl (Or.inl rfl) (pe_op op_mod (pe_op op_mul (pv 2) (pv 2)) pe_int))
        (pss_one (ps_ret (pe_op op_mod (pe_op op_fdiv (pe_op op_mod (pe_op op_mul (pv 2) (pe_op op_add (pv 2) pe_int)) pe_int) pe_int) (pv 1)))))) ?f))), ?_⟩
    case f =>
      rintro D σ H' ⟨a, c, m, num, S, k0, rfl, ha, hm, q⟩
      refine ⟨_, rfl, _, _, rfl, rfl, (by show (0 : Int) < 2147483647; decide), _, _, rfl, rfl, .inr ⟨by decide, by decide⟩, _, rfl, a, _, 2, _, rfl, rfl, SqL.of ha, rfl, _, _, rfl, rfl, .inl ⟨by decide, by decide⟩, _, _, rfl, rfl, _, _, rfl, rfl, _, _, rfl, rfl, (by show (0 : Int) < 2147483629; decide), ?_⟩
      generalize (num % 2147483647 * 48271 + 69621 * k0 + 7919) = z1
      have b1 := Int.emod_nonneg z1 (show (2147483629 : Int) ≠ 0 by decide)
      have b2 := Int.emod_lt_of_pos z1 (show (0 : Int) < 2147483629 by decide)
      generalize z1 % 2147483629 = z2 at b1 b2
      refine ⟨_, rfl, _, rfl, _, _, rfl, rfl, .inl ⟨by omega, by omega⟩, _, _, rfl, rfl, (by show (0 : Int) < 2147483587; decide), ?_⟩
      generalize z2 * z2 = z3
      have b3 := Int.emod_nonneg z3 (show (2147483587 : Int) ≠ 0 by decide)
      have b4 := Int.emod_lt_of_pos z3 (show (0 : Int) < 2147483587 by decide)
      generalize z3 % 2147483587 = z4 at b3 b4
      refine ⟨_, rfl, _, rfl, _, _, rfl, rfl, _, _, rfl, rfl, .inl ⟨by omega, by omega⟩, _, _, rfl, rfl, (by show (0 : Int) < 2147483563; decide), _, _, rfl, rfl, ⟨by decide, by decide⟩, _, rfl, _, _, rfl, rfl, hm, ?_⟩
      exact q _ (Int.emod_nonneg _ (by omega)) (Int.emod_lt_of_pos _ hm)
    refine ⟨_, rfl, a, _, 2, _, rfl, rfl, SqL.of ha, rfl, _, _, rfl, rfl, _, rfl, a, _, 2, 2, rfl, rfl, ha, rfl, ?_⟩
    generalize hH1 : upd H a _ = H1
    have ha1 : H1 a = some (.lst [.ref c, .int S, .int (k0 + 1)]) := by rw [← hH1]; exact upd_same
    have ne2 : ∀ {b : Addr} {o : HO}, H b = some o → b ≠ a → H1 b = some o := fun {b o} e n => by rw [← hH1, upd_ne n]; exact e
    refine ⟨_, rfl, a, _, 1, _, rfl, rfl, SqL.of ha1, rfl, ?_⟩
    refine ⟨_, rfl, a, _, 0, _, rfl, rfl, SqL.of ha1, rfl, small (by simp), fun e he => ?_⟩
    have s2 := same_new (o := .lst []) he
    have he2 : upd H1 e (.lst []) e = some (.lst []) := upd_same
    generalize upd H1 e (.lst []) = H2 at s2 he2
    have ha2 := s2 _ _ ha1
    have hc2 := s2 _ _ (ne2 hc nac.symm)
    have bt : But a c H H2 := fun b o e n1 n2 => s2 _ _ (ne2 e n1)
    refine ⟨.list (cs.map PyData.int), .list [], .lst (SqL.of hc2) (repInts cs), .lst (SqL.of he2) .nil, layInts cs, rfl, depthInts cs, _, rfl, ?_⟩
    rw [eqvNil]
    refine ite2 (fun d => ?_) (fun d => ?_)
    · -- a cell
      have d : cs ≠ [] := by cases cs with
        | nil => simp at d
        | cons _ _ => simp
      obtain ⟨init, z, rfl⟩ : ∃ init z, cs = init ++ [z] := ⟨cs.dropLast, cs.getLast d, (List.dropLast_concat_getLast d).symm⟩
      have hli : init.length + 1 ≤ 63 := by simpa using hl
      refine ⟨_, rfl, a, _, 0, _, rfl, rfl, SqL.of ha2, rfl, .inl ⟨rfl, _, SqL.of hc2⟩, c, _, .int z, rfl, rfl, hc2, (by simp), ?_⟩
      have e3 : (List.map V.int (init ++ [z])).dropLast = init.map V.int := by rw [← List.map_dropLast]; simp
      rw [e3]
      have ha3 : upd H2 c (.lst (init.map V.int)) a = some (.lst [.ref c, .int S, .int (k0 + 1)]) := by rw [upd_ne nac]; exact ha2
      have bt3 : But a c H (upd H2 c (.lst (init.map V.int))) := fun b o e n1 n2 => by rw [upd_ne n2]; exact bt b o e n1 n2
      refine ⟨_, rfl, _, _, rfl, rfl, ⟨by decide, by decide, by decide⟩, _, _, rfl, rfl, _, rfl, ?_⟩
      refine ite2 (fun g => ?_) (fun g => ?_)
      · refine ⟨_, rfl, a, _, 0, _, rfl, rfl, SqL.of ha3, rfl, .inl ⟨rfl, _, SqL.of upd_same⟩, _, rfl, _, rfl, _, _, rfl, rfl, ⟨h1, by omega⟩, c, _, _, rfl, rfl, upd_same, small (n := _ + 1) (by simp; omega), ?_⟩
        refine ⟨_, rfl, _, rfl, _, _, rfl, rfl, h1, ?_⟩
        refine k _ _ (Int.emod_nonneg _ (by omega)) (Int.emod_lt_of_pos _ h1) (fun b o e n1 n2 => by rw [upd_ne n2]; exact bt3 b o e n1 n2) ⟨nac, S, k0 + 1, init ++ [z / m], ?_, ?_, by simpa using hli⟩
        · rw [upd_ne nac]; exact ha3
        · rw [upd_same, List.map_append]; rfl
      · exact ⟨a, c, m, z, S, k0 + 1, rfl, ha3, h1, fun v v1 v2 => k v _ v1 v2 bt3 ⟨nac, S, k0 + 1, init, ha3, upd_same, by omega⟩⟩
    · exact ⟨a, c, m, S, S, k0 + 1, rfl, ha2, h1, fun v v1 v2 => k v _ v1 v2 bt ⟨nac, S, k0 + 1, cs, ha2, hc2, hl⟩⟩
end
end K23
set_option maxHeartbeats 1000000
namespace Wk
open PySem L2
end Wk
set_option maxHeartbeats 1000000
namespace Wk
open PySem L2
theorem nodup_le {α : Type} [DecidableEq α] : ∀ (xs ys : List α), xs.Nodup → (∀ x ∈ xs, x ∈ ys) → xs.length ≤ ys.length
  | [], _, _, _ => Nat.zero_le _
  | x :: xs, ys, nd, h => by
    have nd := List.nodup_cons.mp nd
    have hx := h x (List.mem_cons_self ..)
    have := nodup_le xs (ys.erase x) nd.2 fun y hy => (List.mem_erase_of_ne (fun e => nd.1 (by rw [← e]; exact hy))).mpr (h y (List.mem_cons_of_mem _ hy))
    rw [List.length_erase_of_mem hx] at this
    have := List.length_pos_of_mem hx
    rw [List.length_cons]; omega
end Wk
set_option maxHeartbeats 4000000
namespace K23
open PySem L2 M24 Wk
def kk (x : Int × Int) : List Key := [.inl x.1, .inl x.2]
theorem kk_inj {x y : Int × Int} (h : kk x = kk y) : x = y := by
  unfold kk at h
  injection h with h1 h2
  injection h2 with h2 _
  injection h1 with h1
  injection h2 with h2
  exact Prod.ext h1 h2
theorem keys_put {κ : Type} [DecidableEq κ] {kvs : List (κ × V)} {k : κ} {v : V} (nd : (kvs.map (·.1)).Nodup) : ((putK kvs k v).map (·.1)).Nodup := by
  cases e : valV kvs k with
  | none => exact nd_putK v nd e
  | some w =>
    unfold putK
    rw [valV_any, e]
    show (((kvs.map fun kv => if kv.1 = k then (kv.1, v) else kv)).map (·.1)).Nodup
    rw [List.map_map]
    have : ((fun x : κ × V => x.1) ∘ fun kv => if kv.1 = k then (kv.1, v) else kv) = (·.1) := by funext q; show (if q.1 = k then (q.1, v) else q).1 = q.1; split <;> rfl
    rw [this]; exact nd
structure Abv (n : Int) (H : Hp) (kvs : List (List Key × V)) : Prop where
  nd : (kvs.map (·.1)).Nodup
  ks : ∀ k ∈ kvs.map (·.1), ∃ x ∈ hv 6 0 n, k = kk x
  vs : ∀ x v, valV kvs (kk x) = some v → v = .non ∨ ∃ (r : Addr) (p : Int × Int), v = .ref r ∧ H r = some (.tup [.int p.1, .int p.2]) ∧ p ∈ hv 6 0 n ∧ 1 < p.2 - p.1 ∧ (x = lef p ∨ x = rig p)
def Has (kvs : List (List Key × V)) (x : Int × Int) : Prop := (valV kvs (kk x)).isSome = true
theorem Has.put {kvs : List (List Key × V)} {x y : Int × Int} {v : V} (h : Has kvs x) : Has (putK kvs (kk y) v) x := by
  unfold Has at h ⊢
  rw [valV_put]
  split
  · rfl
  · exact h
theorem Has.self {kvs : List (List Key × V)} {y : Int × Int} {v : V} : Has (putK kvs (kk y) v) y := by
  unfold Has
  rw [valV_put, if_pos rfl]; rfl
theorem Has.of_put {kvs : List (List Key × V)} {x y : Int × Int} {v : V} (h : Has (putK kvs (kk y) v) x) : Has kvs x ∨ x = y := by
  unfold Has at h ⊢
  rw [valV_put] at h
  split at h
  · rename_i e; exact .inr (kk_inj e)
  · exact .inl h
theorem Abv.hv {n : Int} {H : Hp} {kvs : List (List Key × V)} (A : Abv n H kvs) {x : Int × Int} (h : Has kvs x) : x ∈ M24.hv 6 0 n := by
  unfold Has at h
  obtain ⟨v, e⟩ := Option.isSome_iff_exists.mp h
  obtain ⟨y, hy, e'⟩ := A.ks _ (valV_in e)
  rw [kk_inj e']; exact hy
theorem Abv.mono {n : Int} {H H' : Hp} {kvs : List (List Key × V)} (A : Abv n H kvs) (t : ∀ r zs, H r = some (.tup zs) → H' r = some (.tup zs)) : Abv n H' kvs := ⟨A.nd, A.ks, fun x v e => (A.vs x v e).imp id fun ⟨r, p, a, b, c⟩ => ⟨r, p, a, t _ _ b, c⟩⟩
theorem Abv.put {n : Int} {H : Hp} {kvs : List (List Key × V)} (A : Abv n H kvs) {q : Addr} {x y : Int × Int} (hq : H q = some (.tup [.int x.1, .int x.2])) (hx : x ∈ M24.hv 6 0 n) (hy : y ∈ M24.hv 6 0 n) (hw : 1 < x.2 - x.1) (h : y = lef x ∨ y = rig x) : Abv n H (putK kvs (kk y) (.ref q)) := by
  refine ⟨keys_put A.nd, fun k hk => ?_, fun z v e => ?_⟩
  · by_cases e : k = kk y
    · exact ⟨y, hy, e⟩
    · refine A.ks k ?_
      cases z : valV (putK kvs (kk y) (.ref q)) k with
      | none => exact absurd hk (valV_not z)
      | some w =>
        rw [valV_put, if_neg e] at z
        exact valV_in z
  · rw [valV_put] at e
    split at e
    · rename_i ez
      cases e
      rw [kk_inj ez]
      exact .inr ⟨q, x, rfl, hq, hx, hw, h⟩
    · exact A.vs z v e
theorem Abv.len {n : Int} {H : Hp} {kvs : List (List Key × V)} (A : Abv n H kvs) : kvs.length ≤ 127 := by
  have := nodup_le (kvs.map (·.1)) ((M24.hv 6 0 n).map kk) A.nd fun k hk => by
    obtain ⟨x, hx, e⟩ := A.ks k hk
    exact List.mem_map.mpr ⟨x, hx, e.symm⟩
  rw [List.length_map, List.length_map] at this
  have := hv_len 6 0 n
  have e : 2 ^ (6 + 1) = 128 := rfl
  omega
abbrev Pw := List (Addr × (Int × Int))
def PwAt (H : Hp) (ps : Pw) : Prop := ∀ p ∈ ps, H p.1 = some (.tup [.int p.2.1, .int p.2.2])
theorem PwAt.mono {H H' : Hp} {ps : Pw} (h : PwAt H ps) (t : ∀ r zs, H r = some (.tup zs) → H' r = some (.tup zs)) : PwAt H' ps := fun p hp => t _ _ (h p hp)
def wt (x : Int × Int) : Nat := (2 * (x.2 - x.1) - 1).toNat
def wsum (ps : Pw) : Nat := (ps.map fun p => wt p.2).sum
theorem wsum_app (a b : Pw) : wsum (a ++ b) = wsum a + wsum b := by unfold wsum; rw [List.map_append, List.sum_append]
theorem wsum_one (p : Addr × (Int × Int)) : wsum [p] = wt p.2 := by unfold wsum; simp
theorem wsum_len : ∀ {ps : Pw}, (∀ p ∈ ps, 1 ≤ wt p.2) → ps.length ≤ wsum ps
  | [], _ => Nat.zero_le _
  | p :: ps, h => by
    have := wsum_len (ps := ps) fun q hq => h q (List.mem_cons_of_mem _ hq)
    have h1 := h p (List.mem_cons_self ..)
    have e : wsum (p :: ps) = wt p.2 + wsum ps := by unfold wsum; simp
    rw [e, List.length_cons]; omega
theorem wt_pos {n : Int} {x : Int × Int} (n0 : 0 < n) (n64 : n ≤ 64) (h : x ∈ hv 6 0 n) : 1 ≤ wt x := by
  have := hv_in 6 0 n n0 (by have : (2 : Int) ^ 6 = 64 := rfl; omega) x h
  unfold wt; omega
structure AbvAll (n : Int) (H : Hp) (kvs : List (List Key × V)) : Prop where
  ab : Abv n H kvs
  ro : Has kvs (0, n)
  cl : ∀ x, Has kvs x → 1 < x.2 - x.1 → Has kvs (lef x) ∧ Has kvs (rig x)
def spHalves : Sp := fun vs H Q _ => ∃ n : Int, vs = [.int n] ∧ 0 < n ∧ n ≤ 64 ∧ ∀ (d : Addr) (kvs : List (List Key × V)) (H' : Hp), Same H H' → H d = none → H' d = some (.dT kvs) → AbvAll n H' kvs → Q (.ref d) H'
section
variable {P : Program} {w : World} {K : PySem.W.Frag} {mg : Str → Option Value} {base : Heap}
theorem scHalves : FnScope ["_law_size_here", "_law_found", "_law_waiting", "_law_low", "_law_high", "_law_middle", "_law_half"] ["_law_size_here"] (defScope sHalves) := ⟨rfl, rfl, rfl, by decide +kernel, rfl, by decide +kernel, by decide +kernel⟩
theorem ok_Halves {f : Addr} {fd : FuncData} (F : Fun K "_law_halves" "_law_halves" sHalves f fd) (T : Txt mg) :
    FnOk P w K mg base CX0 1 f fd ["_law_size_here"] spHalves := by
  refine F.ok scHalves (fun vs H Q E h => ?_) (fun cdv A outer s H vs Q E hr h => ?_)
  · obtain ⟨_, rfl, _⟩ := h; rfl
  · obtain ⟨n, rfl, n0, n64, k⟩ := h
    refine ⟨_, pss_cons (ps_set (i := 1) scHalves.nd rfl (Or.inl rfl) (pe_disp1T (hu_of hr) (pe_tup (pa_cons pe_int (pa_cons (pv 0) pa_nil))) pe_non))
      (pss_cons (ps_set (i := 2) scHalves.nd rfl (Or.inl rfl) (pe_lst (pa_cons (pe_tup (pa_cons pe_int (pa_cons (pv 0) pa_nil))) pa_nil)))
      (pss_cons (ps_while PassesOwn.never (pt_cmpR (op_neNil hr.units) (pv 2) (pe_lst pa_nil) (nomark _)) (pss_cons (ps_asg (pe_bm0 PySem.F.plainAttrs_list PySem.F.slot_list_pop PySem.F.type_list_pop mt_pop (pv 2)) (pg_tup rfl (pgs_cons (pg_name (i := 3) scHalves.nd rfl (Or.inl rfl)) (pgs_cons (pg_name (i := 4) scHalves.nd rfl (Or.inl rfl)) pgs_nil))))
      (pss_one (ps_if (pt_cmpR op_gt (pe_op op_sub (pv 4) (pv 3)) pe_int (nomark _)) (pss_cons (ps_set (i := 5) scHalves.nd rfl (Or.inl rfl) (pe_op op_fdiv (pe_op op_add (pv 3) (pv 4)) pe_int))
      (pss_one (ps_for PassesOwn.never rfl (pi_list (pe_lst (pa_cons (pe_tup (pa_cons (pv 3) (pa_cons (pv 5) pa_nil))) (pa_cons (pe_tup (pa_cons (pv 5) (pa_cons (pv 4) pa_nil))) pa_nil)))) (pg_name (i := 6) scHalves.nd rfl (Or.inl rfl)) (pss_cons (ps_dput (hu_of hr) (pv 1) (pv 6) (pe_tup (pa_cons (pv 3) (pa_cons (pv 4) pa_nil))) rfl)
      (pss_one (ps_expr (pe_bm PySem.F.plainAttrs_list PySem.F.slot_list_append PySem.F.type_list_append mt_append (pv 2) (pa_cons (pv 6) pa_nil)))))))) pss_nil))))
      (pss_one (ps_ret (pv 1))))), ?_⟩
    intro d hd
    refine ⟨_, rfl, small (by simp), fun t0 ht0 => ?_⟩
    have td : t0 ≠ d := fun e => by rw [e, upd_same] at ht0; cases ht0
    refine ⟨t0, kk (0, n), rfl, by rw [upd_ne td.symm]; exact upd_same, upd_same, ?_⟩
    have hH : (0, n) ∈ hv 6 0 n := hv_self 6 0 n
    obtain ⟨kv0, ek⟩ : ∃ kv0, kv0 = putK ([] : List (List Key × V)) (kk (0, n)) .non := ⟨_, rfl⟩
    have A0 : ∀ H', Abv n H' kv0 := fun H' => by
      rw [ek]
      refine ⟨keys_put (by simp), fun k hk => ?_, fun x v e => ?_⟩
      · cases z : valV (putK ([] : List (List Key × V)) (kk (0, n)) .non) k with
        | none => exact absurd hk (valV_not z)
        | some w =>
          rw [valV_put] at z
          split at z
          · rename_i e; exact ⟨_, hH, e⟩
          · cases z
      · rw [valV_put] at e
        split at e
        · cases e; exact .inl rfl
        · cases e
    have R0 : Has kv0 (0, n) := by rw [ek]; exact Has.self
    have O0 : ∀ x, Has kv0 x → x = (0, n) := fun x h => by
      rw [ek] at h
      rcases h.of_put with z | z
      · cases z
      · exact z
    rw [show putK ([] : List (List Key × V)) (kk (0, n)) .non = kv0 from ek.symm]
    clear ek
    have s1 : Same H (upd (upd (upd H d (.dT [])) t0 (.tup [.int 0, .int n])) d (.dT kv0)) := same_set ((same_new hd).trans (same_new ht0)) hd
    have d1 := upd_same (H := upd (upd H d (.dT [])) t0 (.tup [.int 0, .int n])) (a := d) (o := .dT kv0)
    generalize upd (upd (upd H d (.dT [])) t0 (.tup [.int 0, .int n])) d (.dT kv0) = H1 at s1 d1
    clear td ht0
    refine ⟨_, rfl, small (by simp), fun t1 ht1 => ?_⟩
    have s2 := same_new (o := .tup [.int 0, .int n]) ht1
    have t2 := upd_same (H := H1) (a := t1) (o := .tup [.int 0, .int n])
    generalize upd H1 t1 (.tup [.int 0, .int n]) = H2 at s2 t2
    refine ⟨small (by simp), fun W hW => ?_⟩
    have s3 := same_new (o := .lst [.ref t1]) hW
    have W3 := upd_same (H := H2) (a := W) (o := .lst [.ref t1])
    have d3 := s3 _ _ (s2 _ _ d1)
    have S3 := (s1.trans s2).trans s3
    have t3 := s3 _ _ t2
    have W0 : H W = none := none_of (s1.trans s2) hW
    generalize upd H2 W (.lst [.ref t1]) = H3 at s3 W3 d3 S3 t3
    clear s1 s2 s3 d1 t2 hW ht1
    have Wd : W ≠ d := (ne_of d3 W3 (by intro z; cases z)).symm
    dsimp only [gName, tSeq]
    refine while_gh (fun m σ H8 => ∃ (u3 u4 u5 u6 : Option V) (kvs : List (List Key × V)) (ps : Pw), σ = [some (.int n), some (.ref d), some (.ref W), u3, u4, u5, u6] ∧ Same H H8 ∧ H8 d = some (.dT kvs) ∧ Abv n H8 kvs ∧ H8 W = some (.lst (ps.map fun p => V.ref p.1)) ∧ PwAt H8 ps ∧ (∀ p ∈ ps, Has kvs p.2) ∧ Has kvs (0, n) ∧ (∀ x, Has kvs x → 1 < x.2 - x.1 → (Has kvs (lef x) ∧ Has kvs (rig x)) ∨ x ∈ ps.map (·.2)) ∧ m = wsum ps ∧ m ≤ 127)
      (m0 := wsum [(t1, (0, n))]) ⟨_, _, _, _, kv0, [(t1, (0, n))], rfl, S3, d3, A0 _, W3, fun p hp => by rw [List.mem_singleton.mp hp]; exact t3, fun p hp => by rw [List.mem_singleton.mp hp]; exact R0, R0, fun x hx _ => .inr (by rw [O0 x hx]; simp), rfl, by rw [wsum_one]; unfold wt; simp; omega⟩ ?_ ?_
    rotate_left
    · rintro σ H Q Q' f ⟨v4, e4, z0, h⟩
      exact ⟨v4, e4, z0, fun p hp => let ⟨a, b, xs, ea, eb, sa, sb, bb, ebb, q⟩ := h p hp; ⟨a, b, xs, ea, eb, sa, sb, bb, ebb, f _ _ q⟩⟩
    clear O0 R0 A0 t3 d3 W3 S3 kv0
    rintro m σ H8 ⟨u3, u4, u5, u6, kvs, ps, rfl, s8, d8, A8, W8, p8, h8, ro8, c8, hm, m8⟩
    refine ⟨_, rfl, small (by simp), fun e he => ?_⟩
    have s9 := same_new (o := .lst []) he
    have e9 := upd_same (H := H8) (a := e) (o := .lst [])
    have S9 := s8.trans s9
    have d9 := s9 _ _ d8
    have W9 := s9 _ _ W8
    have A9 := A8.mono fun r zs e => s9 _ _ e
    have p9 := p8.mono fun r zs e => s9 _ _ e
    generalize upd H8 e (.lst []) = H9 at s9 e9 S9 d9 W9 A9 p9
    clear s8 d8 A8 W8 p8
    refine ⟨W, e, _, rfl, rfl, SqL.of W9, SqL.of e9, _, rfl, ?_⟩
    rcases List.eq_nil_or_concat ps with rfl | ⟨ps', ⟨r, x⟩, rfl⟩
    · refine iteF ⟨_, rfl, k d kvs H9 S9 hd d9 ⟨A9, ro8, fun x hx hw => (c8 x hx hw).resolve_right (by simp)⟩⟩
    rw [List.concat_eq_append] at W9 p9 h8 c8 hm ⊢
    rw [show (!((ps' ++ [(r, x)]).map fun p => V.ref p.1).isEmpty) = true by cases ps' <;> rfl]
    refine iteT ?_
    have er := p9 (r, x) (by simp)
    have hx := h8 (r, x) (by simp)
    have xh := A9.hv hx
    have xi := hv_in 6 0 n n0 (by have : (2 : Int) ^ 6 = 64 := rfl; omega) x xh
    refine ⟨_, rfl, .inl ⟨rfl, _, SqL.of W9⟩, W, _, .ref r, rfl, rfl, W9, (by rw [List.map_append]; simp), ?_⟩
    have tkA : ∀ (o : HO) r zs, H9 r = some (.tup zs) → upd H9 W o r = some (.tup zs) := fun o r zs e => by rw [upd_ne (ne_of e W9 (by intro z; cases z))]; exact e
    have eW : ((ps' ++ [(r, x)]).map fun p => V.ref p.1).dropLast = ps'.map fun p => V.ref p.1 := by rw [List.map_append]; exact List.dropLast_concat
    rw [eW]
    have WA := upd_same (H := H9) (a := W) (o := .lst (ps'.map fun p => V.ref p.1))
    have SA : Same H (upd H9 W (.lst (ps'.map fun p => V.ref p.1))) := same_set S9 W0
    have dA : upd H9 W (.lst (ps'.map fun p => V.ref p.1)) d = some (.dT kvs) := by rw [upd_ne Wd.symm]; exact d9
    have AA := A9.mono fun r zs e => tkA (.lst (ps'.map fun p => V.ref p.1)) r zs e
    have pA := p9.mono fun r zs e => tkA (.lst (ps'.map fun p => V.ref p.1)) r zs e
    generalize upd H9 W (.lst (ps'.map fun p => V.ref p.1)) = HA at WA SA dA AA pA
    have erA := pA (r, x) (by simp)
    have pA : PwAt HA ps' := fun p hp => pA p (by simp [hp])
    have hA : ∀ p ∈ ps', Has kvs p.2 := fun p hp => h8 p (by simp [hp])
    have hm : m = wsum ps' + wt x := by rw [hm, wsum_app, wsum_one]
    have pl : ps'.length ≤ wsum ps' := wsum_len fun p hp => wt_pos n0 n64 (AA.hv (hA p hp))
    have wx : (wt x : Int) = 2 * (x.2 - x.1) - 1 := by unfold wt; omega
    clear tkA eW W9 d9 A9 p9 S9 s9 e9 h8 he
    refine ⟨r, _, rfl, SqT.of erA, rfl, _, _, rfl, _, _, rfl, rfl, ?_⟩
    refine ⟨_, rfl, _, rfl, _, _, rfl, rfl, _, _, rfl, rfl, _, rfl, ite2 (fun g => ?_) fun g => ?_⟩
    rotate_left
    · have g : ¬ (1 < x.2 - x.1) := fun h => g (decide_eq_true h)
      refine ⟨wsum ps', by omega, _, _, _, _, kvs, ps', rfl, SA, dA, AA, WA, pA, hA, ro8, fun y hy hw => ?_, rfl, by omega⟩
      · rcases c8 y hy hw with z | z
        · exact .inl z
        · rw [List.map_append] at z
          rcases List.mem_append.mp z with z | z
          · exact .inr z
          · have : y = x := by simpa using z
            rw [this] at hw
            exact absurd hw g
    have hw : 1 < x.2 - x.1 := of_decide_eq_true g
    have e64 : n - 0 ≤ (2 : Int) ^ 6 := by have : (2 : Int) ^ 6 = 64 := rfl; omega
    obtain ⟨hl, hg⟩ := hv_closed 6 0 n n0 e64 x xh hw
    have mi := mid_in hw
    refine ⟨_, rfl, _, rfl, _, _, rfl, rfl, _, _, rfl, rfl, ⟨by decide, by decide⟩, ?_⟩
    refine ⟨_, rfl, _, rfl, small (by simp), fun t1 ht1 => ?_⟩
    have sB := same_new (o := .tup [.int x.1, .int (mid x)]) ht1
    have tB := upd_same (H := HA) (a := t1) (o := .tup [.int x.1, .int (mid x)])
    have eB : upd HA t1 (.tup [.int x.1, .int ((x.1 + x.2) / 2)]) = upd HA t1 (.tup [.int x.1, .int (mid x)]) := rfl
    rw [eB]
    generalize upd HA t1 (.tup [.int x.1, .int (mid x)]) = HB at sB tB
    refine ⟨_, rfl, _, rfl, small (by simp), fun t2 ht2 => ?_⟩
    have sC := same_new (o := .tup [.int (mid x), .int x.2]) ht2
    have tC := upd_same (H := HB) (a := t2) (o := .tup [.int (mid x), .int x.2])
    have eC : upd HB t2 (.tup [.int ((x.1 + x.2) / 2), .int x.2]) = upd HB t2 (.tup [.int (mid x), .int x.2]) := rfl
    rw [eC]
    generalize upd HB t2 (.tup [.int (mid x), .int x.2]) = HC at sC tC
    refine ⟨small (by simp), fun Lh hLh => ?_⟩
    obtain ⟨hs, ehs⟩ : ∃ hs : Pw, hs = [(t1, lef x), (t2, rig x)] := ⟨_, rfl⟩
    have eL : ([.ref t1, .ref t2] : List V) = hs.map fun p => V.ref p.1 := by rw [ehs]; rfl
    rw [eL]
    have sD := same_new (o := .lst (hs.map fun p => V.ref p.1)) hLh
    have LD := upd_same (H := HC) (a := Lh) (o := .lst (hs.map fun p => V.ref p.1))
    generalize upd HC Lh (.lst (hs.map fun p => V.ref p.1)) = HD at sD LD
    have sAD := (sB.trans sC).trans sD
    have pD : PwAt HD (ps' ++ hs) := fun p hp => by
      rcases List.mem_append.mp hp with z | z
      · exact sAD _ _ (pA p z)
      · rw [ehs] at z
        rcases List.mem_cons.mp z with z | z
        · rw [z]; exact sD _ _ (sC _ _ tB)
        · rw [List.mem_singleton.mp z]; exact sD _ _ tC
    have hsz : ∀ p ∈ hs, p.2 = lef x ∨ p.2 = rig x := fun p hp => by
      rw [ehs] at hp
      rcases List.mem_cons.mp hp with z | z
      · rw [z]; exact .inl rfl
      · rw [List.mem_singleton.mp z]; exact .inr rfl
    have hl2 : hs.length = 2 := by rw [ehs]; rfl
    have LW : Lh ≠ W := (ne_of_none (sC _ _ (sB _ _ WA)) hLh).symm
    have Ld : Lh ≠ d := (ne_of_none (sC _ _ (sB _ _ dA)) hLh).symm
    have SD := SA.trans sAD
    have dD := sAD _ _ dA
    have WD := sAD _ _ WA
    have AD := AA.mono fun r zs e => sAD _ _ e
    have pl' : ps'.length ≤ 127 := by omega
    refine ⟨Lh, rfl, ⟨_, SqL.of LD⟩, for_list (K := K) (a := Lh) (xs := hs.map fun p => V.ref p.1) (fun j σ H2 => ∃ (u6 : Option V) (kvs : List (List Key × V)), σ = [some (.int n), some (.ref d), some (.ref W), some (.int x.1), some (.int x.2), some (.int ((x.1 + x.2) / 2)), u6] ∧ Same H H2 ∧ H2 d = some (.dT kvs) ∧ Abv n H2 kvs ∧ H2 W = some (.lst ((ps' ++ hs.take j).map fun p => V.ref p.1)) ∧ PwAt H2 (ps' ++ hs) ∧ (∀ p ∈ ps' ++ hs.take j, Has kvs p.2) ∧ Has kvs (0, n) ∧ (∀ y, Has kvs y → 1 < y.2 - y.1 → (Has kvs (lef y) ∧ Has kvs (rig y)) ∨ y ∈ (ps' ++ hs.take j).map (·.2) ∨ y = x) ∧ H2 Lh = some (.lst (hs.map fun p => V.ref p.1)))
      ⟨_, kvs, rfl, SD, dD, AD, by rw [List.take_zero, List.append_nil]; exact WD, pD, fun p hp => hA p (by simpa using hp), ro8, fun y hy hw => (c8 y hy hw).imp id fun z => (by
        rw [List.map_append] at z
        rcases List.mem_append.mp z with z | z
        · exact .inl (by simpa using z)
        · exact .inr (by simpa using z)), LD⟩ (fun j σ H2 _ ⟨_, _, _, _, _, _, _, _, _, _, _, e⟩ => SqL.of e) ?_ ?_⟩
    · clear SD dD WD AD pD LD sD sC sB sAD tB tC WA SA dA AA pA hA ro8 c8 erA er eB eC
      rintro j v σ H2 hv' ⟨u6, kvs, rfl, s2, d2, A2, W2, p2, h2, ro2, c2, L2⟩
      rw [List.getElem?_map] at hv'
      obtain ⟨⟨q, z⟩, hq, rfl⟩ := Option.map_eq_some_iff.mp hv'
      have qm := List.mem_of_getElem? hq
      have hj : j < 2 := by rw [← hl2]; exact (List.getElem?_eq_some_iff.mp hq).1
      have tk : hs.take (j + 1) = hs.take j ++ [(q, z)] := by rw [List.take_add_one, hq]; rfl
      have ez := hsz _ qm
      have zh : z ∈ hv 6 0 n := by
        rcases ez with e | e
        · have e : z = lef x := e
          rw [e]; exact hl
        · have e : z = rig x := e
          rw [e]; exact hg
      refine ⟨_, rfl, _, rfl, small (by simp), fun nt hnt => ?_⟩
      have sE := same_new (o := .tup [.int x.1, .int x.2]) hnt
      have nE := upd_same (H := H2) (a := nt) (o := .tup [.int x.1, .int x.2])
      have SE := s2.trans sE
      have dE := sE _ _ d2
      have WE := sE _ _ W2
      have LE := sE _ _ L2
      have AE := A2.mono fun r zs e => sE _ _ e
      have pE := p2.mono fun r zs e => sE _ _ e
      generalize upd H2 nt (.tup [.int x.1, .int x.2]) = HE at sE nE SE dE WE LE AE pE
      have qE := pE (q, z) (List.mem_append_right _ qm)
      have kl := AE.len
      refine ⟨_, rfl, _, rfl, d, _, rfl, DPut.t (k := kk z) dE qE (small1000 (by omega)), ?_⟩
      have AF := AE.put nE xh zh hw ez
      have tkF : ∀ (o : HO) r zs, HE r = some (.tup zs) → upd HE d o r = some (.tup zs) := fun o r zs e => by rw [upd_ne (ne_of e dE (by intro z; cases z))]; exact e
      have AF := AF.mono fun r zs e => tkF (.dT (putK kvs (kk z) (.ref nt))) r zs e
      have pF := pE.mono fun r zs e => tkF (.dT (putK kvs (kk z) (.ref nt))) r zs e
      have SF : Same H (upd HE d (.dT (putK kvs (kk z) (.ref nt)))) := same_set SE hd
      have dF := upd_same (H := HE) (a := d) (o := .dT (putK kvs (kk z) (.ref nt)))
      have WF : upd HE d (.dT (putK kvs (kk z) (.ref nt))) W = some (.lst ((ps' ++ hs.take j).map fun p => V.ref p.1)) := by rw [upd_ne Wd]; exact WE
      have LF : upd HE d (.dT (putK kvs (kk z) (.ref nt))) Lh = some (.lst (hs.map fun p => V.ref p.1)) := by rw [upd_ne Ld]; exact LE
      generalize upd HE d (.dT (putK kvs (kk z) (.ref nt))) = HF at AF pF SF dF WF LF
      refine ⟨_, rfl, .inl ⟨rfl, _, SqL.of WF⟩, _, rfl, W, _, _, rfl, rfl, WF, small1000 (by rw [List.length_map, List.length_append, List.length_take]; omega), ?_⟩
      have tkG : ∀ (o : HO) r zs, HF r = some (.tup zs) → upd HF W o r = some (.tup zs) := fun o r zs e => by rw [upd_ne (ne_of e WF (by intro z; cases z))]; exact e
      refine ⟨_, putK kvs (kk z) (.ref nt), rfl, same_set SF W0, by rw [upd_ne Wd.symm]; exact dF, AF.mono fun r zs e => tkG _ r zs e, by rw [upd_same, tk, ← List.append_assoc, List.map_append (l₂ := [(q, z)])]; rfl, pF.mono fun r zs e => tkG _ r zs e, fun p hp => ?_, ro2.put, fun y hy hw' => ?_, by rw [upd_ne LW]; exact LF⟩
      · rw [tk, ← List.append_assoc] at hp
        rcases List.mem_append.mp hp with e | e
        · exact (h2 p e).put
        · rw [List.mem_singleton.mp e]; exact Has.self
      · rw [tk, ← List.append_assoc, List.map_append]
        rcases hy.of_put with e | e
        · rcases c2 y e hw' with f | f | f
          · exact .inl ⟨f.1.put, f.2.put⟩
          · exact .inr (.inl (List.mem_append_left _ f))
          · exact .inr (.inr f)
        · exact .inr (.inl (List.mem_append_right _ (by rw [e]; simp)))
    rintro σ H2 ⟨u6, kvs2, rfl, s2, d2, A2, W2, p2, h2, ro2, c2, L2⟩
    rw [List.length_map, List.take_of_length_le (Nat.le_refl _)] at W2 h2 c2
    have es : wsum (ps' ++ hs) + 1 = m := by
      rw [hm, wsum_app, ehs]
      have e : wsum [(t1, lef x), (t2, rig x)] = wt (lef x) + wt (rig x) := by unfold wsum; simp
      rw [e]
      unfold wt lef rig
      dsimp only
      omega
    refine ⟨wsum (ps' ++ hs), by omega, _, _, _, _, kvs2, ps' ++ hs, rfl, s2, d2, A2, W2, p2, h2, ro2, fun y hy hw' => ?_, rfl, by omega⟩
    rcases c2 y hy hw' with f | f | f
    · exact .inl f
    · exact .inr f
    · rw [f]
      exact .inl ⟨h2 (t1, lef x) (List.mem_append_right _ (by rw [ehs]; simp)), h2 (t2, rig x) (List.mem_append_right _ (by rw [ehs]; simp))⟩
end
end K23
set_option maxHeartbeats 4000000
namespace K23
open PySem L2 M24
theorem DeckAt.same {H H' : Hp} {a c : Addr} (x : DeckAt H a c) (s : Same H H') : DeckAt H' a c := let ⟨n, S, k, cs, h1, h2, h3⟩ := x; ⟨n, S, k, cs, s _ _ h1, s _ _ h2, h3⟩
theorem DeckAt.neq {H : Hp} {a c b : Addr} (x : DeckAt H a c) (h : H b = none) : b ≠ a ∧ b ≠ c := by
  obtain ⟨n, S, k, cs, h1, h2, h3⟩ := x
  exact ⟨(ne_of_none h1 h).symm, (ne_of_none h2 h).symm⟩
theorem But.tk {H H' : Hp} {a c : Addr} (b : But a c H H') (x : DeckAt H a c) {r : Addr} {zs : List V} (e : H r = some (.tup zs)) : H' r = some (.tup zs) := by
  obtain ⟨n, S, k, cs, h1, h2, h3⟩ := x
  exact b _ _ e (ne_of e h1 (by intro z; cases z)) (ne_of e h2 (by intro z; cases z))
def spSize : Sp := fun vs H Q _ => ∃ a c : Addr, vs = [.ref a] ∧ DeckAt H a c ∧ ∀ (v : Int) (H' : Hp), 0 < v → v ≤ 61 → But a c H H' → DeckAt H' a c → Q (.int v) H'
def spStretch : Sp := fun vs H Q _ => ∃ (a c L : Addr) (n : Int) (ps : Pw), vs = [.ref a, .int n, .ref L] ∧ DeckAt H a c ∧ 0 < n ∧ n ≤ 64 ∧ H L = some (.lst (ps.map fun p => V.ref p.1)) ∧ PwAt H ps ∧ (∀ p ∈ ps, 0 ≤ p.2.1 ∧ p.2.1 < p.2.2 ∧ p.2.2 ≤ n) ∧ ps ≠ [] ∧ ps.length ≤ 127 ∧ L ≠ a ∧ L ≠ c ∧ ∀ (lo hi : Int) (r : Addr) (H' : Hp), 0 ≤ lo → lo ≤ hi → hi ≤ n → But a c H H' → DeckAt H' a c → H' r = some (.tup [.int lo, .int hi]) → Q (.ref r) H'
section
variable {P : Program} {w : World} {K : PySem.W.Frag} {mg : Str → Option Value} {base : Heap}
theorem scSize : FnScope ["_law_deck_here", "_law_way", "_law_size_here"] ["_law_deck_here"] (defScope sSize) := ⟨rfl, rfl, rfl, by decide +kernel, rfl, by decide +kernel, by decide +kernel⟩
theorem ok_Size {f : Addr} {fd : FuncData} (F : Fun K "_law_size" "_law_size" sSize f fd) (T : Txt mg)
    {gTake : Addr} {fTake : FuncData} (kTake : PySem.W.keepIn K (.ref gTake) = true) (bTake : Binds K fTake ["_law_deck_here", "_law_most"] []) (hTake : mg "_law_take" = some (.ref gTake)) (GTake : FnOk P w K mg base CX0 1 gTake fTake ["_law_deck_here", "_law_most"] spTake) :
    FnOk P w K mg base CX0 2 f fd ["_law_deck_here"] spSize := by
  refine F.ok scSize (fun vs H Q E h => ?_) (fun cdv A outer s H vs Q E hr h => ?_)
  · obtain ⟨_, _, rfl, _⟩ := h; rfl
  · obtain ⟨a, c, rfl, hD, k⟩ := h
    refine ⟨_, pss_cons (ps_set (i := 1) scSize.nd rfl (Or.inl rfl) (pe_call GTake hr rfl hTake kTake bTake .nil pass0 (pa_cons (pv 0) (pa_cons pe_int pa_nil))))
      (pss_cons (ps_set (i := 2) scSize.nd rfl (Or.inl rfl) (pe_op op_add pe_int (pe_call GTake hr rfl hTake kTake bTake .nil pass0 (pa_cons (pv 0) (pa_cons pe_int pa_nil)))))
      (pss_cons (ps_if (pt_cmpR op_eq (pv 1) pe_int (nomark _)) (pss_one (ps_ret pe_int)) pss_nil)
      (pss_cons (ps_if (pt_cmpR op_gt (pv 1) pe_int (nomark _)) (pss_one (ps_ret (pe_callB (call_min2 rfl) (by rfl) T.min (by decide +kernel) (pa_cons pe_int (pa_cons (pe_callB (call_max2 rfl) (by rfl) T.max (by decide +kernel) (pa_cons pe_int (pa_cons (pe_op op_sub (pe_op op_add (pe_ix ix_list (pe_lst (pa_cons pe_int (pa_cons pe_int (pa_cons pe_int (pa_cons pe_int (pa_cons pe_int (pa_cons pe_int pa_nil))))))) (pe_call GTake hr rfl hTake kTake bTake .nil pass0 (pa_cons (pv 0) (pa_cons pe_int pa_nil))) (fun _ _ => rfl)) (pe_call GTake hr rfl hTake kTake bTake .nil pass0 (pa_cons (pv 0) (pa_cons pe_int pa_nil)))) pe_int) pa_nil))) pa_nil))))) pss_nil)
      (pss_one (ps_ret (pv 2)))))), ?_⟩
    refine ⟨_, rfl, a, c, 8, rfl, hD, by decide, by decide, fun w H1 w0 w1 b1 D1 => ?_⟩
    refine ⟨_, rfl, a, c, 61, rfl, D1, by decide, by decide, fun s H2 s0 s1 b2 D2 => ⟨_, _, rfl, rfl, ?_⟩⟩
    have B2 := b1.trans b2
    refine ⟨_, rfl, rfl, _, rfl, ite2 (fun _ => k 61 H2 (by decide) (by decide) B2 D2) fun _ => ?_⟩
    dsimp only [tNext]
    refine ⟨_, rfl, _, _, rfl, rfl, _, rfl, ite2 (fun _ => ?_) fun _ => ?_⟩
    rotate_left
    · dsimp only [tNext]
      exact ⟨_, rfl, k _ H2 (by omega) (by omega) B2 D2⟩
    refine ⟨small (by simp), fun q hq => ?_⟩
    have s3 := same_new (o := .lst [.int 2, .int 4, .int 8, .int 16, .int 32, .int 64]) hq
    have q3 := upd_same (H := H2) (a := q) (o := .lst [.int 2, .int 4, .int 8, .int 16, .int 32, .int 64])
    have D3 := D2.same s3
    have nq := D2.neq hq
    generalize upd H2 q (.lst [.int 2, .int 4, .int 8, .int 16, .int 32, .int 64]) = H3 at s3 q3 D3
    refine ⟨_, rfl, a, c, 6, rfl, D3, by decide, by decide, fun i H4 i0 i1 b4 D4 => ?_⟩
    obtain ⟨z, an⟩ : ∃ z : Int, atI ([.int 2, .int 4, .int 8, .int 16, .int 32, .int 64] : List V) i = some (.int z) := by
      rcases (show i = 0 ∨ i = 1 ∨ i = 2 ∨ i = 3 ∨ i = 4 ∨ i = 5 by omega) with rfl | rfl | rfl | rfl | rfl | rfl
      · exact ⟨_, rfl⟩
      · exact ⟨_, rfl⟩
      · exact ⟨_, rfl⟩
      · exact ⟨_, rfl⟩
      · exact ⟨_, rfl⟩
      · exact ⟨_, rfl⟩
    refine ⟨q, _, i, _, rfl, rfl, SqL.of (b4 _ _ q3 nq.1 nq.2), an, ?_⟩
    refine ⟨_, rfl, a, c, 3, rfl, D4, by decide, by decide, fun t H5 t0 t1 b5 D5 => ⟨_, _, rfl, rfl, _, _, rfl, rfl, _, _, rfl, _, _, rfl, ?_⟩⟩
    exact k _ H5 (by split <;> split <;> omega) (by split <;> split <;> omega) (((B2.trans (but_same s3)).trans b4).trans b5) D5
theorem scStretch : FnScope ["_law_deck_here", "_law_size_here", "_law_halves_here", "_law_low", "_law_high", "_law_way", "_law_some", "_law_half", "_law_start"] ["_law_deck_here", "_law_size_here", "_law_halves_here"] (defScope sStretch) := ⟨rfl, rfl, rfl, by decide +kernel, rfl, by decide +kernel, by decide +kernel⟩
theorem ok_Stretch {f : Addr} {fd : FuncData} (F : Fun K "_law_stretch" "_law_stretch" sStretch f fd) (T : Txt mg)
    {gTake : Addr} {fTake : FuncData} (kTake : PySem.W.keepIn K (.ref gTake) = true) (bTake : Binds K fTake ["_law_deck_here", "_law_most"] []) (hTake : mg "_law_take" = some (.ref gTake)) (GTake : FnOk P w K mg base CX0 1 gTake fTake ["_law_deck_here", "_law_most"] spTake) :
    FnOk P w K mg base CX0 2 f fd ["_law_deck_here", "_law_size_here", "_law_halves_here"] spStretch := by
  refine F.ok scStretch (fun vs H Q E h => ?_) (fun cdv A outer s H vs Q E hr h => ?_)
  · obtain ⟨_, _, _, _, _, rfl, _⟩ := h; rfl
  · obtain ⟨a, c, L, n, ps, rfl, hD, n0, n64, hL, hp0, bd, pne, pl, nLa, nLc, k⟩ := h
    refine ⟨_, pss_cons (ps_set (i := 3) scStretch.nd rfl (Or.inl rfl) (pe_call GTake hr rfl hTake kTake bTake .nil pass0 (pa_cons (pv 0) (pa_cons (pe_op op_add (pv 1) pe_int) pa_nil))))
      (pss_cons (ps_set (i := 4) scStretch.nd rfl (Or.inl rfl) (pe_op op_add (pv 3) (pe_call GTake hr rfl hTake kTake bTake .nil pass0 (pa_cons (pv 0) (pa_cons (pe_op op_sub (pe_op op_add (pv 1) pe_int) (pv 3)) pa_nil)))))
      (pss_cons (ps_set (i := 5) scStretch.nd rfl (Or.inl rfl) (pe_call GTake hr rfl hTake kTake bTake .nil pass0 (pa_cons (pv 0) (pa_cons pe_int pa_nil))))
      (pss_cons (ps_set (i := 6) scStretch.nd rfl (Or.inl rfl) (pe_lst (pa_cons (pe_tup (pa_cons (pv 3) (pa_cons (pv 4) pa_nil))) (pa_cons (pe_tup (pa_cons (pv 3) (pa_cons (pv 4) pa_nil))) (pa_cons (pe_tup (pa_cons pe_int (pa_cons (pv 4) pa_nil))) (pa_cons (pe_tup (pa_cons (pv 3) (pa_cons (pv 1) pa_nil))) (pa_cons (pe_tup (pa_cons (pv 3) (pa_cons (pv 3) pa_nil))) (pa_cons (pe_tup (pa_cons pe_int (pa_cons (pv 1) pa_nil))) (pa_cons (pe_tup (pa_cons (pv 3) (pa_cons (pe_callB (call_min2 rfl) (by rfl) T.min (by decide +kernel) (pa_cons (pv 1) (pa_cons (pe_op op_add (pv 3) pe_int) pa_nil))) pa_nil))) pa_nil)))))))))
      (pss_cons (ps_if (pt_cmpR op_lt (pv 5) pe_int (nomark _)) (pss_one (ps_ret (pe_ix ix_list (pv 6) (pv 5) (fun _ _ => rfl)))) pss_nil)
      (pss_cons (ps_set (i := 7) scStretch.nd rfl (Or.inl rfl) (pe_ix ix_list (pv 2) (pe_call GTake hr rfl hTake kTake bTake .nil pass0 (pa_cons (pv 0) (pa_cons (pe_callB call_len_seq (by rfl) T.len PySem.boot_len (pa_cons (pv 2) pa_nil)) pa_nil))) (fun _ _ => rfl)))
      (pss_cons (ps_set (i := 8) scStretch.nd rfl (Or.inl rfl) (pe_callB (call_max2 rfl) (by rfl) T.max (by decide +kernel) (pa_cons pe_int (pa_cons (pe_op op_sub (pe_op op_add (pe_ix ix_tup (pv 7) pe_int (fun _ _ => rfl)) (pe_call GTake hr rfl hTake kTake bTake .nil pass0 (pa_cons (pv 0) (pa_cons pe_int pa_nil)))) pe_int) pa_nil))))
      (pss_one (ps_ret (pe_tup (pa_cons (pv 8) (pa_cons (pe_callB (call_max2 rfl) (by rfl) T.max (by decide +kernel) (pa_cons (pv 8) (pa_cons (pe_callB (call_min2 rfl) (by rfl) T.min (by decide +kernel) (pa_cons (pv 1) (pa_cons (pe_op op_sub (pe_op op_add (pe_ix ix_tup (pv 7) pe_int (fun _ _ => rfl)) (pe_call GTake hr rfl hTake kTake bTake .nil pass0 (pa_cons (pv 0) (pa_cons pe_int pa_nil)))) pe_int) pa_nil))) pa_nil))) pa_nil))))))))))), ?_⟩
    refine ⟨_, rfl, _, rfl, _, _, rfl, rfl, a, c, _, rfl, hD, by omega, by omega, fun lo H1 l0 l1 b1 D1 => ?_⟩
    refine ⟨_, rfl, _, rfl, _, rfl, _, _, rfl, rfl, _, rfl, _, _, rfl, rfl, a, c, _, rfl, D1, by omega, by omega, fun h H2 h0 h1 b2 D2 => ⟨_, _, rfl, rfl, ?_⟩⟩
    obtain ⟨hi, ehi⟩ : ∃ hi, hi = lo + h := ⟨_, rfl⟩
    rw [← ehi]
    have hin : lo ≤ hi ∧ hi ≤ n := by omega
    refine ⟨_, rfl, a, c, 8, rfl, D2, by decide, by decide, fun w H3 w0 w1 b3 D3 => ?_⟩
    have B3 := (b1.trans b2).trans b3
    have L3 := B3 _ _ hL nLa nLc
    have p3 : PwAt H3 ps := fun p hp => b3.tk D2 (b2.tk D1 (b1.tk hD (hp0 p hp)))
    clear b1 b2 b3 D1 D2 h0 h1 ehi hp0 hL
    refine ⟨_, rfl, _, rfl, small (by simp), fun t0 ht0 => ?_⟩
    have s0 := same_new (o := .tup [.int lo, .int hi]) ht0
    have e0 := upd_same (H := H3) (a := t0) (o := .tup [.int lo, .int hi])
    generalize upd H3 t0 (.tup [.int lo, .int hi]) = G0 at s0 e0
    refine ⟨_, rfl, _, rfl, small (by simp), fun t1 ht1 => ?_⟩
    have s1 := same_new (o := .tup [.int lo, .int hi]) ht1
    have e1 := upd_same (H := G0) (a := t1) (o := .tup [.int lo, .int hi])
    generalize upd G0 t1 (.tup [.int lo, .int hi]) = G1 at s1 e1
    refine ⟨_, rfl, small (by simp), fun t2 ht2 => ?_⟩
    have s2 := same_new (o := .tup [.int 0, .int hi]) ht2
    have e2 := upd_same (H := G1) (a := t2) (o := .tup [.int 0, .int hi])
    generalize upd G1 t2 (.tup [.int 0, .int hi]) = G2 at s2 e2
    refine ⟨_, rfl, _, rfl, small (by simp), fun t3 ht3 => ?_⟩
    have s3 := same_new (o := .tup [.int lo, .int n]) ht3
    have e3 := upd_same (H := G2) (a := t3) (o := .tup [.int lo, .int n])
    generalize upd G2 t3 (.tup [.int lo, .int n]) = G3 at s3 e3
    refine ⟨_, rfl, _, rfl, small (by simp), fun t4 ht4 => ?_⟩
    have s4 := same_new (o := .tup [.int lo, .int lo]) ht4
    have e4 := upd_same (H := G3) (a := t4) (o := .tup [.int lo, .int lo])
    generalize upd G3 t4 (.tup [.int lo, .int lo]) = G4 at s4 e4
    refine ⟨_, rfl, small (by simp), fun t5 ht5 => ?_⟩
    have s5 := same_new (o := .tup [.int 0, .int n]) ht5
    have e5 := upd_same (H := G4) (a := t5) (o := .tup [.int 0, .int n])
    generalize upd G4 t5 (.tup [.int 0, .int n]) = G5 at s5 e5
    refine ⟨_, rfl, _, rfl, _, rfl, _, _, rfl, rfl, _, _, rfl, ?_⟩
    obtain ⟨mn, emn⟩ : ∃ mn : Int, mn = (if lo + 1 < n then lo + 1 else n) := ⟨_, rfl⟩
    have hmn : lo ≤ mn ∧ mn ≤ n := by rw [emn]; split <;> omega
    rw [← emn]
    refine ⟨small (by simp), fun t6 ht6 => ?_⟩
    have s6 := same_new (o := .tup [.int lo, .int mn]) ht6
    have e6 := upd_same (H := G5) (a := t6) (o := .tup [.int lo, .int mn])
    generalize upd G5 t6 (.tup [.int lo, .int mn]) = G6 at s6 e6
    refine ⟨small (by simp), fun LS hLS => ?_⟩
    have s7 := same_new (o := .lst [.ref t0, .ref t1, .ref t2, .ref t3, .ref t4, .ref t5, .ref t6]) hLS
    have e7 := upd_same (H := G6) (a := LS) (o := .lst [.ref t0, .ref t1, .ref t2, .ref t3, .ref t4, .ref t5, .ref t6])
    generalize upd G6 LS (.lst [.ref t0, .ref t1, .ref t2, .ref t3, .ref t4, .ref t5, .ref t6]) = G7 at s7 e7
    have f6 := s7 _ _ e6
    have r5 := s6.trans s7
    have f5 := r5 _ _ e5
    have r4 := s5.trans r5
    have f4 := r4 _ _ e4
    have r3 := s4.trans r4
    have f3 := r3 _ _ e3
    have r2 := s3.trans r3
    have f2 := r2 _ _ e2
    have r1 := s2.trans r2
    have f1 := r1 _ _ e1
    have r0 := s1.trans r1
    have f0 := r0 _ _ e0
    have S7 := s0.trans r0
    clear s0 s1 s2 s3 s4 s5 s6 s7 r0 r1 r2 r3 r4 r5 e0 e1 e2 e3 e4 e5 e6 ht0 ht1 ht2 ht3 ht4 ht5 ht6 hLS
    have D7 := D3.same S7
    have B7 := B3.trans (but_same S7)
    have L7 := S7 _ _ L3
    have p7 := p3.mono fun r zs e => S7 _ _ e
    clear B3 L3 p3 D3 S7
    refine ⟨_, rfl, _, _, rfl, rfl, _, rfl, ite2 (fun g => ?_) fun g => ?_⟩
    · have g := of_decide_eq_true g
      obtain ⟨r, x, y, an, er, x0, xy, yn⟩ : ∃ (r : Addr) (x y : Int), atI ([.ref t0, .ref t1, .ref t2, .ref t3, .ref t4, .ref t5, .ref t6] : List V) w = some (.ref r) ∧ G7 r = some (.tup [.int x, .int y]) ∧ 0 ≤ x ∧ x ≤ y ∧ y ≤ n := by
        rcases (show w = 0 ∨ w = 1 ∨ w = 2 ∨ w = 3 ∨ w = 4 ∨ w = 5 ∨ w = 6 by omega) with rfl | rfl | rfl | rfl | rfl | rfl | rfl
        · exact ⟨_, _, _, rfl, f0, by omega, by omega, by omega⟩
        · exact ⟨_, _, _, rfl, f1, by omega, by omega, by omega⟩
        · exact ⟨_, _, _, rfl, f2, by omega, by omega, by omega⟩
        · exact ⟨_, _, _, rfl, f3, by omega, by omega, by omega⟩
        · exact ⟨_, _, _, rfl, f4, by omega, by omega, by omega⟩
        · exact ⟨_, _, _, rfl, f5, by omega, by omega, by omega⟩
        · exact ⟨_, _, _, rfl, f6, by omega, by omega, by omega⟩
      exact ⟨_, rfl, _, rfl, LS, _, w, _, rfl, rfl, SqL.of e7, an, k x y r G7 x0 xy yn B7 D7 er⟩
    dsimp only [tNext]
    clear f0 f1 f2 f3 f4 f5 f6 e7
    have pp : 0 < ps.length := List.length_pos_iff.mpr pne
    refine ⟨_, rfl, _, rfl, _, rfl, L, _, rfl, .inl (SqL.of L7), ?_⟩
    rw [List.length_map]
    refine ⟨a, c, _, rfl, D7, by omega, by omega, fun i H8 i0 i1 b8 D8 => ?_⟩
    obtain ⟨i, rfl⟩ : ∃ j : Nat, i = (j : Int) := ⟨i.toNat, by omega⟩
    have hi' : i < ps.length := by omega
    have hq : ps[i]? = some ps[i] := List.getElem?_eq_getElem hi'
    obtain ⟨⟨r, x⟩, er⟩ : ∃ p, p = ps[i] := ⟨_, rfl⟩
    rw [← er] at hq
    have pm := List.mem_of_getElem? hq
    have xb : 0 ≤ x.1 ∧ x.1 < x.2 ∧ x.2 ≤ n := bd _ pm
    have r8 := b8.tk D7 (p7 _ pm)
    have L8 := b8 _ _ L7 nLa nLc
    refine ⟨L, _, _, .ref r, rfl, rfl, SqL.of L8, atI_nat (by rw [List.getElem?_map, hq]; rfl), ?_⟩
    refine ⟨_, rfl, r, _, 0, _, rfl, rfl, SqT.of r8, atI_nat (j := 0) rfl, _, rfl, a, c, 3, rfl, D8, by decide, by decide, fun u H9 u0 u1 b9 D9 => ⟨_, _, rfl, rfl, _, _, rfl, rfl, _, _, rfl, ?_⟩⟩
    obtain ⟨st, est, st0, st1⟩ : ∃ st : Int, (if (0 : Int) < x.1 + u - 1 then x.1 + u - 1 else 0) = st ∧ 0 ≤ st ∧ st ≤ n := ⟨_, rfl, by split <;> omega, by split <;> omega⟩
    rw [est]
    have r9 := b9.tk D8 r8
    refine ⟨_, rfl, _, rfl, _, rfl, _, rfl, r, _, 1, _, rfl, rfl, SqT.of r9, atI_nat (j := 1) rfl, _, rfl, a, c, 3, rfl, D9, by decide, by decide, fun u' H10 v0 v1 b10 D10 => ⟨_, _, rfl, rfl, _, _, rfl, rfl, _, _, rfl, _, _, rfl, small (by simp), fun q hq' => ?_⟩⟩
    refine k _ _ q _ st0 ?_ ?_ (((B7.trans b8).trans b9).trans (b10.trans (but_same (same_new hq')))) (D10.same (same_new hq')) upd_same
    · split <;> omega
    · split <;> split <;> omega
end
end K23
set_option maxHeartbeats 4000000
namespace K23
open PySem L2 M24
def rIsiX (K : PySem.W.Frag) : List V → Hp → VK → Prop := fun xs H Q => ∃ (x : V) (t : Value) (c : String) (b : Bool), xs = [x, .ty c] ∧ TyOf K H x t ∧ PySem.W.kitOne K t (.type c) = some b ∧ Q (.bl b) H
theorem ifB {c : Bool} {A B : Prop} (h : c = false) (b : B) : if c = true then A else B := by rw [if_neg (by rw [h]; exact Bool.false_ne_true)]; exact b
theorem ifT {c : Bool} {A B : Prop} (h : c = true) (a : A) : if c = true then A else B := by rw [if_pos h]; exact a
theorem ne_no {x y : V} (h : x = y) : (!decide (x = y)) = false := by rw [decide_eq_true h]; rfl
theorem eqs_prs {K : PySem.W.Frag} {H : Hp} {a c : Addr} {rs rs' : List Addr} {xs : List (Int × Int)} (ha : H a = some (.tup (rs.map V.ref))) (hc : H c = some (.tup (rs'.map V.ref))) (p : Prs H rs xs) (p' : Prs H rs' xs) : Eqs K H 2 (.ref a) (.ref c) true := by
  have := Eqs.seq (K := K) (H := H) (n := 1) (ds := xs) (es := xs) (.inl ⟨SqT.of ha, SqT.of hc⟩) (by rw [List.length_map, p.len]) (by rw [List.length_map, p'.len]) fun j u v d e hu hv hd he => by
    obtain ⟨r, er, rfl⟩ := map_some hu
    obtain ⟨r', er', rfl⟩ := map_some hv
    obtain ⟨x, hx, tx⟩ := p.get er
    obtain ⟨x', hx', tx'⟩ := p'.get er'
    rw [hd] at hx hx' he
    cases hx
    cases hx'
    cases he
    have := Eqs.pair (K := K) (n := 0) (SqT.of tx) (SqT.of tx') (Eqs.flat rfl) (Eqs.flat rfl)
    rw [decide_eq_true rfl, decide_eq_true rfl] at this
    rw [decide_eq_true rfl]
    exact this
  rwa [decide_eq_true rfl] at this
theorem eqs_ints {K : PySem.W.Frag} {H : Hp} {a c : Addr} {ns : List Int} (ha : H a = some (.lst (ns.map V.int))) (hc : H c = some (.lst (ns.map V.int))) : Eqs K H 1 (.ref a) (.ref c) true := by
  have := Eqs.seq (K := K) (H := H) (n := 0) (ds := ns) (es := ns) (.inr ⟨SqL.of ha, SqL.of hc⟩) (by rw [List.length_map]) (by rw [List.length_map]) fun j u v d e hu hv hd he => by
    obtain ⟨r, er, rfl⟩ := map_some hu
    obtain ⟨r', er', rfl⟩ := map_some hv
    have e1 : d = r := Option.some.inj (hd.symm.trans er)
    have e2 : e = r' := Option.some.inj (he.symm.trans er')
    have e3 : r = r' := Option.some.inj (er.symm.trans er')
    subst e1 e2 e3
    have := Eqs.flat (K := K) (H := H) (n := 0) (x := .int d) (y := .int d) rfl
    rw [decide_eq_true rfl] at this ⊢
    exact this
  rwa [decide_eq_true rfl] at this
def spPairs : Sp := fun vs H Q _ => ∃ (t : Addr) (rs : List Addr) (xs : List (Int × Int)), vs = [.ref t] ∧ H t = some (.tup (rs.map V.ref)) ∧ Prs H rs xs ∧ ∀ H', Same H H' → Q (.bl true) H'
def spRight : Sp := fun vs H Q _ => ∃ (n lo hi : Int) (d : Addr) (kvs : List (List Key × V)), vs = [.int n, .int lo, .int hi, .ref d] ∧ 0 < n ∧ n ≤ 64 ∧ 0 ≤ lo ∧ lo ≤ hi ∧ hi ≤ n ∧ H d = some (.dT kvs) ∧ AbvAll n H kvs ∧ ∀ H', Same H H' → Q (.bl true) H'
section
variable {P : Program} {w : World} {K : PySem.W.Frag} {mg : Str → Option Value} {base : Heap}
theorem scPairs : FnScope ["_law_found", "_law_pair"] ["_law_found"] (defScope sPairs) := ⟨rfl, rfl, rfl, by decide +kernel, rfl, by decide +kernel, by decide +kernel⟩
theorem ok_Pairs {f : Addr} {fd : FuncData} (F : Fun K "_law_are_pairs" "_law_are_pairs" sPairs f fd) (T : Txt mg) :
    FnOk P w K mg base CX0 1 f fd ["_law_found"] spPairs := by
  refine F.ok scPairs (fun vs H Q E h => ?_) (fun cdv A outer s H vs Q E hr h => ?_)
  · obtain ⟨_, _, _, rfl, _⟩ := h; rfl
  · obtain ⟨t, rs, xs, rfl, ht, pt, k⟩ := h
    refine ⟨_, pss_cons (ps_if (pt_not (pt_val (pe_callB call_isi (by rfl) T.isinstance (by decide +kernel) (pa_cons (pv 0) (pa_cons (pe_ty (T := "tuple") (by rfl) T.tuple (by decide +kernel)) pa_nil))))) (pss_one (ps_ret pe_bl)) pss_nil)
      (pss_cons (ps_for PassesOwn.never rfl (pi_tup (pv 0)) (pg_name (i := 1) scPairs.nd rfl (Or.inl rfl)) (pss_cons (ps_if (PW.pt (pw_or (pt_not (pt_val (pe_callB call_isi (by rfl) T.isinstance (by decide +kernel) (pa_cons (pv 1) (pa_cons (pe_ty (T := "tuple") (by rfl) T.tuple (by decide +kernel)) pa_nil))))) (pw_or1 (pt_cmpR op_ne (pe_callB call_len_seq (by rfl) T.len PySem.boot_len (pa_cons (pv 1) pa_nil)) pe_int (nomark _))))) (pss_one (ps_ret pe_bl)) pss_nil)
      (pss_one (ps_if (pt_cmpR (op_neNil hr.units) (pe_comp (T := ["_law_one"]) (F := []) (js := []) (CS.to (osc := defScope sPairs) ⟨by rfl, by decide +kernel, by decide +kernel, by decide +kernel, by decide +kernel, by decide +kernel, by decide +kernel⟩ rfl rfl) rfl (pi_tup (pv 1)) (fun _ _ _ _ _ => pg_name (i := 0) (show (["_law_one"] : List Str).Nodup by decide +kernel) rfl (Or.inl rfl)) (fun _ _ _ _ _ => pif_one (PW.pt (pw_or (pt_not (pt_val (pe_callB (r := rIsiX K) call_isi (by rfl) T.isinstance (by decide +kernel) (pa_cons (pv 0) (pa_cons (pe_ty (T := "int") (by rfl) T.int (by decide +kernel)) pa_nil))))) (pw_or1 (pt_val (pe_callB (r := rIsiX K) call_isi (by rfl) T.isinstance (by decide +kernel) (pa_cons (pv 0) (pa_cons (pe_ty (T := "bool") (by rfl) T.bool (by decide +kernel)) pa_nil)))))))) (fun _ _ _ _ _ => pv 0)) (pe_lst pa_nil) (nomark _)) (pss_one (ps_ret pe_bl)) pss_nil))))
      (pss_one (ps_ret pe_bl))), ?_⟩
    refine ⟨_, rfl, _, _, "tuple", true, rfl, .tup ht, rfl, true, rfl, iteF ?_⟩
    dsimp only [tNext]
    refine ⟨_, rfl, t, rfl, ⟨_, SqT.of ht⟩, for_tup (K := K) (a := t) (xs := rs.map V.ref) (fun i σ H2 => ∃ (u : Option V), σ = [some (.ref t), u] ∧ Same H H2) ⟨_, rfl, same_refl _⟩ (fun i σ H2 _ ⟨_, _, s⟩ => SqT.of (s _ _ ht)) ?_ ?_⟩
    rotate_left
    · rintro σ H2 ⟨u, rfl, s2⟩
      exact k H2 s2
    rintro i y σ H2 hy ⟨u, rfl, s2⟩
    obtain ⟨r, hr', rfl⟩ := map_some hy
    obtain ⟨x, hx, ex⟩ := pt.get hr'
    have er := s2 _ _ ex
    refine ⟨_, rfl, _, _, "tuple", true, rfl, .tup er, rfl, true, rfl, iteF ?_⟩
    refine ⟨_, rfl, r, _, rfl, .inr (SqT.of er), rfl, _, rfl, ifB (ne_no rfl) ?_⟩
    dsimp only [tNext]
    refine ⟨_, rfl, r, rfl, ⟨_, SqT.of er⟩, fun D hD => comp_tup (K := K) (a := r) (xs := [.int x.1, .int x.2]) (fun j σ ys H3 => ∃ (u : Option V), σ = [u] ∧ ys = [] ∧ Same H2 H3 ∧ H3 D = some (.lst ys)) ⟨none, rfl, rfl, same_new hD, upd_same⟩ (fun j σ ys H3 _ ⟨_, _, _, e, f⟩ => ⟨SqT.of (e _ _ er), f⟩) ?_ ?_⟩
    · rintro j y σ ys H3 hy ⟨u, rfl, rfl, s3, D3⟩
      obtain ⟨i, rfl⟩ : ∃ i, y = .int i := by
        match j, hy with
        | 0, hy => cases hy; exact ⟨_, rfl⟩
        | 1, hy => cases hy; exact ⟨_, rfl⟩
      refine ⟨_, rfl, _, _, "int", true, rfl, .int i, rfl, true, rfl, iteF ?_⟩
      exact ⟨_, rfl, _, _, "bool", false, rfl, .int i, rfl, false, rfl, iteF ⟨_, rfl, rfl, s3, D3⟩⟩
    rintro σ ys H3 ⟨u, rfl, rfl, s3, D3⟩
    refine ⟨small (by simp), fun e he => ⟨D, e, _, rfl, rfl, SqL.of (same_new he _ _ D3), SqL.of upd_same, _, rfl, iteF ⟨_, rfl, (s2.trans s3).trans (same_new he)⟩⟩⟩
theorem scRight : FnScope ["_law_size_here", "_law_low", "_law_high", "_law_above", "_law_found", "_law_numbers", "_law_pair", "_law_more"] ["_law_size_here", "_law_low", "_law_high", "_law_above"] (defScope sRight) := ⟨rfl, rfl, rfl, by decide +kernel, rfl, by decide +kernel, by decide +kernel⟩
theorem ok_Right {f : Addr} {fd : FuncData} (F : Fun K "_law_right" "_law_right" sRight f fd) (T : Txt mg)
    {gPo : Addr} {fPo : FuncData} (kPo : PySem.W.keepIn K (.ref gPo) = true) (bPo : Binds K fPo ["size", "low", "high"] []) (hPo : mg "pieces_of" = some (.ref gPo)) (GPo : FnOk P w K mg base CX0 8 gPo fPo ["size", "low", "high"] spPo)
    {gPairs : Addr} {fPairs : FuncData} (kPairs : PySem.W.keepIn K (.ref gPairs) = true) (bPairs : Binds K fPairs ["_law_found"] []) (hPairs : mg "_law_are_pairs" = some (.ref gPairs)) (GPairs : FnOk P w K mg base CX0 8 gPairs fPairs ["_law_found"] spPairs) :
    FnOk P w K mg base CX0 9 f fd ["_law_size_here", "_law_low", "_law_high", "_law_above"] spRight := by
  refine F.ok scRight (fun vs H Q E h => ?_) (fun cdv A outer s H vs Q E hr h => ?_)
  · obtain ⟨_, _, _, _, _, rfl, _⟩ := h; rfl
  · obtain ⟨n, lo, hi, d, kvs, rfl, n0, n64, l0, lh, hn, hd, AB, k⟩ := h
    refine ⟨_, pss_cons (ps_set (i := 4) scRight.nd rfl (Or.inl rfl) (pe_call GPo hr rfl hPo kPo bPo .nil pass0 (pa_cons (pv 0) (pa_cons (pv 1) (pa_cons (pv 2) pa_nil)))))
      (pss_cons (ps_if (PW.pt (pw_or (pt_not (pt_val (pe_call GPairs hr rfl hPairs kPairs bPairs .nil pass0 (pa_cons (pv 4) pa_nil)))) (pw_or1 (pt_cmpR (op_nes hr.units) (pe_call GPo hr rfl hPo kPo bPo .nil pass0 (pa_cons (pv 0) (pa_cons (pv 1) (pa_cons (pv 2) pa_nil)))) (pv 4) (nomark _))))) (pss_one (ps_ret pe_bl)) pss_nil)
      (pss_cons (ps_set (i := 5) scRight.nd rfl (Or.inl rfl) (pe_lst pa_nil))
      (pss_cons (ps_for PassesOwn.never rfl (pi_tup (pv 4)) (pg_name (i := 6) scRight.nd rfl (Or.inl rfl)) (pss_cons (ps_if (PW.pt (pw_or (pt_cmp (pc_dnotin (hu_of hr) (pv 6) (pv 3))) (pw_or (pt_cmpR op_lt (pe_ix ix_tup (pv 6) pe_int (fun _ _ => rfl)) (pv 1) (nomark _)) (pw_or1 (pt_cmpR op_gt (pe_ix ix_tup (pv 6) pe_int (fun _ _ => rfl)) (pv 2) (nomark _)))))) (pss_one (ps_ret pe_bl)) pss_nil)
      (pss_cons (ps_set (i := 7) scRight.nd rfl (Or.inl rfl) (pe_dget (hu_of hr) (pv 3) (pv 6) (fun _ _ => rfl)))
      (pss_cons (ps_if (PW.pt (pw_and (pt_cmpR op_notN (pv 7) pe_non (nomark _)) (pw_and (pt_cmpR op_le (pv 1) (pe_ix ix_tup (pv 7) pe_int (fun _ _ => rfl)) (nomark _)) (pw_and1 (pt_cmpR op_le (pe_ix ix_tup (pv 7) pe_int (fun _ _ => rfl)) (pv 2) (nomark _)))))) (pss_one (ps_ret pe_bl)) pss_nil)
      (pss_one (ps_expr (pe_bm PySem.F.plainAttrs_list PySem.F.slot_list_extend PySem.F.type_list_extend mt_extend (pv 5) (pa_cons (pe_callTy (call_list_rng rfl) (by rfl) T.list (by decide +kernel) (pa_cons (pe_callTy call_range2 (by rfl) T.range (by decide +kernel) (pa_cons (pe_ix ix_tup (pv 6) pe_int (fun _ _ => rfl)) (pa_cons (pe_ix ix_tup (pv 6) pe_int (fun _ _ => rfl)) pa_nil))) pa_nil)) pa_nil))))))))
      (pss_one (ps_ret (pe_cmpR (op_eqs hr.units) (pv 5) (pe_callTy (call_list_rng rfl) (by rfl) T.list (by decide +kernel) (pa_cons (pe_callTy call_range2 (by rfl) T.range (by decide +kernel) (pa_cons (pv 1) (pa_cons (pv 2) pa_nil))) pa_nil)) (nomark _))))))), ?_⟩
    refine ⟨_, rfl, _, rfl, _, rfl, n, lo, hi, rfl, n0, n64, fun t rs H1 s1 ht1 p1 => ?_⟩
    have e64 : n - 0 ≤ (2 : Int) ^ 6 := by have : (2 : Int) ^ 6 = 64 := rfl; omega
    have pb := pin_in 6 0 n lo hi n0 e64
    have pm := pin_among (M := Has kvs) AB.cl 6 0 n lo hi n0 e64 AB.ro
    have pw := pin_within 6 0 n lo hi
    have pt := pin_top 6 0 n lo hi n0 e64
    have en := nums_pin 6 0 n lo hi n0 e64
    have pl := pin_len 6 0 n lo hi
    rw [show max 0 lo = lo by omega, show min n hi = hi by omega] at en
    generalize exs : pin 6 0 n lo hi = xs at p1 pb pm pw pt en pl
    have p64 : (2 : Nat) ^ 6 = 64 := rfl
    refine ⟨_, rfl, t, rs, xs, rfl, ht1, p1, fun H2 s2 => ⟨true, rfl, iteF ?_⟩⟩
    refine ⟨_, rfl, _, rfl, _, rfl, n, lo, hi, rfl, n0, n64, fun t' rs' H3 s3 ht3 p3 => ?_⟩
    have P3 : pin 6 0 n lo hi = xs := exs
    rw [P3] at p3
    have t3 := s3 _ _ (s2 _ _ ht1)
    have q3 := p1.same (s2.trans s3)
    refine ⟨_, rfl, 1, true, t', t, rfl, rfl, by decide, eqs_prs ht3 t3 p3 q3, _, rfl, iteF ?_⟩
    dsimp only [tNext]
    have S3 := (s1.trans s2).trans s3
    have d3 := S3 _ _ hd
    have A3 := AB.ab.mono fun r zs e => S3 _ _ e
    clear ht3 p3 P3 s1 s2 s3 ht1 p1
    refine ⟨small (by simp), fun M hM => ?_⟩
    have s4 := same_new (o := .lst []) hM
    have M4 := upd_same (H := H3) (a := M) (o := .lst [])
    generalize upd H3 M (.lst []) = H4 at s4 M4
    refine ⟨_, rfl, t, rfl, ⟨_, SqT.of (s4 _ _ t3)⟩, for_tup (K := K) (a := t) (xs := rs.map V.ref) (fun i σ H5 => ∃ (u6 u7 : Option V), σ = [some (.int n), some (.int lo), some (.int hi), some (.ref d), some (.ref t), some (.ref M), u6, u7] ∧ Same H3 H5 ∧ H5 M = some (.lst ((nums (xs.take i)).map V.int))) ⟨_, _, rfl, s4, M4⟩ (fun i σ H5 _ ⟨_, _, _, s, _⟩ => SqT.of (s _ _ t3)) ?_ ?_⟩
    · rintro i y σ H5 hy ⟨u6, u7, rfl, s5, M5⟩
      obtain ⟨r, hr', rfl⟩ := map_some hy
      obtain ⟨x, hx, ex⟩ := q3.get hr'
      have xm := List.mem_of_getElem? hx
      have er := s5 _ _ ex
      have d5 := s5 _ _ d3
      have xb := pb x xm
      have xw := pw x xm
      have il : i < xs.length := (List.getElem?_eq_some_iff.mp hx).1
      have etake : xs.take (i + 1) = xs.take i ++ [x] := by rw [List.take_add_one, hx]; rfl
      have e5 : nums (xs.take (i + 1)) = nums (xs.take i) ++ ri x.1 x.2 := by rw [etake, nums_app]; simp [nums]
      have nl : (nums (xs.take i)).length ≤ 64 * (xs.take i).length := by
        have gen : ∀ l : List (Int × Int), (∀ y ∈ l, 0 ≤ y.1 ∧ y.2 ≤ 64) → (nums l).length ≤ 64 * l.length := by
          intro l
          induction l with
          | nil => intro _; simp [nums]
          | cons z l ih =>
            intro h
            have h1 := h z (List.mem_cons_self ..)
            have h2 := ih fun y hy => h y (List.mem_cons_of_mem _ hy)
            have e : nums (z :: l) = ri z.1 z.2 ++ nums l := by simp [nums]
            have e2 : (ri z.1 z.2).length ≤ 64 := by simp [ri]; omega
            rw [e, List.length_append, List.length_cons]
            omega
        exact gen _ fun y hy => by have := pb y (List.mem_of_mem_take hy); omega
      rw [List.length_take] at nl
      have rl : (ri x.1 x.2).length ≤ 64 := by simp [ri]; omega
      obtain ⟨v, ev⟩ := Option.isSome_iff_exists.mp (show (valV kvs (kk x)).isSome = true from pm x xm)
      have hg := DGet.t (k := kk x) d5 er
      rw [ev] at hg
      refine ⟨_, rfl, _, rfl, d, _, rfl, hg, _, rfl, iteF ?_⟩
      refine ⟨_, rfl, r, _, 0, _, rfl, rfl, SqT.of er, atI_nat (j := 0) rfl, _, rfl, _, _, rfl, rfl, _, rfl, ifB (decide_eq_false (by omega)) ?_⟩
      refine ⟨_, rfl, r, _, 1, _, rfl, rfl, SqT.of er, atI_nat (j := 1) rfl, _, rfl, _, _, rfl, rfl, _, rfl, ifB (decide_eq_false (by omega)) ?_⟩
      dsimp only [tNext]
      refine ⟨_, rfl, _, rfl, d, _, rfl, hg, ?_⟩
      have s6 : ∀ g1 g2, H5 g1 = none → upd H5 g1 (.rng x.1 x.2) g2 = none → Same H5 (upd (upd H5 g1 (.rng x.1 x.2)) g2 (.lst ((rints x.1 (x.2 - x.1).toNat).map V.int))) := fun g1 g2 h1 h2 => (same_new h1).trans (same_new h2)
      have sz : ((nums (xs.take i)).map V.int).length + ((rints x.1 (x.2 - x.1).toNat).map V.int).length ≤ sizeLine := small (by
        have e1 : (List.map V.int (rints x.1 (x.2 - x.1).toNat)).length = (ri x.1 x.2).length := by rw [List.length_map]; rfl
        rw [List.length_map, e1]; omega)
      have Mx : (nums (xs.take i)).map V.int ++ (rints x.1 (x.2 - x.1).toNat).map V.int = (nums (xs.take (i + 1))).map V.int := by rw [e5, List.map_append]; rfl
      rcases A3.vs x v ev with rfl | ⟨rp, p, rfl, ep, ph, pw', hxp⟩
      · refine ⟨_, rfl, rfl, _, rfl, ifB (ne_no rfl) (iteF ?_)⟩
        dsimp only [tNext]
        refine ⟨_, rfl, .inl ⟨rfl, _, SqL.of M5⟩, _, rfl, r, _, 0, _, rfl, rfl, SqT.of er, atI_nat (j := 0) rfl, _, rfl, r, _, 1, _, rfl, rfl, SqT.of er, atI_nat (j := 1) rfl, x.1, x.2, rfl, fun g1 hg1 => ?_⟩
        refine ⟨g1, x.1, x.2, rfl, upd_same, ⟨by omega, by omega, by omega, by omega⟩, by omega, fun g2 hg2 => ?_⟩
        exact ⟨M, g2, _, _, rfl, rfl, s6 g1 g2 hg1 hg2 _ _ M5, upd_same, sz, _, _, rfl, same_set (s5.trans (s6 g1 g2 hg1 hg2)) hM, by rw [upd_same, Mx]⟩
      have ep5 := s5 _ _ ep
      have np : ¬ (lo ≤ p.1 ∧ p.2 ≤ hi) := by
        have mi := mid_in pw'
        refine pt x xm p ph ?_ ?_ ?_
        · rcases hxp with e | e <;> rw [e] <;> simp [lef, rig] <;> omega
        · rcases hxp with e | e <;> rw [e] <;> simp [lef, rig] <;> omega
        · intro e
          rcases hxp with f | f
          · have := congrArg Prod.snd (e.trans f); simp [lef] at this; omega
          · have := congrArg Prod.fst (e.trans f); simp [rig] at this; omega
      refine ⟨_, rfl, rfl, _, rfl, ifT (by simp) ?_⟩
      refine ⟨_, rfl, _, rfl, rp, _, 0, _, rfl, rfl, SqT.of ep5, atI_nat (j := 0) rfl, _, _, rfl, rfl, _, rfl, ?_⟩
      by_cases c1 : lo ≤ p.1
      · refine ifT (decide_eq_true c1) ⟨_, rfl, rp, _, 1, _, rfl, rfl, SqT.of ep5, atI_nat (j := 1) rfl, _, rfl, _, _, rfl, rfl, _, rfl, ifB (decide_eq_false fun z => np ⟨c1, z⟩) ?_⟩
        dsimp only [tNext]
        refine ⟨_, rfl, .inl ⟨rfl, _, SqL.of M5⟩, _, rfl, r, _, 0, _, rfl, rfl, SqT.of er, atI_nat (j := 0) rfl, _, rfl, r, _, 1, _, rfl, rfl, SqT.of er, atI_nat (j := 1) rfl, x.1, x.2, rfl, fun g1 hg1 => ?_⟩
        refine ⟨g1, x.1, x.2, rfl, upd_same, ⟨by omega, by omega, by omega, by omega⟩, by omega, fun g2 hg2 => ?_⟩
        exact ⟨M, g2, _, _, rfl, rfl, s6 g1 g2 hg1 hg2 _ _ M5, upd_same, sz, _, _, rfl, same_set (s5.trans (s6 g1 g2 hg1 hg2)) hM, by rw [upd_same, Mx]⟩
      · refine ifB (decide_eq_false c1) (iteF ?_)
        dsimp only [tNext]
        refine ⟨_, rfl, .inl ⟨rfl, _, SqL.of M5⟩, _, rfl, r, _, 0, _, rfl, rfl, SqT.of er, atI_nat (j := 0) rfl, _, rfl, r, _, 1, _, rfl, rfl, SqT.of er, atI_nat (j := 1) rfl, x.1, x.2, rfl, fun g1 hg1 => ?_⟩
        refine ⟨g1, x.1, x.2, rfl, upd_same, ⟨by omega, by omega, by omega, by omega⟩, by omega, fun g2 hg2 => ?_⟩
        exact ⟨M, g2, _, _, rfl, rfl, s6 g1 g2 hg1 hg2 _ _ M5, upd_same, sz, _, _, rfl, same_set (s5.trans (s6 g1 g2 hg1 hg2)) hM, by rw [upd_same, Mx]⟩
    rintro σ H5 ⟨u6, u7, rfl, s5, M5⟩
    rw [List.length_map, q3.len, List.take_length, en] at M5
    refine ⟨_, rfl, _, rfl, _, rfl, lo, hi, rfl, fun g1 hg1 => ?_⟩
    refine ⟨g1, lo, hi, rfl, upd_same, ⟨by omega, by omega, by omega, by omega⟩, by omega, fun g2 hg2 => ?_⟩
    have s6 := (same_new (o := .rng lo hi) hg1).trans (same_new (o := .lst ((rints lo (hi - lo).toNat).map V.int)) hg2)
    exact ⟨0, true, M, g2, rfl, rfl, by decide, eqs_ints (s6 _ _ M5) upd_same, k _ ((S3.trans s5).trans s6)⟩
end
end K23
set_option maxHeartbeats 4000000
namespace K23
open PySem L2 M24
def unk : List Key → Int × Int
  | [.inl a, .inl b] => (a, b)
  | _ => (0, 0)
theorem unk_kk (x : Int × Int) : unk (kk x) = x := rfl
theorem kk_shape (x : Int × Int) : (kk x).map Srt.isL = [true, true] := rfl
def spLaw (K : PySem.W.Frag) : Sp := fun vs H Q _ => ∃ (s : Addr) (ns : List Int), vs = [.ref s] ∧ SqL K H s (ns.map V.int) ∧ ns.length ≤ 63 ∧ ∀ H', Q (.bl true) H'
section
variable {P : Program} {w : World} {K : PySem.W.Frag} {mg : Str → Option Value} {base : Heap}
theorem scLaw : FnScope ["_law_script", "_law_deck_here", "_law_turn", "_law_size_here", "_law_above", "_law_low", "_law_high"] ["_law_script"] (defScope sLaw) := ⟨rfl, rfl, rfl, by decide +kernel, rfl, by decide +kernel, by decide +kernel⟩
theorem ok_Law {f : Addr} {fd : FuncData} (F : Fun K "law" "law" sLaw f fd) (T : Txt mg)
    {gDeck : Addr} {fDeck : FuncData} (kDeck : PySem.W.keepIn K (.ref gDeck) = true) (bDeck : Binds K fDeck ["_law_script"] []) (hDeck : mg "_law_deck" = some (.ref gDeck)) (GDeck : FnOk P w K mg base CX0 9 gDeck fDeck ["_law_script"] (spDeck K))
    {gSize : Addr} {fSize : FuncData} (kSize : PySem.W.keepIn K (.ref gSize) = true) (bSize : Binds K fSize ["_law_deck_here"] []) (hSize : mg "_law_size" = some (.ref gSize)) (GSize : FnOk P w K mg base CX0 9 gSize fSize ["_law_deck_here"] spSize)
    {gHalves : Addr} {fHalves : FuncData} (kHalves : PySem.W.keepIn K (.ref gHalves) = true) (bHalves : Binds K fHalves ["_law_size_here"] []) (hHalves : mg "_law_halves" = some (.ref gHalves)) (GHalves : FnOk P w K mg base CX0 9 gHalves fHalves ["_law_size_here"] spHalves)
    {gStretch : Addr} {fStretch : FuncData} (kStretch : PySem.W.keepIn K (.ref gStretch) = true) (bStretch : Binds K fStretch ["_law_deck_here", "_law_size_here", "_law_halves_here"] []) (hStretch : mg "_law_stretch" = some (.ref gStretch)) (GStretch : FnOk P w K mg base CX0 9 gStretch fStretch ["_law_deck_here", "_law_size_here", "_law_halves_here"] spStretch)
    {gRight : Addr} {fRight : FuncData} (kRight : PySem.W.keepIn K (.ref gRight) = true) (bRight : Binds K fRight ["_law_size_here", "_law_low", "_law_high", "_law_above"] []) (hRight : mg "_law_right" = some (.ref gRight)) (GRight : FnOk P w K mg base CX0 9 gRight fRight ["_law_size_here", "_law_low", "_law_high", "_law_above"] spRight)
    {gPo : Addr} {fPo : FuncData} (kPo : PySem.W.keepIn K (.ref gPo) = true) (bPo : Binds K fPo ["size", "low", "high"] []) (hPo : mg "pieces_of" = some (.ref gPo)) (GPo : FnOk P w K mg base CX0 9 gPo fPo ["size", "low", "high"] spPo) :
    FnOk P w K mg base CX0 10 f fd ["_law_script"] (spLaw K) := by
  refine F.ok scLaw (fun vs H Q E h => ?_) (fun cdv A outer s H vs Q E hr h => ?_)
  · obtain ⟨_, _, rfl, _⟩ := h; rfl
  · obtain ⟨s, ns, rfl, hS, hl, k⟩ := h
    refine ⟨_, pss_cons (ps_set (i := 1) scLaw.nd rfl (Or.inl rfl) (pe_call GDeck hr rfl hDeck kDeck bDeck .nil pass0 (pa_cons (pv 0) pa_nil)))
      (pss_cons (ps_for PassesOwn.never rfl (pi_range1 rfl T.range (pa_cons pe_int pa_nil)) (pg_name (i := 2) scLaw.nd rfl (Or.inl rfl)) (pss_cons (ps_set (i := 3) scLaw.nd rfl (Or.inl rfl) (pe_call GSize hr rfl hSize kSize bSize .nil pass0 (pa_cons (pv 1) pa_nil)))
      (pss_cons (ps_set (i := 4) scLaw.nd rfl (Or.inl rfl) (pe_call GHalves hr rfl hHalves kHalves bHalves .nil pass0 (pa_cons (pv 3) pa_nil)))
      (pss_cons (ps_asg (pe_call GStretch hr rfl hStretch kStretch bStretch .nil pass0 (pa_cons (pv 1) (pa_cons (pv 3) (pa_cons (pe_callB (Srt.call_sortedDT rfl) (by rfl) T.sorted (by decide +kernel) (pa_cons (pv 4) pa_nil)) pa_nil)))) (pg_tup rfl (pgs_cons (pg_name (i := 5) scLaw.nd rfl (Or.inl rfl)) (pgs_cons (pg_name (i := 6) scLaw.nd rfl (Or.inl rfl)) pgs_nil))))
      (pss_one (ps_if (pt_not (pt_val (pe_call GRight hr rfl hRight kRight bRight .nil pass0 (pa_cons (pv 3) (pa_cons (pv 5) (pa_cons (pv 6) (pa_cons (pv 4) pa_nil))))))) (pss_one (ps_ret pe_bl)) pss_nil))))))
      (pss_one (ps_ret (pe_and (pe_cmpR (op_eqs hr.units) (pe_call GPo hr rfl hPo kPo bPo .nil pass0 (pa_cons pe_int (pa_cons pe_int (pa_cons pe_int pa_nil)))) (pe_tup (pa_cons (pe_tup (pa_cons pe_int (pa_cons pe_int pa_nil))) pa_nil)) (nomark _)) (pe_one (pe_cmpR (op_eqs hr.units) (pe_call GPo hr rfl hPo kPo bPo .nil pass0 (pa_cons pe_int (pa_cons pe_int (pa_cons pe_int pa_nil)))) (pe_tup (pa_cons (pe_tup (pa_cons pe_int (pa_cons pe_int pa_nil))) pa_nil)) (nomark _))))))), ?_⟩
    refine ⟨_, rfl, s, ns, rfl, hS, hl, fun a c H1 s1 an cn D1 => ?_⟩
    refine ⟨9, rfl, by decide, by decide, for_range (lo := 0) (n := (9 : Int).toNat) (fun i σ H5 => ∃ (u2 u3 u4 u5 u6 : Option V), σ = [some (.ref s), some (.ref a), u2, u3, u4, u5, u6] ∧ DeckAt H5 a c) ⟨_, _, _, _, _, rfl, D1⟩ ?_ ?_⟩
    · rintro i σ H5 hi ⟨u2, u3, u4, u5, u6, rfl, D5⟩
      refine ⟨_, rfl, a, c, rfl, D5, fun n H6 n0 n1 b6 D6 => ?_⟩
      refine ⟨_, rfl, n, rfl, n0, by omega, fun d kvs H7 s7 dn d7 A7 => ?_⟩
      have D7 := D6.same s7
      have kl := A7.ab.len
      have hne : ∀ k ∈ kvs.map (·.1), k ≠ [] := fun k hk => by
        obtain ⟨x, _, e⟩ := A7.ab.ks k hk
        rw [e]; unfold kk; simp
      have hsh : ∀ k ∈ kvs.map (·.1), ∀ k' ∈ kvs.map (·.1), k.map Srt.isL = k'.map Srt.isL := fun k hk k' hk' => by
        obtain ⟨x, _, e⟩ := A7.ab.ks k hk
        obtain ⟨x', _, e'⟩ := A7.ab.ks k' hk'
        rw [e, e', kk_shape, kk_shape]
      refine ⟨_, rfl, _, rfl, _, rfl, d, kvs, rfl, d7, by omega, hsh, hne, fun L ps ps' hL e1 e2 pm pw => ?_⟩
      have hq : ∀ q ∈ ps', ∃ x ∈ hv 6 0 n, q.2 = kk x ∧ H7 q.1 = some (.tup [.int x.1, .int x.2]) := fun q hq => by
        have hm := pm.mem_iff.mp hq
        obtain ⟨x, hx, e⟩ := A7.ab.ks q.2 (by rw [← e1]; exact List.mem_map.mpr ⟨q, hm, rfl⟩)
        refine ⟨x, hx, e, ?_⟩
        have := e2 q hm
        rw [e] at this
        exact this
      have pl : ps'.length = kvs.length := by rw [pm.length_eq, ← List.length_map (f := (·.2)), e1, List.length_map]
      have pne : ps' ≠ [] := fun e => by
        rw [e] at pl
        have := A7.ro
        have e0 : kvs = [] := List.length_eq_zero_iff.mp (by simpa using pl.symm)
        rw [e0] at this
        cases this
      have s8 := same_new (o := .lst (ps'.map Srt.rRef)) hL
      have L8 := upd_same (H := H7) (a := L) (o := .lst (ps'.map Srt.rRef))
      have nL := D7.neq hL
      generalize upd H7 L (.lst (ps'.map Srt.rRef)) = H8 at s8 L8
      have D8 := D7.same s8
      have e64 : n - 0 ≤ (2 : Int) ^ 6 := by have : (2 : Int) ^ 6 = 64 := rfl; omega
      refine ⟨a, c, L, n, ps'.map fun q => (q.1, unk q.2), rfl, D8, n0, by omega, by rw [L8, List.map_map]; rfl, fun p hp => ?_, fun p hp => ?_, by simpa using pne, by rw [List.length_map]; omega, nL.1, nL.2, fun lo hi r H9 l0 lh hn b9 D9 er => ?_⟩
      · obtain ⟨q, hq', rfl⟩ := List.mem_map.mp hp
        obtain ⟨x, hx, e, ex⟩ := hq q hq'
        show H8 q.1 = some (.tup [.int (unk q.2).1, .int (unk q.2).2])
        rw [e, unk_kk]
        exact s8 _ _ ex
      · obtain ⟨q, hq', rfl⟩ := List.mem_map.mp hp
        obtain ⟨x, hx, e, ex⟩ := hq q hq'
        show 0 ≤ (unk q.2).1 ∧ (unk q.2).1 < (unk q.2).2 ∧ (unk q.2).2 ≤ n
        rw [e, unk_kk]
        exact hv_in 6 0 n n0 e64 x hx
      refine ⟨r, _, rfl, SqT.of er, rfl, _, _, rfl, _, _, rfl, rfl, ?_⟩
      have d8 := s8 _ _ d7
      have d9 : H9 d = some (.dT kvs) := by
        obtain ⟨_, _, _, _, h1, h2, _⟩ := D8
        exact b9 _ _ d8 (ne_of d8 h1 (by intro z; cases z)) (ne_of d8 h2 (by intro z; cases z))
      have A9 : AbvAll n H9 kvs := ⟨(A7.ab.mono fun r zs e => s8 _ _ e).mono fun r zs e => b9.tk D8 e, A7.ro, A7.cl⟩
      exact ⟨_, rfl, _, rfl, _, rfl, _, rfl, n, lo, hi, d, kvs, rfl, n0, by omega, l0, lh, hn, d9, A9, fun H10 s10 => ⟨true, rfl, iteF ⟨_, _, _, _, _, rfl, D9.same s10⟩⟩⟩
    rintro σ H5 ⟨u2, u3, u4, u5, u6, rfl, D5⟩
    refine ⟨1, 0, 1, rfl, by decide, by decide, fun t rs H6 s6 ht p => ?_⟩
    rw [show pin 6 0 1 0 1 = [(0, 1)] by simp [pin]] at p
    refine ⟨small (by simp), fun q1 h1 => ⟨small (by simp), fun q2 h2 => ?_⟩⟩
    have sx := (same_new (o := .tup [.int 0, .int 1]) h1).trans (same_new (o := .tup [.ref q1]) h2)
    refine ⟨1, true, t, q2, rfl, rfl, by decide, eqs_prs (rs' := [q1]) (sx _ _ ht) upd_same (p.same sx) ⟨same_new h2 _ _ upd_same, trivial⟩, true, rfl, iteT ?_⟩
    generalize upd (upd H6 q1 _) q2 _ = H7
    refine ⟨61, 0, 61, rfl, by decide, by decide, fun t rs H8 s8 ht p => ?_⟩
    rw [show pin 6 0 61 0 61 = [(0, 61)] by simp [pin]] at p
    refine ⟨small (by simp), fun q1 h1 => ⟨small (by simp), fun q2 h2 => ?_⟩⟩
    have sx := (same_new (o := .tup [.int 0, .int 61]) h1).trans (same_new (o := .tup [.ref q1]) h2)
    exact ⟨1, true, t, q2, rfl, rfl, by decide, eqs_prs (rs' := [q1]) (sx _ _ ht) upd_same (p.same sx) ⟨same_new h2 _ _ upd_same, trivial⟩, k _⟩
end
end K23
set_option maxHeartbeats 4000000
namespace K23
open PySem L2 M24
theorem us1 {fd : FuncData} {ps : List Str} (hp : ps.length = 1) (h : ∀ a0 : Value, bindArgs fd ⟨[a0], []⟩ = pure (ps.zip [a0])) : ∀ us : List Value, us.length = ps.length → bindArgs fd ⟨us, []⟩ = pure (ps.zip us) := fun us hl => match us, hl.trans hp with | [a0], _ => h a0
theorem us2 {fd : FuncData} {ps : List Str} (hp : ps.length = 2) (h : ∀ a0 a1 : Value, bindArgs fd ⟨[a0, a1], []⟩ = pure (ps.zip [a0, a1])) : ∀ us : List Value, us.length = ps.length → bindArgs fd ⟨us, []⟩ = pure (ps.zip us) := fun us hl => match us, hl.trans hp with | [a0, a1], _ => h a0 a1
theorem us3 {fd : FuncData} {ps : List Str} (hp : ps.length = 3) (h : ∀ a0 a1 a2 : Value, bindArgs fd ⟨[a0, a1, a2], []⟩ = pure (ps.zip [a0, a1, a2])) : ∀ us : List Value, us.length = ps.length → bindArgs fd ⟨us, []⟩ = pure (ps.zip us) := fun us hl => match us, hl.trans hp with | [a0, a1, a2], _ => h a0 a1 a2
theorem us4 {fd : FuncData} {ps : List Str} (hp : ps.length = 4) (h : ∀ a0 a1 a2 a3 : Value, bindArgs fd ⟨[a0, a1, a2, a3], []⟩ = pure (ps.zip [a0, a1, a2, a3])) : ∀ us : List Value, us.length = ps.length → bindArgs fd ⟨us, []⟩ = pure (ps.zip us) := fun us hl => match us, hl.trans hp with | [a0, a1, a2, a3], _ => h a0 a1 a2 a3
theorem all_mk {l : PySem.W.OpenLaw} {w : World} {K : PySem.W.Frag} {h : Heap} {mg : Str → Option Value} {fa f0 f1 f2 f3 f4 f5 f6 f7 f8 f9 : Addr} (X : K.In h) (G : h.Ns mainGlobals mg) (hfa : mg "law" = some (.ref fa))
    {od0 an0 od1 an1 od2 an2 od3 an3 od4 an4 od5 an5 od6 an6 od7 an7 od8 an8 od9 an9 : Option Addr} {sl0 sl1 sl2 sl3 sl4 sl5 sl6 sl7 sl8 sl9 : Array (Option Value)} {oc0 kV0 dc0 pm0 cd0 ct0 oc1 kV1 dc1 pm1 cd1 ct1 oc2 kV2 dc2 pm2 cd2 ct2 oc3 kV3 dc3 pm3 cd3 ct3 oc4 kV4 dc4 pm4 cd4 ct4 oc5 kV5 dc5 pm5 cd5 ct5 oc6 kV6 dc6 pm6 cd6 ct6 oc7 kV7 dc7 pm7 cd7 ct7 oc8 kV8 dc8 pm8 cd8 ct8 oc9 kV9 dc9 pm9 cd9 ct9 : Value}
    (a0 : PySem.W.nsIn K mainGlobals "pieces_in" = some (some (.ref f0))) (l0 : K.lookup f0 = some ⟨oc0, od0, .func (PySem.W.fnOf "pieces_in" "pieces_in" (defArgs sPin) (defBody sPin) (defScope sPin) .none kV0 dc0 pm0 an0 cd0 ct0), sl0⟩) (c0 : PySem.W.codeIn K cd0 "pieces_in" = true) (k0 : PySem.W.keepIn K (.ref f0) = true)
    (a1 : PySem.W.nsIn K mainGlobals "pieces_of" = some (some (.ref f1))) (l1 : K.lookup f1 = some ⟨oc1, od1, .func (PySem.W.fnOf "pieces_of" "pieces_of" (defArgs sPo) (defBody sPo) (defScope sPo) .none kV1 dc1 pm1 an1 cd1 ct1), sl1⟩) (c1 : PySem.W.codeIn K cd1 "pieces_of" = true) (k1 : PySem.W.keepIn K (.ref f1) = true)
    (a2 : PySem.W.nsIn K mainGlobals "_law_deck" = some (some (.ref f2))) (l2 : K.lookup f2 = some ⟨oc2, od2, .func (PySem.W.fnOf "_law_deck" "_law_deck" (defArgs sDeck) (defBody sDeck) (defScope sDeck) .none kV2 dc2 pm2 an2 cd2 ct2), sl2⟩) (c2 : PySem.W.codeIn K cd2 "_law_deck" = true) (k2 : PySem.W.keepIn K (.ref f2) = true)
    (a3 : PySem.W.nsIn K mainGlobals "_law_take" = some (some (.ref f3))) (l3 : K.lookup f3 = some ⟨oc3, od3, .func (PySem.W.fnOf "_law_take" "_law_take" (defArgs sTake) (defBody sTake) (defScope sTake) .none kV3 dc3 pm3 an3 cd3 ct3), sl3⟩) (c3 : PySem.W.codeIn K cd3 "_law_take" = true) (k3 : PySem.W.keepIn K (.ref f3) = true)
    (a4 : PySem.W.nsIn K mainGlobals "_law_halves" = some (some (.ref f4))) (l4 : K.lookup f4 = some ⟨oc4, od4, .func (PySem.W.fnOf "_law_halves" "_law_halves" (defArgs sHalves) (defBody sHalves) (defScope sHalves) .none kV4 dc4 pm4 an4 cd4 ct4), sl4⟩) (c4 : PySem.W.codeIn K cd4 "_law_halves" = true) (k4 : PySem.W.keepIn K (.ref f4) = true)
    (a5 : PySem.W.nsIn K mainGlobals "_law_size" = some (some (.ref f5))) (l5 : K.lookup f5 = some ⟨oc5, od5, .func (PySem.W.fnOf "_law_size" "_law_size" (defArgs sSize) (defBody sSize) (defScope sSize) .none kV5 dc5 pm5 an5 cd5 ct5), sl5⟩) (c5 : PySem.W.codeIn K cd5 "_law_size" = true) (k5 : PySem.W.keepIn K (.ref f5) = true)
    (a6 : PySem.W.nsIn K mainGlobals "_law_stretch" = some (some (.ref f6))) (l6 : K.lookup f6 = some ⟨oc6, od6, .func (PySem.W.fnOf "_law_stretch" "_law_stretch" (defArgs sStretch) (defBody sStretch) (defScope sStretch) .none kV6 dc6 pm6 an6 cd6 ct6), sl6⟩) (c6 : PySem.W.codeIn K cd6 "_law_stretch" = true) (k6 : PySem.W.keepIn K (.ref f6) = true)
    (a7 : PySem.W.nsIn K mainGlobals "_law_are_pairs" = some (some (.ref f7))) (l7 : K.lookup f7 = some ⟨oc7, od7, .func (PySem.W.fnOf "_law_are_pairs" "_law_are_pairs" (defArgs sPairs) (defBody sPairs) (defScope sPairs) .none kV7 dc7 pm7 an7 cd7 ct7), sl7⟩) (c7 : PySem.W.codeIn K cd7 "_law_are_pairs" = true) (k7 : PySem.W.keepIn K (.ref f7) = true)
    (a8 : PySem.W.nsIn K mainGlobals "_law_right" = some (some (.ref f8))) (l8 : K.lookup f8 = some ⟨oc8, od8, .func (PySem.W.fnOf "_law_right" "_law_right" (defArgs sRight) (defBody sRight) (defScope sRight) .none kV8 dc8 pm8 an8 cd8 ct8), sl8⟩) (c8 : PySem.W.codeIn K cd8 "_law_right" = true) (k8 : PySem.W.keepIn K (.ref f8) = true)
    (a9 : PySem.W.nsIn K mainGlobals "law" = some (some (.ref f9))) (l9 : K.lookup f9 = some ⟨oc9, od9, .func (PySem.W.fnOf "law" "law" (defArgs sLaw) (defBody sLaw) (defScope sLaw) .none kV9 dc9 pm9 an9 cd9 ct9), sl9⟩) (c9 : PySem.W.codeIn K cd9 "law" = true) (k9 : PySem.W.keepIn K (.ref f9) = true)
    (z0 : PySem.W.nsIn K mainGlobals "isinstance" = some none) (z1 : PySem.W.nsIn K mainGlobals "int" = some none) (z2 : PySem.W.nsIn K mainGlobals "bool" = some none) (z3 : PySem.W.nsIn K mainGlobals "tuple" = some none) (z4 : PySem.W.nsIn K mainGlobals "len" = some none) (z5 : PySem.W.nsIn K mainGlobals "range" = some none) (z6 : PySem.W.nsIn K mainGlobals "sum" = some none) (z7 : PySem.W.nsIn K mainGlobals "str" = some none) (z8 : PySem.W.nsIn K mainGlobals "max" = some none) (z9 : PySem.W.nsIn K mainGlobals "min" = some none) (z10 : PySem.W.nsIn K mainGlobals "sorted" = some none) (z11 : PySem.W.nsIn K mainGlobals "list" = some none) :
    ∃ fd : FuncData, (∀ (s : Shared) (v : Value), BindsTo s fd ⟨[v], []⟩ [("_law_script", v)]) ∧ ∀ base : Heap, K.In base → base.Ns mainGlobals mg → FnOk l.prog w K mg base CX0 10 fa fd ["_law_script"] (spLaw K) := by
  have e := hfa.symm.trans (PySem.W.mg_of X G a9)
  cases e
  have T : Txt mg := ⟨PySem.W.mg_none_of X G z0, PySem.W.mg_none_of X G z1, PySem.W.mg_none_of X G z2, PySem.W.mg_none_of X G z3, PySem.W.mg_none_of X G z4, PySem.W.mg_none_of X G z5, PySem.W.mg_none_of X G z6, PySem.W.mg_none_of X G z7, PySem.W.mg_none_of X G z8, PySem.W.mg_none_of X G z9, PySem.W.mg_none_of X G z10, PySem.W.mg_none_of X G z11⟩
  have F0 := fun_mk (st := sPin) l0 c0 k0
  have b0 := F0.binds (ps := ["first", "last", "low", "high"]) fun _ _ _ _ _ _ => us4 rfl fun _ _ _ _ => rfl
  have m0 := PySem.W.mg_of X G a0
  have F1 := fun_mk (st := sPo) l1 c1 k1
  have b1 := F1.binds (ps := ["size", "low", "high"]) fun _ _ _ _ _ _ => us3 rfl fun _ _ _ => rfl
  have m1 := PySem.W.mg_of X G a1
  have F2 := fun_mk (st := sDeck) l2 c2 k2
  have b2 := F2.binds (ps := ["_law_script"]) fun _ _ _ _ _ _ => us1 rfl fun _ => rfl
  have m2 := PySem.W.mg_of X G a2
  have F3 := fun_mk (st := sTake) l3 c3 k3
  have b3 := F3.binds (ps := ["_law_deck_here", "_law_most"]) fun _ _ _ _ _ _ => us2 rfl fun _ _ => rfl
  have m3 := PySem.W.mg_of X G a3
  have F4 := fun_mk (st := sHalves) l4 c4 k4
  have b4 := F4.binds (ps := ["_law_size_here"]) fun _ _ _ _ _ _ => us1 rfl fun _ => rfl
  have m4 := PySem.W.mg_of X G a4
  have F5 := fun_mk (st := sSize) l5 c5 k5
  have b5 := F5.binds (ps := ["_law_deck_here"]) fun _ _ _ _ _ _ => us1 rfl fun _ => rfl
  have m5 := PySem.W.mg_of X G a5
  have F6 := fun_mk (st := sStretch) l6 c6 k6
  have b6 := F6.binds (ps := ["_law_deck_here", "_law_size_here", "_law_halves_here"]) fun _ _ _ _ _ _ => us3 rfl fun _ _ _ => rfl
  have m6 := PySem.W.mg_of X G a6
  have F7 := fun_mk (st := sPairs) l7 c7 k7
  have b7 := F7.binds (ps := ["_law_found"]) fun _ _ _ _ _ _ => us1 rfl fun _ => rfl
  have m7 := PySem.W.mg_of X G a7
  have F8 := fun_mk (st := sRight) l8 c8 k8
  have b8 := F8.binds (ps := ["_law_size_here", "_law_low", "_law_high", "_law_above"]) fun _ _ _ _ _ _ => us4 rfl fun _ _ _ _ => rfl
  have m8 := PySem.W.mg_of X G a8
  have F9 := fun_mk (st := sLaw) l9 c9 k9
  have b9 := F9.binds (ps := ["_law_script"]) fun _ _ _ _ _ _ => us1 rfl fun _ => rfl
  have m9 := PySem.W.mg_of X G a9
  refine ⟨PySem.W.fnOf "law" "law" (defArgs sLaw) (defBody sLaw) (defScope sLaw) .none kV9 dc9 pm9 an9 cd9 ct9, fun s v => .of_eq rfl, fun base _ _ => ?_⟩
  have Q1 : FnOk l.prog w K mg base CX0 8 f1 _ ["size", "low", "high"] spPo := ok_po F1 T F0 b0 m0
  have Q2 : FnOk l.prog w K mg base CX0 1 f2 _ ["_law_script"] (spDeck K) := ok_deck F2 T
  have Q3 : FnOk l.prog w K mg base CX0 1 f3 _ ["_law_deck_here", "_law_most"] spTake := ok_take F3
  have Q4 : FnOk l.prog w K mg base CX0 1 f4 _ ["_law_size_here"] spHalves := ok_Halves F4 T
  have Q5 : FnOk l.prog w K mg base CX0 2 f5 _ ["_law_deck_here"] spSize := ok_Size F5 T k3 b3 m3 (Q3.mono (by decide))
  have Q6 : FnOk l.prog w K mg base CX0 2 f6 _ ["_law_deck_here", "_law_size_here", "_law_halves_here"] spStretch := ok_Stretch F6 T k3 b3 m3 (Q3.mono (by decide))
  have Q7 : FnOk l.prog w K mg base CX0 1 f7 _ ["_law_found"] spPairs := ok_Pairs F7 T
  have Q8 : FnOk l.prog w K mg base CX0 9 f8 _ ["_law_size_here", "_law_low", "_law_high", "_law_above"] spRight := ok_Right F8 T k1 b1 m1 (Q1.mono (by decide)) k7 b7 m7 (Q7.mono (by decide))
  exact ok_Law F9 T k2 b2 m2 (Q2.mono (by decide)) k5 b5 m5 (Q5.mono (by decide)) k4 b4 m4 (Q4.mono (by decide)) k6 b6 m6 (Q6.mono (by decide)) k8 b8 m8 (Q8.mono (by decide)) k1 b1 m1 (Q1.mono (by decide))
theorem walk {l : PySem.W.OpenLaw} {q : Program} {loose : List Str} {XP : (Str → Option Value) → Heap → Prop} {YP : World → Heap → Prop} {d : DefRec} {K : Params → PySem.W.Frag} (hn : l.most = some 63) (hdf : d.params.defaults = [])
    (hY : ∀ (w : World) (h : Heap), YP w h → (K w.params).In h)
    (F : ∀ (w : World) (mg : Str → Option Value) (fa : Addr) (h : Heap), (K w.params).In h → h.Ns mainGlobals mg → mg d.name = some (.ref fa) →
      ∃ fd : FuncData, (∀ (s : Shared) (u : Value), BindsTo s fd ⟨[u], []⟩ [("_law_script", u)]) ∧ ∀ base : Heap, (K w.params).In base → base.Ns mainGlobals mg → FnOk l.prog w (K w.params) mg base CX0 10 fa fd ["_law_script"] (spLaw (K w.params))) :
    PySem.W.WalkO q loose XP YP l.row.toRowW d [] (fun f vs => PySem.call f vs) :=
  L2.walk_of (n := 63) (k := 10) (x := "_law_script") (CX := fun _ => CX0) (sp := fun w => spLaw (K w.params)) hn (by decide) hdf ⟨rfl, by decide, by decide, rfl⟩ hY F (fun _ _ a ns hl _ hS => ⟨a, ns, rfl, hS, hl, fun _ => rfl⟩) fun _ _ _ _ _ z => z
end K23
open PySem PySem.W PyProof.Rows
set_option maxRecDepth 100000 in
set_option maxHeartbeats 0 in
theorem PySem.Challenge.cw_joinedever_k23_pieces_of_a_stretch_holds : PySem.Challenge.rw_joinedever_k23_pieces_of_a_stretch.Holds := by
  w_on; o_law; k_head; (case hw => w_witness2)
  k_fill
  refine K23.walk (l := PySem.Challenge.rw_joinedever_k23_pieces_of_a_stretch) rfl rfl (fun w h Y => PySem.W.kIn_of Y) ?F
  case F =>
    intro w mg fa h KX G hmg
    refine' K23.all_mk KX G hmg ?a0 ?l0 ?c0 ?k0 ?a1 ?l1 ?c1 ?k1 ?a2 ?l2 ?c2 ?k2 ?a3 ?l3 ?c3 ?k3 ?a4 ?l4 ?c4 ?k4 ?a5 ?l5 ?c5 ?k5 ?a6 ?l6 ?c6 ?k6 ?a7 ?l7 ?c7 ?k7 ?a8 ?l8 ?c8 ?k8 ?a9 ?l9 ?c9 ?k9 ?z0 ?z1 ?z2 ?z3 ?z4 ?z5 ?z6 ?z7 ?z8 ?z9 ?z10 ?z11
    (case a0 => k_is)
    (case l0 => k_is)
    (case c0 => k_is)
    (case k0 => k_is)
    (case a1 => k_is)
    (case l1 => k_is)
    (case c1 => k_is)
    (case k1 => k_is)
    (case a2 => k_is)
    (case l2 => k_is)
    (case c2 => k_is)
    (case k2 => k_is)
    (case a3 => k_is)
    (case l3 => k_is)
    (case c3 => k_is)
    (case k3 => k_is)
    (case a4 => k_is)
    (case l4 => k_is)
    (case c4 => k_is)
    (case k4 => k_is)
    (case a5 => k_is)
    (case l5 => k_is)
    (case c5 => k_is)
    (case k5 => k_is)
    (case a6 => k_is)
    (case l6 => k_is)
    (case c6 => k_is)
    (case k6 => k_is)
    (case a7 => k_is)
    (case l7 => k_is)
    (case c7 => k_is)
    (case k7 => k_is)
    (case a8 => k_is)
    (case l8 => k_is)
    (case c8 => k_is)
    (case k8 => k_is)
    (case a9 => k_is)
    (case l9 => k_is)
    (case c9 => k_is)
    (case k9 => k_is)
    (case z0 => k_is)
    (case z1 => k_is)
    (case z2 => k_is)
    (case z3 => k_is)
    (case z4 => k_is)
    (case z5 => k_is)
    (case z6 => k_is)
    (case z7 => k_is)
    (case z8 => k_is)
    (case z9 => k_is)
    (case z10 => k_is)
    (case z11 => k_is)
