import PyProof.Rows.All
import Wide.All
import OpenK.AllK
import Wide.FinOn
import KE.KStateDown
import Lean
import HandS.ForMost
import HandS.Defaults
import HandS.Wide
import HandS.WideBits
import HandS.IsInst
import HandS.More
import KE.KWords
import HandS.Star
import HandS.RaiseMore
import HandS.Head0
import HandS.Head1
import HandS.Head2
import HandS.HeadEnd
import HandS.HeadHook1
import HandS.HeadHook2
import HandS.HeadHook3
import HandS.HeadHook4
import PySem.Challenge.RW_telltrove_k07_values_written
set_option Elab.async false
set_option linter.all false
set_option maxRecDepth 100000
set_option maxHeartbeats 4000000
namespace Z
open PySem PySem.Spec PyProof.Rows L2
def topS (i : Nat) : Stmt := PySem.Challenge.pw_telltrove_k07_values_written.main.body.getD i (.Pass ⟨0, 0, 0, 0⟩)
/-! ### the callers' frame -/
/-- a def of the top as the head leaves it -/
def Df (K : PySem.W.Frag) (mg : Str → Option Value) (x : Str) (st : Stmt) : Prop := ∃ f fd, FunD K x x (defArgs st) (defBody st) (defScope st) [] [] f fd ∧ mg x = some (.ref f)
/-- a def that can be called by its name, with what it promises -/
def Cal (P : Program) (w : World) (K : PySem.W.Frag) (mg : Str → Option Value) (base : Heap) (x : Str) (k : Nat) (ps : List Str) (sp : Sp) : Prop :=
  ∃ f fd, mg x = some (.ref f) ∧ PySem.W.keepIn K (.ref f) = true ∧ Binds K fd ps [] ∧ FnOk P w K mg base CX0 k f fd ps sp
theorem ixN_k {n j : Nat} (h : j < n) : ixN n (j : Int) = some j := by
  unfold ixN
  rw [if_pos (by omega), if_pos (by omega)]
  rfl
theorem small_le {n : Nat} (h : n ≤ 1000) : n ≤ sizeLine := Nat.le_of_lt (small1000 h)
/-- all but d stands -/
def Chg (d : Addr) (H H' : Hp) : Prop := ∀ b o, b ≠ d → H b = some o → H' b = some o
theorem Chg.refl (d : Addr) (H : Hp) : Chg d H H := fun _ _ _ h => h
theorem Chg.trans {d : Addr} {H H1 H2 : Hp} (a : Chg d H H1) (b : Chg d H1 H2) : Chg d H H2 := fun c o n h => b c o n (a c o n h)
theorem Chg.upd (d : Addr) (H : Hp) (o : HO) : Chg d H (upd H d o) := fun b u n h => by rw [upd_ne n]; exact h
theorem Chg.new {d : Addr} {H : Hp} {p : Addr} {o : HO} (h : H p = none) : Chg d H (L2.upd H p o) := fun b u _ e => by rw [upd_ne (ne_of_none e h)]; exact e
theorem Chg.of_same {d : Addr} {H H' : Hp} (s : Same H H') : Chg d H H' := fun b o _ h => s b o h
theorem same_upd {H : Hp} {p : Addr} {o : HO} (h : H p = none) : Same H (upd H p o) := fun b x e => by
  rw [upd_ne (ne_of_none e h)]
  exact e
/-- the draws' object at d: the list at l, the place, what is left of a great cell, the state, the number of mixes; then what else a law keeps there -/
def Dr (H : Hp) (d l : Addr) (rest : List V) : Prop := ∃ (ns : List Int) (at_ : Nat) (big st n : Int), H d = some (.lst (.ref l :: .int (at_ : Int) :: .int big :: .int st :: .int n :: rest)) ∧ H l = some (.lst (ns.map V.int)) ∧ ns.length ≤ 1000
theorem Dr.same {H H' : Hp} {d l : Addr} {rest : List V} (h : Dr H d l rest) (c : Same H H') : Dr H' d l rest := by
  obtain ⟨ns, a, big, st, m, h1, h2, h3⟩ := h
  exact ⟨ns, a, big, st, m, c _ _ h1, c _ _ h2, h3⟩
theorem Dr.lst {H : Hp} {d l : Addr} {rest : List V} (h : Dr H d l rest) : ∃ ys, H d = some (.lst ys) := let ⟨_, _, _, _, _, h, _⟩ := h; ⟨_, h⟩
theorem Dr.src {H : Hp} {d l : Addr} {rest : List V} (h : Dr H d l rest) : ∃ ys, H l = some (.lst ys) := let ⟨_, _, _, _, _, _, h, _⟩ := h; ⟨_, h⟩
theorem dr_ne {l : Addr} {ns : List Int} {x : V} {a : Addr} {rest : List V} : HO.lst (ns.map V.int) ≠ .lst (.ref a :: x :: rest) := by
  intro z
  cases ns with
  | nil => cases z
  | cons n ns => cases z
theorem Dr.ne {H : Hp} {d l : Addr} {rest : List V} (h : Dr H d l rest) : l ≠ d := by
  obtain ⟨ns, a, big, st, m, h1, h2, h3⟩ := h
  exact ne_of h2 h1 (dr_ne (l := l))
/-- an object that is neither of both is changed -/
theorem Dr.upd {H : Hp} {d l p : Addr} {rest : List V} {o : HO} (h : Dr H d l rest) (n1 : p ≠ d) (n2 : p ≠ l) : Dr (upd H p o) d l rest := by
  obtain ⟨ns, a, big, st, m, h1, h2, h3⟩ := h
  exact ⟨ns, a, big, st, m, by rw [upd_ne n1.symm]; exact h1, by rw [upd_ne n2.symm]; exact h2, h3⟩
def spBegin (K : PySem.W.Frag) : Sp := fun vs H Q _ => ∃ (a : Addr) (ns : List Int), vs = [.ref a] ∧ SqL K H a (ns.map V.int) ∧ ns.length ≤ 1000 ∧ ∀ H' d l, Same H H' → H d = none → Dr H' d l [] → Q (.ref d) H'
def spStart (K : PySem.W.Frag) : Sp := fun vs H Q _ => ∃ (a : Addr) (ns : List Int) (x y : Int), vs = [.ref a, .int x, .int y] ∧ SqL K H a (ns.map V.int) ∧ ns.length ≤ 1000 ∧ ∀ H' d l, Same H H' → H d = none → Dr H' d l [.int x, .int y, .int 0] → Q (.ref d) H'
def spMix : Sp := fun vs H Q _ => ∃ (d : Addr) (x y z : V) (st n k : Int) (rest : List V), vs = [.ref d, .int k] ∧ H d = some (.lst (x :: y :: z :: .int st :: .int n :: rest)) ∧
  ∀ st' n', Q .non (L2.upd H d (.lst (x :: y :: z :: .int st' :: .int n' :: rest)))
def spDraw : Sp := fun vs H Q _ => ∃ (d l : Addr) (k : Int) (rest : List V), vs = [.ref d, .int k] ∧ 0 < k ∧ k < 1073741824 ∧ Dr H d l rest ∧ ∀ r H', 0 ≤ r → r < k → Dr H' d l rest → Chg d H H' → Q (.int r) H'
/-! ### data: what laws compare -/
inductive T where
  | non
  | int (i : Int)
  | str (s : Str)
  | tup (l : List T)
mutual
def Tv (K : PySem.W.Frag) (H : Hp) : T → V → Prop
  | .non, v => v = .non
  | .int i, v => v = .int i
  | .str s, v => v = .str s
  | .tup l, v => ∃ a xs, v = .ref a ∧ SqT K H a xs ∧ TvL K H l xs
def TvL (K : PySem.W.Frag) (H : Hp) : List T → List V → Prop
  | [], xs => xs = []
  | t :: l, xs => ∃ x r, xs = x :: r ∧ Tv K H t x ∧ TvL K H l r
end
/-- at most n tuples deep -/
def T.le : Nat → T → Prop
  | 0, .tup _ => False
  | n + 1, .tup l => l.length ≤ 1000000 ∧ ∀ t ∈ l, T.le n t
  | _, _ => True
section
variable {K : PySem.W.Frag} {H H' : Hp}
theorem TvL.length : ∀ {l : List T} {xs : List V}, TvL K H l xs → xs.length = l.length
  | [], _, h => by
    rw [show _ = _ from h]
    rfl
  | t :: l, _, h => by
    obtain ⟨x, r, rfl, _, h2⟩ := h
    rw [List.length_cons, List.length_cons, TvL.length h2]
theorem TvL.get : ∀ {l : List T} {xs : List V} {i : Nat} {t : T}, TvL K H l xs → l[i]? = some t → ∃ x, xs[i]? = some x ∧ Tv K H t x
  | [], _, _, _, _, e => by simp at e
  | u :: l, _, 0, t, h, e => by
    obtain ⟨x, r, rfl, h1, _⟩ := h
    have e1 : u = t := Option.some.inj e
    exact ⟨x, rfl, e1 ▸ h1⟩
  | u :: l, _, i + 1, t, h, e => by
    obtain ⟨x, r, rfl, _, h2⟩ := h
    exact TvL.get (i := i) h2 e
mutual
theorem Tv.map (k : ∀ a xs, SqT K H a xs → SqT K H' a xs) : ∀ (t : T) (v : V), Tv K H t v → Tv K H' t v
  | .non, _, h => h
  | .int _, _, h => h
  | .str _, _, h => h
  | .tup l, _, h => by
    obtain ⟨a, xs, e, h1, h2⟩ := h
    exact ⟨a, xs, e, k a xs h1, TvL.map k l xs h2⟩
theorem TvL.map (k : ∀ a xs, SqT K H a xs → SqT K H' a xs) : ∀ (l : List T) (xs : List V), TvL K H l xs → TvL K H' l xs
  | [], _, h => h
  | t :: l, _, h => by
    obtain ⟨x, r, e, h1, h2⟩ := h
    exact ⟨x, r, e, Tv.map k t x h1, TvL.map k l r h2⟩
end
theorem sqt_same (s : Same H H') : ∀ a xs, SqT K H a xs → SqT K H' a xs := fun a xs h => by
  rcases h with (h | ⟨o, h⟩) | h
  · exact .inl (.inl (s _ _ h))
  · exact .inl (.inr ⟨o, s _ _ h⟩)
  · exact .inr h
theorem sqt_chg {d : Addr} {ys : List V} (s : Chg d H H') (e : H d = some (.lst ys)) : ∀ a xs, SqT K H a xs → SqT K H' a xs := fun a xs h => by
  rcases h with (h | ⟨o, h⟩) | h
  · exact .inl (.inl (s _ _ (ne_of h e (fun z => nomatch z)) h))
  · exact .inl (.inr ⟨o, s _ _ (ne_of h e (fun z => nomatch z)) h⟩)
  · exact .inr h
theorem tyx_tup {a : Addr} {xs : List V} (h : SqT K H a xs) : TyX K H (.ref a) (.type "tuple") := by
  rcases h with (h | ⟨o, h⟩) | ⟨o, its, n, h1, h2, _⟩
  · exact .base (.tup h)
  · exact .fTuple h
  · exact .kTuple h1 h2
theorem Tv.same (s : Same H H') {t : T} {v : V} (h : Tv K H t v) : Tv K H' t v := Tv.map (sqt_same s) t v h
theorem Tv.chg {d : Addr} {ys : List V} (s : Chg d H H') (e : H d = some (.lst ys)) {t : T} {v : V} (h : Tv K H t v) : Tv K H' t v := Tv.map (sqt_chg s e) t v h
/-- strs -/
def tS (l : List Str) : T := .tup (l.map T.str)
theorem tvl_strs : ∀ l : List Str, TvL K H (l.map T.str) (l.map V.str)
  | [] => rfl
  | s :: l => ⟨_, _, rfl, rfl, tvl_strs l⟩
theorem tv_strs {a : Addr} {l : List Str} (h : SqT K H a (l.map V.str)) : Tv K H (tS l) (.ref a) := ⟨a, _, rfl, h, tvl_strs l⟩
theorem le_strs {l : List Str} (n : Nat) (hl : l.length ≤ 1000000) : T.le (n + 1) (tS l) := ⟨by rw [List.length_map]; exact hl, fun t h => by
  obtain ⟨s, _, rfl⟩ := List.mem_map.mp h
  cases n <;> trivial⟩
end
def spExact (K : PySem.W.Frag) (n : Nat) : Sp := fun vs H Q _ => ∃ (x y : V) (t : T), vs = [x, y] ∧ Tv K H t x ∧ Tv K H t y ∧ T.le n t ∧ Q (.bl true) H
def spExact0 (K : PySem.W.Frag) : Nat → Sp
  | 0 => fun _ _ _ _ => False
  | n + 1 => spExact K n
open PySem.NumText
/-! ### names, integers, values as tokens -/
open TL
def resS : Str := Str.ofString "open add from retire rule step to by none num pick opt row of one rec same rank clip table apart some must" ++ Str.ofString " each arms parts or and not has tag long"
def RS : List Str := [Str.ofString "open", Str.ofString "add", Str.ofString "from", Str.ofString "retire", Str.ofString "rule", Str.ofString "step", Str.ofString "to", Str.ofString "by", Str.ofString "none", Str.ofString "num", Str.ofString "pick", Str.ofString "opt", Str.ofString "row", Str.ofString "of", Str.ofString "one", Str.ofString "rec", Str.ofString "same", Str.ofString "rank", Str.ofString "clip", Str.ofString "table", Str.ofString "apart", Str.ofString "some", Str.ofString "must", Str.ofString "each", Str.ofString "arms", Str.ofString "parts", Str.ofString "or", Str.ofString "and", Str.ofString "not", Str.ofString "has", Str.ofString "tag", Str.ofString "long"]
theorem res_words : Txt.words resS = RS := by
  rw [KWd.words_scan]
  decide +kernel
theorem res_len : resS.length = 146 := by decide +kernel
def low (c : Nat) : Bool := decide (97 ≤ c) && decide (c ≤ 122)
def dig (c : Nat) : Bool := decide (48 ≤ c) && decide (c ≤ 57)
def nmL : List Nat → Bool
  | [] => false
  | c :: r => low c && r.all fun d => low d || dig d
def isNm (s : Str) : Bool := decide (1 ≤ s.length) && decide (s.length ≤ 8) && !RS.contains s && nmL (tl s)
def letS : Str := Str.ofString "abcdefghijklmnopqrstuvwxyz0123456789"
theorem let_len : letS.length = 36 := by decide +kernel
theorem let_low : ∀ (i : Nat) (h : i < (tl letS).length), (low (tl letS)[i] || dig (tl letS)[i]) = true ∧ (i < 26 → low (tl letS)[i] = true) := by decide +kernel
theorem res_more : ∀ w ∈ RS, ∀ c ∈ tl letS, isNm (w ++ ⟨#[c]⟩) = true := by
  have h : (RS.all fun w => (tl letS).all fun c => isNm (w ++ ⟨#[c]⟩)) = true := by decide +kernel
  intro w hw c hc
  exact List.all_eq_true.mp (List.all_eq_true.mp h w hw) c hc
/-- a name that is not reserved, or is made so -/
theorem nm_of {s : Str} (h1 : 1 ≤ s.length) (h2 : s.length ≤ 8) (h3 : nmL (tl s) = true) (h4 : s ∉ RS) : isNm s = true := by
  unfold isNm
  rw [decide_eq_true h1, decide_eq_true h2, h3]
  have e : RS.contains s = false := by
    cases h : RS.contains s with
    | false => rfl
    | true => exact absurd (List.contains_iff_mem.mp h) h4
  rw [e]
  rfl
theorem low_dig {c : Nat} (h : low c = true) : dig c = false := by
  unfold low at h
  unfold dig
  simp at h ⊢
  omega
/-- the text of an int -/
def istr (i : Int) : Str := Str.ofString (toString i)
def isIntL (l : List Nat) : Bool :=
  let d := if l.take 1 = [45] then l.drop 1 else l
  decide (1 ≤ d.length) && decide (d.length ≤ 4) && !(decide (d.head? = some 48) && decide (l ≠ [48])) && d.all dig
def isIn (s : Str) : Bool := isIntL (tl s)
theorem istr_nat (n : Nat) : tl (istr (n : Int)) = numL n := tl_num n
theorem istr_neg (n : Nat) : tl (istr (-((n + 1 : Nat) : Int))) = 45 :: numL (n + 1) := by
  have e : (-((n + 1 : Nat) : Int)) = Int.negSucc n := rfl
  have e2 : toString (Int.negSucc n) = "-" ++ toString (n + 1) := rfl
  have e3 : toString ((n + 1 : Nat) : Int) = toString (n + 1) := rfl
  have h := tl_num (n + 1)
  rw [e3] at h
  unfold istr
  rw [e, e2, tl_ofString, String.toList_append, List.map_append]
  rw [tl_ofString] at h
  rw [h]
  rfl
theorem numL_head (n : Nat) (h : n ≠ 0) : (numL n).head? ≠ some 48 := by
  induction n using Nat.strongRecOn with
  | _ n ih =>
    by_cases h9 : n < 10
    · rw [numL_lt h9]
      intro z
      have z2 : 48 + n = 48 := Option.some.inj z
      omega
    · rw [numL_step (by omega)]
      have hne := numL_ne (n / 10)
      have ih9 := ih (n / 10) (by omega) (by omega)
      cases e : numL (n / 10) with
      | nil => exact absurd e hne
      | cons c r =>
        rw [e] at ih9
        exact ih9
theorem numL_dig (n : Nat) : (numL n).all dig = true := List.all_eq_true.mpr fun c hc => by
  have := numL_digits n c hc
  unfold dig
  simp
  omega
theorem numL_no45 (n : Nat) : (numL n).take 1 ≠ [45] := by
  cases h : numL n with
  | nil => exact absurd h (numL_ne n)
  | cons c r =>
    intro z
    have z2 : c = 45 := by
      have z3 : [c] = [45] := z
      injection z3
    have := numL_digits n c (by rw [h]; exact List.mem_cons_self)
    omega
theorem isIn_istr {i : Int} (h1 : -9999 ≤ i) (h2 : i ≤ 9999) : isIn (istr i) = true := by
  unfold isIn isIntL
  rcases Int.lt_or_le i 0 with h | h
  · obtain ⟨n, rfl⟩ : ∃ n : Nat, i = -((n + 1 : Nat) : Int) := ⟨(-i).toNat - 1, by omega⟩
    rw [istr_neg]
    have hl := numL_len (n := n + 1) (k := 4) (by decide) (by omega)
    have hne := List.length_pos_iff.mpr (numL_ne (n + 1))
    have hh := numL_head (n + 1) (by omega)
    show (decide (1 ≤ (numL (n + 1)).length) && decide ((numL (n + 1)).length ≤ 4) && !(decide ((numL (n + 1)).head? = some 48) && _) && (numL (n + 1)).all dig) = true
    rw [decide_eq_true (show 1 ≤ (numL (n + 1)).length from hne), decide_eq_true hl, decide_eq_false hh, numL_dig]
    rfl
  · obtain ⟨n, rfl⟩ := Int.eq_ofNat_of_zero_le h
    rw [istr_nat]
    have hl := numL_len (n := n) (k := 4) (by decide) (by omega)
    have hne := List.length_pos_iff.mpr (numL_ne n)
    rw [if_neg (numL_no45 n)]
    show (decide (1 ≤ (numL n).length) && decide ((numL n).length ≤ 4) && !(decide ((numL n).head? = some 48) && decide (numL n ≠ [48])) && (numL n).all dig) = true
    rw [decide_eq_true (show 1 ≤ (numL n).length from hne), decide_eq_true hl, numL_dig]
    by_cases h0 : n = 0
    · subst h0
      rw [numL_lt (by omega)]
      rfl
    · rw [decide_eq_false (numL_head n h0)]
      rfl
theorem int_istr {i : Int} (h1 : -9999 ≤ i) (h2 : i ≤ 9999) : intText? (istr i) = some i := by
  rcases Int.lt_or_le i 0 with h | h
  · obtain ⟨n, rfl⟩ : ∃ n : Nat, i = -((n + 1 : Nat) : Int) := ⟨(-i).toNat - 1, by omega⟩
    have hl := numL_len (n := n + 1) (k := 4) (by decide) (by omega)
    have e := intText_neg (x := istr (-((n + 1 : Nat) : Int))) (cs := numL (n + 1)) (istr_neg n) (numL_digits _) (numL_ne _) (by rw [len_tl, istr_neg, List.length_cons]; omega)
    rw [e, numL_val]
  · obtain ⟨n, rfl⟩ := Int.eq_ofNat_of_zero_le h
    have hl := numL_len (n := n) (k := 4) (by decide) (by omega)
    exact int_num (n := n) (by omega)
theorem istr_len {i : Int} (h1 : -9999 ≤ i) (h2 : i ≤ 9999) : (istr i).length ≤ 5 := by
  rw [len_tl]
  rcases Int.lt_or_le i 0 with h | h
  · obtain ⟨n, rfl⟩ : ∃ n : Nat, i = -((n + 1 : Nat) : Int) := ⟨(-i).toNat - 1, by omega⟩
    have hl := numL_len (n := n + 1) (k := 4) (by decide) (by omega)
    rw [istr_neg, List.length_cons]
    omega
  · obtain ⟨n, rfl⟩ := Int.eq_ofNat_of_zero_le h
    have hl := numL_len (n := n) (k := 4) (by decide) (by omega)
    rw [istr_nat]
    omega
theorem istr_signs (i : Int) : ∀ c ∈ tl (istr i), c = 45 ∨ (48 ≤ c ∧ c ≤ 57) := by
  rcases Int.lt_or_le i 0 with h | h
  · obtain ⟨n, rfl⟩ : ∃ n : Nat, i = -((n + 1 : Nat) : Int) := ⟨(-i).toNat - 1, by omega⟩
    rw [istr_neg]
    intro c hc
    rcases List.mem_cons.mp hc with e | hc
    · exact .inl e
    · exact .inr (numL_digits _ c hc)
  · obtain ⟨n, rfl⟩ := Int.eq_ofNat_of_zero_le h
    rw [istr_nat]
    exact fun c hc => .inr (numL_digits _ c hc)
theorem nm_parts {s : Str} (h : isNm s = true) : 1 ≤ s.length ∧ s.length ≤ 8 ∧ s ∉ RS ∧ nmL (tl s) = true := by
  unfold isNm at h
  simp only [Bool.and_eq_true, decide_eq_true_eq, Bool.not_eq_true'] at h
  obtain ⟨⟨⟨a, b⟩, c⟩, d⟩ := h
  refine ⟨a, b, fun z => ?_, d⟩
  rw [List.contains_iff_mem.mpr z] at c
  cases c
theorem nm_signs {s : Str} (h : isNm s = true) : ∀ c ∈ tl s, (97 ≤ c ∧ c ≤ 122) ∨ (48 ≤ c ∧ c ≤ 57) := by
  obtain ⟨_, _, _, h⟩ := nm_parts h
  cases e : tl s with
  | nil =>
    intro c hc
    cases hc
  | cons d r =>
    rw [e] at h
    simp only [nmL, Bool.and_eq_true, List.all_eq_true, Bool.or_eq_true, low, dig, decide_eq_true_eq] at h
    intro c hc
    rcases List.mem_cons.mp hc with e2 | hc
    · rw [e2]
      exact .inl h.1
    · exact h.2 c hc
theorem nm_notIn {s : Str} (h : isNm s = true) : isIn s = false := by
  obtain ⟨_, _, _, h⟩ := nm_parts h
  unfold isIn isIntL
  cases e : tl s with
  | nil =>
    rw [e] at h
    cases h
  | cons d r =>
    rw [e] at h
    simp only [nmL, Bool.and_eq_true] at h
    have hd := low_dig h.1
    have h45 : ¬ (d :: r).take 1 = [45] := by
      intro z
      have z3 : [d] = [45] := z
      injection z3 with z4 _
      rw [z4] at h
      exact absurd h.1 (by decide)
    rw [if_neg h45]
    show (_ && (dig d && r.all dig)) = false
    rw [hd]
    simp
/-- a value's atoms are right -/
def Aok : Nat → T → Prop
  | _, .non => False
  | _, .int i => -9999 ≤ i ∧ i ≤ 9999
  | _, .str s => isNm s = true
  | 0, .tup _ => False
  | n + 1, .tup l => ∀ t ∈ l, Aok n t
abbrev sO : Str := Str.ofString "["
abbrev sC : Str := Str.ofString "]"
abbrev sK : Str := Str.ofString ","
/-- items with commas between them -/
def listed : List (List Str) → List Str
  | [] => []
  | x :: r => x ++ r.flatMap fun y => sK :: y
theorem listed_snoc (l : List (List Str)) (y : List Str) : listed (l ++ [y]) = if l = [] then y else listed l ++ sK :: y := by
  cases l with
  | nil => simp [listed]
  | cons x r => simp [listed, List.append_assoc]

theorem listed_app (a b : List (List Str)) : listed (a ++ b) = listed a ++ (if a = [] then listed b else b.flatMap fun y => sK :: y) := by
  cases a with
  | nil => rfl
  | cons x r => simp [listed, List.append_assoc]
theorem listed_mem {l : List (List Str)} {y : List Str} (h : y ∈ l) : y.length ≤ (listed l).length := by
  cases l with
  | nil => cases h
  | cons x r =>
    show y.length ≤ (x ++ r.flatMap fun y => sK :: y).length
    rw [List.length_append]
    rcases List.mem_cons.mp h with e | h
    · rw [e]
      omega
    · have h2 : ∀ r : List (List Str), y ∈ r → y.length ≤ (r.flatMap fun y => sK :: y).length := by
        intro r
        induction r with
        | nil =>
          intro h
          cases h
        | cons z r ih =>
          intro h
          rw [List.flatMap_cons, List.length_append, List.length_cons]
          rcases List.mem_cons.mp h with e | h
          · rw [e]
            omega
          · have := ih h
            omega
      have := h2 r h
      omega
theorem listed_num (l : List (List Str)) (h : ∀ y ∈ l, 1 ≤ y.length) : l.length ≤ (listed l).length := by
  cases l with
  | nil => exact Nat.zero_le _
  | cons x r =>
    show r.length + 1 ≤ (x ++ r.flatMap fun y => sK :: y).length
    rw [List.length_append]
    have h1 := h x List.mem_cons_self
    have h2 : ∀ r : List (List Str), r.length ≤ (r.flatMap fun y => sK :: y).length := by
      intro r
      induction r with
      | nil => exact Nat.zero_le _
      | cons z r ih =>
        rw [List.flatMap_cons, List.length_append, List.length_cons, List.length_cons]
        omega
    have := h2 r
    omega
mutual
def vt : T → List Str
  | .non => []
  | .int i => [istr i]
  | .str s => [s]
  | .tup l => sO :: (listed (vtL l) ++ [sC])
def vtL : List T → List (List Str)
  | [] => []
  | t :: l => vt t :: vtL l
end
theorem vtL_map : ∀ l : List T, vtL l = l.map vt
  | [] => rfl
  | t :: l => by
    show vt t :: vtL l = vt t :: l.map vt
    rw [vtL_map l]
theorem vt_tup (l : List T) : vt (.tup l) = sO :: (listed (l.map vt) ++ [sC]) := by
  show sO :: (listed (vtL l) ++ [sC]) = _
  rw [vtL_map]
theorem listed_len (l : List (List Str)) : (listed l).length + 1 ≤ (l.map fun x => x.length + 1).sum + 1 := by
  cases l with
  | nil => exact Nat.le_refl _
  | cons x r =>
    have h : ∀ r : List (List Str), (r.flatMap fun y => sK :: y).length = (r.map fun x => x.length + 1).sum := by
      intro r
      induction r with
      | nil => rfl
      | cons y r ih =>
        rw [List.flatMap_cons, List.length_append, ih, List.map_cons, List.sum_cons]
        rfl
    show (x ++ r.flatMap fun y => sK :: y).length + 1 ≤ _
    rw [List.length_append, h, List.map_cons, List.sum_cons]
    omega
theorem sum_le {l : List Nat} {b : Nat} (h : ∀ x ∈ l, x ≤ b) : l.sum ≤ l.length * b := by
  induction l with
  | nil => simp
  | cons x l ih =>
    have h1 := h x List.mem_cons_self
    have h2 := ih fun y hy => h y (List.mem_cons_of_mem _ hy)
    rw [List.sum_cons, List.length_cons, Nat.add_mul]
    omega
theorem vt_len {l : List T} {b : Nat} (h : ∀ t ∈ l, (vt t).length ≤ b) : (vt (.tup l)).length ≤ 2 + l.length * (b + 1) := by
  have h1 := listed_len (l.map vt)
  have h2 := sum_le (l := (l.map vt).map fun x => x.length + 1) (b := b + 1) (fun x hx => by
    rw [List.map_map] at hx
    obtain ⟨t, ht, rfl⟩ := List.mem_map.mp hx
    have := h t ht
    show (vt t).length + 1 ≤ b + 1
    omega)
  rw [List.length_map, List.length_map] at h2
  rw [vt_tup, List.length_cons, List.length_append, List.length_singleton]
  omega
theorem vt_pos : ∀ (n : Nat) (t : T), Aok n t → 1 ≤ (vt t).length
  | n, .non, h => by cases n <;> exact h.elim
  | _, .int _, _ => Nat.le_refl _
  | _, .str _, _ => Nat.le_refl _
  | _, .tup l, _ => by
    rw [vt_tup, List.length_cons]
    omega
/-- all tokens of a right value: short, without blanks -/
def tkOk (s : Str) : Prop := s.length ≤ 8 ∧ 32 ∉ tl s
theorem vt_ok : ∀ (n : Nat) (t : T), Aok n t → ∀ s ∈ vt t, tkOk s
  | n, .non, h => by cases n <;> exact h.elim
  | n, .int i, h => fun s hs => by
    have h : -9999 ≤ i ∧ i ≤ 9999 := by cases n <;> exact h
    rw [List.mem_singleton.mp hs]
    have h1 := istr_len h.1 h.2
    refine ⟨by omega, fun z => ?_⟩
    have := istr_signs i 32 z
    omega
  | n, .str x, h => fun s hs => by
    have h : isNm x = true := by cases n <;> exact h
    rw [List.mem_singleton.mp hs]
    refine ⟨(nm_parts h).2.1, fun z => ?_⟩
    have := nm_signs h 32 z
    omega
  | 0, .tup l, h => h.elim
  | n + 1, .tup l, h => fun s hs => by
    have ih : ∀ t ∈ l, ∀ s ∈ vt t, tkOk s := fun t ht => vt_ok n t (h t ht)
    rw [vt_tup] at hs
    have hO : tkOk sO := ⟨by decide +kernel, by decide +kernel⟩
    have hC : tkOk sC := ⟨by decide +kernel, by decide +kernel⟩
    have hK : tkOk sK := ⟨by decide +kernel, by decide +kernel⟩
    rcases List.mem_cons.mp hs with e | hs
    · rw [e]
      exact hO
    rcases List.mem_append.mp hs with hs | hs
    · have key : ∀ (m : List T), (∀ t ∈ m, t ∈ l) → ∀ s ∈ ((m.map vt).flatMap fun y => sK :: y), tkOk s := fun m hm s hs => by
        obtain ⟨y, hy, hs⟩ := List.mem_flatMap.mp hs
        obtain ⟨t, ht, rfl⟩ := List.mem_map.mp hy
        rcases List.mem_cons.mp hs with e | hs
        · rw [e]
          exact hK
        · exact ih t (hm t ht) s hs
      cases l with
      | nil => cases hs
      | cons t l =>
        rcases List.mem_append.mp hs with hs | hs
        · exact ih t List.mem_cons_self s hs
        · exact key l (fun u hu => List.mem_cons_of_mem _ hu) s hs
    · rw [List.mem_singleton.mp hs]
      exact hC
/-! the law's machine: the open lists, the last one first; what was last -/
abbrev sV : Str := Str.ofString "value"
abbrev MS : Type := List (List T) × Str
def ival (s : Str) : Int := (intText? s).getD 0
def mstep (st : MS) (k : Str) : Option MS :=
  if k = sO ∧ st.2 ≠ sV then some ([] :: st.1, sO)
  else if k = sC ∧ st.2 ≠ sK ∧ 1 < st.1.length then (match st.1 with | a :: b :: r => some ((b ++ [.tup a]) :: r, sV) | _ => none)
  else if k = sK ∧ st.2 = sV ∧ 1 < st.1.length then some (st.1, sK)
  else if st.2 ≠ sV ∧ (isIn k = true ∨ isNm k = true) then (match st.1 with | a :: r => some ((a ++ [if isIn k = true then .int (ival k) else .str k]) :: r, sV) | _ => none)
  else none
def mrun (st : MS) : List Str → Option MS
  | [] => some st
  | k :: r => (mstep st k).bind fun st => mrun st r
theorem mrun_app (st : MS) (a b : List Str) : mrun st (a ++ b) = (mrun st a).bind fun st => mrun st b := by
  induction a generalizing st with
  | nil => rfl
  | cons k a ih =>
    show (mstep st k).bind _ = ((mstep st k).bind _).bind _
    cases mstep st k with
    | none => rfl
    | some s2 => exact ih s2
theorem atom_ne {k : Str} (h : isIn k = true ∨ isNm k = true) : k ≠ sO ∧ k ≠ sC ∧ k ≠ sK := by
  refine ⟨fun e => ?_, fun e => ?_, fun e => ?_⟩ <;> rw [e] at h <;> exact absurd h (by decide +kernel)
theorem mstep_atom {a : List T} {r : List (List T)} {last k : Str} (hl : last ≠ sV) (h : isIn k = true ∨ isNm k = true) : mstep (a :: r, last) k = some ((a ++ [if isIn k = true then .int (ival k) else .str k]) :: r, sV) := by
  obtain ⟨h1, h2, h3⟩ := atom_ne h
  unfold mstep
  rw [if_neg (fun z => h1 z.1), if_neg (fun z => h2 z.1), if_neg (fun z => h3 z.1), if_pos ⟨hl, h⟩]
theorem sV_ne : sO ≠ sV ∧ sK ≠ sV ∧ sO ≠ sK ∧ sV ≠ sK ∧ sC ≠ sO ∧ sK ≠ sO ∧ sK ≠ sC := by decide +kernel
theorem mrun_vt : ∀ (n : Nat) (t : T), Aok n t → ∀ (a : List T) (r : List (List T)) (last : Str), last ≠ sV → mrun (a :: r, last) (vt t) = some ((a ++ [t]) :: r, sV)
  | n, .non, h, _, _, _, _ => by cases n <;> exact h.elim
  | n, .int i, h, a, r, last, hl => by
    have h : -9999 ≤ i ∧ i ≤ 9999 := by cases n <;> exact h
    show (mstep (a :: r, last) (istr i)).bind _ = _
    have h1 := isIn_istr h.1 h.2
    rw [mstep_atom hl (.inl h1), if_pos h1]
    show some ((a ++ [T.int (ival (istr i))]) :: r, sV) = _
    unfold ival
    rw [int_istr h.1 h.2]
    rfl
  | n, .str s, h, a, r, last, hl => by
    show (mstep (a :: r, last) s).bind _ = _
    have h1 : isNm s = true := by cases n <;> exact h
    have h2 := nm_notIn h1
    rw [mstep_atom hl (.inr h1), if_neg (by rw [h2]; exact Bool.false_ne_true)]
    rfl
  | 0, .tup l, h, _, _, _, _ => h.elim
  | n + 1, .tup l, h, a, r, last, hl => by
    have ih : ∀ t ∈ l, ∀ (a : List T) (r : List (List T)) (last : Str), last ≠ sV → mrun (a :: r, last) (vt t) = some ((a ++ [t]) :: r, sV) := fun t ht => mrun_vt n t (h t ht)
    obtain ⟨n1, n2, n3, n4, n5, n6, n7⟩ := sV_ne
    have hopen : mstep (a :: r, last) sO = some ([] :: a :: r, sO) := by
      unfold mstep
      rw [if_pos ⟨rfl, hl⟩]
    have hclose : ∀ (x : List T) (last : Str), last ≠ sK → mstep (x :: a :: r, last) sC = some ((a ++ [.tup x]) :: r, sV) := fun x last hk => by
      unfold mstep
      rw [if_neg (fun z => n5 z.1), if_pos ⟨rfl, hk, by simp⟩]
    have hcomma : ∀ x : List T, mstep (x :: a :: r, sV) sK = some (x :: a :: r, sK) := fun x => by
      unfold mstep
      rw [if_neg (fun z => n6 z.1), if_neg (fun z => n7 z.1), if_pos ⟨rfl, rfl, by simp⟩]
    have hrest : ∀ (m : List T), (∀ t ∈ m, t ∈ l) → ∀ x : List T, mrun (x :: a :: r, sV) ((m.map vt).flatMap fun y => sK :: y) = some ((x ++ m) :: a :: r, sV) := by
      intro m
      induction m with
      | nil =>
        intro _ x
        rw [List.append_nil]
        rfl
      | cons t m ihm =>
        intro hm x
        rw [List.map_cons, List.flatMap_cons, mrun_app]
        have e1 : mrun (x :: a :: r, sV) (sK :: vt t) = some ((x ++ [t]) :: a :: r, sV) := by
          show (mstep (x :: a :: r, sV) sK).bind _ = _
          rw [hcomma x]
          exact ih t (hm t List.mem_cons_self) x (a :: r) sK n2
        rw [e1]
        show mrun ((x ++ [t]) :: a :: r, sV) _ = _
        rw [ihm (fun u hu => hm u (List.mem_cons_of_mem _ hu)) (x ++ [t]), List.append_assoc]
        rfl
    rw [vt_tup]
    show (mstep (a :: r, last) sO).bind _ = _
    rw [hopen]
    show mrun ([] :: a :: r, sO) (listed (l.map vt) ++ [sC]) = _
    rw [mrun_app]
    cases l with
    | nil =>
      show (mstep ([] :: a :: r, sO) sC).bind _ = _
      rw [hclose [] sO n3]
      rfl
    | cons t l =>
      have e1 : mrun ([] :: a :: r, sO) (listed ((t :: l).map vt)) = some ((t :: l) :: a :: r, sV) := by
        show mrun ([] :: a :: r, sO) (vt t ++ (l.map vt).flatMap fun y => sK :: y) = _
        rw [mrun_app, ih t List.mem_cons_self [] (a :: r) sO n1]
        show mrun ([t] :: a :: r, sV) _ = _
        rw [hrest l (fun u hu => List.mem_cons_of_mem _ hu) [t]]
        rfl
      rw [e1]
      show (mstep ((t :: l) :: a :: r, sV) sC).bind _ = _
      rw [hclose (t :: l) sV n4]
      rfl
theorem seq_by {t u : TS} {D : Ends} {σ : L2.St} {H : Hp} (Pv : L2.St → Hp → Prop) (h1 : ∀ nx' : L2.St → Hp → Prop, (∀ σ H, Pv σ H → nx' σ H) → t { D with nx := nx' } σ H) (h2 : ∀ σ H, Pv σ H → u D σ H) : tSeq t u D σ H := h1 (u D) h2
theorem seq_nx {t u : TS} {D D' : Ends} {σ : L2.St} {H : Hp} (e : D'.nx = tSeq t u D) (Pv : L2.St → Hp → Prop) (h1 : ∀ nx' : L2.St → Hp → Prop, (∀ σ H, Pv σ H → nx' σ H) → t { D with nx := nx' } σ H) (h2 : ∀ σ H, Pv σ H → u D σ H) : D'.nx σ H := by
  rw [e]
  exact h1 (u D) h2
theorem ifCi {c : Bool} {i j : Int} {σ : L2.St} {H : Hp} {Q : VK} (h : ∀ m : Int, m = i ∨ m = j → Q (.int m) H) : if c = true then tC (.int i) σ H Q else tC (.int j) σ H Q := by
  split
  · exact h _ (.inl rfl)
  · exact h _ (.inr rfl)
/-! ### further loops -/
theorem for_enum {K : PySem.W.Frag} {a : Addr} {xs : List V} {g : TG} {tb : TS} {D : Ends} {σ : L2.St} {H : Hp} (Pv : Nat → L2.St → Hp → Prop) (h0 : Pv 0 σ H) (hl : ∀ i σ H, i ≤ xs.length → Pv i σ H → SqL K H a xs)
    (hs : ∀ (i : Nat) (x : V) (t : Addr) (σ : L2.St) (H : Hp), xs[i]? = some x → Pv i σ H → H t = none → g (.ref t) σ (upd H t (.tup [.int (i : Nat), x])) fun σ2 H2 => tb { D with nx := Pv (i + 1), ct := Pv (i + 1), bk := D.nx } σ2 H2) (hd : ∀ σ H, Pv xs.length σ H → D.nx σ H) :
    ∃ W : Nat → Nat → L2.St → Hp → Prop, (∃ m, W 0 m σ H) ∧ ∀ i m σ H, W i m σ H →
      ((Ite K a).stop i H ∧ D.nx σ H) ∨ ((Ite K a).go i H ∧ ∃ N : L2.St → Hp → Prop, (∀ σ' H', N σ' H' → ∃ m', m' < m ∧ W (i + 1) m' σ' H') ∧ ∀ x H', (Ite K a).yld i H x H' → g x σ H' fun σ2 H2 => tb { D with nx := N, ct := N, bk := D.nx } σ2 H2) := by
  refine ⟨fun i m σ H => m = xs.length - i ∧ i ≤ xs.length ∧ Pv i σ H, ⟨xs.length, rfl, Nat.zero_le _, h0⟩, ?_⟩
  rintro i m σ H ⟨rfl, hi, p⟩
  have q := hl i σ H hi p
  by_cases hlt : i < xs.length
  · have hx : xs[i]? = some xs[i] := List.getElem?_eq_getElem hlt
    refine .inr ⟨⟨xs, xs[i], q, hx⟩, Pv (i + 1), fun σ' H' p' => ⟨xs.length - (i + 1), by omega, rfl, hlt, p'⟩, fun v H' y => ?_⟩
    obtain ⟨t, x, rfl, ht, rfl, hy⟩ := y
    have e : xs[i]? = some x := hy xs q
    exact hs i x t σ H e p ht
  · have e : i = xs.length := by omega
    subst e
    exact .inl ⟨⟨xs, q, Nat.le_refl _⟩, hd σ H p⟩
theorem for_str {z : Str} {g : TG} {tb : TS} {D : Ends} {σ : L2.St} {H : Hp} (Pv : Nat → L2.St → Hp → Prop) (h0 : Pv 0 σ H)
    (hs : ∀ (i : Nat) (c : Nat) (σ : L2.St) (H : Hp), z.cps.toList[i]? = some c → Pv i σ H → g (.str ⟨#[c]⟩) σ H fun σ2 H2 => tb { D with nx := Pv (i + 1), ct := Pv (i + 1), bk := D.nx } σ2 H2) (hd : ∀ σ H, Pv z.cps.toList.length σ H → D.nx σ H) :
    ∃ W : Nat → Nat → L2.St → Hp → Prop, (∃ m, W 0 m σ H) ∧ ∀ i m σ H, W i m σ H →
      ((Its z).stop i H ∧ D.nx σ H) ∨ ((Its z).go i H ∧ ∃ N : L2.St → Hp → Prop, (∀ σ' H', N σ' H' → ∃ m', m' < m ∧ W (i + 1) m' σ' H') ∧ ∀ x H', (Its z).yld i H x H' → g x σ H' fun σ2 H2 => tb { D with nx := N, ct := N, bk := D.nx } σ2 H2) := by
  have es : z.cps.size = z.cps.toList.length := by simp
  refine ⟨fun i m σ H => m = z.cps.toList.length - i ∧ i ≤ z.cps.toList.length ∧ Pv i σ H, ⟨z.cps.toList.length, rfl, Nat.zero_le _, h0⟩, ?_⟩
  rintro i m σ H ⟨rfl, hi, p⟩
  by_cases hlt : i < z.cps.toList.length
  · refine .inr ⟨by show i < z.cps.size; omega, Pv (i + 1), fun σ' H' p' => ⟨z.cps.toList.length - (i + 1), by omega, rfl, hlt, p'⟩, fun v H' y => ?_⟩
    obtain ⟨rfl, c, hc, rfl⟩ := y
    exact hs i c σ _ (by rw [← hc]; simp) p
  · have e : i = z.cps.toList.length := by omega
    refine .inl ⟨by show z.cps.size ≤ i; omega, hd σ H (by rw [← e]; exact p)⟩
/-! ### drawing from displays -/
theorem pick {items : List V} {Pr : V → Prop} (h : ∀ v ∈ items, Pr v) {r : Int} (h0 : 0 ≤ r) (h1 : r < (items.length : Int)) : ∃ v, atI items r = some v ∧ Pr v := by
  obtain ⟨k, rfl⟩ := Int.eq_ofNat_of_zero_le h0
  have hk : k < items.length := by omega
  exact ⟨items[k], atI_nat (List.getElem?_eq_getElem hk), h _ (List.getElem_mem hk)⟩
def oki (n : Nat) (v : V) : Bool := match v with
  | .int i => decide (0 ≤ i) && decide (i ≤ n)
  | _ => false
theorem oki_all {n : Nat} {items : List V} (h : items.all (oki n) = true) : ∀ v ∈ items, ∃ k : Nat, v = .int (k : Int) ∧ k ≤ n := fun v hv => by
  have h1 := List.all_eq_true.mp h v hv
  cases v with
  | int i =>
    obtain ⟨h1, h2⟩ := Bool.and_eq_true_iff.mp (show (decide (0 ≤ i) && decide (i ≤ n)) = true from h1)
    have h3 := of_decide_eq_true h1
    have h4 := of_decide_eq_true h2
    exact ⟨i.toNat, by rw [Int.toNat_of_nonneg h3], by omega⟩
  | _ => cases h1
theorem Dr.ne_new {H : Hp} {d l p : Addr} {rest : List V} (h : Dr H d l rest) (n : H p = none) : p ≠ d := fun e => by
  obtain ⟨ys, e2⟩ := h.lst
  rw [← e, n] at e2
  cases e2
/-- the draws' object with a room -/
theorem Dr.ne_new2 {H : Hp} {d l p : Addr} {rest : List V} (h : Dr H d l rest) (n : H p = none) : p ≠ l := fun e => by
  obtain ⟨ys, e2⟩ := h.src
  rw [← e, n] at e2
  cases e2
def Dq (H : Hp) (d l : Addr) (rest : List V) : Prop := ∃ a : Int, Dr H d l (.int a :: rest)
theorem Dq.same {H H' : Hp} {d l : Addr} {rest : List V} (h : Dq H d l rest) (s : Same H H') : Dq H' d l rest := let ⟨a, h⟩ := h; ⟨a, h.same s⟩
theorem Dq.ne_new {H : Hp} {d l p : Addr} {rest : List V} (h : Dq H d l rest) (n : H p = none) : p ≠ d := let ⟨_, h⟩ := h; h.ne_new n
theorem Dq.ne_new2 {H : Hp} {d l p : Addr} {rest : List V} (h : Dq H d l rest) (n : H p = none) : p ≠ l := let ⟨_, h⟩ := h; h.ne_new2 n
theorem Dq.lst {H : Hp} {d l : Addr} {rest : List V} (h : Dq H d l rest) : ∃ ys, H d = some (.lst ys) := let ⟨_, h⟩ := h; h.lst
theorem Dq.upd {H : Hp} {d l p : Addr} {rest : List V} {o : HO} (h : Dq H d l rest) (n1 : p ≠ d) (n2 : p ≠ l) : Dq (upd H p o) d l rest := let ⟨a, h⟩ := h; ⟨a, h.upd n1 n2⟩
theorem TvL.snoc {K : PySem.W.Frag} {H : Hp} : ∀ {l : List T} {xs : List V} {t : T} {v : V}, TvL K H l xs → Tv K H t v → TvL K H (l ++ [t]) (xs ++ [v])
  | [], xs, t, v, h, hv => by
    rw [show xs = [] from h]
    exact ⟨v, [], rfl, hv, rfl⟩
  | u :: l, _, t, v, h, hv => by
    obtain ⟨x, r, rfl, h1, h2⟩ := h
    exact ⟨x, r ++ [v], rfl, h1, TvL.snoc h2 hv⟩
/-- a comprehension over a range whose element is drawn -/
theorem lc_gen {K : PySem.W.Frag} {d l0 : Addr} {rest : List V} {n k : Nat} {te : TE} {vs : List Nat} {σ : L2.St} {H1 : Hp} {D : Addr} {Qd : Hp → Prop} {Pt : T → Prop} (a0 : Dq H1 d l0 rest) (nD : H1 D = none) (hn : n < sizeLine)
    (hw : ∀ i : Nat, wipe ((wipe σ vs).set k (some (.int (0 + (i : Int))))) vs = wipe σ vs)
    (hg : ∀ (i : Nat) (H : Hp) (Q : VK), i < n → Dq H d l0 rest → (∀ v t H', Tv K H' t v → Pt t → Dq H' d l0 rest → Chg d H H' → Q v H') → te ((wipe σ vs).set k (some (.int (0 + (i : Int))))) H Q)
    (hd : ∀ H' xs l, H' D = some (.lst xs) → TvL K H' l xs → l.length = n → (∀ t ∈ l, Pt t) → Dq H' d l0 rest → Chg d H1 H' → Qd H') :
    ∃ W : Nat → Nat → Hp → Prop, (∃ m, W 0 m (upd H1 D (.lst []))) ∧ ∀ i m H, W i m H →
      ((Itr 0 n).stop i H ∧ Qd H) ∨ ((Itr 0 n).go i H ∧ ∃ Nx : Hp → Prop, (∀ H', Nx H' → ∃ m', m' < m ∧ W (i + 1) m' H') ∧ ∀ x H', (Itr 0 n).yld i H x H' → gName k x (wipe σ vs) H' fun σ2 H2 => wipe σ2 vs = wipe σ vs ∧ tYes σ2 H2 fun b H3 =>
        if b = true then te σ2 H3 fun y H4 => ∃ acc, H4 D = some (.lst acc) ∧ acc.length < sizeLine ∧ Nx (upd H4 D (.lst (acc ++ [y]))) else Nx H3) := by
  have hDd := a0.ne_new nD
  refine lc_range (lo := 0) (n := n) (fun i H' => ∃ xs l, H' D = some (.lst xs) ∧ TvL K H' l xs ∧ l.length = i ∧ (∀ t ∈ l, Pt t) ∧ Dq H' d l0 rest ∧ Chg d H1 H') ⟨[], [], upd_same, rfl, rfl, (fun t h => by cases h), a0.same (same_upd nD), Chg.new nD⟩ (fun i H' hi h => ?_) (fun H' h => ?_)
  · obtain ⟨xs, l, e, tv, hl, hP, dq, c⟩ := h
    refine ⟨hw i, ?_⟩
    refine hg i H' _ hi dq fun v t H2 hv pt dq2 c2 => ?_
    obtain ⟨ys, hys⟩ := dq.lst
    have e2 := c2 _ _ hDd e
    have cu : Chg D H2 (upd H2 D (.lst (xs ++ [v]))) := Chg.upd _ _ _
    refine ⟨xs, e2, by rw [tv.length, hl]; omega, xs ++ [v], l ++ [t], upd_same, ?_, by rw [List.length_append, List.length_singleton, hl], fun u hu => ?_, ?_, fun b o hb ho => ?_⟩
    · exact TvL.snoc (TvL.map (sqt_chg cu e2) _ _ (TvL.map (sqt_chg c2 hys) _ _ tv)) (Tv.chg cu e2 hv)
    · rcases List.mem_append.mp hu with h | h
      · exact hP u h
      · rw [List.mem_singleton.mp h]
        exact pt
    · exact dq2.upd hDd (a0.ne_new2 nD)
    · have hbD : b ≠ D := fun z => by
        rw [z, nD] at ho
        cases ho
      rw [upd_ne hbD]
      exact c2 _ _ hb (c _ _ hb ho)
  · obtain ⟨xs, l, e, tv, hl, hP, dq, c⟩ := h
    exact hd H' xs l e tv hl hP dq c
abbrev s_write_value : Stmt := topS 1
theorem sc_write_value : FnScope ["value"] ["value"] (defScope s_write_value) := ⟨rfl, rfl, rfl, by decide +kernel, rfl, by decide +kernel, by decide +kernel⟩
abbrev s_listed : Stmt := topS 2
theorem sc_listed : FnScope ["items", "tokens", "at", "item"] ["items"] (defScope s_listed) := ⟨rfl, rfl, rfl, by decide +kernel, rfl, by decide +kernel, by decide +kernel⟩
abbrev s_value_tokens : Stmt := topS 3
theorem sc_value_tokens : FnScope ["value", "inner"] ["value"] (defScope s_value_tokens) := ⟨rfl, rfl, rfl, by decide +kernel, rfl, by decide +kernel, by decide +kernel⟩
abbrev s_begin : Stmt := topS 5
theorem sc_begin : FnScope ["_law_script"] ["_law_script"] (defScope s_begin) := ⟨rfl, rfl, rfl, by decide +kernel, rfl, by decide +kernel, by decide +kernel⟩
abbrev s_mix : Stmt := topS 6
theorem sc_mix : FnScope ["_law_d", "_law_number", "_law_word"] ["_law_d", "_law_number"] (defScope s_mix) := ⟨rfl, rfl, rfl, by decide +kernel, rfl, by decide +kernel, by decide +kernel⟩
abbrev s_draw : Stmt := topS 7
theorem sc_draw : FnScope ["_law_d", "_law_many", "_law_cell", "_law_left", "_law_digit"] ["_law_d", "_law_many"] (defScope s_draw) := ⟨rfl, rfl, rfl, by decide +kernel, rfl, by decide +kernel, by decide +kernel⟩
abbrev s_start : Stmt := topS 8
theorem sc_start : FnScope ["_law_script", "_law_room", "_law_fronts"] ["_law_script", "_law_room", "_law_fronts"] (defScope s_start) := ⟨rfl, rfl, rfl, by decide +kernel, rfl, by decide +kernel, by decide +kernel⟩
abbrev s_reserved : Stmt := topS 9
theorem sc_reserved : FnScope ["_law_words"] [] (defScope s_reserved) := ⟨rfl, rfl, rfl, by decide +kernel, rfl, by decide +kernel, by decide +kernel⟩
abbrev s_any_name : Stmt := topS 10
theorem sc_any_name : FnScope ["_law_d", "_law_letters", "_law_shape", "_law_name", "_law_k"] ["_law_d"] (defScope s_any_name) := ⟨rfl, rfl, rfl, by decide +kernel, rfl, by decide +kernel, by decide +kernel⟩
abbrev s_any_int : Stmt := topS 11
theorem sc_any_int : FnScope ["_law_d", "_law_shape"] ["_law_d"] (defScope s_any_int) := ⟨rfl, rfl, rfl, by decide +kernel, rfl, by decide +kernel, by decide +kernel⟩
abbrev s_any_value : Stmt := topS 12
theorem sc_any_value : FnScope ["_law_d", "_law_deep", "_law_shape", "_law_k"] ["_law_d", "_law_deep"] (defScope s_any_value) := ⟨rfl, rfl, rfl, by decide +kernel, rfl, by decide +kernel, by decide +kernel⟩
abbrev s_exact : Stmt := topS 13
theorem sc_exact : FnScope ["_law_told", "_law_due", "_law_k"] ["_law_told", "_law_due"] (defScope s_exact) := ⟨rfl, rfl, rfl, by decide +kernel, rfl, by decide +kernel, by decide +kernel⟩
abbrev s_is_name : Stmt := topS 14
theorem sc_is_name : FnScope ["_law_token", "_law_k"] ["_law_token"] (defScope s_is_name) := ⟨rfl, rfl, rfl, by decide +kernel, rfl, by decide +kernel, by decide +kernel⟩
abbrev s_is_int : Stmt := topS 15
theorem sc_is_int : FnScope ["_law_token", "_law_digits", "_law_sign"] ["_law_token"] (defScope s_is_int) := ⟨rfl, rfl, rfl, by decide +kernel, rfl, by decide +kernel, by decide +kernel⟩
abbrev s_read_back : Stmt := topS 16
theorem sc_read_back : FnScope ["_law_text", "_law_inner", "_law_last", "_law_token", "_law_done"] ["_law_text"] (defScope s_read_back) := ⟨rfl, rfl, rfl, by decide +kernel, rfl, by decide +kernel, by decide +kernel⟩
abbrev s_wide_value : Stmt := topS 17
theorem sc_wide_value : FnScope ["_law_d", "_law_shape", "_law_k", "_law_value"] ["_law_d"] (defScope s_wide_value) := ⟨rfl, rfl, rfl, by decide +kernel, rfl, by decide +kernel, by decide +kernel⟩
abbrev s_law : Stmt := topS 18
theorem sc_law : FnScope ["_law_script", "_law_d", "_law_value", "_law_other", "_law_told", "_law_more"] ["_law_script"] (defScope s_law) := ⟨rfl, rfl, rfl, by decide +kernel, rfl, by decide +kernel, by decide +kernel⟩
section
variable {P : Program} {w : World} {K : PySem.W.Frag} {mg : Str → Option Value} {base : Heap}
theorem ok_mix (D : Df K mg "_law_mix" s_mix) (m_int : mg "int" = none) : Cal P w K mg base "_law_mix" 1 ["_law_d", "_law_number"] spMix := by
  obtain ⟨f, fd, F, g⟩ := D
  refine ⟨f, fd, g, F.kp, F.bindsN fun _ _ _ _ _ _ us hl => match us, hl with | [_, _], _ => rfl, ?_⟩
  refine F.ok sc_mix (fun vs H Q E h => ?_) (fun cdv A outer s H vs Q E hr h => ?_)
  · obtain ⟨d, x, y, z, st, n, k, rest, rfl, _⟩ := h
    rfl
  · obtain ⟨d, x, y, z, st, n, k, rest, rfl, hd, q⟩ := h
    refine ⟨_, pss_cons (ps_asg (pe_op op_add (pe_ix ix_list (pv 0) pe_int (fun _ _ => rfl)) pe_int) (pg_sub (pv 0) pe_int set_list))
      (pss_cons (ps_set (i := 2) sc_mix.nd rfl (.inl rfl) (pe_op op_mod (pe_callTy call_int1 (by rfl) m_int (by decide +kernel) (pa_cons (pe_op op_add (pe_op op_add (pe_op op_add (pe_op op_mul (pe_ix ix_list (pv 0) pe_int (fun _ _ => rfl)) pe_int) (pe_op op_mul (pv 1) pe_int)) (pe_op op_mul (pe_ix ix_list (pv 0) pe_int (fun _ _ => rfl)) pe_int)) pe_int) pa_nil)) pe_int))
      (pss_cons (ps_set (i := 2) sc_mix.nd rfl (.inl rfl) (pe_op op_mod (pe_callTy call_int1 (by rfl) m_int (by decide +kernel) (pa_cons (pe_op op_add (pe_op op_mul (pe_op op_xor (pv 2) (pe_op op_shr (pv 2) pe_int)) pe_int) (pe_op op_mul (pe_ix ix_list (pv 0) pe_int (fun _ _ => rfl)) pe_int)) pa_nil)) pe_int))
      (pss_cons (ps_set (i := 2) sc_mix.nd rfl (.inl rfl) (pe_op op_mod (pe_callTy call_int1 (by rfl) m_int (by decide +kernel) (pa_cons (pe_op op_add (pe_op op_mul (pe_op op_xor (pv 2) (pe_op op_shr (pv 2) pe_int)) pe_int) pe_int) pa_nil)) pe_int))
      (pss_one (ps_asg (pe_op op_xor (pv 2) (pe_op op_shr (pv 2) pe_int)) (pg_sub (pv 0) pe_int set_list)))))), ?_⟩
    refine ⟨_, rfl, d, _, 4, _, rfl, rfl, SqL.of hd, atI_nat (j := 4) rfl, _, _, rfl, rfl, _, rfl, d, _, 4, 4, rfl, rfl, hd, ixN_k (by simp), ?_⟩
    have h1 : upd H d (.lst (x :: y :: z :: .int st :: .int (n + 1) :: rest)) d = some (.lst (x :: y :: z :: .int st :: .int (n + 1) :: rest)) := upd_same
    refine ⟨_, rfl, d, _, 3, _, rfl, rfl, SqL.of h1, atI_nat (j := 3) rfl, _, _, rfl, rfl, .inr (by decide), _, rfl, _, _, rfl, rfl, .inr (by decide), _, _, rfl, rfl, _, rfl, d, _, 4, _, rfl, rfl, SqL.of h1, atI_nat (j := 4) rfl, _, _, rfl, rfl, .inr (by decide), _, _, rfl, rfl, _, _, rfl, rfl, .inl ⟨_, rfl, _, _, rfl, rfl, (by show (0:Int) < _; decide), ?_⟩⟩
    refine ⟨_, rfl, _, rfl, _, _, rfl, rfl, (by show (0:Int) ≤ _; decide), _, _, rfl, rfl, _, _, rfl, rfl, .inr (by decide), _, rfl, d, _, 4, _, rfl, rfl, SqL.of h1, atI_nat (j := 4) rfl, _, _, rfl, rfl, .inr (by decide), _, _, rfl, rfl, .inl ⟨_, rfl, _, _, rfl, rfl, (by show (0:Int) < _; decide), ?_⟩⟩
    refine ⟨_, rfl, _, rfl, _, _, rfl, rfl, (by show (0:Int) ≤ _; decide), _, _, rfl, rfl, _, _, rfl, rfl, .inr (by decide), _, _, rfl, rfl, .inl ⟨_, rfl, _, _, rfl, rfl, (by show (0:Int) < _; decide), ?_⟩⟩
    refine ⟨_, rfl, _, rfl, _, _, rfl, rfl, (by show (0:Int) ≤ _; decide), _, _, rfl, rfl, _, rfl, d, _, 3, 3, rfl, rfl, h1, ixN_k (by simp), ?_⟩
    show Q .non (upd (upd H d _) d (.lst (x :: y :: z :: .int _ :: .int _ :: rest)))
    rw [upd_upd]
    exact q _ _
theorem ok_draw (D : Df K mg "_law_draw" s_draw) (C_mix : Cal P w K mg base "_law_mix" 1 ["_law_d", "_law_number"] spMix) (m_int : mg "int" = none) (m_len : mg "len" = none) (m_abs : mg "abs" = none) (m_divmod : mg "divmod" = none) :
    Cal P w K mg base "_law_draw" 2 ["_law_d", "_law_many"] spDraw := by
  obtain ⟨f, fd, F, g⟩ := D
  obtain ⟨f_mix, fd_mix, g_mix, k_mix, b_mix, G_mix⟩ := C_mix
  refine ⟨f, fd, g, F.kp, F.bindsN fun _ _ _ _ _ _ us hl => match us, hl with | [_, _], _ => rfl, ?_⟩
  refine F.ok sc_draw (fun vs H Q E h => ?_) (fun cdv A outer s H vs Q E hr h => ?_)
  · obtain ⟨d, l, k, rest, rfl, _⟩ := h
    rfl
  · obtain ⟨d, l, k, rest, rfl, k0, k1, ⟨ns, a, big, st, n, hd, hl, hlen⟩, q⟩ := h
    have hne : l ≠ d := ne_of hl hd (dr_ne (l := l))
    refine ⟨_, pss_cons (ps_if (PW.pt (pw_and (pt_cmpR op_eq (pe_ix ix_list (pv 0) pe_int (fun _ _ => rfl)) pe_int (nomark _)) (pw_and1 (pt_cmpR op_lt (pe_ix ix_list (pv 0) pe_int (fun _ _ => rfl)) (pe_callB call_len (by rfl) m_len (by decide +kernel) (pa_cons (pe_ix ix_list (pv 0) pe_int (fun _ _ => rfl)) pa_nil)) (nomark _)))))
      (pss_cons (ps_set (i := 2) sc_draw.nd rfl (.inl rfl) (pe_op op_and (pe_callB call_abs (by rfl) m_abs (by decide +kernel) (pa_cons (pe_ix ix_list (pe_ix ix_list (pv 0) pe_int (fun _ _ => rfl)) (pe_ix ix_list (pv 0) pe_int (fun _ _ => rfl)) (fun _ _ => rfl)) pa_nil)) (pe_op op_sub (pe_op op_shl pe_int pe_int) pe_int)))
        (pss_cons (ps_expr (pe_call G_mix (hr.mono (by decide)) (by rfl) g_mix k_mix b_mix .nil pass0 (pa_cons (pv 0) (pa_cons (pe_op op_add (pe_op op_mul pe_int (pv 2)) (pe_ifExp (pt_cmpR op_lt (pe_ix ix_list (pe_ix ix_list (pv 0) pe_int (fun _ _ => rfl)) (pe_ix ix_list (pv 0) pe_int (fun _ _ => rfl)) (fun _ _ => rfl)) pe_int (nomark _)) pe_int pe_int)) pa_nil))))
        (pss_cons (ps_asg (pe_op op_add (pe_ix ix_list (pv 0) pe_int (fun _ _ => rfl)) pe_int) (pg_sub (pv 0) pe_int set_list))
        (pss_one (ps_asg (pe_ifExp (pt_cmpR op_ge (pv 2) pe_int (nomark _)) (pv 2) pe_int) (pg_sub (pv 0) pe_int set_list))))))
      (pss_nil))
      (pss_cons (ps_if (pt_cmpR op_gt (pe_ix ix_list (pv 0) pe_int (fun _ _ => rfl)) pe_int (nomark _))
      (pss_cons (ps_asg (pe_callB call_divmod (by rfl) m_divmod (by decide +kernel) (pa_cons (pe_ix ix_list (pv 0) pe_int (fun _ _ => rfl)) (pa_cons (pv 1) pa_nil))) (pg_tup (by rfl) (pgs_cons (pg_name (i := 3) sc_draw.nd rfl (.inl rfl)) (pgs_cons (pg_name (i := 4) sc_draw.nd rfl (.inl rfl)) pgs_nil))))
        (pss_cons (ps_asg (pv 3) (pg_sub (pv 0) pe_int set_list))
        (pss_one (ps_ret (pv 4)))))
      (pss_nil))
      (pss_cons (ps_expr (pe_call G_mix (hr.mono (by decide)) (by rfl) g_mix k_mix b_mix .nil pass0 (pa_cons (pv 0) (pa_cons (pv 1) pa_nil))))
      (pss_one (ps_ret (pe_op op_mod (pe_callTy call_int1 (by rfl) m_int (by decide +kernel) (pa_cons (pe_op op_shr (pe_ix ix_list (pv 0) pe_int (fun _ _ => rfl)) pe_int) pa_nil)) (pv 1)))))), ?_⟩
    refine seq_by (fun σ' H' => ∃ y a' big' st' n', σ' = [some (.ref d), some (.int k), y, none, none] ∧ H' d = some (.lst (.ref l :: .int ((a' : Nat) : Int) :: .int big' :: .int st' :: .int n' :: rest)) ∧ Chg d H H') (fun nx hnx => ?_) (fun σ' H' h => ?_)
    · refine ⟨_, rfl, d, _, 2, _, rfl, rfl, SqL.of hd, atI_nat (j := 2) rfl, rfl, _, rfl, ite2 (fun e => ?_) (fun e => iteF (hnx _ _ ⟨none, a, big, st, n, rfl, hd, Chg.refl _ _⟩))⟩
      refine ⟨_, rfl, d, _, 1, _, rfl, rfl, SqL.of hd, atI_nat (j := 1) rfl, _, rfl, d, _, 0, _, rfl, rfl, SqL.of hd, atI_nat (j := 0) rfl, _, _, rfl, .inl ⟨_, SqL.of hl, rfl⟩, _, _, rfl, rfl, _, rfl, ite2 (fun e2 => ?_) (fun e2 => hnx _ _ ⟨none, a, big, st, n, rfl, hd, Chg.refl _ _⟩)⟩
      have e3 := of_decide_eq_true e2
      rw [List.length_map] at e3
      have ha : a < ns.length := by omega
      have hx : (ns.map V.int)[a]? = some (.int ns[a]) := by
        rw [List.getElem?_map, List.getElem?_eq_getElem ha]
        rfl
      refine ⟨_, rfl, d, _, 0, _, rfl, rfl, SqL.of hd, atI_nat (j := 0) rfl, _, rfl, d, _, 1, _, rfl, rfl, SqL.of hd, atI_nat (j := 1) rfl, l, _, _, _, rfl, rfl, SqL.of hl, atI_nat hx, _, rfl, _, _, rfl, rfl, ⟨by decide, by decide, by decide⟩, _, _, rfl, rfl, _, _, rfl, rfl, ?_⟩
      refine ⟨_, rfl, _, rfl, _, _, rfl, rfl, .inl (by decide), _, rfl, d, _, 0, _, rfl, rfl, SqL.of hd, atI_nat (j := 0) rfl, _, rfl, d, _, 1, _, rfl, rfl, SqL.of hd, atI_nat (j := 1) rfl, l, _, _, _, rfl, rfl, SqL.of hl, atI_nat hx, _, _, rfl, rfl, _, rfl, ifCi fun m _ => ?_⟩
      refine ⟨_, _, rfl, rfl, d, _, _, _, _, _, _, rest, rfl, hd, fun st1 n1 => ?_⟩
      have h1 : upd H d (HO.lst (V.ref l :: V.int (a : Int) :: .int big :: .int st1 :: .int n1 :: rest)) d = some (.lst (.ref l :: .int (a : Int) :: .int big :: .int st1 :: .int n1 :: rest)) := upd_same
      refine ⟨_, rfl, d, _, 1, _, rfl, rfl, SqL.of h1, atI_nat (j := 1) rfl, _, _, rfl, rfl, _, rfl, d, _, 1, 1, rfl, rfl, h1, ixN_k (by simp), ?_⟩
      have h2 : upd (upd H d (HO.lst (V.ref l :: V.int (a : Int) :: V.int big :: V.int st1 :: V.int n1 :: rest))) d (HO.lst (V.ref l :: .int ((a : Int) + 1) :: .int big :: .int st1 :: .int n1 :: rest)) d = some (.lst (.ref l :: .int ((a : Int) + 1) :: .int big :: .int st1 :: .int n1 :: rest)) := upd_same
      refine ⟨_, rfl, _, _, rfl, rfl, _, rfl, ite2 (fun e4 => ?_) (fun e4 => ?_)⟩
      · refine ⟨_, rfl, _, rfl, d, _, 2, 2, rfl, rfl, h2, ixN_k (by simp), ?_⟩
        exact hnx _ _ ⟨_, a + 1, _, _, _, rfl, upd_same, ((Chg.upd _ _ _).trans (Chg.upd _ _ _)).trans (Chg.upd _ _ _)⟩
      · refine ⟨_, rfl, d, _, 2, 2, rfl, rfl, h2, ixN_k (by simp), ?_⟩
        exact hnx _ _ ⟨_, a + 1, _, _, _, rfl, upd_same, ((Chg.upd _ _ _).trans (Chg.upd _ _ _)).trans (Chg.upd _ _ _)⟩
    · obtain ⟨y, a1, big1, st1, n1, rfl, hd1, c1⟩ := h
      have hl1 := c1 _ _ hne hl
      refine ⟨_, rfl, d, _, 2, _, rfl, rfl, SqL.of hd1, atI_nat (j := 2) rfl, _, _, rfl, rfl, _, rfl, ite2 (fun e => ?_) (fun e => ?_)⟩
      · refine ⟨_, rfl, d, _, 2, _, rfl, rfl, SqL.of hd1, atI_nat (j := 2) rfl, _, rfl, _, _, rfl, ⟨k0, k1⟩, fun p hp => ?_⟩
        have hpd : d ≠ p := ne_of_none hd1 hp
        have hd2 : upd H' p (.tup [.int (big1 / k), .int (big1 % k)]) d = some (.lst (.ref l :: .int ((a1 : Nat) : Int) :: .int big1 :: .int st1 :: .int n1 :: rest)) := by
          rw [upd_ne hpd]
          exact hd1
        refine ⟨p, _, rfl, SqT.of upd_same, rfl, _, _, rfl, _, _, rfl, rfl, ?_⟩
        refine ⟨_, rfl, _, rfl, d, _, 2, 2, rfl, rfl, hd2, ixN_k (by simp), _, rfl, ?_⟩
        have c2 : Chg d H' (upd H' p (.tup [.int (big1 / k), .int (big1 % k)])) := Chg.new hp
        refine q _ _ (Int.emod_nonneg _ (by omega)) (Int.emod_lt_of_pos _ k0) ⟨ns, a1, _, _, _, upd_same, ?_, hlen⟩ ((c1.trans c2).trans (Chg.upd _ _ _))
        exact ((c1.trans c2).trans (Chg.upd _ _ _)) _ _ hne hl
      · refine ⟨_, rfl, _, rfl, d, _, _, _, _, _, _, rest, rfl, hd1, fun st2 n2 => ?_⟩
        refine ⟨_, rfl, d, _, 3, _, rfl, rfl, SqL.of upd_same, atI_nat (j := 3) rfl, _, _, rfl, rfl, (by show (0:Int) ≤ _; decide), .inl ⟨_, rfl, _, rfl, _, _, rfl, rfl, k0, ?_⟩⟩
        refine q _ _ (Int.emod_nonneg _ (by omega)) (Int.emod_lt_of_pos _ k0) ⟨ns, a1, _, _, _, upd_same, ?_, hlen⟩ (c1.trans (Chg.upd _ _ _))
        exact (c1.trans (Chg.upd _ _ _)) _ _ hne hl
theorem ok_begin (D : Df K mg "_law_begin" s_begin) (m_list : mg "list" = none) : Cal P w K mg base "_law_begin" 1 ["_law_script"] (spBegin K) := by
  obtain ⟨f, fd, F, g⟩ := D
  refine ⟨f, fd, g, F.kp, F.bindsN fun _ _ _ _ _ _ us hl => match us, hl with | [_], _ => rfl, ?_⟩
  refine F.ok sc_begin (fun vs H Q E h => ?_) (fun cdv A outer s H vs Q E hr h => ?_)
  · obtain ⟨a, ns, rfl, _⟩ := h
    rfl
  · obtain ⟨a, ns, rfl, ha, hn, q⟩ := h
    refine ⟨_, pss_one (ps_ret (pe_lst (pa_cons (pe_callTy call_list_of (by rfl) m_list (by decide +kernel) (pa_cons (pv 0) pa_nil)) (pa_cons pe_int (pa_cons pe_int (pa_cons pe_int (pa_cons pe_int pa_nil))))))), ?_⟩
    refine ⟨_, rfl, a, _, rfl, .inl ha, fun l hl => ⟨by show 5 ≤ sizeLine; decide, fun d hd => ?_⟩⟩
    have hld : l ≠ d := ne_of_none upd_same hd
    have hd0 : H d = none := by
      rw [upd_ne hld.symm] at hd
      exact hd
    refine q _ _ l ((same_upd hl).trans (same_upd hd)) hd0 ⟨ns, 0, 0, 271828, 0, upd_same, ?_, hn⟩
    rw [upd_ne hld]
    exact upd_same
theorem ok_start (D : Df K mg "_law_start" s_start) (C_begin : Cal P w K mg base "_law_begin" 1 ["_law_script"] (spBegin K)) : Cal P w K mg base "_law_start" 2 ["_law_script", "_law_room", "_law_fronts"] (spStart K) := by
  obtain ⟨f, fd, F, g⟩ := D
  obtain ⟨f_begin, fd_begin, g_begin, k_begin, b_begin, G_begin⟩ := C_begin
  refine ⟨f, fd, g, F.kp, F.bindsN fun _ _ _ _ _ _ us hl => match us, hl with | [_, _, _], _ => rfl, ?_⟩
  refine F.ok sc_start (fun vs H Q E h => ?_) (fun cdv A outer s H vs Q E hr h => ?_)
  · obtain ⟨a, ns, x, y, rfl, _⟩ := h
    rfl
  · obtain ⟨a, ns, x, y, rfl, ha, hn, q⟩ := h
    refine ⟨_, pss_one (ps_ret (pe_op op_cat (pe_call G_begin (hr.mono (by decide)) (by rfl) g_begin k_begin b_begin .nil pass0 (pa_cons (pv 0) pa_nil)) (pe_lst (pa_cons (pv 1) (pa_cons (pv 2) (pa_cons pe_int pa_nil)))))), ?_⟩
    refine ⟨_, rfl, a, ns, rfl, ha, hn, fun H1 d1 l s1 n1 h1 => ?_⟩
    obtain ⟨ms, at_, big, st, n, h2, h3, h4⟩ := h1
    refine ⟨_, rfl, _, rfl, by show 3 ≤ sizeLine; decide, fun p hp => ?_⟩
    have e1 := same_upd (o := .lst [.int x, .int y, .int 0]) hp _ _ h2
    refine ⟨_, _, _, _, rfl, rfl, e1, upd_same, by show 8 ≤ sizeLine; decide, fun d hd => ?_⟩
    have sd := same_upd (o := .lst (.ref l :: .int (at_ : Int) :: .int big :: .int st :: .int n :: [.int x, .int y, .int 0])) hd
    refine q _ _ l ((s1.trans (same_upd hp)).trans sd) ((s1.trans (same_upd hp)).free hd) ⟨ms, at_, big, st, n, upd_same, ?_, h4⟩
    exact sd _ _ (same_upd hp _ _ h3)
theorem ok_exact (D : Df K mg "_law_exact" s_exact) (m_isinstance : mg "isinstance" = none) (m_tuple : mg "tuple" = none) (m_len : mg "len" = none) (m_range : mg "range" = none) (m_str : mg "str" = none) (m_int : mg "int" = none) (m_bool : mg "bool" = none) :
    ∀ n : Nat, Cal P w K mg base "_law_exact" (n + 1) ["_law_told", "_law_due"] (spExact K n) := by
  obtain ⟨f, fd, F, g⟩ := D
  have B : Binds K fd ["_law_told", "_law_due"] [] := F.bindsN fun _ _ _ _ _ _ us hl => match us, hl with | [_, _], _ => rfl
  intro n
  refine ⟨f, fd, g, F.kp, B, ?_⟩
  have step : ∀ (n : Nat) (G : FnOk P w K mg base CX0 n f fd ["_law_told", "_law_due"] (spExact0 K n)), FnOk P w K mg base CX0 (n + 1) f fd ["_law_told", "_law_due"] (spExact0 K (n + 1)) := by
    intro n G_exact
    have g_exact := g
    have k_exact := F.kp
    have b_exact := B
    refine F.ok sc_exact (fun vs H Q E h => ?_) (fun cdv A outer s H vs Q E hr h => ?_)
    · obtain ⟨x, y, t, rfl, _⟩ := h
      rfl
    · obtain ⟨x, y, t, rfl, hx, hy, hle, q⟩ := h
      refine ⟨_, pss_cons (ps_if (pt_val (pe_callB call_isi (by rfl) m_isinstance (by decide +kernel) (pa_cons (pv 1) (pa_cons (pe_bltn (v := .ty "tuple") (by rfl) m_tuple (by decide +kernel) rfl) pa_nil))))
      (pss_cons (ps_if (PW.pt (pw_or (pt_not (pt_val (pe_callB call_isi (by rfl) m_isinstance (by decide +kernel) (pa_cons (pv 0) (pa_cons (pe_bltn (v := .ty "tuple") (by rfl) m_tuple (by decide +kernel) rfl) pa_nil))))) (pw_or1 (pt_cmpR op_ne (pe_callB call_len (by rfl) m_len (by decide +kernel) (pa_cons (pv 0) pa_nil)) (pe_callB call_len (by rfl) m_len (by decide +kernel) (pa_cons (pv 1) pa_nil)) (nomark _)))))
        (pss_one (ps_ret pe_bl))
        (pss_nil))
        (pss_cons (ps_for (passes_of rfl) rfl (pi_range1 (by rfl) m_range (pa_cons (pe_callB call_len (by rfl) m_len (by decide +kernel) (pa_cons (pv 1) pa_nil)) pa_nil)) (pg_name (i := 2) sc_exact.nd rfl (.inl rfl))
        (pss_one (ps_if (pt_not (pt_val (pe_call G_exact hr (by rfl) g_exact k_exact b_exact .nil pass0 (pa_cons (pe_ix ix_tup (pv 0) (pv 2) (fun _ _ => rfl)) (pa_cons (pe_ix ix_tup (pv 1) (pv 2) (fun _ _ => rfl)) pa_nil)))))
          (pss_one (ps_ret pe_bl))
          (pss_nil))))
        (pss_one (ps_ret pe_bl))))
      (pss_nil))
      (pss_cons (ps_if (pt_cmpR op_isN (pv 1) pe_non (nomark _))
      (pss_one (ps_ret (pe_cmpR op_isN (pv 0) pe_non (nomark _))))
      (pss_nil))
      (pss_cons (ps_if (pt_val (pe_callB call_isi (by rfl) m_isinstance (by decide +kernel) (pa_cons (pv 1) (pa_cons (pe_bltn (v := .ty "str") (by rfl) m_str (by decide +kernel) rfl) pa_nil))))
      (pss_one (ps_ret (pe_and (pe_callB call_isi (by rfl) m_isinstance (by decide +kernel) (pa_cons (pv 0) (pa_cons (pe_bltn (v := .ty "str") (by rfl) m_str (by decide +kernel) rfl) pa_nil))) (pe_one (pe_cmpR op_eq (pv 0) (pv 1) (nomark _))))))
      (pss_nil))
      (pss_one (ps_ret (pe_and (pe_callB call_isi (by rfl) m_isinstance (by decide +kernel) (pa_cons (pv 0) (pa_cons (pe_bltn (v := .ty "int") (by rfl) m_int (by decide +kernel) rfl) pa_nil))) (pe_and (pe_not (pe_callB call_isi (by rfl) m_isinstance (by decide +kernel) (pa_cons (pv 0) (pa_cons (pe_bltn (v := .ty "bool") (by rfl) m_bool (by decide +kernel) rfl) pa_nil)))) (pe_one (pe_cmpR op_eq (pv 0) (pv 1) (nomark _))))))))), ?_⟩
      cases t with
      | non =>
        obtain rfl : x = .non := hx
        obtain rfl : y = .non := hy
        refine ⟨_, rfl, _, _, _, _, false, rfl, .ty "tuple", .base .non, kit_ty (by decide +kernel), _, rfl, iteF ?_⟩
        refine ⟨_, rfl, rfl, _, rfl, iteT ?_⟩
        exact ⟨_, rfl, rfl, q⟩
      | str z =>
        obtain rfl : x = .str z := hx
        obtain rfl : y = .str z := hy
        refine ⟨_, rfl, _, _, _, _, false, rfl, .ty "tuple", .base (.str _), kit_ty (by decide +kernel), _, rfl, iteF ?_⟩
        refine ⟨_, rfl, rfl, _, rfl, iteF ?_⟩
        refine ⟨_, rfl, _, _, _, _, true, rfl, .ty "str", .base (.str _), kit_ty (by decide +kernel), _, rfl, iteT ?_⟩
        refine ⟨_, rfl, _, _, _, _, true, rfl, .ty "str", .base (.str _), kit_ty (by decide +kernel), _, rfl, iteT ?_⟩
        refine ⟨_, rfl, _, rfl, rfl, ?_⟩
        rw [decide_eq_true rfl]
        exact q
      | int z =>
        obtain rfl : x = .int z := hx
        obtain rfl : y = .int z := hy
        refine ⟨_, rfl, _, _, _, _, false, rfl, .ty "tuple", .base (.int _), kit_ty (by decide +kernel), _, rfl, iteF ?_⟩
        refine ⟨_, rfl, rfl, _, rfl, iteF ?_⟩
        refine ⟨_, rfl, _, _, _, _, false, rfl, .ty "str", .base (.int _), kit_ty (by decide +kernel), _, rfl, iteF ?_⟩
        refine ⟨_, rfl, _, _, _, _, true, rfl, .ty "int", .base (.int _), kit_ty (by decide +kernel), _, rfl, iteT ?_⟩
        refine ⟨_, rfl, _, _, _, _, false, rfl, .ty "bool", .base (.int _), kit_ty (by decide +kernel), _, rfl, _, rfl, iteT ?_⟩
        refine ⟨_, rfl, _, rfl, rfl, ?_⟩
        rw [decide_eq_true rfl]
        exact q
      | tup l =>
        obtain ⟨a, xs, rfl, ha, hxs⟩ := hx
        obtain ⟨b, ys, rfl, hb, hys⟩ := hy
        have lx := hxs.length
        have ly := hys.length
        refine ⟨_, rfl, _, _, _, _, true, rfl, .ty "tuple", tyx_tup hb, kit_ty (by decide +kernel), _, rfl, iteT ?_⟩
        refine ⟨_, rfl, _, _, _, _, true, rfl, .ty "tuple", tyx_tup ha, kit_ty (by decide +kernel), _, rfl, iteF ?_⟩
        refine ⟨_, rfl, _, _, rfl, .inr ⟨_, ha, rfl⟩, _, rfl, _, _, rfl, .inr ⟨_, hb, rfl⟩, rfl, _, rfl, iteNS (by rw [lx, ly]) ?_⟩
        obtain ⟨hlen, hall⟩ : l.length ≤ 1000000 ∧ ∃ m, n = m + 1 ∧ ∀ t ∈ l, T.le m t := by
          cases n with
          | zero => exact hle.elim
          | succ m => exact ⟨hle.1, m, rfl, hle.2⟩
        obtain ⟨m, rfl, hall⟩ := hall
        refine ⟨_, rfl, _, _, rfl, .inr ⟨_, hb, rfl⟩, _, rfl, by omega, by omega, for_range (n := ys.length) (fun i σ' H' => H' = H ∧ ∃ y, σ' = [some (.ref a), some (.ref b), y]) ⟨rfl, none, rfl⟩ (fun i σ' H' hi h => ?_) (fun σ' H' h => ?_)⟩
        · obtain ⟨rfl, y, rfl⟩ := h
          have hl : i < l.length := by omega
          obtain ⟨x1, ex, tx⟩ := hxs.get (List.getElem?_eq_getElem hl)
          obtain ⟨y1, ey, ty⟩ := hys.get (List.getElem?_eq_getElem hl)
          refine ⟨_, rfl, _, rfl, a, xs, _, x1, rfl, rfl, ha, by rw [Int.zero_add]; exact atI_nat ex, _, rfl, _, rfl, b, ys, _, y1, rfl, rfl, hb, by rw [Int.zero_add]; exact atI_nat ey, x1, y1, l[i], rfl, tx, ty, hall _ (List.getElem_mem hl), _, rfl, iteF ?_⟩
          exact ⟨rfl, _, rfl⟩
        · obtain ⟨rfl, y, rfl⟩ := h
          exact q
  induction n with
  | zero => exact step 0 ⟨fun _ _ _ _ h => h.elim, fun _ _ _ _ _ _ _ _ _ _ _ _ _ h => h.elim⟩
  | succ n ih => exact step (n + 1) ih
end
/-! ### the program: values as texts -/
theorem call_strV {X : Cx} : CallR X (.type "str") (fun xs H Q => (∃ i : Int, xs = [.int i] ∧ i.natAbs.log2 < 1920 ∧ Q (.str (istr i)) H) ∨ ∃ a, xs = [.str a] ∧ Q (.str a) H) := by
  intro pins s σ H xs us Q I r h
  rcases h with h | h
  · exact call_str_int pins s σ H xs us Q I r h
  · obtain ⟨a, rfl, q⟩ := h
    obtain ⟨u, rfl, t, rfl⟩ := vals1 r
    exact PySem.P.str_of_str ⟨.str a, H, I, ⟨t, rfl⟩, q⟩
/-- at a a list of these texts -/
abbrev LS (H : Hp) (a : Addr) (l : List Str) : Prop := H a = some (.lst (l.map V.str))
def spListed (K : PySem.W.Frag) : Sp := fun vs H Q _ => ∃ (a : Addr) (ps : List Addr) (ts : List (List Str)), vs = [.ref a] ∧ SqL K H a (ps.map V.ref) ∧ ps.length = ts.length ∧ (∀ (i : Nat) (p : Addr) (t : List Str), ps[i]? = some p → ts[i]? = some t → LS H p t) ∧
  (listed ts).length ≤ 10000000 ∧ ∀ H' o, Same H H' → H o = none → LS H' o (listed ts) → Q (.ref o) H'
def spVT (K : PySem.W.Frag) (n : Nat) : Sp := fun vs H Q _ => ∃ (v : V) (t : T), vs = [v] ∧ Tv K H t v ∧ Aok n t ∧ (vt t).length ≤ 10000000 ∧ ∀ H' o, Same H H' → H o = none → LS H' o (vt t) → Q (.ref o) H'
def spVT0 (K : PySem.W.Frag) : Nat → Sp
  | 0 => fun _ _ _ _ => False
  | n + 1 => spVT K n
def spWriteValue (K : PySem.W.Frag) (n : Nat) : Sp := fun vs H Q _ => ∃ (v : V) (t : T), vs = [v] ∧ Tv K H t v ∧ Aok n t ∧ (vt t).length ≤ 1000000 ∧ ∀ H', Same H H' → Q (.str (Txt.join (Str.ofString " ") (vt t))) H'
theorem sq_len {K : PySem.W.Frag} {H : Hp} {a : Addr} {l : List T} {v : V} (h : Tv K H (.tup l) v) : ∃ a xs, v = .ref a ∧ SqT K H a xs ∧ TvL K H l xs := h
section
variable {P : Program} {w : World} {K : PySem.W.Frag} {mg : Str → Option Value} {base : Heap}
theorem ok_listed (D : Df K mg "_listed" s_listed) (m_enumerate : mg "enumerate" = none) : Cal P w K mg base "_listed" 1 ["items"] (spListed K) := by
  obtain ⟨f, fd, F, g⟩ := D
  refine ⟨f, fd, g, F.kp, F.bindsN fun _ _ _ _ _ _ us hl => match us, hl with | [_], _ => rfl, ?_⟩
  refine F.ok sc_listed (fun vs H Q E h => ?_) (fun cdv A outer s H vs Q E hr h => ?_)
  · obtain ⟨a, ps, ts, rfl, _⟩ := h
    rfl
  · obtain ⟨a, ps, ts, rfl, ha, hl, hp, hlen, q⟩ := h
    refine ⟨_, pss_cons (ps_set (i := 1) sc_listed.nd rfl (.inl rfl) (pe_lst pa_nil))
      (pss_cons (ps_for (passes_of rfl) rfl (pi_enum (by rfl) m_enumerate (pa_cons (pv 0) pa_nil)) (pg_tup (by rfl) (pgs_cons (pg_name (i := 2) sc_listed.nd rfl (.inl rfl)) (pgs_cons (pg_name (i := 3) sc_listed.nd rfl (.inl rfl)) pgs_nil)))
      (pss_cons (ps_if (pt_cmpR op_gt (pv 2) pe_int (nomark _))
        (pss_one (ps_expr (pe_bm PySem.F.plainAttrs_list PySem.F.slot_list_append PySem.F.type_list_append mt_append (pv 1) (pa_cons pe_str pa_nil))))
        (pss_nil))
        (pss_one (ps_expr (pe_bm PySem.F.plainAttrs_list PySem.F.slot_list_extend PySem.F.type_list_extend mt_extend (pv 1) (pa_cons (pv 3) pa_nil))))))
      (pss_one (ps_ret (pv 1)))), ?_⟩
    have hl16 : (16777216 : Nat) ≤ sizeLine := by rw [sizeLine_eq]; decide
    refine ⟨Nat.zero_le _, fun o no => ?_⟩
    have s1 : Same H (upd H o (.lst [])) := same_upd no
    have hll : ∀ i, i ≤ ts.length → (listed (ts.take i)).length ≤ (listed ts).length := fun i _ => by
      have e : listed ts = listed (ts.take i) ++ (if ts.take i = [] then listed (ts.drop i) else (ts.drop i).flatMap fun y => sK :: y) := by
        have := listed_app (ts.take i) (ts.drop i)
        rwa [List.take_append_drop] at this
      rw [e, List.length_append]
      omega
    refine ⟨_, rfl, a, _, rfl, s1.seq ha, for_enum (xs := ps.map V.ref) (fun i σ' H' => Same H H' ∧ LS H' o (listed (ts.take i)) ∧ ∃ y2 y3, σ' = [some (.ref a), some (.ref o), y2, y3]) ⟨s1, upd_same, none, none, rfl⟩ (fun i σ' H' hi h => h.1.seq ha) (fun i x t σ' H' hx1 h nt => ?_) (fun σ' H' h => ?_)⟩
    · obtain ⟨sm, eo, y2, y3, rfl⟩ := h
      have hi : i < ps.length := by
        have := (List.getElem?_eq_some_iff.mp hx1).1
        rwa [List.length_map] at this
      have hit : i < ts.length := by omega
      obtain rfl : x = V.ref ps[i] := by
        rw [List.getElem?_map, List.getElem?_eq_getElem hi] at hx1
        exact (Option.some.inj hx1).symm
      have hpi : LS H ps[i] ts[i] := hp i _ _ (List.getElem?_eq_getElem hi) (List.getElem?_eq_getElem hit)
      have s2 : Same H' (upd H' t (.tup [.int (i : Nat), .ref ps[i]])) := same_upd nt
      have eo2 := s2 _ _ eo
      have hop : ps[i] ≠ o := ne_of_none hpi no
      have hstep : listed (ts.take (i + 1)) = (if i = 0 then [] else listed (ts.take i) ++ [sK]) ++ ts[i] := by
        rw [List.take_add_one, List.getElem?_eq_getElem hit]
        show listed (ts.take i ++ [ts[i]]) = _
        rw [listed_snoc]
        by_cases h0 : i = 0
        · subst h0
          rfl
        · rw [if_neg h0, if_neg (fun z => h0 (by
            have z2 := congrArg List.length z
            rw [List.length_take, List.length_nil] at z2
            omega)), List.append_assoc]
          rfl
      have hb := hll (i + 1) (by omega)
      rw [hstep, List.length_append] at hb
      refine ⟨t, _, rfl, SqT.of upd_same, rfl, _, _, rfl, _, _, rfl, rfl, ?_⟩
      dsimp only [gName, gNil]
      generalize hH2 : upd H' t (.tup [.int (i : Nat), .ref ps[i]]) = H2 at s2 eo2
      refine seq_by (fun σ' H'' => Same H H'' ∧ LS H'' o (if i = 0 then [] else listed (ts.take i) ++ [sK]) ∧ σ' = [some (.ref a), some (.ref o), some (.int (i : Nat)), some (.ref ps[i])]) (fun nx hnx => ?_) (fun σ' H'' h => ?_)
      · refine ⟨_, rfl, _, _, rfl, rfl, _, rfl, ite2 (fun e => ?_) (fun e => ?_)⟩
        · have e1 := of_decide_eq_true e
          have h0 : i ≠ 0 := by omega
          rw [if_neg h0] at hb
          rw [List.length_append] at hb
          refine ⟨_, rfl, .inl ⟨rfl, _, SqL.of eo2⟩, o, _, _, rfl, rfl, eo2, ?_, ?_⟩
          · rw [List.length_map]
            omega
          · refine hnx _ _ ⟨fun b u e => ?_, ?_, rfl⟩
            · rw [upd_ne (ne_of_none e no)]
              exact s2 _ _ (sm _ _ e)
            · show _ = some (HO.lst _)
              rw [upd_same, if_neg h0, List.map_append]
              rfl
        · have e1 : ¬ ((i : Nat) : Int) > 0 := fun z => e (decide_eq_true z)
          have h0 : i = 0 := by omega
          refine hnx _ _ ⟨sm.trans s2, ?_, rfl⟩
          rw [if_pos h0]
          rw [h0] at eo2
          exact eo2
      · obtain ⟨sm3, eo3, rfl⟩ := h
        have hp3 := sm3 _ _ hpi
        refine ⟨_, rfl, .inl ⟨rfl, _, SqL.of eo3⟩, _, rfl, o, _, _, _, rfl, rfl, eo3, hp3, ?_, ?_⟩
        · rw [List.length_map, List.length_map]
          omega
        · refine ⟨fun b u e => ?_, ?_, _, _, rfl⟩
          · rw [upd_ne (ne_of_none e no)]
            exact sm3 _ _ e
          · show _ = some (HO.lst _)
            rw [upd_same, hstep, List.map_append]
    · obtain ⟨sm, eo, y2, y3, rfl⟩ := h
      rw [List.length_map, hl, List.take_length] at eo
      exact ⟨_, rfl, q H' o sm no eo⟩
theorem ok_value_tokens (D : Df K mg "_value_tokens" s_value_tokens) (C_listed : Cal P w K mg base "_listed" 1 ["items"] (spListed K)) (m_isinstance : mg "isinstance" = none) (m_tuple : mg "tuple" = none) (m_str : mg "str" = none) :
    ∀ n : Nat, Cal P w K mg base "_value_tokens" (n + 2) ["value"] (spVT K n) := by
  obtain ⟨f, fd, F, g⟩ := D
  obtain ⟨f_listed, fd_listed, g_listed, k_listed, b_listed, G_listed⟩ := C_listed
  have B : Binds K fd ["value"] [] := F.bindsN fun _ _ _ _ _ _ us hl => match us, hl with | [_], _ => rfl
  intro n
  refine ⟨f, fd, g, F.kp, B, ?_⟩
  have step : ∀ (n : Nat) (G : FnOk P w K mg base CX0 (n + 1) f fd ["value"] (spVT0 K n)), FnOk P w K mg base CX0 (n + 2) f fd ["value"] (spVT0 K (n + 1)) := by
    intro n G_value_tokens
    have g_value_tokens := g
    have k_value_tokens := F.kp
    have b_value_tokens := B
    refine F.ok sc_value_tokens (fun vs H Q E h => ?_) (fun cdv A outer s H vs Q E hr h => ?_)
    · obtain ⟨v, t, rfl, _⟩ := h
      rfl
    · obtain ⟨v, t, rfl, hv, hok, hlen, q⟩ := h
      refine ⟨_, pss_cons (ps_if (pt_val (pe_callB call_isi (by rfl) m_isinstance (by decide +kernel) (pa_cons (pv 0) (pa_cons (pe_bltn (v := .ty "tuple") (by rfl) m_tuple (by decide +kernel) rfl) pa_nil))))
      (pss_one (ps_ret (pe_lst (pa_cons pe_str (StX.pa_star (pe_call G_listed (hr.mono (by omega)) (by rfl) g_listed k_listed b_listed .nil pass0 (pa_cons (pe_lc (own := [("inner", 1)]) (tt := tYes) (by rfl) sc_value_tokens.nd (pi_tup (pv 0)) (blkOk_by (N := ["value", "inner"]) (sc := defScope s_value_tokens) (by decide +kernel)) (fun _ _ _ _ _ => (pg_name (i := 1) sc_value_tokens.nd rfl (.inl rfl))) (fun _ _ _ _ _ => pts_nil) (fun _ _ _ _ _ => (pe_call G_value_tokens hr (by rfl) g_value_tokens k_value_tokens b_value_tokens .nil pass0 (pa_cons (pv 1) pa_nil)))) pa_nil)) (pa_cons pe_str pa_nil))))))
      (pss_nil))
      (pss_one (ps_ret (pe_lst (pa_cons (pe_callTy call_strV (by rfl) m_str (by decide +kernel) (pa_cons (pv 0) pa_nil)) pa_nil)))), ?_⟩
      have hl16 : (16777216 : Nat) ≤ sizeLine := by rw [sizeLine_eq]; decide
      cases t with
      | non => cases n <;> exact hok.elim
      | int i =>
        obtain rfl : v = .int i := hv
        have hi : -9999 ≤ i ∧ i ≤ 9999 := by cases n <;> exact hok
        refine ⟨_, rfl, _, _, _, _, false, rfl, .ty "tuple", .base (.int _), kit_ty (by decide +kernel), _, rfl, iteF ?_⟩
        refine ⟨_, rfl, .inl ⟨i, rfl, ?_, by show 1 ≤ sizeLine; decide, fun o no => q _ o (same_upd no) no upd_same⟩⟩
        exact Nat.lt_of_lt_of_le (PySem.Flt.log2_lt_of (n := i.natAbs) (k := 14) (by decide) (by omega)) (by decide)
      | str z =>
        obtain rfl : v = .str z := hv
        refine ⟨_, rfl, _, _, _, _, false, rfl, .ty "tuple", .base (.str _), kit_ty (by decide +kernel), _, rfl, iteF ?_⟩
        exact ⟨_, rfl, .inr ⟨z, rfl, by show 1 ≤ sizeLine; decide, fun o no => q _ o (same_upd no) no upd_same⟩⟩
      | tup l =>
        obtain ⟨a, xs, rfl, ha, hxs⟩ := hv
        have lx := hxs.length
        obtain ⟨m, rfl, hall⟩ : ∃ m, n = m + 1 ∧ ∀ t ∈ l, Aok m t := by
          cases n with
          | zero => exact hok.elim
          | succ m => exact ⟨m, rfl, hok⟩
        rw [vt_tup, List.length_cons, List.length_append, List.length_singleton] at hlen
        have hsz : ∀ t ∈ l, (vt t).length ≤ 10000000 := fun t ht => by
          have := listed_mem (List.mem_map.mpr ⟨t, ht, rfl⟩ : vt t ∈ l.map vt)
          omega
        have hnum : l.length ≤ 10000000 := by
          have h1 := listed_num (l.map vt) (fun y hy => by
            obtain ⟨t, ht, rfl⟩ := List.mem_map.mp hy
            exact vt_pos m t (hall t ht))
          rw [List.length_map] at h1
          omega
        refine ⟨_, rfl, _, _, _, _, true, rfl, .ty "tuple", tyx_tup ha, kit_ty (by decide +kernel), _, rfl, iteT ?_⟩
        refine ⟨_, rfl, a, rfl, ⟨_, ha⟩, fun D nD => ?_⟩
        refine lc_tup (xs := xs) (fun i H' => Same H H' ∧ ∃ ps : List Addr, ps.length = i ∧ H' D = some (.lst (ps.map V.ref)) ∧ ∀ (j : Nat) (p : Addr) (t : List Str), ps[j]? = some p → (l.map vt)[j]? = some t → LS H' p t) ⟨same_upd nD, [], rfl, upd_same, fun j p t h => by simp at h⟩ (fun i H' hi h => sqt_same h.1 _ _ ha) (fun i x H' hx1 h => ?_) (fun H' h => ?_)
        · obtain ⟨sm, ps, hps, eD, hp⟩ := h
          have hi : i < l.length := by
            rw [← lx]
            exact (List.getElem?_eq_some_iff.mp hx1).1
          obtain ⟨x2, ex2, tx⟩ := hxs.get (List.getElem?_eq_getElem hi)
          obtain rfl : x2 = x := Option.some.inj (ex2.symm.trans hx1)
          refine ⟨rfl, ?_⟩
          refine ⟨_, rfl, x2, l[i], rfl, Tv.same sm tx, hall _ (List.getElem_mem hi), hsz _ (List.getElem_mem hi), fun H2 o sm2 no eo => ?_⟩
          have eD2 := sm2 _ _ eD
          have hoD : o ≠ D := fun e => by
            rw [e, eD] at no
            cases no
          refine ⟨_, eD2, by rw [List.length_map]; omega, fun b u e => ?_, ps ++ [o], by rw [List.length_append, List.length_singleton, hps], ?_, fun j p t h1 h2 => ?_⟩
          · rw [upd_ne (ne_of_none e nD)]
            exact sm2 _ _ (sm _ _ e)
          · rw [upd_same, List.map_append]
            rfl
          · rcases Nat.lt_or_ge j ps.length with hj | hj
            · rw [List.getElem?_append_left hj] at h1
              have h3 := hp j p t h1 h2
              have hpD : p ≠ D := fun e => by
                rw [e] at h3
                have h4 := h3.symm.trans eD
                injection h4 with h5
                injection h5 with h5
                cases t with
                | nil =>
                  cases ps with
                  | nil => simp at hj
                  | cons _ _ => cases h5
                | cons _ _ =>
                  cases ps with
                  | nil => cases h5
                  | cons _ _ => cases h5
              show upd H2 D _ p = _
              rw [upd_ne hpD]
              exact sm2 _ _ h3
            · have hj2 : j = ps.length := by
                have := (List.getElem?_eq_some_iff.mp h1).1
                rw [List.length_append, List.length_singleton] at this
                omega
              rw [hj2, List.getElem?_append_right (Nat.le_refl _), Nat.sub_self] at h1
              have e1 : o = p := Option.some.inj h1
              subst e1
              rw [hj2, hps, List.getElem?_map, List.getElem?_eq_getElem hi] at h2
              have e2 : vt l[i] = t := Option.some.inj h2
              subst e2
              show upd H2 D _ o = _
              rw [upd_ne hoD]
              exact eo
        · obtain ⟨sm, ps, hps, eD, hp⟩ := h
          refine ⟨D, ps, l.map vt, rfl, SqL.of eD, by rw [List.length_map, hps, lx], hp, by omega, fun H2 o sm2 no eo => ?_⟩
          refine ⟨o, _, rfl, .inr (SqL.of eo), ?_, fun o2 no2 => ?_⟩
          · show ((listed (l.map vt)).map V.str ++ [V.str sC]).length + 1 ≤ sizeLine
            rw [List.length_append, List.length_map, List.length_singleton]
            omega
          · refine q _ o2 ((sm.trans sm2).trans (same_upd no2)) ((sm.trans sm2).free no2) ?_
            show upd H2 o2 _ o2 = some (HO.lst _)
            rw [upd_same, vt_tup, List.map_cons, List.map_append]
            rfl
  induction n with
  | zero => exact step 0 ⟨fun _ _ _ _ h => h.elim, fun _ _ _ _ _ _ _ _ _ _ _ _ _ h => h.elim⟩
  | succ n ih => exact step (n + 1) ih
theorem ok_write_value (D : Df K mg "write_value" s_write_value) {n : Nat} (C_vt : Cal P w K mg base "_value_tokens" (n + 2) ["value"] (spVT K n)) : Cal P w K mg base "write_value" (n + 3) ["value"] (spWriteValue K n) := by
  obtain ⟨f, fd, F, g⟩ := D
  obtain ⟨f_value_tokens, fd_value_tokens, g_value_tokens, k_value_tokens, b_value_tokens, G_value_tokens⟩ := C_vt
  refine ⟨f, fd, g, F.kp, F.bindsN fun _ _ _ _ _ _ us hl => match us, hl with | [_], _ => rfl, ?_⟩
  refine F.ok sc_write_value (fun vs H Q E h => ?_) (fun cdv A outer s H vs Q E hr h => ?_)
  · obtain ⟨v, t, rfl, _⟩ := h
    rfl
  · obtain ⟨v, t, rfl, hv, hok, hlen, q⟩ := h
    refine ⟨_, pss_one (ps_ret (pe_join pe_str (pe_call G_value_tokens hr (by rfl) g_value_tokens k_value_tokens b_value_tokens .nil pass0 (pa_cons (pv 0) pa_nil)))), ?_⟩
    refine ⟨⟨_, rfl⟩, _, rfl, v, t, rfl, hv, hok, by omega, fun H' o sm no eo => ?_⟩
    refine ⟨_, o, vt t, rfl, rfl, .inl (SqL.of eo), ?_, q _ sm⟩
    have h1 : ((vt t).map (·.length)).sum ≤ (vt t).length * 8 := by
      have := sum_le (l := (vt t).map (·.length)) (b := 8) (fun x hx => by
        obtain ⟨s, hs, rfl⟩ := List.mem_map.mp hx
        exact (vt_ok n t hok s hs).1)
      rwa [List.length_map] at this
    have h2 : (Str.ofString " ").length = 1 := by decide +kernel
    rw [h2]
    omega
end
/-! ### the law: drawn names, integers, values -/
def spReserved : Sp := fun vs H Q _ => vs = [] ∧ ∀ H' p, Same H H' → H p = none → LSR H' p → Q (.ref p) H'
where LSR (H : Hp) (p : Addr) : Prop := H p = some (.lst (RS.map V.str))
def spAnyName : Sp := fun vs H Q _ => ∃ (d l : Addr) (rest : List V), vs = [.ref d] ∧ Dr H d l rest ∧ ∀ s H', isNm s = true → Dr H' d l rest → Chg d H H' → Q (.str s) H'
def spAnyInt : Sp := fun vs H Q _ => ∃ (d l : Addr) (rest : List V), vs = [.ref d] ∧ Dr H d l rest ∧ ∀ i H', -9999 ≤ i → i ≤ 9999 → Dr H' d l rest → Chg d H H' → Q (.int i) H'
def cb : Nat → Nat
  | 0 => 1
  | n + 1 => 2 + 3 * (cb n + 1)
def Gd (n : Nat) (t : T) : Prop := Aok n t ∧ (vt t).length ≤ cb n
def spAV (K : PySem.W.Frag) (n : Nat) : Sp := fun vs H Q _ => ∃ (d l : Addr) (rest : List V), vs = [.ref d, .int (n : Int)] ∧ Dq H d l rest ∧ ∀ v t H', Tv K H' t v → Gd n t → Dq H' d l rest → Chg d H H' → Q v H'
def spAV0 (K : PySem.W.Frag) : Nat → Sp
  | 0 => fun _ _ _ _ => False
  | n + 1 => spAV K n
def Wd (t : T) : Prop := Aok 18 t ∧ (vt t).length ≤ 20000
def spWide (K : PySem.W.Frag) : Sp := fun vs H Q _ => ∃ (d l : Addr) (rest : List V), vs = [.ref d] ∧ Dq H d l rest ∧ ∀ v t H', Tv K H' t v → Wd t → Dq H' d l rest → Chg d H H' → Q v H'
theorem aok_up : ∀ (n : Nat) (t : T), Aok n t → Aok (n + 1) t
  | n, .non, h => by cases n <;> exact h.elim
  | n, .int i, h => by cases n <;> exact h
  | n, .str s, h => by cases n <;> exact h
  | 0, .tup l, h => h.elim
  | n + 1, .tup l, h => fun t ht => aok_up n t (h t ht)
theorem aok_le {n m : Nat} (h : n ≤ m) {t : T} (ha : Aok n t) : Aok m t := by
  obtain ⟨k, rfl⟩ := Nat.exists_eq_add_of_le h
  induction k with
  | zero => exact ha
  | succ k ih => exact aok_up _ _ (ih (by omega))
theorem gd_atom {n : Nat} {t : T} (h : Aok 0 t) (h2 : (vt t).length = 1) : Gd n t := ⟨aok_le (Nat.zero_le _) h, by
  rw [h2]
  cases n with
  | zero => exact Nat.le_refl _
  | succ n =>
    show 1 ≤ 2 + 3 * (cb n + 1)
    omega⟩
theorem gd_up {n : Nat} {l : List T} (h : ∀ t ∈ l, Gd n t) (hl : l.length ≤ 3) : Gd (n + 1) (.tup l) := ⟨fun t ht => (h t ht).1, by
  have h1 := vt_len fun t ht => (h t ht).2
  have h2 : l.length * (cb n + 1) ≤ 3 * (cb n + 1) := Nat.mul_le_mul_right _ hl
  show _ ≤ 2 + 3 * (cb n + 1)
  omega⟩
theorem let_pick {r : Int} {b : Nat} (h0 : 0 ≤ r) (h1 : r < (b : Int)) (hb : b ≤ 36) : ∃ c, atI letS.cps.toList r = some c ∧ (low c || dig c) = true ∧ c ∈ tl letS ∧ (b ≤ 26 → low c = true) := by
  obtain ⟨k, rfl⟩ := Int.eq_ofNat_of_zero_le h0
  have hl : (tl letS).length = 36 := by rw [← len_tl]; exact let_len
  have hk : k < (tl letS).length := by omega
  have h := let_low k hk
  exact ⟨(tl letS)[k], atI_nat (List.getElem?_eq_getElem hk), h.1, List.getElem_mem hk, fun hb => h.2 (by omega)⟩
theorem nmL_snoc {l : List Nat} {c : Nat} (h : nmL l = true) (hc : (low c || dig c) = true) : nmL (l ++ [c]) = true := by
  cases l with
  | nil => cases h
  | cons a r =>
    simp only [nmL, Bool.and_eq_true] at h
    show (low a && (r ++ [c]).all _) = true
    rw [List.all_append, h.1, h.2]
    simp [hc]
theorem flat_RS : (RS.map V.str).all flatV = true := by decide +kernel
theorem inV_RS (s : Str) : inV (.str s) (RS.map V.str) = RS.contains s := by
  show ((RS.map V.str).any fun y => eqV y (.str s)) = _
  rw [List.any_map, Bool.eq_iff_iff, List.any_eq_true, List.contains_iff_mem]
  constructor
  · rintro ⟨x, hx, h⟩
    have e : x = s := by
      have h2 : (x == s) = true := h
      simpa using h2
    rw [← e]
    exact hx
  · intro h
    exact ⟨s, h, by show (s == s) = true; simp⟩
section
variable {P : Program} {w : World} {K : PySem.W.Frag} {mg : Str → Option Value} {base : Heap}
theorem ok_reserved (D : Df K mg "_law_reserved" s_reserved) : Cal P w K mg base "_law_reserved" 1 [] spReserved := by
  obtain ⟨f, fd, F, g⟩ := D
  refine ⟨f, fd, g, F.kp, F.bindsN fun _ _ _ _ _ _ us hl => match us, hl with | [], _ => rfl, ?_⟩
  refine F.ok sc_reserved (fun vs H Q E h => ?_) (fun cdv A outer s H vs Q E hr h => ?_)
  · obtain ⟨rfl, _⟩ := h
    rfl
  · obtain ⟨rfl, q⟩ := h
    refine ⟨_, pss_cons (ps_set (i := 0) sc_reserved.nd rfl (.inl rfl) pe_str)
      (pss_one (ps_ret (pe_words (pe_op op_add_str (pv 0) pe_str)))), ?_⟩
    have hl16 : (16777216 : Nat) ≤ sizeLine := by rw [sizeLine_eq]; decide
    have h1 := res_len
    have h2 : resS.length ≤ sizeLine := by omega
    refine ⟨_, rfl, _, _, rfl, rfl, ?_, ⟨_, rfl⟩, resS, rfl, rfl, by omega, fun p np => ?_⟩
    · have h3 : (Str.ofString "open add from retire rule step to by none num pick opt row of one rec same rank clip table apart some must").length + (Str.ofString " each arms parts or and not has tag long").length = 146 := by decide +kernel
      omega
    · rw [res_words]
      exact q _ p (same_upd np) np upd_same
theorem ok_any_name (D : Df K mg "_law_any_name" s_any_name) (C_reserved : Cal P w K mg base "_law_reserved" 1 [] spReserved) (C_draw : Cal P w K mg base "_law_draw" 2 ["_law_d", "_law_many"] spDraw) (m_range : mg "range" = none) :
    Cal P w K mg base "_law_any_name" 3 ["_law_d"] spAnyName := by
  obtain ⟨f, fd, F, g⟩ := D
  obtain ⟨f_draw, fd_draw, g_draw, k_draw, b_draw, G_draw⟩ := C_draw
  obtain ⟨f_reserved, fd_reserved, g_reserved, k_reserved, b_reserved, G_reserved⟩ := C_reserved
  refine ⟨f, fd, g, F.kp, F.bindsN fun _ _ _ _ _ _ us hl => match us, hl with | [_], _ => rfl, ?_⟩
  refine F.ok sc_any_name (fun vs H Q E h => ?_) (fun cdv A outer s H vs Q E hr h => ?_)
  · obtain ⟨d, l, rest, rfl, _⟩ := h
    rfl
  · obtain ⟨d, l, rest, rfl, hD, q⟩ := h
    refine ⟨_, pss_cons (ps_set (i := 1) sc_any_name.nd rfl (.inl rfl) pe_str)
      (pss_cons (ps_set (i := 2) sc_any_name.nd rfl (.inl rfl) (pe_call G_draw (hr.mono (by decide)) (by rfl) g_draw k_draw b_draw .nil pass0 (pa_cons (pv 0) (pa_cons pe_int pa_nil))))
      (pss_cons (ps_if (pt_cmpR op_eq (pv 2) pe_int (nomark _))
      (pss_one (ps_ret (pe_op op_add_str (pe_ix ix_list (pe_call0 G_reserved (hr.mono (by decide)) (by rfl) g_reserved k_reserved b_reserved .nil pass0) (pe_call G_draw (hr.mono (by decide)) (by rfl) g_draw k_draw b_draw .nil pass0 (pa_cons (pv 0) (pa_cons pe_int pa_nil))) (fun _ _ => rfl)) (pe_ix ix_str (pv 1) (pe_call G_draw (hr.mono (by decide)) (by rfl) g_draw k_draw b_draw .nil pass0 (pa_cons (pv 0) (pa_cons pe_int pa_nil))) (fun _ _ => rfl)))))
      (pss_nil))
      (pss_cons (ps_set (i := 3) sc_any_name.nd rfl (.inl rfl) (pe_ix ix_str (pv 1) (pe_call G_draw (hr.mono (by decide)) (by rfl) g_draw k_draw b_draw .nil pass0 (pa_cons (pv 0) (pa_cons pe_int pa_nil))) (fun _ _ => rfl)))
      (pss_cons (ps_for (passes_of rfl) rfl (pi_range1 (by rfl) m_range (pa_cons (pe_ix ix_list (pe_lst (pa_cons pe_int (pa_cons pe_int (pa_cons pe_int (pa_cons pe_int (pa_cons pe_int (pa_cons pe_int pa_nil))))))) (pv 2) (fun _ _ => rfl)) pa_nil)) (pg_name (i := 4) sc_any_name.nd rfl (.inl rfl))
      (pss_one (ps_set (i := 3) sc_any_name.nd rfl (.inl rfl) (pe_op op_add_str (pv 3) (pe_ix ix_str (pv 1) (pe_call G_draw (hr.mono (by decide)) (by rfl) g_draw k_draw b_draw .nil pass0 (pa_cons (pv 0) (pa_cons pe_int pa_nil))) (fun _ _ => rfl))))))
      (pss_cons (ps_if (pt_cmpR op_in_seq (pv 3) (pe_call0 G_reserved (hr.mono (by decide)) (by rfl) g_reserved k_reserved b_reserved .nil pass0) rfl)
      (pss_one (ps_set (i := 3) sc_any_name.nd rfl (.inl rfl) (pe_op op_add_str (pv 3) pe_str)))
      (pss_nil))
      (pss_one (ps_ret (pv 3)))))))), ?_⟩
    have hl16 : (16777216 : Nat) ≤ sizeLine := by rw [sizeLine_eq]; decide
    have hll : letS.length ≤ sizeLine := by rw [let_len]; omega
    refine ⟨_, rfl, d, l, 6, rest, rfl, by decide, by decide, hD, fun sh H1 s0 s1 hD1 c1 => ?_⟩
    refine ⟨_, rfl, rfl, _, rfl, ite2 (fun e => ?_) (fun e => ?_)⟩
    · refine ⟨rfl, fun H2 p sm np ep => ⟨_, rfl, d, l, 32, rest, rfl, by decide, by decide, hD1.same sm, fun r H3 r0 r1 hD3 c3 => ?_⟩⟩
      have hpd := hD1.ne_new np
      obtain ⟨v, hv, x, rfl, hx⟩ := pick (items := RS.map V.str) (Pr := fun v => ∃ x, v = .str x ∧ x ∈ RS) (fun v hv => by
        obtain ⟨x, hx, rfl⟩ := List.mem_map.mp hv
        exact ⟨x, rfl, hx⟩) r0 (by
          have : (RS.map V.str).length = 32 := rfl
          omega)
      refine ⟨p, _, _, _, rfl, rfl, SqL.of (c3 _ _ hpd ep), hv, _, rfl, _, rfl, d, l, 36, rest, rfl, by decide, by decide, hD3, fun r5 H5 a0 a1 hD5 c5 => ?_⟩
      obtain ⟨c, hc, _, hc2, _⟩ := let_pick (b := 36) a0 a1 (by omega)
      refine ⟨letS, _, _, rfl, rfl, hll, hc, ?_⟩
      have hnm := res_more x hx c hc2
      have hxl := (nm_parts hnm).2.1
      refine ⟨_, _, rfl, rfl, ?_, ?_⟩
      · have : (x ++ (⟨#[c]⟩ : Str)).length = x.length + (⟨#[c]⟩ : Str).length := by
          rw [len_tl, len_tl, len_tl, tl_append, List.length_append]
        omega
      · exact q _ _ hnm hD5 (((c1.trans (Chg.of_same sm)).trans c3).trans c5)
    · have hsh : sh ≠ 0 := fun z => e (by rw [z]; exact decide_eq_true rfl)
      refine ⟨_, rfl, _, rfl, d, l, 26, rest, rfl, by decide, by decide, hD1, fun r H2 r0 r1 hD2 c2 => ?_⟩
      obtain ⟨c, hc, _, hc2, hc3⟩ := let_pick (b := 26) r0 r1 (by omega)
      refine ⟨letS, _, _, rfl, rfl, hll, hc, ?_⟩
      refine ⟨by show 6 ≤ sizeLine; decide, fun p np => ⟨_, rfl, ?_⟩⟩
      obtain ⟨v, hv, n, rfl, hn⟩ := pick (items := [.int 0, .int 0, .int 0, .int 1, .int 3, .int 7]) (oki_all (n := 7) (by decide +kernel)) s0 s1
      refine ⟨p, _, _, _, rfl, rfl, SqL.of upd_same, hv, (n : Int), rfl, by omega, by omega, ?_⟩
      refine for_range (n := n) (fun i σ' H' => Dr H' d l rest ∧ Chg d H H' ∧ ∃ s y4, σ' = [some (.ref d), some (.str letS), some (.int sh), some (.str s), y4] ∧ s.length = i + 1 ∧ nmL (tl s) = true) ⟨hD2.same (same_upd np), (c1.trans c2).trans (Chg.new np), _, none, rfl, rfl, by show (low c && [].all _) = true; rw [hc3 (by omega)]; rfl⟩ (fun i σ' H' hi h => ?_) (fun σ' H' h => ?_)
      · obtain ⟨hD3, c3, s, y4, rfl, hsl, hsn⟩ := h
        refine ⟨_, rfl, _, rfl, _, rfl, d, l, 36, rest, rfl, by decide, by decide, hD3, fun r5 H5 a0 a1 hD5 c5 => ?_⟩
        obtain ⟨c9, hc9, hc8, _, _⟩ := let_pick (b := 36) a0 a1 (by omega)
        refine ⟨letS, _, _, rfl, rfl, hll, hc9, _, _, rfl, rfl, ?_, ?_⟩
        · have : (⟨#[c9]⟩ : Str).length = 1 := rfl
          omega
        · refine ⟨hD5, c3.trans c5, _, _, rfl, ?_, ?_⟩
          · rw [len_tl, tl_append, List.length_append, ← len_tl, hsl]
            rfl
          · rw [tl_append]
            exact nmL_snoc hsn hc8
      · obtain ⟨hD3, c3, s, y4, rfl, hsl, hsn⟩ := h
        dsimp only
        refine seq_by (fun σ' H' => Dr H' d l rest ∧ Chg d H H' ∧ ∃ s, σ' = [some (.ref d), some (.str letS), some (.int sh), some (.str s), y4] ∧ isNm s = true) (fun nx hnx => ?_) (fun σ' H'' h => ?_)
        · refine ⟨_, rfl, rfl, fun H4 p4 sm4 np4 ep4 => ⟨p4, _, rfl, .inl (SqL.of ep4), rfl, flat_RS, _, rfl, ?_⟩⟩
          show if inV (.str s) (RS.map V.str) = true then _ else _
          rw [inV_RS]
          refine ite2 (fun e5 => ?_) (fun e5 => ?_)
          · have hm := List.contains_iff_mem.mp e5
            have hnm := res_more s hm 48 (by decide +kernel)
            have e0 : Str.ofString "0" = ⟨#[48]⟩ := by decide +kernel
            refine ⟨_, rfl, _, _, rfl, rfl, ?_, ?_⟩
            · have : (Str.ofString "0").length = 1 := by decide +kernel
              omega
            · refine hnx _ _ ⟨hD3.same sm4, c3.trans (Chg.of_same sm4), _, rfl, ?_⟩
              rw [e0]
              exact hnm
          · refine hnx _ _ ⟨hD3.same sm4, c3.trans (Chg.of_same sm4), _, rfl, nm_of (by omega) (by omega) hsn (fun z => e5 (List.contains_iff_mem.mpr z))⟩
        · obtain ⟨hD4, c4, s2, rfl, hs2⟩ := h
          exact ⟨_, rfl, q _ _ hs2 hD4 c4⟩
theorem ok_any_int (D : Df K mg "_law_any_int" s_any_int) (C_draw : Cal P w K mg base "_law_draw" 2 ["_law_d", "_law_many"] spDraw) : Cal P w K mg base "_law_any_int" 3 ["_law_d"] spAnyInt := by
  obtain ⟨f, fd, F, g⟩ := D
  obtain ⟨f_draw, fd_draw, g_draw, k_draw, b_draw, G_draw⟩ := C_draw
  refine ⟨f, fd, g, F.kp, F.bindsN fun _ _ _ _ _ _ us hl => match us, hl with | [_], _ => rfl, ?_⟩
  refine F.ok sc_any_int (fun vs H Q E h => ?_) (fun cdv A outer s H vs Q E hr h => ?_)
  · obtain ⟨d, l, rest, rfl, _⟩ := h
    rfl
  · obtain ⟨d, l, rest, rfl, hD, q⟩ := h
    refine ⟨_, pss_cons (ps_set (i := 1) sc_any_int.nd rfl (.inl rfl) (pe_call G_draw (hr.mono (by decide)) (by rfl) g_draw k_draw b_draw .nil pass0 (pa_cons (pv 0) (pa_cons pe_int pa_nil))))
      (pss_cons (ps_if (pt_cmpR op_eq (pv 1) pe_int (nomark _))
      (pss_one (ps_ret (pe_op op_sub (pe_call G_draw (hr.mono (by decide)) (by rfl) g_draw k_draw b_draw .nil pass0 (pa_cons (pv 0) (pa_cons pe_int pa_nil))) pe_int)))
      (pss_nil))
      (pss_cons (ps_if (pt_cmpR op_eq (pv 1) pe_int (nomark _))
      (pss_one (ps_ret (pe_ix ix_list (pe_lst (pa_cons pe_int (pa_cons pe_int (pa_cons pe_int (pa_cons pe_int (pa_cons pe_int (pa_cons pe_int (pa_cons pe_int (pa_cons pe_int pa_nil))))))))) (pe_call G_draw (hr.mono (by decide)) (by rfl) g_draw k_draw b_draw .nil pass0 (pa_cons (pv 0) (pa_cons pe_int pa_nil))) (fun _ _ => rfl))))
      (pss_nil))
      (pss_cons (ps_if (pt_cmpR op_eq (pv 1) pe_int (nomark _))
      (pss_one (ps_ret (pe_op op_sub pe_int (pe_ix ix_list (pe_lst (pa_cons pe_int (pa_cons pe_int (pa_cons pe_int (pa_cons pe_int (pa_cons pe_int (pa_cons pe_int (pa_cons pe_int (pa_cons pe_int pa_nil))))))))) (pe_call G_draw (hr.mono (by decide)) (by rfl) g_draw k_draw b_draw .nil pass0 (pa_cons (pv 0) (pa_cons pe_int pa_nil))) (fun _ _ => rfl)))))
      (pss_nil))
      (pss_one (ps_ret (pe_op op_sub (pe_call G_draw (hr.mono (by decide)) (by rfl) g_draw k_draw b_draw .nil pass0 (pa_cons (pv 0) (pa_cons pe_int pa_nil))) pe_int)))))), ?_⟩
    refine ⟨_, rfl, d, l, 4, rest, rfl, by decide, by decide, hD, fun sh H1 s0 s1 hD1 c1 => ?_⟩
    refine ⟨_, rfl, rfl, _, rfl, ite2 (fun e => ?_) (fun e => ?_)⟩
    · refine ⟨_, rfl, d, l, 4, rest, rfl, by decide, by decide, hD1, fun r H2 r0 r1 hD2 c2 => ⟨_, _, rfl, rfl, ?_⟩⟩
      exact q _ _ (by omega) (by omega) hD2 (c1.trans c2)
    refine ⟨_, rfl, rfl, _, rfl, ite2 (fun e2 => ?_) (fun e2 => ?_)⟩
    · refine ⟨by show 8 ≤ sizeLine; decide, fun p np => ⟨_, rfl, d, l, 8, rest, rfl, by decide, by decide, hD1.same (same_upd np), fun r H2 r0 r1 hD2 c2 => ?_⟩⟩
      obtain ⟨v, hv, n, rfl, hn⟩ := pick (items := [.int 0, .int 9, .int 10, .int 99, .int 100, .int 999, .int 1000, .int 9999]) (oki_all (n := 9999) (by decide +kernel)) r0 r1
      refine ⟨p, _, _, _, rfl, rfl, SqL.of (c2 _ _ (hD1.ne_new np) upd_same), hv, ?_⟩
      exact q _ _ (by omega) (by omega) hD2 ((c1.trans (Chg.new np)).trans c2)
    refine ⟨_, rfl, rfl, _, rfl, ite2 (fun e3 => ?_) (fun e3 => ?_)⟩
    · refine ⟨by show 8 ≤ sizeLine; decide, fun p np => ⟨_, rfl, d, l, 8, rest, rfl, by decide, by decide, hD1.same (same_upd np), fun r H2 r0 r1 hD2 c2 => ?_⟩⟩
      obtain ⟨v, hv, n, rfl, hn⟩ := pick (items := [.int 1, .int 9, .int 10, .int 99, .int 100, .int 999, .int 1000, .int 9999]) (oki_all (n := 9999) (by decide +kernel)) r0 r1
      refine ⟨p, _, _, _, rfl, rfl, SqL.of (c2 _ _ (hD1.ne_new np) upd_same), hv, _, _, rfl, rfl, ?_⟩
      exact q _ _ (by omega) (by omega) hD2 ((c1.trans (Chg.new np)).trans c2)
    · refine ⟨_, rfl, d, l, 19999, rest, rfl, by decide, by decide, hD1, fun r H2 r0 r1 hD2 c2 => ⟨_, _, rfl, rfl, ?_⟩⟩
      exact q _ _ (by omega) (by omega) hD2 (c1.trans c2)
/-- the room is told anew -/
theorem Dq.room {H : Hp} {d l : Addr} {rest : List V} (h : Dq H d l rest) : ∃ (ns : List Int) (at_ : Nat) (big st n a : Int), H d = some (.lst (.ref l :: .int (at_ : Int) :: .int big :: .int st :: .int n :: .int a :: rest)) ∧ ∀ b : Int, Dq (L2.upd H d (.lst (.ref l :: .int (at_ : Int) :: .int big :: .int st :: .int n :: .int b :: rest))) d l rest := by
  obtain ⟨a, h⟩ := h
  have hne := h.ne
  obtain ⟨ns, at_, big, st, n, h1, h2, h3⟩ := h
  exact ⟨ns, at_, big, st, n, a, h1, fun b => ⟨b, ns, at_, big, st, n, upd_same, by rw [upd_ne hne]; exact h2, h3⟩⟩
theorem ok_any_value (D : Df K mg "_law_any_value" s_any_value) (C_draw : Cal P w K mg base "_law_draw" 2 ["_law_d", "_law_many"] spDraw) (C_int : Cal P w K mg base "_law_any_int" 3 ["_law_d"] spAnyInt) (C_name : Cal P w K mg base "_law_any_name" 3 ["_law_d"] spAnyName) (m_range : mg "range" = none) (m_tuple : mg "tuple" = none) :
    ∀ n : Nat, Cal P w K mg base "_law_any_value" (n + 4) ["_law_d", "_law_deep"] (spAV K n) := by
  obtain ⟨f, fd, F, g⟩ := D
  obtain ⟨f_draw, fd_draw, g_draw, k_draw, b_draw, G_draw⟩ := C_draw
  obtain ⟨f_any_int, fd_any_int, g_any_int, k_any_int, b_any_int, G_any_int⟩ := C_int
  obtain ⟨f_any_name, fd_any_name, g_any_name, k_any_name, b_any_name, G_any_name⟩ := C_name
  have B : Binds K fd ["_law_d", "_law_deep"] [] := F.bindsN fun _ _ _ _ _ _ us hl => match us, hl with | [_, _], _ => rfl
  intro n
  refine ⟨f, fd, g, F.kp, B, ?_⟩
  have step : ∀ (n : Nat) (G : FnOk P w K mg base CX0 (n + 3) f fd ["_law_d", "_law_deep"] (spAV0 K n)), FnOk P w K mg base CX0 (n + 4) f fd ["_law_d", "_law_deep"] (spAV0 K (n + 1)) := by
    intro n G_any_value
    have g_any_value := g
    have k_any_value := F.kp
    have b_any_value := B
    refine F.ok sc_any_value (fun vs H Q E h => ?_) (fun cdv A outer s H vs Q E hr h => ?_)
    · obtain ⟨d, l, rest, rfl, _⟩ := h
      rfl
    · obtain ⟨d, l, rest, rfl, hD, q⟩ := h
      refine ⟨_, pss_cons (ps_asg (pe_op op_sub (pe_ix ix_list (pv 0) pe_int (fun _ _ => rfl)) pe_int) (pg_sub (pv 0) pe_int set_list))
      (pss_cons (ps_set (i := 2) sc_any_value.nd rfl (.inl rfl) (pe_call G_draw (hr.mono (by omega)) (by rfl) g_draw k_draw b_draw .nil pass0 (pa_cons (pv 0) (pa_cons pe_int pa_nil))))
      (pss_cons (ps_if (PW.pt (pw_or (pt_cmpR op_eq (pv 1) pe_int (nomark _)) (pw_or (pt_cmpR op_le (pe_ix ix_list (pv 0) pe_int (fun _ _ => rfl)) pe_int (nomark _)) (pw_or1 (pt_cmpR op_lt (pv 2) pe_int (nomark _))))))
      (pss_one (ps_ret (pe_ifExp (pt_cmpR op_eq (pe_op op_and (pv 2) pe_int) pe_int (nomark _)) (pe_call G_any_int (hr.mono (by omega)) (by rfl) g_any_int k_any_int b_any_int .nil pass0 (pa_cons (pv 0) pa_nil)) (pe_call G_any_name (hr.mono (by omega)) (by rfl) g_any_name k_any_name b_any_name .nil pass0 (pa_cons (pv 0) pa_nil)))))
      (pss_nil))
      (pss_one (ps_ret (pe_callTy call_tuple_of (by rfl) m_tuple (by decide +kernel) (pa_cons (pe_lc (own := [("_law_k", 3)]) (tt := tYes) (by rfl) sc_any_value.nd (pi_range1 (by rfl) m_range (pa_cons (pe_ix ix_list (pe_lst (pa_cons pe_int (pa_cons pe_int (pa_cons pe_int (pa_cons pe_int pa_nil))))) (pe_call G_draw (hr.mono (by omega)) (by rfl) g_draw k_draw b_draw .nil pass0 (pa_cons (pv 0) (pa_cons pe_int pa_nil))) (fun _ _ => rfl)) pa_nil)) (blkOk_by (N := ["_law_d", "_law_deep", "_law_shape", "_law_k"]) (sc := defScope s_any_value) (by decide +kernel)) (fun _ _ _ _ _ => (pg_name (i := 3) sc_any_value.nd rfl (.inl rfl))) (fun _ _ _ _ _ => pts_nil) (fun _ _ _ _ _ => (pe_call G_any_value hr (by rfl) g_any_value k_any_value b_any_value .nil pass0 (pa_cons (pv 0) (pa_cons (pe_op op_sub (pv 1) pe_int) pa_nil))))) pa_nil)))))), ?_⟩
      have hl16 : (16777216 : Nat) ≤ sizeLine := by rw [sizeLine_eq]; decide
      obtain ⟨ns, at_, big, st, m, a, hd, hroom⟩ := hD.room
      refine ⟨_, rfl, d, _, 5, _, rfl, rfl, SqL.of hd, atI_nat (j := 5) rfl, _, _, rfl, rfl, _, rfl, d, _, 5, 5, rfl, rfl, hd, ixN_k (by simp), ?_⟩
      obtain ⟨b1, hD1⟩ := hroom (a - 1)
      refine ⟨_, rfl, d, l, 7, _, rfl, by decide, by decide, hD1, fun sh H2 s0 s1 hD2 c2 => ?_⟩
      have c1 : Chg d H H2 := (Chg.upd d H _).trans c2
      have hDq2 : Dq H2 d l rest := ⟨_, hD2⟩
      clear hD1 c2 hroom
      have atom : tIf (tTest (tOp rEq (tOp (rI0 fun i j => .int (Builtin.bitAnd i j)) (tVar 2) (tC (.int 1))) (tC (.int 0)))) (tCall spAnyInt [] E0 (tCons (tVar 0) tNil)) (tCall spAnyName [] E0 (tCons (tVar 0) tNil)) [some (.ref d), some (.int (n : Int)), some (.int sh), none] H2 Q := by
        refine ⟨_, rfl, _, _, rfl, rfl, rfl, _, rfl, ite2 (fun e => ?_) (fun e => ?_)⟩
        · refine ⟨_, rfl, d, l, _, rfl, hD2, fun i H3 i0 i1 hD3 c3 => ?_⟩
          exact q _ (.int i) H3 rfl (gd_atom ⟨i0, i1⟩ rfl) ⟨_, hD3⟩ (c1.trans c3)
        · refine ⟨_, rfl, d, l, _, rfl, hD2, fun x H3 hx hD3 c3 => ?_⟩
          exact q _ (.str x) H3 rfl (gd_atom (n := n) (t := .str x) hx rfl) ⟨_, hD3⟩ (c1.trans c3)
      refine ⟨_, rfl, rfl, _, rfl, ite2 (fun e => iteT atom) (fun e => ?_)⟩
      obtain ⟨ns2, at2, big2, st2, m2, h21, h22, h23⟩ := hD2
      refine ⟨_, rfl, d, _, 5, _, rfl, rfl, SqL.of h21, atI_nat (j := 5) rfl, _, _, rfl, rfl, _, rfl, ite2 (fun e2 => iteT atom) (fun e2 => ?_)⟩
      refine ⟨_, rfl, _, _, rfl, rfl, _, rfl, ite2 (fun e3 => atom) (fun e3 => ?_)⟩
      clear atom
      obtain ⟨k, rfl⟩ : ∃ k, n = k + 1 := by
        cases n with
        | zero => exact absurd (decide_eq_true rfl) e
        | succ k => exact ⟨k, rfl⟩
      refine ⟨by show 4 ≤ sizeLine; decide, fun p np => ?_⟩
      obtain ⟨b2, hD3⟩ := hDq2.same (same_upd (o := .lst [.int 0, .int 1, .int 2, .int 3]) np)
      refine ⟨_, rfl, d, l, 4, _, rfl, by decide, by decide, hD3, fun r H4 r0 r1 hD4 c4 => ?_⟩
      obtain ⟨v, hv, j, rfl, hj⟩ := pick (items := [.int 0, .int 1, .int 2, .int 3]) (oki_all (n := 3) (by decide +kernel)) r0 r1
      refine ⟨p, _, _, _, rfl, rfl, SqL.of (c4 _ _ (hDq2.ne_new np) upd_same), hv, (j : Int), rfl, by omega, by omega, fun D nD => ?_⟩
      refine lc_gen (K := K) (n := j) (k := 3) (d := d) (l0 := l) (rest := rest) (Pt := Gd k) ⟨_, hD4⟩ nD (by omega) (fun i => rfl) (fun i H5 Q5 hi dq hq => ?_) (fun H5 xs ts e5 tv hts hP dq c5 => ?_)
      · refine ⟨_, rfl, _, rfl, _, _, rfl, rfl, d, l, rest, ?_, dq, fun v t H6 hv pt dq6 c6 => hq v t H6 hv pt dq6 c6⟩
        have e9 : ((k + 1 : Nat) : Int) - 1 = (k : Int) := by omega
        show [V.ref d, V.int (((k + 1 : Nat) : Int) - 1)] = [V.ref d, V.int (k : Int)]
        rw [e9]
      · refine ⟨D, _, rfl, .inl ⟨SqL.of e5, fun o no => ?_⟩⟩
        refine q _ (.tup ts) _ ⟨o, xs, rfl, SqT.of upd_same, TvL.map (sqt_same (same_upd no)) _ _ tv⟩ (gd_up hP (by omega)) (dq.same (same_upd no)) ?_
        exact (((c1.trans (Chg.new np)).trans c4).trans c5).trans (Chg.new no)
  induction n with
  | zero => exact step 0 ⟨fun _ _ _ _ h => h.elim, fun _ _ _ _ _ _ _ _ _ _ _ _ _ h => h.elim⟩
  | succ n ih => exact step (n + 1) ih
end
/-! ### the law: a wide value -/
section
variable {P : Program} {w : World} {K : PySem.W.Frag} {mg : Str → Option Value} {base : Heap}
theorem ok_wide (D : Df K mg "_law_wide_value" s_wide_value) (C_draw : Cal P w K mg base "_law_draw" 2 ["_law_d", "_law_many"] spDraw)
    (C0 : Cal P w K mg base "_law_any_value" 4 ["_law_d", "_law_deep"] (spAV K 0)) (C1 : Cal P w K mg base "_law_any_value" 5 ["_law_d", "_law_deep"] (spAV K 1)) (C6 : Cal P w K mg base "_law_any_value" 10 ["_law_d", "_law_deep"] (spAV K 6)) (m_range : mg "range" = none) (m_tuple : mg "tuple" = none) :
    Cal P w K mg base "_law_wide_value" 11 ["_law_d"] (spWide K) := by
  obtain ⟨f, fd, F, g⟩ := D
  obtain ⟨f_draw, fd_draw, g_draw, k_draw, b_draw, G_draw⟩ := C_draw
  obtain ⟨f0, fd0, g0, k0, b0, G0⟩ := C0
  obtain ⟨f1, fd1, g1, k1, b1, G1⟩ := C1
  obtain ⟨f6, fd6, g6, k6, b6, G6⟩ := C6
  refine ⟨f, fd, g, F.kp, F.bindsN fun _ _ _ _ _ _ us hl => match us, hl with | [_], _ => rfl, ?_⟩
  refine F.ok sc_wide_value (fun vs H Q E h => ?_) (fun cdv A outer s H vs Q E hr h => ?_)
  · obtain ⟨d, l, rest, rfl, _⟩ := h
    rfl
  · obtain ⟨d, l, rest, rfl, hD, q⟩ := h
    refine ⟨_, pss_cons (ps_asg pe_int (pg_sub (pv 0) pe_int set_list))
      (pss_cons (ps_set (i := 1) sc_wide_value.nd rfl (.inl rfl) (pe_call G_draw (hr.mono (by decide)) (by rfl) g_draw k_draw b_draw .nil pass0 (pa_cons (pv 0) (pa_cons pe_int pa_nil))))
      (pss_cons (ps_if (pt_cmpR op_lt (pv 1) pe_int (nomark _))
      (pss_one (ps_ret (pe_callTy call_tuple_of (by rfl) m_tuple (by decide +kernel) (pa_cons (pe_lc (own := [("_law_k", 2)]) (tt := tYes) (by rfl) sc_wide_value.nd (pi_range1 (by rfl) m_range (pa_cons (pe_ix ix_list (pe_lst (pa_cons pe_int (pa_cons pe_int (pa_cons pe_int (pa_cons pe_int (pa_cons pe_int (pa_cons pe_int pa_nil))))))) (pe_call G_draw (hr.mono (by decide)) (by rfl) g_draw k_draw b_draw .nil pass0 (pa_cons (pv 0) (pa_cons pe_int pa_nil))) (fun _ _ => rfl)) pa_nil)) (blkOk_by (N := ["_law_d", "_law_shape", "_law_k", "_law_value"]) (sc := defScope s_wide_value) (by decide +kernel)) (fun _ _ _ _ _ => (pg_name (i := 2) sc_wide_value.nd rfl (.inl rfl))) (fun _ _ _ _ _ => pts_nil) (fun _ _ _ _ _ => (pe_call G6 (hr.mono (by decide)) (by rfl) g6 k6 b6 .nil pass0 (pa_cons (pv 0) (pa_cons pe_int pa_nil))))) pa_nil))))
      (pss_nil))
      (pss_cons (ps_if (pt_cmpR op_eq (pv 1) pe_int (nomark _))
      (pss_one (ps_ret (pe_call G0 (hr.mono (by decide)) (by rfl) g0 k0 b0 .nil pass0 (pa_cons (pv 0) (pa_cons pe_int pa_nil)))))
      (pss_nil))
      (pss_cons (ps_if (pt_cmpR op_eq (pv 1) pe_int (nomark _))
      (pss_cons (ps_set (i := 3) sc_wide_value.nd rfl (.inl rfl) (pe_call G1 (hr.mono (by decide)) (by rfl) g1 k1 b1 .nil pass0 (pa_cons (pv 0) (pa_cons pe_int pa_nil))))
        (pss_cons (ps_for (passes_of rfl) rfl (pi_range1 (by rfl) m_range (pa_cons (pe_op op_add pe_int (pe_call G_draw (hr.mono (by decide)) (by rfl) g_draw k_draw b_draw .nil pass0 (pa_cons (pv 0) (pa_cons pe_int pa_nil)))) pa_nil)) (pg_name (i := 2) sc_wide_value.nd rfl (.inl rfl))
        (pss_one (ps_set (i := 3) sc_wide_value.nd rfl (.inl rfl) (pe_tup (pa_cons (pv 3) pa_nil)))))
        (pss_one (ps_ret (pv 3)))))
      (pss_nil))
      (pss_cons (ps_if (pt_cmpR op_eq (pv 1) pe_int (nomark _))
      (pss_one (ps_ret (pe_callTy call_tuple_of (by rfl) m_tuple (by decide +kernel) (pa_cons (pe_lc (own := [("_law_k", 2)]) (tt := tYes) (by rfl) sc_wide_value.nd (pi_range1 (by rfl) m_range (pa_cons (pe_call G_draw (hr.mono (by decide)) (by rfl) g_draw k_draw b_draw .nil pass0 (pa_cons (pv 0) (pa_cons pe_int pa_nil))) pa_nil)) (blkOk_by (N := ["_law_d", "_law_shape", "_law_k", "_law_value"]) (sc := defScope s_wide_value) (by decide +kernel)) (fun _ _ _ _ _ => (pg_name (i := 2) sc_wide_value.nd rfl (.inl rfl))) (fun _ _ _ _ _ => pts_nil) (fun _ _ _ _ _ => (pe_call G0 (hr.mono (by decide)) (by rfl) g0 k0 b0 .nil pass0 (pa_cons (pv 0) (pa_cons pe_int pa_nil))))) pa_nil))))
      (pss_nil))
      (pss_one (ps_ret (pe_callTy call_tuple_of (by rfl) m_tuple (by decide +kernel) (pa_cons (pe_lc (own := [("_law_k", 2)]) (tt := tYes) (by rfl) sc_wide_value.nd (pi_range1 (by rfl) m_range (pa_cons (pe_op op_add pe_int (pe_call G_draw (hr.mono (by decide)) (by rfl) g_draw k_draw b_draw .nil pass0 (pa_cons (pv 0) (pa_cons pe_int pa_nil)))) pa_nil)) (blkOk_by (N := ["_law_d", "_law_shape", "_law_k", "_law_value"]) (sc := defScope s_wide_value) (by decide +kernel)) (fun _ _ _ _ _ => (pg_name (i := 2) sc_wide_value.nd rfl (.inl rfl))) (fun _ _ _ _ _ => pts_nil) (fun _ _ _ _ _ => (pe_ifExp (pt_cmpR op_gt (pe_call G_draw (hr.mono (by decide)) (by rfl) g_draw k_draw b_draw .nil pass0 (pa_cons (pv 0) (pa_cons pe_int pa_nil))) pe_int (nomark _)) (pe_tup pa_nil) (pe_call G1 (hr.mono (by decide)) (by rfl) g1 k1 b1 .nil pass0 (pa_cons (pv 0) (pa_cons pe_int pa_nil)))))) pa_nil))))))))), ?_⟩
    have hl16 : (16777216 : Nat) ≤ sizeLine := by rw [sizeLine_eq]; decide
    obtain ⟨ns, at_, big, st, m, a, hd, hroom⟩ := hD.room
    refine ⟨_, rfl, d, _, 5, 5, rfl, rfl, hd, ixN_k (by simp), ?_⟩
    obtain ⟨b1', hD1⟩ := hroom 40
    refine ⟨_, rfl, d, l, 8, _, rfl, by decide, by decide, hD1, fun sh H2 s0 s1 hD2 c2 => ?_⟩
    have c1 : Chg d H H2 := (Chg.upd d H _).trans c2
    have hDq2 : Dq H2 d l rest := ⟨_, hD2⟩
    clear hD1 c2 hroom
    have fin : ∀ {H5 : Hp} {D : Addr} {xs : List V} {ts : List T}, H5 D = some (.lst xs) → TvL K H5 ts xs → Wd (.tup ts) → Dq H5 d l rest → Chg d H H5 → ∀ o, H5 o = none → Q (.ref o) (upd H5 o (.tup xs)) := fun {H5 D xs ts} e5 tv hW dq c5 o no =>
      q _ (.tup ts) _ ⟨o, xs, rfl, SqT.of upd_same, TvL.map (sqt_same (same_upd no)) _ _ tv⟩ hW (dq.same (same_upd no)) (c5.trans (Chg.new no))
    have wd : ∀ {ts : List T} {n k b : Nat}, (∀ t ∈ ts, Aok n t ∧ (vt t).length ≤ b) → n ≤ 17 → ts.length ≤ k → k * (b + 1) ≤ 19000 → Wd (.tup ts) := fun {ts n k b} h hn hk hb => ⟨fun t ht => aok_le hn (h t ht).1, by
      have h1 := vt_len fun t ht => (h t ht).2
      have h2 : ts.length * (b + 1) ≤ k * (b + 1) := Nat.mul_le_mul_right _ hk
      omega⟩
    refine ⟨_, rfl, _, _, rfl, rfl, _, rfl, ite2 (fun e => ?_) (fun e => ?_)⟩
    · refine ⟨by show 6 ≤ sizeLine; decide, fun p np => ?_⟩
      obtain ⟨b2, hD3⟩ := hDq2.same (same_upd (o := .lst [.int 2, .int 3, .int 1, .int 4, .int 0, .int 5]) np)
      refine ⟨_, rfl, d, l, 6, _, rfl, by decide, by decide, hD3, fun r H4 r0 r1 hD4 c4 => ?_⟩
      obtain ⟨v, hv, j, rfl, hj⟩ := pick (items := [.int 2, .int 3, .int 1, .int 4, .int 0, .int 5]) (oki_all (n := 5) (by decide +kernel)) r0 r1
      refine ⟨p, _, _, _, rfl, rfl, SqL.of (c4 _ _ (hDq2.ne_new np) upd_same), hv, (j : Int), rfl, by omega, by omega, fun D nD => ?_⟩
      refine lc_gen (K := K) (n := j) (k := 2) (d := d) (l0 := l) (rest := rest) (Pt := Gd 6) ⟨_, hD4⟩ nD (by omega) (fun i => rfl) (fun i H5 Q5 hi dq hq => ⟨_, rfl, d, l, rest, rfl, dq, fun v t H6 hv pt dq6 c6 => hq v t H6 hv pt dq6 c6⟩) (fun H5 xs ts e5 tv hts hP dq c5 => ?_)
      refine ⟨D, _, rfl, .inl ⟨SqL.of e5, fin e5 tv (wd (n := 6) (k := 5) (b := 2549) hP (by omega) (by omega) (by decide)) dq (((c1.trans (Chg.new np)).trans c4).trans c5)⟩⟩
    refine ⟨_, rfl, rfl, _, rfl, ite2 (fun e2 => ?_) (fun e2 => ?_)⟩
    · refine ⟨_, rfl, d, l, rest, rfl, hDq2, fun v t H3 hv pt dq c3 => q v t H3 hv ⟨aok_le (by omega) pt.1, Nat.le_trans pt.2 (by decide)⟩ dq (c1.trans c3)⟩
    refine ⟨_, rfl, rfl, _, rfl, ite2 (fun e3 => ?_) (fun e3 => ?_)⟩
    · refine ⟨_, rfl, d, l, rest, rfl, hDq2, fun v t H3 hv pt dq c3 => ?_⟩
      obtain ⟨b2, hD3⟩ := dq
      refine ⟨_, rfl, d, l, 17, _, rfl, by decide, by decide, hD3, fun r H4 r0 r1 hD4 c4 => ⟨_, _, rfl, rfl, ?_⟩⟩
      obtain ⟨ys, hys⟩ := hD3.lst
      obtain ⟨k, rfl⟩ := Int.eq_ofNat_of_zero_le r0
      have hk : k ≤ 16 := by omega
      refine ⟨1 + (k : Int), rfl, by omega, by omega, ?_⟩
      rw [show ((1 + (k : Int)).toNat) = k + 1 by omega]
      refine for_range (n := k + 1) (fun i σ' H' => Dq H' d l rest ∧ Chg d H H' ∧ ∃ v t y2, σ' = [some (.ref d), some (.int sh), y2, some v] ∧ Tv K H' t v ∧ Aok (1 + i) t ∧ (vt t).length ≤ 8 + 2 * i) ⟨⟨_, hD4⟩, (c1.trans c3).trans c4, v, t, none, rfl, Tv.chg c4 hys hv, pt.1, pt.2⟩ (fun i σ' H' hi h => ?_) (fun σ' H' h => ?_)
      · obtain ⟨dq, c5, v5, t5, y2, rfl, hv5, ha5, hl5⟩ := h
        refine ⟨_, rfl, by show 1 ≤ sizeLine; decide, fun o no => ?_⟩
        refine ⟨dq.same (same_upd no), c5.trans (Chg.new no), _, .tup [t5], _, rfl, ⟨o, [v5], rfl, SqT.of upd_same, v5, [], rfl, Tv.same (same_upd no) hv5, rfl⟩, fun u hu => ?_, ?_⟩
        · rw [List.mem_singleton.mp hu]
          exact ha5
        · have h9 : (vt (T.tup [t5])).length = (vt t5).length + 2 := by
            rw [vt_tup]
            show (sO :: (listed [vt t5] ++ [sC])).length = _
            rw [List.length_cons, List.length_append, List.length_singleton]
            show ((vt t5 ++ []).length + 1) + 1 = _
            rw [List.append_nil]
          omega
      · obtain ⟨dq, c5, v5, t5, y2, rfl, hv5, ha5, hl5⟩ := h
        exact ⟨_, rfl, q v5 t5 H' hv5 ⟨aok_le (by omega) ha5, by omega⟩ dq c5⟩
    refine ⟨_, rfl, rfl, _, rfl, ite2 (fun e4 => ?_) (fun e4 => ?_)⟩
    · refine ⟨_, rfl, d, l, 61, _, rfl, by decide, by decide, hD2, fun r H4 r0 r1 hD4 c4 => ?_⟩
      obtain ⟨j, rfl⟩ := Int.eq_ofNat_of_zero_le r0
      refine ⟨(j : Int), rfl, by omega, by omega, fun D nD => ?_⟩
      refine lc_gen (K := K) (n := j) (k := 2) (d := d) (l0 := l) (rest := rest) (Pt := Gd 0) ⟨_, hD4⟩ nD (by omega) (fun i => rfl) (fun i H5 Q5 hi dq hq => ⟨_, rfl, d, l, rest, rfl, dq, fun v t H6 hv pt dq6 c6 => hq v t H6 hv pt dq6 c6⟩) (fun H5 xs ts e5 tv hts hP dq c5 => ?_)
      refine ⟨D, _, rfl, .inl ⟨SqL.of e5, fin e5 tv (wd (n := 0) (k := 60) (b := 1) hP (by omega) (by omega) (by decide)) dq ((c1.trans c4).trans c5)⟩⟩
    · refine ⟨_, rfl, d, l, 4, _, rfl, by decide, by decide, hD2, fun r H4 r0 r1 hD4 c4 => ⟨_, _, rfl, rfl, ?_⟩⟩
      obtain ⟨j, rfl⟩ := Int.eq_ofNat_of_zero_le r0
      refine ⟨1 + (j : Int), rfl, by omega, by omega, fun D nD => ?_⟩
      rw [show ((1 + (j : Int)).toNat) = j + 1 by omega]
      refine lc_gen (K := K) (n := j + 1) (k := 2) (d := d) (l0 := l) (rest := rest) (Pt := fun t => Aok 1 t ∧ (vt t).length ≤ 8) ⟨_, hD4⟩ nD (by omega) (fun i => rfl) (fun i H5 Q5 hi dq hq => ?_) (fun H5 xs ts e5 tv hts hP dq c5 => ?_)
      · obtain ⟨b5, hD5⟩ := dq
        refine ⟨_, rfl, d, l, 3, _, rfl, by decide, by decide, hD5, fun r6 H6 u0 u1 hD6 c6 => ⟨_, _, rfl, rfl, _, rfl, ite2 (fun e7 => ?_) (fun e7 => ?_)⟩⟩
        · refine ⟨Nat.zero_le _, fun o no => ?_⟩
          exact hq _ (.tup []) _ ⟨o, [], rfl, SqT.of upd_same, rfl⟩ ⟨(fun t ht => by cases ht), by decide +kernel⟩ ⟨_, hD6.same (same_upd no)⟩ (c6.trans (Chg.new no))
        · exact ⟨_, rfl, d, l, rest, rfl, ⟨_, hD6⟩, fun v t H7 hv pt dq7 c7 => hq v t H7 hv pt dq7 (c6.trans c7)⟩
      · refine ⟨D, _, rfl, .inl ⟨SqL.of e5, fin e5 tv (wd (n := 1) (k := 4) (b := 8) hP (by omega) (by omega) (by decide)) dq ((c1.trans c4).trans c5)⟩⟩
end
/-! ### the law: names and integers judged, the text read back -/
def lowS : Str := Str.ofString "abcdefghijklmnopqrstuvwxyz"
def digS : Str := Str.ofString "0123456789"
theorem lowS_list : lowS.cps.toList = [97,98,99,100,101,102,103,104,105,106,107,108,109,110,111,112,113,114,115,116,117,118,119,120,121,122] := by decide +kernel
theorem digS_list : digS.cps.toList = [48,49,50,51,52,53,54,55,56,57] := by decide +kernel
theorem low_mem (c : Nat) : decide (c ∈ lowS.cps.toList) = low c := by
  rw [lowS_list]
  by_cases h : c < 128
  · revert c
    decide +kernel
  · rw [decide_eq_false]
    · unfold low
      simp
      omega
    · intro z
      simp at z
      omega
theorem dig_mem (c : Nat) : decide (c ∈ digS.cps.toList) = dig c := by
  rw [digS_list]
  by_cases h : c < 128
  · revert c
    decide +kernel
  · rw [decide_eq_false]
    · unfold dig
      simp
      omega
    · intro z
      simp at z
      omega
theorem tl_get {z : Str} {i : Nat} (h : i < (tl z).length) : z.cps.toList[i]? = some (tl z)[i] := List.getElem?_eq_getElem h
theorem mk_inj {a b : List Nat} : (⟨a.toArray⟩ : Str) = ⟨b.toArray⟩ ↔ a = b := ⟨fun h => by
  have e := congrArg tl h
  exact e, fun h => by rw [h]⟩
theorem sgn_eq {c k : Nat} {s : Str} (h : s = ⟨[k].toArray⟩) : (V.str ⟨#[c]⟩ = V.str s) ↔ c = k := by
  rw [h]
  constructor
  · intro e
    injection e with e
    have e2 : tl ⟨[c].toArray⟩ = tl ⟨[k].toArray⟩ := congrArg tl e
    have e3 : [c] = [k] := e2
    injection e3
  · rintro rfl
    rfl
theorem s_minus : Str.ofString "-" = ⟨[45].toArray⟩ := by decide +kernel
theorem s_zero : Str.ofString "0" = ⟨[48].toArray⟩ := by decide +kernel
theorem cut_to1 (z : Str) : cutS z none (some 1) = ⟨((tl z).take 1).toArray⟩ := by
  unfold cutS
  rw [show (some (1 : Int)) = some ((1 : Nat) : Int) from rfl, HT.sIx_none, HT.sIx_nat, len_tl, Nat.sub_zero, List.drop_zero]
  refine mk_inj.mpr ?_
  show (tl z).take (min 1 (tl z).length) = _
  by_cases h : 1 ≤ (tl z).length
  · rw [Nat.min_eq_left h]
  · rw [Nat.min_eq_right (by omega), List.take_length, List.take_of_length_le (by omega)]
theorem cut_from1 (z : Str) : cutS z (some 1) none = ⟨((tl z).drop 1).toArray⟩ := by
  unfold cutS
  rw [show (some (1 : Int)) = some ((1 : Nat) : Int) from rfl, HT.sIx_none, HT.sIx_nat, len_tl]
  refine mk_inj.mpr ?_
  show List.take _ ((tl z).drop (min 1 (tl z).length)) = _
  by_cases h : 1 ≤ (tl z).length
  · rw [Nat.min_eq_left h, List.take_of_length_le (by rw [List.length_drop]; exact Nat.le_refl _)]
  · rw [Nat.min_eq_right (by omega), List.drop_length, List.drop_eq_nil_of_le (by omega), List.take_nil]
theorem nmL_iff {l : List Nat} : nmL l = true ↔ l ≠ [] ∧ ∀ (k : Nat) (h : k < l.length), low l[k] = true ∨ (k ≠ 0 ∧ dig l[k] = true) := by
  cases l with
  | nil => simp [nmL]
  | cons a r =>
    simp only [nmL, Bool.and_eq_true, List.all_eq_true, Bool.or_eq_true]
    constructor
    · rintro ⟨h1, h2⟩
      refine ⟨by simp, fun k h => ?_⟩
      cases k with
      | zero => exact .inl h1
      | succ k =>
        rcases h2 (r[k]'(by simpa using h)) (List.getElem_mem _) with h3 | h3
        · exact .inl h3
        · exact .inr ⟨by omega, h3⟩
    · rintro ⟨_, h⟩
      refine ⟨?_, fun c hc => ?_⟩
      · rcases h 0 (by simp) with h1 | h1
        · exact h1
        · exact absurd rfl h1.1
      · obtain ⟨k, hk, rfl⟩ := List.mem_iff_getElem.mp hc
        rcases h (k + 1) (by simpa using hk) with h1 | h1
        · exact .inl h1
        · exact .inr h1.2
def spIsName : Sp := fun vs H Q _ => ∃ s : Str, vs = [.str s] ∧ s.length ≤ 1000 ∧ ∀ H', Same H H' → Q (.bl (isNm s)) H'
def spIsInt : Sp := fun vs H Q _ => ∃ s : Str, vs = [.str s] ∧ s.length ≤ 1000 ∧ Q (.bl (isIn s)) H
section
variable {P : Program} {w : World} {K : PySem.W.Frag} {mg : Str → Option Value} {base : Heap}
theorem ok_is_name (D : Df K mg "_law_is_name" s_is_name) (C_reserved : Cal P w K mg base "_law_reserved" 1 [] spReserved) (m_len : mg "len" = none) (m_range : mg "range" = none) : Cal P w K mg base "_law_is_name" 2 ["_law_token"] spIsName := by
  obtain ⟨f, fd, F, g⟩ := D
  obtain ⟨f_reserved, fd_reserved, g_reserved, k_reserved, b_reserved, G_reserved⟩ := C_reserved
  refine ⟨f, fd, g, F.kp, F.bindsN fun _ _ _ _ _ _ us hl => match us, hl with | [_], _ => rfl, ?_⟩
  refine F.ok sc_is_name (fun vs H Q E h => ?_) (fun cdv A outer s H vs Q E hr h => ?_)
  · obtain ⟨z, rfl, _⟩ := h
    rfl
  · obtain ⟨z, rfl, hz, q⟩ := h
    refine ⟨_, pss_cons (ps_if (PW.pt (pw_or (pt_not (pt_chain op_le op_le pe_int (pe_callB call_len (by rfl) m_len (by decide +kernel) (pa_cons (pv 0) pa_nil)) pe_int)) (pw_or1 (pt_cmpR op_in_seq (pv 0) (pe_call0 G_reserved (hr.mono (by decide)) (by rfl) g_reserved k_reserved b_reserved .nil pass0) rfl))))
      (pss_one (ps_ret pe_bl))
      (pss_nil))
      (pss_cons (ps_for (passes_of rfl) rfl (pi_range1 (by rfl) m_range (pa_cons (pe_callB call_len (by rfl) m_len (by decide +kernel) (pa_cons (pv 0) pa_nil)) pa_nil)) (pg_name (i := 1) sc_is_name.nd rfl (.inl rfl))
      (pss_one (ps_if (PW.pt (pw_and (pt_cmpR op_notIn_sign (pe_ix ix_str (pv 0) (pv 1) (fun _ _ => rfl)) pe_str rfl) (pw_and1 (PW.pt (pw_or (pt_cmpR op_eq (pv 1) pe_int (nomark _)) (pw_or1 (pt_cmpR op_notIn_sign (pe_ix ix_str (pv 0) (pv 1) (fun _ _ => rfl)) pe_str rfl)))))))
        (pss_one (ps_ret pe_bl))
        (pss_nil))))
      (pss_one (ps_ret pe_bl))), ?_⟩
    have hl16 : (16777216 : Nat) ≤ sizeLine := by rw [sizeLine_eq]; decide
    have hzs : z.length ≤ sizeLine := by omega
    have bad : isNm z = false → ∀ H', Same H H' → Q (.bl false) H' := fun e H' sm => by
      have := q H' sm
      rwa [e] at this
    refine ⟨_, rfl, _, _, rfl, ⟨hzs, rfl⟩, _, _, rfl, rfl, _, rfl, ite2 (fun e => ?_) (fun e => ?_)⟩
    · have h1 : 1 ≤ z.length := by
        have := of_decide_eq_true e
        omega
      refine ⟨_, _, rfl, rfl, _, rfl, ?_⟩
      by_cases h8 : z.length ≤ 8
      · rw [decide_eq_true (show ((z.length : Nat) : Int) ≤ 8 by omega)]
        refine iteF ⟨_, rfl, rfl, fun H2 p sm np ep => ⟨p, _, rfl, .inl (SqL.of ep), rfl, flat_RS, _, rfl, ?_⟩⟩
        show if inV (.str z) (RS.map V.str) = true then _ else _
        rw [inV_RS]
        refine ite2 (fun e2 => ?_) (fun e2 => ?_)
        · refine bad ?_ H2 sm
          unfold isNm
          rw [e2]
          simp
        · have hnr : z ∉ RS := fun z9 => e2 (List.contains_iff_mem.mpr z9)
          refine ⟨_, rfl, _, _, rfl, ⟨hzs, rfl⟩, (z.length : Int), rfl, by omega, by omega, ?_⟩
          refine for_range (n := z.length) (fun i σ' H' => H' = H2 ∧ (∀ (k : Nat) (h : k < (tl z).length), k < i → low (tl z)[k] = true ∨ (k ≠ 0 ∧ dig (tl z)[k] = true)) ∧ ∃ y, σ' = [some (.str z), y]) ⟨rfl, fun k h h2 => absurd h2 (Nat.not_lt_zero k), none, rfl⟩ (fun i σ' H' hi h => ?_) (fun σ' H' h => ?_)
          · obtain ⟨rfl, hall, y, rfl⟩ := h
            have hit : i < (tl z).length := by rw [← len_tl]; exact hi
            have ei : ((0 : Int) + (i : Int)) = (i : Int) := by omega
            have next : (low (tl z)[i] = true ∨ (i ≠ 0 ∧ dig (tl z)[i] = true)) → ∀ (k : Nat) (h : k < (tl z).length), k < i + 1 → low (tl z)[k] = true ∨ (k ≠ 0 ∧ dig (tl z)[k] = true) := fun hh k h h2 => by
              rcases Nat.lt_or_ge k i with h3 | h3
              · exact hall k h h3
              · obtain rfl : k = i := by omega
                exact hh
            have fal : ¬ (low (tl z)[i] = true ∨ (i ≠ 0 ∧ dig (tl z)[i] = true)) → isNm z = false := fun hh => by
              cases hn : isNm z with
              | false => rfl
              | true => exact absurd ((nmL_iff.mp (nm_parts hn).2.2.2).2 i hit) hh
            refine ⟨_, rfl, _, rfl, z, _, _, rfl, rfl, hzs, by rw [ei]; exact atI_nat (tl_get hit), _, lowS, rfl, rfl, _, rfl, ?_⟩
            rw [low_mem]
            refine ite2 (fun e3 => ?_) (fun e3 => ?_)
            · have hlow : low (tl z)[i] = false := by simpa using e3
              refine ⟨_, rfl, rfl, _, rfl, ite2 (fun e4 => ?_) (fun e4 => ?_)⟩
              · refine iteT (bad (fal ?_) _ sm)
                have e5 : (0 : Int) + (i : Int) = 0 := V.int.inj (of_decide_eq_true e4)
                rintro (h | h)
                · rw [hlow] at h
                  cases h
                · omega
              · refine ⟨_, rfl, _, rfl, z, _, _, rfl, rfl, hzs, by rw [ei]; exact atI_nat (tl_get hit), _, digS, rfl, rfl, _, rfl, ?_⟩
                rw [dig_mem]
                refine ite2 (fun e5 => ?_) (fun e5 => ?_)
                · have hdig : dig (tl z)[i] = false := by simpa using e5
                  refine bad (fal ?_) _ sm
                  rintro (h | h)
                  · rw [hlow] at h
                    cases h
                  · rw [hdig] at h
                    cases h.2
                · have hdig : dig (tl z)[i] = true := by simpa using e5
                  have hi0 : i ≠ 0 := fun z9 => e4 (by rw [z9]; exact decide_eq_true rfl)
                  exact ⟨rfl, next (.inr ⟨hi0, hdig⟩), _, rfl⟩
            · have hlow : low (tl z)[i] = true := by simpa using e3
              exact iteF ⟨rfl, next (.inl hlow), _, rfl⟩
          · obtain ⟨rfl, hall, y, rfl⟩ := h
            have hn : isNm z = true := nm_of h1 h8 (nmL_iff.mpr ⟨fun z9 => by rw [len_tl, z9] at h1; simp at h1, fun k h => hall k h (by rw [len_tl]; exact h)⟩) hnr
            have := q _ sm
            rwa [hn] at this
      · rw [decide_eq_false (show ¬ ((z.length : Nat) : Int) ≤ 8 by omega)]
        refine iteT (bad ?_ H (Same.refl _))
        unfold isNm
        rw [decide_eq_false h8]
        simp
    · have h1 : ¬ 1 ≤ z.length := fun z9 => e (decide_eq_true (by omega))
      refine ⟨_, rfl, iteT (bad ?_ H (Same.refl _))⟩
      unfold isNm
      rw [decide_eq_false h1]
      rfl
end
section
variable {P : Program} {w : World} {K : PySem.W.Frag} {mg : Str → Option Value} {base : Heap}
theorem ok_is_int (D : Df K mg "_law_is_int" s_is_int) (m_len : mg "len" = none) : Cal P w K mg base "_law_is_int" 1 ["_law_token"] spIsInt := by
  obtain ⟨f, fd, F, g⟩ := D
  refine ⟨f, fd, g, F.kp, F.bindsN fun _ _ _ _ _ _ us hl => match us, hl with | [_], _ => rfl, ?_⟩
  refine F.ok sc_is_int (fun vs H Q E h => ?_) (fun cdv A outer s H vs Q E hr h => ?_)
  · obtain ⟨z, rfl, _⟩ := h
    rfl
  · obtain ⟨z, rfl, hz, q⟩ := h
    refine ⟨_, pss_cons (ps_set (i := 1) sc_is_int.nd rfl (.inl rfl) (pe_ifExp (pt_cmpR op_eq (pe_slice sl_str (pv 0) po_none (po_some pe_int)) pe_str (nomark _)) (pe_slice sl_str (pv 0) (po_some pe_int) po_none) (pv 0)))
      (pss_cons (ps_if (PW.pt (pw_or (pt_not (pt_chain op_le op_le pe_int (pe_callB call_len (by rfl) m_len (by decide +kernel) (pa_cons (pv 1) pa_nil)) pe_int)) (pw_or1 (PW.pt (pw_and (pt_cmpR op_eq (pe_ix ix_str (pv 1) pe_int (fun _ _ => rfl)) pe_str (nomark _)) (pw_and1 (pt_cmpR op_ne (pv 0) pe_str (nomark _))))))))
      (pss_one (ps_ret pe_bl))
      (pss_nil))
      (pss_cons (ps_for (passes_of rfl) rfl (pi_str (pv 1)) (pg_name (i := 2) sc_is_int.nd rfl (.inl rfl))
      (pss_one (ps_if (pt_cmpR op_notIn_sign (pv 2) pe_str rfl)
        (pss_one (ps_ret pe_bl))
        (pss_nil))))
      (pss_one (ps_ret pe_bl)))), ?_⟩
    have hl16 : (16777216 : Nat) ≤ sizeLine := by rw [sizeLine_eq]; decide
    have hzs : z.length ≤ sizeLine := by omega
    have hzl := len_tl z
    refine seq_by (fun σ' H' => H' = H ∧ ∃ y, σ' = [some (.str z), some (.str ⟨(if (tl z).take 1 = [45] then (tl z).drop 1 else tl z).toArray⟩), y]) (fun nx hnx => ?_) (fun σ' H' h => ?_)
    · refine ⟨_, rfl, 1, rfl, z, rfl, hzs, rfl, _, rfl, ?_⟩
      show if decide (V.str (cutS z none (some 1)) = V.str (Str.ofString "-")) = true then _ else _
      rw [cut_to1, s_minus]
      refine ite2 (fun e => ?_) (fun e => ?_)
      · have e2 : (tl z).take 1 = [45] := mk_inj.mp (V.str.inj (of_decide_eq_true e))
        refine ⟨_, rfl, 1, rfl, z, rfl, hzs, ?_⟩
        refine hnx _ _ ⟨rfl, none, ?_⟩
        show [some (V.str z), some (V.str (cutS z (some 1) none)), none] = _
        rw [cut_from1, if_pos e2]
      · have e2 : ¬ (tl z).take 1 = [45] := fun z9 => e (decide_eq_true (by rw [z9]))
        refine ⟨_, rfl, ?_⟩
        refine hnx _ _ ⟨rfl, none, ?_⟩
        rw [if_neg e2, show (⟨(tl z).toArray⟩ : Str) = z from mk_tl z]
        rfl
    obtain ⟨rfl, y, rfl⟩ := h
    have eI : isIn z = (decide (1 ≤ (if (tl z).take 1 = [45] then (tl z).drop 1 else tl z).length) && decide ((if (tl z).take 1 = [45] then (tl z).drop 1 else tl z).length ≤ 4) && !(decide ((if (tl z).take 1 = [45] then (tl z).drop 1 else tl z).head? = some 48) && decide (tl z ≠ [48])) && (if (tl z).take 1 = [45] then (tl z).drop 1 else tl z).all dig) := rfl
    have hdl : (if (tl z).take 1 = [45] then (tl z).drop 1 else tl z).length ≤ z.length := by
      split
      · rw [List.length_drop]
        omega
      · omega
    generalize (if (tl z).take 1 = [45] then (tl z).drop 1 else tl z) = ds at eI hdl
    have hds : (⟨ds.toArray⟩ : Str).length = ds.length := len_tl _
    have hdss : (⟨ds.toArray⟩ : Str).length ≤ sizeLine := by omega
    refine ⟨_, rfl, _, _, rfl, ⟨hdss, rfl⟩, _, _, rfl, rfl, _, rfl, ite2 (fun e => ?_) (fun e => ?_)⟩
    · have h1 : 1 ≤ ds.length := by
        have := of_decide_eq_true e
        omega
      refine ⟨_, _, rfl, rfl, _, rfl, ?_⟩
      by_cases h4 : ds.length ≤ 4
      · rw [decide_eq_true (show (((⟨ds.toArray⟩ : Str).length : Nat) : Int) ≤ 4 by omega)]
        obtain ⟨c, r, rfl⟩ : ∃ c r, ds = c :: r := by
          cases ds with
          | nil => simp at h1
          | cons c r => exact ⟨c, r, rfl⟩
        refine iteF ⟨_, rfl, _, 0, c, rfl, rfl, hdss, atI_nat (j := 0) rfl, rfl, _, rfl, ?_⟩
        have rest : isIn z = (c :: r).all dig → tFor (iStr (tVar 1)) (gName 2) (tIfS (tTest (tOp (fun x y H Q => ∃ (c : Nat) (z : Str), x = .str ⟨#[c]⟩ ∧ y = .str z ∧ Q (.bl (!decide (c ∈ z.cps.toList))) H) (tVar 2) (tC (.str digS)))) (tRet (tC (.bl false))) tNext) { nx := fun σ H => Q (.bl true) H, rt := Q } [some (.str z), some (.str ⟨(c :: r).toArray⟩), y] H' := fun eR => by
          refine ⟨_, rfl, _, rfl, for_str (z := ⟨(c :: r).toArray⟩) (fun i σ' H2 => H2 = H' ∧ (∀ d ∈ (c :: r).take i, dig d = true) ∧ ∃ y, σ' = [some (.str z), some (.str ⟨(c :: r).toArray⟩), y]) ⟨rfl, (fun d hd => by cases hd), y, rfl⟩ (fun i c9 σ' H2 hc h => ?_) (fun σ' H2 h => ?_)⟩
          · obtain ⟨rfl, hall, y, rfl⟩ := h
            have hc : (c :: r)[i]? = some c9 := hc
            refine ⟨_, rfl, c9, digS, rfl, rfl, _, rfl, ?_⟩
            rw [dig_mem]
            refine ite2 (fun e3 => ?_) (fun e3 => ?_)
            · have hd : dig c9 = false := by simpa using e3
              have e9 : isIn z = false := by
                rw [eR]
                cases h9 : (c :: r).all dig with
                | false => rfl
                | true =>
                  have := List.all_eq_true.mp h9 c9 (List.mem_of_getElem? hc)
                  rw [hd] at this
                  cases this
              rw [e9] at q
              exact q
            · have hd : dig c9 = true := by simpa using e3
              refine ⟨rfl, fun d hd2 => ?_, _, rfl⟩
              rw [List.take_add_one, hc] at hd2
              rcases List.mem_append.mp hd2 with h | h
              · exact hall d h
              · rw [List.mem_singleton.mp h]
                exact hd
          · obtain ⟨rfl, hall, y, rfl⟩ := h
            have e9 : isIn z = true := by
              rw [eR]
              refine List.all_eq_true.mpr fun d hd => hall d ?_
              rw [show (⟨(c :: r).toArray⟩ : Str).cps.toList = c :: r from rfl, List.take_length]
              exact hd
            rw [e9] at q
            exact q
        rw [decide_eq_true h1, decide_eq_true h4] at eI
        refine ite2 (fun e3 => ?_) (fun e3 => ?_)
        · have e4 : c = 48 := (sgn_eq s_zero).mp (of_decide_eq_true e3)
          refine ⟨_, rfl, rfl, _, rfl, ite2 (fun e5 => ?_) (fun e5 => ?_)⟩
          · have e6 : tl z ≠ [48] := fun z9 => by
              have e7 : V.str z = V.str (Str.ofString "0") := by
                rw [s_zero, ← z9]
              rw [decide_eq_true e7] at e5
              cases e5
            have e9 : isIn z = false := by
              rw [eI, decide_eq_true e6, e4]
              simp
            rw [e9] at q
            exact q
          · have e6 : tl z = [48] := by
              have e7 : V.str z = V.str (Str.ofString "0") := Classical.byContradiction fun k => e5 (by rw [decide_eq_false k]; rfl)
              rw [V.str.inj e7, s_zero]
            refine rest ?_
            rw [eI, decide_eq_false (show ¬ tl z ≠ [48] from fun z9 => z9 e6)]
            simp
        · have e4 : c ≠ 48 := fun z9 => e3 (decide_eq_true ((sgn_eq s_zero).mpr z9))
          refine iteF (rest ?_)
          rw [eI, decide_eq_false (show ¬ (c :: r).head? = some 48 from fun z9 => e4 (Option.some.inj z9))]
          simp
      · rw [decide_eq_false (show ¬ (((⟨ds.toArray⟩ : Str).length : Nat) : Int) ≤ 4 by omega)]
        have e9 : isIn z = false := by simp [eI, h4]
        rw [e9] at q
        exact iteT q
    · have h1 : ¬ 1 ≤ ds.length := fun z9 => e (decide_eq_true (by omega))
      have e9 : isIn z = false := by simp [eI, h1]
      rw [e9] at q
      exact ⟨_, rfl, iteT q⟩
end
/-! the open lists, as they stand -/
def Frs (K : PySem.W.Frag) (H : Hp) : List Addr → List (List T) → Prop
  | [], [] => True
  | p :: ps, ts :: r => (∃ xs, H p = some (.lst xs) ∧ TvL K H ts xs) ∧ Frs K H ps r
  | _, _ => False
theorem Frs.len {K : PySem.W.Frag} {H : Hp} : ∀ {as : List Addr} {sts : List (List T)}, Frs K H as sts → as.length = sts.length
  | [], [], _ => rfl
  | p :: ps, ts :: r, h => by
    rw [List.length_cons, List.length_cons, Frs.len h.2]
  | [], _ :: _, h => h.elim
  | _ :: _, [], h => h.elim
theorem Frs.map {K : PySem.W.Frag} {H H' : Hp} (k : ∀ a xs, SqT K H a xs → SqT K H' a xs) : ∀ {as : List Addr} {sts : List (List T)}, (∀ p ∈ as, ∀ xs, H p = some (.lst xs) → H' p = some (.lst xs)) → Frs K H as sts → Frs K H' as sts
  | [], [], _, _ => trivial
  | p :: ps, ts :: r, hp, h => by
    obtain ⟨⟨xs, e, tv⟩, h2⟩ := h
    exact ⟨⟨xs, hp p List.mem_cons_self xs e, TvL.map k _ _ tv⟩, Frs.map k (fun q hq => hp q (List.mem_cons_of_mem _ hq)) h2⟩
  | [], _ :: _, _, h => h.elim
  | _ :: _, [], _, h => h.elim
structure Stk (K : PySem.W.Frag) (H0 H : Hp) (I W : Addr) (toks : List Str) (as : List Addr) (sts : List (List T)) (n : Nat) : Prop where
  same : Same H0 H
  nI : H0 I = none
  nas : ∀ p ∈ as, H0 p = none ∧ p ≠ I ∧ p ≠ W
  nd : as.Nodup
  iw : I ≠ W
  eW : H W = some (.lst (toks.map V.str))
  eI : H I = some (.lst (as.reverse.map V.ref))
  frs : Frs K H as sts
  al : as.length ≤ n + 1
  tsl : ∀ ts ∈ sts, ts.length ≤ n
/-- the last open list gets one more -/
theorem Stk.push {K : PySem.W.Frag} {H0 H : Hp} {I W p : Addr} {toks : List Str} {ps : List Addr} {ts : List T} {r : List (List T)} {n : Nat} (S : Stk K H0 H I W toks (p :: ps) (ts :: r) n) {t : T} {v : V} (hv : Tv K H t v) :
    ∃ xs, H p = some (.lst xs) ∧ xs.length ≤ n ∧ Stk K H0 (upd H p (.lst (xs ++ [v]))) I W toks (p :: ps) ((ts ++ [t]) :: r) (n + 1) := by
  obtain ⟨⟨xs, e, tv⟩, h2⟩ := S.frs
  obtain ⟨np, npI, npW⟩ := S.nas p List.mem_cons_self
  have c := Chg.upd p H (.lst (xs ++ [v]))
  refine ⟨xs, e, by rw [tv.length]; exact S.tsl ts List.mem_cons_self, ⟨fun b o h => ?_, S.nI, S.nas, S.nd, S.iw, ?_, ?_, ⟨⟨_, upd_same, TvL.snoc (TvL.map (sqt_chg c e) _ _ tv) (Tv.chg c e hv)⟩, Frs.map (sqt_chg c e) (fun q hq ys hy => ?_) h2⟩, Nat.le_succ_of_le S.al, fun us hus => ?_⟩⟩
  · rw [upd_ne (ne_of_none h np)]
    exact S.same b o h
  · rw [upd_ne npW.symm]
    exact S.eW
  · rw [upd_ne npI.symm]
    exact S.eI
  · have hqp : q ≠ p := fun z => by
      rw [z] at hq
      exact (List.nodup_cons.mp S.nd).1 hq
    rw [upd_ne hqp]
    exact hy
  · rcases List.mem_cons.mp hus with e9 | h9
    · rw [e9, List.length_append, List.length_singleton]
      have := S.tsl ts List.mem_cons_self
      omega
    · exact Nat.le_succ_of_le (S.tsl us (List.mem_cons_of_mem _ h9))
theorem Stk.mono {K : PySem.W.Frag} {H0 H H' : Hp} {I W : Addr} {toks : List Str} {as : List Addr} {sts : List (List T)} {n m : Nat} (S : Stk K H0 H I W toks as sts n) (s : Same H H') (hm : n ≤ m) : Stk K H0 H' I W toks as sts m :=
  ⟨S.same.trans s, S.nI, S.nas, S.nd, S.iw, s _ _ S.eW, s _ _ S.eI, Frs.map (sqt_same s) (fun _ _ _ h => s _ _ h) S.frs, by have := S.al; omega, fun ts h => Nat.le_trans (S.tsl ts h) hm⟩
theorem Frs.there {K : PySem.W.Frag} {H : Hp} : ∀ {as : List Addr} {sts : List (List T)}, Frs K H as sts → ∀ p ∈ as, ∃ xs, H p = some (.lst xs)
  | [], _, _, _, h => by cases h
  | p :: ps, ts :: r, h, q, hq => by
    obtain ⟨⟨xs, e, _⟩, h2⟩ := h
    rcases List.mem_cons.mp hq with e9 | hq
    · exact ⟨xs, by rw [e9]; exact e⟩
    · exact Frs.there h2 q hq
  | _ :: _, [], h, _, _ => h.elim
/-- a new list is opened: it stands at p, the list of lists gets it -/
theorem Stk.open {K : PySem.W.Frag} {H0 H : Hp} {I W p : Addr} {toks : List Str} {as : List Addr} {sts : List (List T)} {n : Nat} (S : Stk K H0 H I W toks as sts n) (np : H p = none) :
    Stk K H0 (upd (upd H p (.lst [])) I (.lst (as.reverse.map V.ref ++ [.ref p]))) I W toks (p :: as) ([] :: sts) (n + 1) := by
  have S1 := S.mono (same_upd (o := .lst []) np) (Nat.le_refl n)
  have hpI : p ≠ I := fun e => by
    rw [e, S.eI] at np
    cases np
  have hpW : p ≠ W := fun e => by
    rw [e, S.eW] at np
    cases np
  have hpas : p ∉ as := fun h => by
    obtain ⟨xs, e⟩ := S.frs.there p h
    rw [e] at np
    cases np
  have c := Chg.upd I (upd H p (.lst [])) (.lst (as.reverse.map V.ref ++ [.ref p]))
  refine ⟨fun b o h => ?_, S.nI, fun q hq => ?_, List.nodup_cons.mpr ⟨hpas, S.nd⟩, S.iw, ?_, ?_, ⟨⟨[], ?_, rfl⟩, Frs.map (sqt_chg c S1.eI) (fun q hq xs hx => ?_) S1.frs⟩, ?_, fun ts h => ?_⟩
  · rw [upd_ne (ne_of_none h S.nI)]
    exact S1.same b o h
  · rcases List.mem_cons.mp hq with e | hq
    · rw [e]
      exact ⟨S.same.free np, hpI, hpW⟩
    · exact S.nas q hq
  · rw [upd_ne S.iw.symm]
    exact S1.eW
  · rw [upd_same, List.reverse_cons, List.map_append]
    rfl
  · rw [upd_ne hpI, upd_same]
  · rw [upd_ne (S.nas q hq).2.1]
    exact hx
  · rw [List.length_cons]
    have := S.al
    omega
  · rcases List.mem_cons.mp h with e | h
    · rw [e]
      exact Nat.zero_le _
    · exact Nat.le_succ_of_le (S.tsl ts h)
/-- the last open list is taken off -/
theorem Stk.pop {K : PySem.W.Frag} {H0 H : Hp} {I W a : Addr} {toks : List Str} {as : List Addr} {ts : List T} {sts : List (List T)} {n : Nat} (S : Stk K H0 H I W toks (a :: as) (ts :: sts) n) :
    ∃ xs, upd H I (.lst (as.reverse.map V.ref)) a = some (.lst xs) ∧ TvL K (upd H I (.lst (as.reverse.map V.ref))) ts xs ∧ Stk K H0 (upd H I (.lst (as.reverse.map V.ref))) I W toks as sts n := by
  obtain ⟨⟨xs, e, tv⟩, h2⟩ := S.frs
  have c := Chg.upd I H (.lst (as.reverse.map V.ref))
  refine ⟨xs, by rw [upd_ne (S.nas a List.mem_cons_self).2.1]; exact e, TvL.map (sqt_chg c S.eI) _ _ tv, fun b o h => ?_, S.nI, fun q hq => S.nas q (List.mem_cons_of_mem _ hq), (List.nodup_cons.mp S.nd).2, S.iw, ?_, upd_same, Frs.map (sqt_chg c S.eI) (fun q hq ys hy => ?_) h2, ?_, fun us h => S.tsl us (List.mem_cons_of_mem _ h)⟩
  · rw [upd_ne (ne_of_none h S.nI)]
    exact S.same b o h
  · rw [upd_ne S.iw.symm]
    exact S.eW
  · rw [upd_ne (S.nas q (List.mem_cons_of_mem _ hq)).2.1]
    exact hy
  · have := S.al
    rw [List.length_cons] at this
    omega
theorem ifS_pure {c : TT} {t u : TS} {D : Ends} {σ : L2.St} {H : Hp} {b : Bool} (h : ∀ Q : Bool → Hp → Prop, Q b H → c σ H Q) (hb : if b = true then t D σ H else u D σ H) : tIfS c t u D σ H := h _ hb
theorem ifS_same {c : TT} {t u : TS} {D : Ends} {σ : L2.St} {H : Hp} {b : Bool} (h : ∀ Q : Bool → Hp → Prop, (∀ H2, Same H H2 → Q b H2) → c σ H Q) (hb : ∀ H2, Same H H2 → if b = true then t D σ H2 else u D σ H2) : tIfS c t u D σ H := h _ hb
/-! ### the law: the text read back -/
def spReadBack (K : PySem.W.Frag) : Sp := fun vs H Q _ => ∃ (toks : List Str) (a : List T) (last : Str), vs = [.str (Txt.join (Str.ofString " ") toks)] ∧ toks ≠ [] ∧ toks.length ≤ 1000000 ∧ (∀ s ∈ toks, tkOk s) ∧ (∀ s ∈ toks, isIn s = true → ∃ n, intText? s = some n) ∧ mrun ([[]], sK) toks = some ([a], last) ∧
  ∀ H' p xs, Same H H' → H p = none → H' p = some (.lst xs) → TvL K H' a xs → Q (.ref p) H'
theorem s_sp : tl (Str.ofString " ") = [32] := by decide +kernel
theorem mrun_pre {toks : List Str} {st fin : MS} (h : mrun st toks = some fin) (i : Nat) : ∃ s, mrun st (toks.take i) = some s := by
  have e := mrun_app st (toks.take i) (toks.drop i)
  rw [List.take_append_drop, h] at e
  cases h2 : mrun st (toks.take i) with
  | none =>
    rw [h2] at e
    cases e
  | some s => exact ⟨s, rfl⟩
theorem mrun_next {toks : List Str} {st fin s : MS} (h : mrun st toks = some fin) {i : Nat} (hi : i < toks.length) (hs : mrun st (toks.take i) = some s) : ∃ s2, mstep s toks[i] = some s2 ∧ mrun st (toks.take (i + 1)) = some s2 := by
  obtain ⟨s2, h2⟩ := mrun_pre h (i + 1)
  refine ⟨s2, ?_, h2⟩
  rw [List.take_add_one, List.getElem?_eq_getElem hi, mrun_app, hs] at h2
  have h3 : (mstep s toks[i]).bind (fun st => mrun st []) = some s2 := h2
  cases h4 : mstep s toks[i] with
  | none =>
    rw [h4] at h3
    cases h3
  | some s3 =>
    rw [h4] at h3
    exact h3
theorem str_eq {a b : Str} : decide (V.str a = V.str b) = decide (a = b) := by
  by_cases h : a = b
  · rw [h]
    simp
  · rw [decide_eq_false h, decide_eq_false (fun z => h (V.str.inj z))]
theorem join_len (toks : List Str) (h : ∀ s ∈ toks, tkOk s) : (Txt.join (Str.ofString " ") toks).length ≤ 9 * toks.length := by
  rw [join_eq]
  have hs : ∀ s ∈ toks, s.length ≤ 8 := fun s hs => (h s hs).1
  clear h
  induction toks with
  | nil => exact Nat.zero_le _
  | cons x r ih =>
    have hx := hs x List.mem_cons_self
    have ih := ih fun s h => hs s (List.mem_cons_of_mem _ h)
    rw [len_tl, tl_join] at ih ⊢
    rw [len_tl] at hx
    cases r with
    | nil =>
      show (tl x).length ≤ 9 * 1
      omega
    | cons y r =>
      show (tl x ++ (tl (Str.ofString " ") ++ joinL (tl (Str.ofString " ")) ((y :: r).map tl))).length ≤ _
      rw [List.length_append, List.length_append, s_sp, List.length_cons]
      rw [s_sp] at ih
      rw [List.length_cons] at ih ⊢
      show (tl x).length + (1 + (joinL [32] ((y :: r).map tl)).length) ≤ _
      rw [List.length_cons]
      omega
section
variable {P : Program} {w : World} {K : PySem.W.Frag} {mg : Str → Option Value} {base : Heap}
theorem ok_read_back (D : Df K mg "_law_read_back" s_read_back) (C_int : Cal P w K mg base "_law_is_int" 1 ["_law_token"] spIsInt) (C_name : Cal P w K mg base "_law_is_name" 2 ["_law_token"] spIsName) (m_len : mg "len" = none) (m_tuple : mg "tuple" = none) (m_int : mg "int" = none) :
    Cal P w K mg base "_law_read_back" 3 ["_law_text"] (spReadBack K) := by
  obtain ⟨f, fd, F, g⟩ := D
  obtain ⟨f_is_int, fd_is_int, g_is_int, k_is_int, b_is_int, G_is_int⟩ := C_int
  obtain ⟨f_is_name, fd_is_name, g_is_name, k_is_name, b_is_name, G_is_name⟩ := C_name
  refine ⟨f, fd, g, F.kp, F.bindsN fun _ _ _ _ _ _ us hl => match us, hl with | [_], _ => rfl, ?_⟩
  refine F.ok sc_read_back (fun vs H Q E h => ?_) (fun cdv A outer s H vs Q E hr h => ?_)
  · obtain ⟨toks, a, last, rfl, _⟩ := h
    rfl
  · obtain ⟨toks, fin, last, rfl, hne, hlen, hok, hin, hrun, q⟩ := h
    refine ⟨_, pss_cons (ps_set (i := 1) sc_read_back.nd rfl (.inl rfl) (pe_lst (pa_cons (pe_lst pa_nil) pa_nil)))
      (pss_cons (ps_set (i := 2) sc_read_back.nd rfl (.inl rfl) pe_str)
      (pss_cons (ps_for (passes_of rfl) rfl (pi_list (pe_split (pv 0) pe_str)) (pg_name (i := 3) sc_read_back.nd rfl (.inl rfl))
      (pss_one (ps_if (PW.pt (pw_and (pt_cmpR op_eq (pv 3) pe_str (nomark _)) (pw_and1 (pt_cmpR op_ne (pv 2) pe_str (nomark _)))))
        (pss_cons (ps_expr (pe_bm PySem.F.plainAttrs_list PySem.F.slot_list_append PySem.F.type_list_append mt_append (pv 1) (pa_cons (pe_lst pa_nil) pa_nil)))
          (pss_one (ps_set (i := 2) sc_read_back.nd rfl (.inl rfl) pe_str)))
        (pss_one (ps_if (PW.pt (pw_and (pt_cmpR op_eq (pv 3) pe_str (nomark _)) (pw_and (pt_cmpR op_ne (pv 2) pe_str (nomark _)) (pw_and1 (pt_cmpR op_gt (pe_callB call_len (by rfl) m_len (by decide +kernel) (pa_cons (pv 1) pa_nil)) pe_int (nomark _))))))
          (pss_cons (ps_set (i := 4) sc_read_back.nd rfl (.inl rfl) (pe_callTy call_tuple_of (by rfl) m_tuple (by decide +kernel) (pa_cons (pe_bm0 PySem.F.plainAttrs_list PySem.F.slot_list_pop PySem.F.type_list_pop mt_pop (pv 1)) pa_nil)))
            (pss_cons (ps_expr (pe_bm PySem.F.plainAttrs_list PySem.F.slot_list_append PySem.F.type_list_append mt_append (pe_ix ix_list (pv 1) (pe_un un_neg pe_int) (fun _ _ => rfl)) (pa_cons (pv 4) pa_nil)))
            (pss_one (ps_set (i := 2) sc_read_back.nd rfl (.inl rfl) pe_str))))
          (pss_one (ps_if (PW.pt (pw_and (pt_cmpR op_eq (pv 3) pe_str (nomark _)) (pw_and (pt_cmpR op_eq (pv 2) pe_str (nomark _)) (pw_and1 (pt_cmpR op_gt (pe_callB call_len (by rfl) m_len (by decide +kernel) (pa_cons (pv 1) pa_nil)) pe_int (nomark _))))))
            (pss_one (ps_set (i := 2) sc_read_back.nd rfl (.inl rfl) pe_str))
            (pss_one (ps_if (PW.pt (pw_and (pt_cmpR op_ne (pv 2) pe_str (nomark _)) (pw_and1 (PW.pt (pw_or (pt_val (pe_call G_is_int (hr.mono (by decide)) (by rfl) g_is_int k_is_int b_is_int .nil pass0 (pa_cons (pv 3) pa_nil))) (pw_or1 (pt_val (pe_call G_is_name (hr.mono (by decide)) (by rfl) g_is_name k_is_name b_is_name .nil pass0 (pa_cons (pv 3) pa_nil)))))))))
              (pss_cons (ps_expr (pe_bm PySem.F.plainAttrs_list PySem.F.slot_list_append PySem.F.type_list_append mt_append (pe_ix ix_list (pv 1) (pe_un un_neg pe_int) (fun _ _ => rfl)) (pa_cons (pe_ifExp (pt_val (pe_call G_is_int (hr.mono (by decide)) (by rfl) g_is_int k_is_int b_is_int .nil pass0 (pa_cons (pv 3) pa_nil))) (pe_callTy call_int_str (by rfl) m_int (by decide +kernel) (pa_cons (pv 3) pa_nil)) (pv 3)) pa_nil)))
                (pss_one (ps_set (i := 2) sc_read_back.nd rfl (.inl rfl) pe_str)))
              (pss_one (ps_ret (pe_lst pa_nil))))))))))))
      (pss_one (ps_ret (pe_ifExp (pt_cmpR op_eq (pe_callB call_len (by rfl) m_len (by decide +kernel) (pa_cons (pv 1) pa_nil)) pe_int (nomark _)) (pe_ix ix_list (pv 1) pe_int (fun _ _ => rfl)) (pe_lst pa_nil)))))), ?_⟩
    have hl16 : (16777216 : Nat) ≤ sizeLine := by rw [sizeLine_eq]; decide
    have hsplit : Txt.split (Txt.join (Str.ofString " ") toks) (Str.ofString " ") = toks := split_join (s := 32) (S := []) s_sp (by decide +kernel) hne fun p hp => (hok p hp).2
    have hjl := join_len toks hok
    generalize hz : Txt.join (Str.ofString " ") toks = z at hsplit hjl
    -- inner = [[]]
    refine ⟨Nat.zero_le _, fun p0 np0 => ⟨by show 1 ≤ sizeLine; decide, fun I nI => ?_⟩⟩
    have hp0I : p0 ≠ I := fun e => by
      rw [← e, upd_same] at nI
      cases nI
    have nI0 : H I = none := by
      rw [upd_ne hp0I.symm] at nI
      exact nI
    -- text.split(' ')
    refine ⟨_, rfl, ⟨_, rfl⟩, z, _, rfl, rfl, by decide +kernel, by omega, fun W nW => ?_⟩
    have hIW : I ≠ W := fun e => by
      rw [← e, upd_same] at nW
      cases nW
    have hpW : p0 ≠ W := fun e => by
      rw [← e, upd_ne hp0I, upd_same] at nW
      cases nW
    rw [hsplit]
    have S0 : Stk K H (upd (upd (upd H p0 (.lst [])) I (.lst [.ref p0])) W (.lst (toks.map V.str))) I W toks [p0] [[]] 0 := by
      refine ⟨((same_upd np0).trans (same_upd nI)).trans (same_upd nW), nI0, fun p hp => ?_, by simp, hIW, upd_same, ?_, ⟨⟨[], ?_, rfl⟩, trivial⟩, Nat.le_refl _, fun ts h => ?_⟩
      · rw [List.mem_singleton.mp hp]
        exact ⟨np0, hp0I, hpW⟩
      · rw [upd_ne hIW, upd_same]
        rfl
      · rw [upd_ne hpW, upd_ne hp0I, upd_same]
      · rw [List.mem_singleton.mp h]
        exact Nat.le_refl _
    refine ⟨W, rfl, ⟨_, SqL.of upd_same⟩, ?_⟩
    refine for_list (xs := toks.map V.str) (fun i σ' H' => ∃ as sts la y3 y4, mrun ([[]], sK) (toks.take i) = some (sts, la) ∧ Stk K H H' I W toks as sts i ∧ σ' = [some (.str z), some (.ref I), some (.str la), y3, y4]) ⟨[p0], [[]], sK, none, none, rfl, S0, rfl⟩ (fun i σ' H' hi h => ?_) (fun i x σ' H' hx1 h => ?_) (fun σ' H' h => ?_)
    · obtain ⟨as, sts, la, y3, y4, _, S, _⟩ := h
      exact SqL.of S.eW
    · obtain ⟨as, sts, la, y3, y4, hm, S, rfl⟩ := h
      have hi : i < toks.length := by
        have := (List.getElem?_eq_some_iff.mp hx1).1
        rwa [List.length_map] at this
      obtain rfl : x = V.str toks[i] := by
        rw [List.getElem?_map, List.getElem?_eq_getElem hi] at hx1
        exact (Option.some.inj hx1).symm
      obtain ⟨⟨sts2, la2⟩, hstep, hm2⟩ := mrun_next hrun hi hm
      have hki := hin toks[i] (List.getElem_mem hi)
      have hkl : toks[i].length ≤ 1000 := Nat.le_trans (hok toks[i] (List.getElem_mem hi)).1 (by omega)
      have hkl2 : toks[i].length ≤ 640 := Nat.le_trans (hok toks[i] (List.getElem_mem hi)).1 (by omega)
      generalize toks[i] = k at hstep hki hkl hkl2
      have hal := S.frs.len
      have hrl : (as.reverse.map V.ref).length = as.length := by rw [List.length_map, List.length_reverse]
      have hI := S.eI
      have hasn := S.al
      unfold mstep at hstep
      have hk1 : k.length ≤ 1000 := hkl
      dsimp only [gName]
      -- '['
      refine ifS_pure (b := decide (k = sO ∧ la ≠ sV)) (fun Q5 hq => ?_) ?_
      · refine ⟨_, rfl, rfl, _, rfl, ?_⟩
        rw [str_eq]
        refine ite2 (fun e => ?_) (fun e => ?_)
        · have e1 := of_decide_eq_true e
          refine ⟨_, rfl, rfl, _, rfl, ?_⟩
          rw [str_eq]
          have e2 : (!decide (la = sV)) = decide (k = sO ∧ la ≠ sV) := by simp [e1]
          rw [e2]
          exact hq
        · have e1 : ¬ k = sO := fun z9 => e (decide_eq_true z9)
          rw [decide_eq_false (fun z9 => e1 z9.1)] at hq
          exact hq
      by_cases hA : k = sO ∧ la ≠ sV
      · rw [if_pos hA] at hstep
        have e9 := Option.some.inj hstep
        obtain rfl : [] :: sts = sts2 := congrArg (fun z : MS => z.1) e9
        obtain rfl : sO = la2 := congrArg (fun z : MS => z.2) e9
        rw [decide_eq_true hA]
        refine iteT ⟨_, rfl, .inl ⟨rfl, _, SqL.of hI⟩, Nat.zero_le _, fun p np => ?_⟩
        have hI2 : upd H' p (.lst []) I = some (.lst (as.reverse.map V.ref)) := same_upd np _ _ hI
        refine ⟨I, _, _, rfl, rfl, hI2, by rw [hrl]; omega, ?_⟩
        exact ⟨_, _, _, _, _, hm2, S.open np, rfl⟩
      rw [if_neg hA] at hstep
      rw [decide_eq_false hA]
      refine iteF ?_
      -- ']'
      refine ifS_pure (b := decide (k = sC ∧ la ≠ sK ∧ 1 < sts.length)) (fun Q5 hq => ?_) ?_
      · refine ⟨_, rfl, rfl, _, rfl, ?_⟩
        rw [str_eq]
        refine ite2 (fun e => ?_) (fun e => ?_)
        · have e1 := of_decide_eq_true e
          refine ⟨_, rfl, rfl, _, rfl, ?_⟩
          rw [str_eq]
          refine ite2 (fun e2 => ?_) (fun e2 => ?_)
          · have e3 : ¬ la = sK := by simpa using e2
            refine ⟨_, rfl, _, _, rfl, .inl ⟨_, SqL.of hI, rfl⟩, _, _, rfl, rfl, _, rfl, ?_⟩
            have e2 : decide ((((as.reverse.map V.ref).length : Nat) : Int) > 1) = decide (k = sC ∧ la ≠ sK ∧ 1 < sts.length) := by
              rw [hrl, hal]
              simp [e1, e3]
              omega
            rw [e2]
            exact hq
          · have e3 : la = sK := by simpa using e2
            rw [decide_eq_false (fun z9 => z9.2.1 e3)] at hq
            exact hq
        · have e1 : ¬ k = sC := fun z9 => e (decide_eq_true z9)
          rw [decide_eq_false (fun z9 => e1 z9.1)] at hq
          exact hq
      by_cases hB : k = sC ∧ la ≠ sK ∧ 1 < sts.length
      · rw [if_pos hB] at hstep
        rw [decide_eq_true hB]
        refine iteT ?_
        obtain ⟨ta, tb, sr, rfl⟩ : ∃ ta tb sr, sts = ta :: tb :: sr := by
          match sts, hB.2.2 with
          | ta :: tb :: sr, _ => exact ⟨ta, tb, sr, rfl⟩
          | [_], h => simp at h
          | [], h => simp at h
        obtain ⟨aa, ab, ar, rfl⟩ : ∃ aa ab ar, as = aa :: ab :: ar := by
          match as, hal with
          | aa :: ab :: ar, _ => exact ⟨aa, ab, ar, rfl⟩
        have e9 := Option.some.inj hstep
        obtain rfl : (tb ++ [.tup ta]) :: sr = sts2 := congrArg (fun z : MS => z.1) e9
        obtain rfl : sV = la2 := congrArg (fun z : MS => z.2) e9
        have erev : (aa :: ab :: ar).reverse.map V.ref = (ab :: ar).reverse.map V.ref ++ [V.ref aa] := by
          rw [List.reverse_cons, List.map_append]
          rfl
        have edl : ((aa :: ab :: ar).reverse.map V.ref).dropLast = (ab :: ar).reverse.map V.ref := by
          rw [erev]
          simp
        have elast : ((aa :: ab :: ar).reverse.map V.ref)[((aa :: ab :: ar).reverse.map V.ref).length - 1]? = some (V.ref aa) := by
          rw [erev, List.length_append, List.length_singleton, Nat.add_sub_cancel, List.getElem?_append_right (Nat.le_refl _), Nat.sub_self]
          rfl
        obtain ⟨xs, exs, tvx, S2⟩ := S.pop
        refine ⟨_, rfl, .inl ⟨rfl, _, SqL.of hI⟩, I, _, _, rfl, rfl, hI, elast, ?_⟩
        rw [edl]
        generalize hH2 : upd H' I (.lst ((ab :: ar).reverse.map V.ref)) = H2 at exs tvx S2
        refine ⟨aa, xs, rfl, .inl ⟨SqL.of exs, fun o no => ?_⟩⟩
        have S3 := S2.mono (same_upd (o := .tup xs) no) (Nat.le_refl i)
        have hv : Tv K (upd H2 o (.tup xs)) (.tup ta) (.ref o) := ⟨o, xs, rfl, SqT.of upd_same, TvL.map (sqt_same (same_upd no)) _ _ tvx⟩
        obtain ⟨ys, eys, lys, S4⟩ := S3.push hv
        have eat : atI ((ab :: ar).reverse.map V.ref) (-1) = some (V.ref ab) := by
          rw [List.reverse_cons, List.map_append]
          exact atI_last _ _
        refine ⟨_, rfl, 1, rfl, I, _, _, _, rfl, rfl, SqL.of S3.eI, eat, .inl ⟨rfl, _, SqL.of eys⟩, _, rfl, ab, ys, _, rfl, rfl, eys, by omega, ?_⟩
        exact ⟨_, _, _, _, _, hm2, S4, rfl⟩
      rw [if_neg hB] at hstep
      rw [decide_eq_false hB]
      refine iteF ?_
      -- ','
      refine ifS_pure (b := decide (k = sK ∧ la = sV ∧ 1 < sts.length)) (fun Q5 hq => ?_) ?_
      · refine ⟨_, rfl, rfl, _, rfl, ?_⟩
        rw [str_eq]
        refine ite2 (fun e => ?_) (fun e => ?_)
        · have e1 := of_decide_eq_true e
          refine ⟨_, rfl, rfl, _, rfl, ?_⟩
          rw [str_eq]
          refine ite2 (fun e2 => ?_) (fun e2 => ?_)
          · have e3 : la = sV := of_decide_eq_true e2
            refine ⟨_, rfl, _, _, rfl, .inl ⟨_, SqL.of hI, rfl⟩, _, _, rfl, rfl, _, rfl, ?_⟩
            have e2 : decide ((((as.reverse.map V.ref).length : Nat) : Int) > 1) = decide (k = sK ∧ la = sV ∧ 1 < sts.length) := by
              rw [hrl, hal]
              simp [e1, e3]
              omega
            rw [e2]
            exact hq
          · have e3 : ¬ la = sV := fun z9 => e2 (decide_eq_true z9)
            rw [decide_eq_false (fun z9 => e3 z9.2.1)] at hq
            exact hq
        · have e1 : ¬ k = sK := fun z9 => e (decide_eq_true z9)
          rw [decide_eq_false (fun z9 => e1 z9.1)] at hq
          exact hq
      by_cases hC : k = sK ∧ la = sV ∧ 1 < sts.length
      · rw [if_pos hC] at hstep
        rw [decide_eq_true hC]
        have e9 := Option.some.inj hstep
        obtain rfl : sts = sts2 := congrArg (fun z : MS => z.1) e9
        obtain rfl : sK = la2 := congrArg (fun z : MS => z.2) e9
        refine iteT ?_
        exact ⟨_, _, _, _, _, hm2, S.mono (Same.refl _) (Nat.le_succ i), rfl⟩
      rw [if_neg hC] at hstep
      rw [decide_eq_false hC]
      refine iteF ?_
      -- an integer or a name
      by_cases hD : la ≠ sV ∧ (isIn k = true ∨ isNm k = true)
      · rw [if_pos hD] at hstep
        refine ifS_same (b := true) (fun Q5 hq => ?_) (fun H2 sm2 => ?_)
        · refine ⟨_, rfl, rfl, _, rfl, ?_⟩
          rw [str_eq, decide_eq_false hD.1]
          refine iteT ⟨_, rfl, k, rfl, hk1, _, rfl, ?_⟩
          cases hin1 : isIn k with
          | true => exact iteT (hq _ (Same.refl _))
          | false =>
            refine iteF ⟨_, rfl, k, rfl, hk1, fun H2 sm2 => ⟨_, rfl, ?_⟩⟩
            have e3 : isNm k = true := by
              rcases hD.2 with h | h
              · rw [hin1] at h
                cases h
              · exact h
            rw [e3]
            exact hq _ sm2
        · refine iteT ?_
          have S2 := S.mono sm2 (Nat.le_refl i)
          obtain ⟨ta, sr, rfl⟩ : ∃ ta sr, sts = ta :: sr := by
            match sts, hstep with
            | ta :: sr, _ => exact ⟨ta, sr, rfl⟩
          obtain ⟨aa, ar, rfl⟩ : ∃ aa ar, as = aa :: ar := by
            match as, hal with
            | aa :: ar, _ => exact ⟨aa, ar, rfl⟩
          have e9 := Option.some.inj hstep
          obtain rfl : (ta ++ [if isIn k = true then .int (ival k) else .str k]) :: sr = sts2 := congrArg (fun z : MS => z.1) e9
          obtain rfl : sV = la2 := congrArg (fun z : MS => z.2) e9
          have eat : atI ((aa :: ar).reverse.map V.ref) (-1) = some (V.ref aa) := by
            rw [List.reverse_cons, List.map_append]
            exact atI_last _ _
          obtain ⟨⟨ys0, eys0, _⟩, _⟩ := S2.frs
          refine ⟨_, rfl, 1, rfl, I, _, _, _, rfl, rfl, SqL.of S2.eI, eat, .inl ⟨rfl, _, SqL.of eys0⟩, _, rfl, k, rfl, hk1, _, rfl, ?_⟩
          refine ite2 (fun e5 => ?_) (fun e5 => ?_)
          · obtain ⟨n, hn⟩ := hki e5
            have hv : Tv K H2 (T.int (ival k)) (.int n) := by
              unfold ival
              rw [hn]
              rfl
            obtain ⟨ys, eys, lys, S4⟩ := S2.push hv
            refine ⟨_, rfl, k, n, rfl, hn, hkl2, aa, ys, _, rfl, rfl, eys, by omega, ?_⟩
            rw [if_pos e5] at hm2
            exact ⟨_, _, _, _, _, hm2, S4, rfl⟩
          · have hv : Tv K H2 (T.str k) (.str k) := rfl
            obtain ⟨ys, eys, lys, S4⟩ := S2.push hv
            refine ⟨_, rfl, aa, ys, _, rfl, rfl, eys, by omega, ?_⟩
            rw [if_neg e5] at hm2
            exact ⟨_, _, _, _, _, hm2, S4, rfl⟩
      · rw [if_neg hD] at hstep
        cases hstep
    · obtain ⟨as, sts, la, y3, y4, hm, S, rfl⟩ := h
      rw [List.length_map, List.take_length, hrun] at hm
      have e := Option.some.inj hm
      obtain rfl : [fin] = sts := congrArg (fun z : MS => z.1) e
      have hl := S.frs.len
      obtain ⟨p, rfl⟩ : ∃ p, as = [p] := by
        match as, hl with
        | [p], _ => exact ⟨p, rfl⟩
      obtain ⟨⟨xs, e2, tv⟩, _⟩ := S.frs
      refine ⟨_, rfl, _, _, rfl, .inl ⟨_, SqL.of S.eI, rfl⟩, rfl, _, rfl, ?_⟩
      refine ⟨_, rfl, I, _, 0, _, rfl, rfl, SqL.of S.eI, atI_nat (j := 0) rfl, ?_⟩
      exact q H' p xs S.same (S.nas p List.mem_cons_self).1 e2 tv
end
/-! ### the law -/
def spLaw (K : PySem.W.Frag) : Sp := fun vs H Q _ => ∃ (a : Addr) (ns : List Int), vs = [.ref a] ∧ SqL K H a (ns.map V.int) ∧ ns.length ≤ 63 ∧ ∀ H', Q (.bl true) H'
theorem vt_int : ∀ (n : Nat) (t : T), Aok n t → ∀ s ∈ vt t, isIn s = true → ∃ i, intText? s = some i
  | n, .non, h => by cases n <;> exact h.elim
  | n, .int i, h => fun s hs _ => by
    have h : -9999 ≤ i ∧ i ≤ 9999 := by cases n <;> exact h
    rw [List.mem_singleton.mp hs]
    exact ⟨i, int_istr h.1 h.2⟩
  | n, .str x, h => fun s hs hi => by
    have h : isNm x = true := by cases n <;> exact h
    rw [List.mem_singleton.mp hs, nm_notIn h] at hi
    cases hi
  | 0, .tup l, h => h.elim
  | n + 1, .tup l, h => fun s hs hi => by
    have ih : ∀ t ∈ l, ∀ s ∈ vt t, isIn s = true → ∃ i, intText? s = some i := fun t ht => vt_int n t (h t ht)
    have bO : isIn sO = false := by decide +kernel
    have bC : isIn sC = false := by decide +kernel
    have bK : isIn sK = false := by decide +kernel
    rw [vt_tup] at hs
    rcases List.mem_cons.mp hs with e | hs
    · rw [e, bO] at hi
      cases hi
    rcases List.mem_append.mp hs with hs | hs
    · have key : ∀ (m : List T), (∀ t ∈ m, t ∈ l) → s ∈ ((m.map vt).flatMap fun y => sK :: y) → ∃ i, intText? s = some i := fun m hm hs => by
        obtain ⟨y, hy, hs⟩ := List.mem_flatMap.mp hs
        obtain ⟨t, ht, rfl⟩ := List.mem_map.mp hy
        rcases List.mem_cons.mp hs with e | hs
        · rw [e, bK] at hi
          cases hi
        · exact ih t (hm t ht) s hs hi
      cases l with
      | nil => cases hs
      | cons t l =>
        rcases List.mem_append.mp hs with hs | hs
        · exact ih t List.mem_cons_self s hs hi
        · exact key l (fun u hu => List.mem_cons_of_mem _ hu) hs
    · rw [List.mem_singleton.mp hs, bC] at hi
      cases hi
theorem le_aok : ∀ (n : Nat) (t : T), Aok n t → (vt t).length ≤ 1000000 → T.le n t
  | n, .non, h, _ => by cases n <;> exact h.elim
  | n, .int i, _, _ => by cases n <;> trivial
  | n, .str x, _, _ => by cases n <;> trivial
  | 0, .tup l, h, _ => h.elim
  | n + 1, .tup l, h, hl => by
    rw [vt_tup, List.length_cons, List.length_append, List.length_singleton] at hl
    have h1 := listed_num (l.map vt) (fun y hy => by
      obtain ⟨t, ht, rfl⟩ := List.mem_map.mp hy
      exact vt_pos n t (h t ht))
    rw [List.length_map] at h1
    refine ⟨by omega, fun t ht => le_aok n t (h t ht) ?_⟩
    have := listed_mem (List.mem_map.mpr ⟨t, ht, rfl⟩ : vt t ∈ l.map vt)
    omega
section
variable {P : Program} {w : World} {K : PySem.W.Frag} {mg : Str → Option Value} {base : Heap}
theorem ok_law {f : Addr} {fd : FuncData} (F : FunD K "law" "law" (defArgs s_law) (defBody s_law) (defScope s_law) [] [] f fd)
    (C_start : Cal P w K mg base "_law_start" 2 ["_law_script", "_law_room", "_law_fronts"] (spStart K))
    (C_wide : Cal P w K mg base "_law_wide_value" 11 ["_law_d"] (spWide K))
    (C_write : Cal P w K mg base "write_value" 21 ["value"] (spWriteValue K 18))
    (C_exact : Cal P w K mg base "_law_exact" 20 ["_law_told", "_law_due"] (spExact K 19))
    (C_read : Cal P w K mg base "_law_read_back" 3 ["_law_text"] (spReadBack K)) (m_isinstance : mg "isinstance" = none) (m_str : mg "str" = none) (m_tuple : mg "tuple" = none) :
    FnOk P w K mg base CX0 22 f fd ["_law_script"] (spLaw K) := by
  obtain ⟨f_start, fd_start, g_start, k_start, b_start, G_start⟩ := C_start
  obtain ⟨f_wide_value, fd_wide_value, g_wide_value, k_wide_value, b_wide_value, G_wide_value⟩ := C_wide
  obtain ⟨f_write_value, fd_write_value, g_write_value, k_write_value, b_write_value, G_write_value⟩ := C_write
  obtain ⟨f_exact, fd_exact, g_exact, k_exact, b_exact, G_exact⟩ := C_exact
  obtain ⟨f_read_back, fd_read_back, g_read_back, k_read_back, b_read_back, G_read_back⟩ := C_read
  refine F.ok sc_law (fun vs H Q E h => ?_) (fun cdv A outer s H vs Q E hr h => ?_)
  · obtain ⟨a, ns, rfl, _⟩ := h
    rfl
  · obtain ⟨a, ns, rfl, hS, hlen, q⟩ := h
    refine ⟨_, pss_cons (ps_set (i := 1) sc_law.nd rfl (.inl rfl) (pe_call G_start (hr.mono (by decide)) (by rfl) g_start k_start b_start .nil pass0 (pa_cons (pv 0) (pa_cons pe_int (pa_cons pe_int pa_nil)))))
      (pss_cons (ps_set (i := 2) sc_law.nd rfl (.inl rfl) (pe_call G_wide_value (hr.mono (by decide)) (by rfl) g_wide_value k_wide_value b_wide_value .nil pass0 (pa_cons (pv 1) pa_nil)))
      (pss_cons (ps_set (i := 3) sc_law.nd rfl (.inl rfl) (pe_call G_wide_value (hr.mono (by decide)) (by rfl) g_wide_value k_wide_value b_wide_value .nil pass0 (pa_cons (pv 1) pa_nil)))
      (pss_cons (ps_set (i := 4) sc_law.nd rfl (.inl rfl) (pe_call G_write_value (hr.mono (by decide)) (by rfl) g_write_value k_write_value b_write_value .nil pass0 (pa_cons (pv 2) pa_nil)))
      (pss_cons (ps_if (PW.pt (pw_or (pt_not (pt_val (pe_callB call_isi (by rfl) m_isinstance (by decide +kernel) (pa_cons (pv 4) (pa_cons (pe_bltn (v := .ty "str") (by rfl) m_str (by decide +kernel) rfl) pa_nil))))) (pw_or1 (pt_not (pt_val (pe_call G_exact (hr.mono (by decide)) (by rfl) g_exact k_exact b_exact .nil pass0 (pa_cons (pe_callTy call_tuple_of (by rfl) m_tuple (by decide +kernel) (pa_cons (pe_call G_read_back (hr.mono (by decide)) (by rfl) g_read_back k_read_back b_read_back .nil pass0 (pa_cons (pv 4) pa_nil)) pa_nil)) (pa_cons (pe_tup (pa_cons (pv 2) pa_nil)) pa_nil))))))))
      (pss_one (ps_ret pe_bl))
      (pss_nil))
      (pss_cons (ps_set (i := 5) sc_law.nd rfl (.inl rfl) (pe_call G_write_value (hr.mono (by decide)) (by rfl) g_write_value k_write_value b_write_value .nil pass0 (pa_cons (pv 3) pa_nil)))
      (pss_cons (ps_if (PW.pt (pw_or (pt_not (pt_val (pe_callB call_isi (by rfl) m_isinstance (by decide +kernel) (pa_cons (pv 5) (pa_cons (pe_bltn (v := .ty "str") (by rfl) m_str (by decide +kernel) rfl) pa_nil))))) (pw_or1 (pt_not (pt_val (pe_call G_exact (hr.mono (by decide)) (by rfl) g_exact k_exact b_exact .nil pass0 (pa_cons (pe_callTy call_tuple_of (by rfl) m_tuple (by decide +kernel) (pa_cons (pe_call G_read_back (hr.mono (by decide)) (by rfl) g_read_back k_read_back b_read_back .nil pass0 (pa_cons (pv 5) pa_nil)) pa_nil)) (pa_cons (pe_tup (pa_cons (pv 3) pa_nil)) pa_nil))))))))
      (pss_one (ps_ret pe_bl))
      (pss_nil))
      (pss_one (ps_ret (pe_cmpR op_eq (pe_call G_write_value (hr.mono (by decide)) (by rfl) g_write_value k_write_value b_write_value .nil pass0 (pa_cons (pv 2) pa_nil)) (pv 4) (nomark _)))))))))), ?_⟩
    refine ⟨_, rfl, a, ns, 40, 0, rfl, hS, by omega, fun H1 d l s1 n1 hD1 => ?_⟩
    refine ⟨_, rfl, d, l, [.int 0, .int 0], rfl, ⟨_, hD1⟩, fun v t H2 hv hW dq2 c2 => ?_⟩
    refine ⟨_, rfl, d, l, [.int 0, .int 0], rfl, dq2, fun v2 t2 H3 hv2 hW2 dq3 c3 => ?_⟩
    obtain ⟨ys, hys⟩ := dq2.lst
    have hv3 := Tv.chg c3 hys hv
    have judge : ∀ (t : T), Wd t → vt t ≠ [] ∧ (vt t).length ≤ 1000000 ∧ (∀ s ∈ vt t, tkOk s) ∧ (∀ s ∈ vt t, isIn s = true → ∃ n, intText? s = some n) ∧ mrun ([[]], sK) (vt t) = some ([[t]], sV) ∧ T.le 19 (.tup [t]) := fun t h => by
      have h1 := vt_pos 18 t h.1
      have h2 := h.2
      refine ⟨fun z => by rw [z] at h1; simp at h1, by omega, vt_ok 18 t h.1, vt_int 18 t h.1, mrun_vt 18 t h.1 [] [] sK sV_ne.2.1, by rw [List.length_singleton]; omega, fun u hu => ?_⟩
      rw [List.mem_singleton.mp hu]
      exact le_aok 18 t h.1 (by omega)
    obtain ⟨a1, a2, a3, a4, a5, a6⟩ := judge t hW
    obtain ⟨e1, e2, e3, e4, e5, e6⟩ := judge t2 hW2
    refine ⟨_, rfl, v, t, rfl, hv3, hW.1, a2, fun H4 s4 => ?_⟩
    refine ⟨_, rfl, _, _, _, _, true, rfl, .ty "str", .base (.str _), kit_ty (by decide +kernel), _, rfl, iteF ?_⟩
    refine ⟨_, rfl, vt t, [t], sV, rfl, a1, a2, a3, a4, a5, fun H5 p5 xs5 s5 np5 ep5 tv5 => ⟨p5, xs5, rfl, .inl ⟨SqL.of ep5, fun o5 no5 => ?_⟩⟩⟩
    have hv5 := Tv.same ((s4.trans s5).trans (same_upd (o := .tup xs5) no5)) hv3
    refine ⟨_, rfl, by show 1 ≤ sizeLine; decide, fun o6 no6 => ⟨_, _, .tup [t], rfl, Tv.same (same_upd no6) ⟨o5, xs5, rfl, SqT.of upd_same, TvL.map (sqt_same (same_upd no5)) _ _ tv5⟩, ⟨o6, [v], rfl, SqT.of upd_same, v, [], rfl, Tv.same (same_upd no6) hv5, rfl⟩, a6, _, rfl, iteF ?_⟩⟩
    have s6 : Same H3 (upd (upd H5 o5 (.tup xs5)) o6 (.tup [v])) := ((s4.trans s5).trans (same_upd no5)).trans (same_upd no6)
    have hv6 := Tv.same s6 hv3
    have hv26 := Tv.same s6 hv2
    show tSeq _ _ _ _ (upd (upd H5 o5 (.tup xs5)) o6 (.tup [v]))
    generalize upd (upd H5 o5 (.tup xs5)) o6 (.tup [v]) = H6 at hv6 hv26
    refine ⟨_, rfl, v2, t2, rfl, hv26, hW2.1, e2, fun H7 s7 => ?_⟩
    refine ⟨_, rfl, _, _, _, _, true, rfl, .ty "str", .base (.str _), kit_ty (by decide +kernel), _, rfl, iteF ?_⟩
    refine ⟨_, rfl, vt t2, [t2], sV, rfl, e1, e2, e3, e4, e5, fun H8 p8 xs8 s8 np8 ep8 tv8 => ⟨p8, xs8, rfl, .inl ⟨SqL.of ep8, fun o8 no8 => ?_⟩⟩⟩
    have hv8 := Tv.same ((s7.trans s8).trans (same_upd (o := .tup xs8) no8)) hv26
    refine ⟨_, rfl, by show 1 ≤ sizeLine; decide, fun o9 no9 => ⟨_, _, .tup [t2], rfl, Tv.same (same_upd no9) ⟨o8, xs8, rfl, SqT.of upd_same, TvL.map (sqt_same (same_upd no8)) _ _ tv8⟩, ⟨o9, [v2], rfl, SqT.of upd_same, v2, [], rfl, Tv.same (same_upd no9) hv8, rfl⟩, e6, _, rfl, iteF ?_⟩⟩
    have hv9 := Tv.same (((s7.trans s8).trans (same_upd (o := .tup xs8) no8)).trans (same_upd (o := .tup [v2]) no9)) hv6
    refine ⟨_, rfl, v, t, rfl, hv9, hW.1, a2, fun H10 s10 => ⟨_, rfl, rfl, ?_⟩⟩
    rw [decide_eq_true rfl]
    exact q _
end
def ex (K : PySem.W.Frag) : Bool := true
/-! ### the head -/
def dd (x : Str) (st : Stmt) : He.DefD := ⟨(x, none), x, x, defArgs st, defBody st, defScope st, [], []⟩
def fn : List He.DefD := [dd "write_value" s_write_value, dd "_listed" s_listed, dd "_value_tokens" s_value_tokens, dd "_law_begin" s_begin, dd "_law_mix" s_mix, dd "_law_draw" s_draw, dd "_law_start" s_start, dd "_law_reserved" s_reserved, dd "_law_any_name" s_any_name, dd "_law_any_int" s_any_int, dd "_law_any_value" s_any_value, dd "_law_exact" s_exact, dd "_law_is_name" s_is_name, dd "_law_is_int" s_is_int, dd "_law_read_back" s_read_back, dd "_law_wide_value" s_wide_value, dd "law" s_law]
def fa : List He.Fa := [.glo "write_value", .glo "_listed", .glo "_value_tokens", .glo "_law_begin", .glo "_law_mix", .glo "_law_draw", .glo "_law_start", .glo "_law_reserved", .glo "_law_any_name", .glo "_law_any_int", .glo "_law_any_value", .glo "_law_exact", .glo "_law_is_name", .glo "_law_is_int", .glo "_law_read_back", .glo "_law_wide_value", .glo "law", .free "abs", .free "bool", .free "divmod", .free "enumerate", .free "int", .free "isinstance", .free "len", .free "list", .free "range", .free "str", .free "tuple"]
abbrev R : PySem.W.OpenRow := PySem.W.OpenLaw.row PySem.Challenge.rw_telltrove_k07_values_written
abbrev hk : PySem.W.Hook := He.hookX 4 fa fn [] [] ex
def ob (s : PySem.W.SharedT) : He.AlX := He.obsX 4 fa fn [] [] ex (HandSHeadRun.getT s)
theorem ob_eq (s : PySem.W.SharedT) : ob s = hk.obs s.abs := He.obsX_eq (HandSHeadRun.getT_eq s)
def loose : List Str := ["write_value", "_listed", "_value_tokens", "_law_begin", "_law_mix", "_law_draw", "_law_start", "_law_reserved", "_law_any_name", "_law_any_int", "_law_any_value", "_law_exact", "_law_is_name", "_law_is_int", "_law_read_back", "_law_wide_value"]
theorem run (w : World) : HandSHeadRun.RunEq R (PySem.W.view R.prog [18]) hk ob 3000 loose w := by
  intro os
  kernel_rfl
theorem facts {P : Program} {w : World} {K : PySem.W.Frag} {h : Heap} {hh : Heap} {mg : Str → Option Value} {f : Addr} (X : K.In h) (G : h.Ns mainGlobals mg) (hfa : mg ("law" : Str) = some (.ref f)) (cx : He.SaysX fa fn [] [] ex w hh K) :
    ∃ fd : FuncData, (∀ (s : Shared) (v : Value), BindsTo s fd ⟨[v], []⟩ [("_law_script", v)]) ∧ ∀ base : Heap, K.In base → base.Ns mainGlobals mg → FnOk P w K mg base CX0 22 f fd ["_law_script"] (spLaw K) := by
  have c : He.SaysD fa fn K := congrArg (fun z : He.AlT => z.1) cx.t
  have G0 : ∀ (i : Nat) (x : Str) (st : Stmt), fn[i]? = some (dd x st) → fa[i]? = some (.glo x) → Df K mg x st := fun i x st h1 h2 => by
    obtain ⟨fd, F⟩ := c.def_ i (d := dd x st) h1
    exact ⟨_, fd, F, He.glo_ok X G (c.fact i (f := .glo x) h2)⟩
  have Fr : ∀ (i : Nat) (x : Str), fa[i]? = some (.free x) → mg x = none := fun i x h2 => He.free_ok X G (c.fact i (f := .free x) h2)
  have m_abs := Fr 17 "abs" rfl
  have m_bool := Fr 18 "bool" rfl
  have m_divmod := Fr 19 "divmod" rfl
  have m_enumerate := Fr 20 "enumerate" rfl
  have m_int := Fr 21 "int" rfl
  have m_isinstance := Fr 22 "isinstance" rfl
  have m_len := Fr 23 "len" rfl
  have m_list := Fr 24 "list" rfl
  have m_range := Fr 25 "range" rfl
  have m_str := Fr 26 "str" rfl
  have m_tuple := Fr 27 "tuple" rfl
  have D_write_value := G0 0 "write_value" s_write_value rfl rfl
  have D_listed := G0 1 "_listed" s_listed rfl rfl
  have D_value_tokens := G0 2 "_value_tokens" s_value_tokens rfl rfl
  have D_begin := G0 3 "_law_begin" s_begin rfl rfl
  have D_mix := G0 4 "_law_mix" s_mix rfl rfl
  have D_draw := G0 5 "_law_draw" s_draw rfl rfl
  have D_start := G0 6 "_law_start" s_start rfl rfl
  have D_reserved := G0 7 "_law_reserved" s_reserved rfl rfl
  have D_any_name := G0 8 "_law_any_name" s_any_name rfl rfl
  have D_any_int := G0 9 "_law_any_int" s_any_int rfl rfl
  have D_any_value := G0 10 "_law_any_value" s_any_value rfl rfl
  have D_exact := G0 11 "_law_exact" s_exact rfl rfl
  have D_is_name := G0 12 "_law_is_name" s_is_name rfl rfl
  have D_is_int := G0 13 "_law_is_int" s_is_int rfl rfl
  have D_read_back := G0 14 "_law_read_back" s_read_back rfl rfl
  have D_wide_value := G0 15 "_law_wide_value" s_wide_value rfl rfl
  obtain ⟨fd, F⟩ := c.def_ 16 (d := dd "law" s_law) rfl
  have e := hfa.symm.trans (He.glo_ok X G (c.fact 16 (f := .glo "law") rfl))
  cases e
  have b := FunD.bindsA (ps := ["_law_script"]) F fun _ _ _ _ _ _ us hl => match us, hl with | [_], _ => rfl
  refine ⟨fd, fun s v => b s [v] rfl, fun base _ _ => ?_⟩
  have C_mix := ok_mix (P := P) (w := w) (base := base) D_mix m_int
  have C_draw := ok_draw D_draw C_mix m_int m_len m_abs m_divmod
  have C_begin := ok_begin (P := P) (w := w) (base := base) D_begin m_list
  have C_start := ok_start D_start C_begin
  have C_exact := ok_exact (P := P) (w := w) (base := base) D_exact m_isinstance m_tuple m_len m_range m_str m_int m_bool 19
  have C_listed := ok_listed (P := P) (w := w) (base := base) D_listed m_enumerate
  have C_vt := ok_value_tokens D_value_tokens C_listed m_isinstance m_tuple m_str 18
  have C_write := ok_write_value D_write_value C_vt
  have C_reserved := ok_reserved (P := P) (w := w) (base := base) D_reserved
  have C_name := ok_any_name D_any_name C_reserved C_draw m_range
  have C_int := ok_any_int D_any_int C_draw
  have C_value := ok_any_value D_any_value C_draw C_int C_name m_range m_tuple
  have C_wide := ok_wide D_wide_value C_draw (C_value 0) (C_value 1) (C_value 6) m_range m_tuple
  have C_isname := ok_is_name D_is_name C_reserved m_len m_range
  have C_isint := ok_is_int (P := P) (w := w) (base := base) D_is_int m_len
  have C_read := ok_read_back D_read_back C_isint C_isname m_len m_tuple m_int
  exact ok_law F C_start C_wide C_write C_exact C_read m_isinstance m_str m_tuple
end Z
open PySem PySem.W PySem.Calls PyProof.Rows
theorem PySem.Challenge.cw_telltrove_k07_values_written_holds : PySem.Challenge.rw_telltrove_k07_values_written.Holds := by
  w_on; o_law
  refine HandSHeadRun.head_any (r := OpenLaw.row PySem.Challenge.rw_telltrove_k07_values_written) (q := view (OpenLaw.row PySem.Challenge.rw_telltrove_k07_values_written).prog [18]) (H := Z.hk) (ob := Z.ob) (M := 3000) (loose := Z.loose) (d := HandSHeadRun.topDef (OpenLaw.row PySem.Challenge.rw_telltrove_k07_values_written).prog 18) (kwd := []) Z.ob_eq
    (by kernel_rfl) (fun s => by kernel_rfl) Z.run (by kernel_rfl) (by kernel_rfl) (by kernel_rfl) (by rfl) (by first | assumption | decide +kernel) (by decide +kernel) ⟨rfl, rfl, rfl, rfl, rfl, by decide +kernel⟩ ?hw ?hc
  case hw => w_witness2
  case hc =>
    refine L2.walk_ofE (l := PySem.Challenge.rw_telltrove_k07_values_written) (n := 63) (k := 22) (x := "_law_script") (CX := L2.CX0) rfl (by decide) (by kernel_rfl) ⟨rfl, by decide, by decide⟩ ?F (fun _ _ _ _ z => z)
    intro w mg fa h Y G hmg0
    obtain ⟨K, KX, c⟩ := Y
    have hmg : mg ("law" : PySem.Str) = some (.ref fa) := by
      have e : (HandSHeadRun.topDef (OpenLaw.row PySem.Challenge.rw_telltrove_k07_values_written).prog 18).name = ("law" : PySem.Str) := by kernel_rfl
      rw [← e]
      exact hmg0
    obtain ⟨fd, hb, hF⟩ := Z.facts (P := (PySem.Challenge.rw_telltrove_k07_values_written).prog) (w := w) KX G hmg c
    exact ⟨K, fd, Z.spLaw K, KX, hb, fun H a ns hl _ hS => ⟨a, ns, rfl, hS, hl, fun _ => rfl⟩, hF⟩
