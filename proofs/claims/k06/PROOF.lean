import PyProof.Rows.All
import Wide.All
import OpenK.AllK
import Wide.FinOn
import KE.KStateDown
import Lean
import HandS.ForMost
import HandS.Defaults
import HandS.Wide
import HandS.WideBits
import HandS.IsInst
import HandS.More
import KE.KWords
import HandS.Head0
import HandS.Head1
import HandS.Head2
import HandS.HeadEnd
import HandS.HeadHook1
import HandS.HeadHook2
import HandS.HeadHook3
import HandS.HeadHook4
import PySem.Challenge.RW_telltrove_k06_tokens
set_option Elab.async false
set_option linter.all false
set_option maxRecDepth 100000
set_option maxHeartbeats 4000000
namespace Z
open PySem PySem.Spec PyProof.Rows L2
def topS (i : Nat) : Stmt := PySem.Challenge.pw_telltrove_k06_tokens.main.body.getD i (.Pass ⟨0, 0, 0, 0⟩)
/-! ### the callers' frame -/
/-- a def of the top as the head leaves it -/
def Df (K : PySem.W.Frag) (mg : Str → Option Value) (x : Str) (st : Stmt) : Prop := ∃ f fd, FunD K x x (defArgs st) (defBody st) (defScope st) [] [] f fd ∧ mg x = some (.ref f)
/-- a def that can be called by its name, with what it promises -/
def Cal (P : Program) (w : World) (K : PySem.W.Frag) (mg : Str → Option Value) (base : Heap) (x : Str) (k : Nat) (ps : List Str) (sp : Sp) : Prop :=
  ∃ f fd, mg x = some (.ref f) ∧ PySem.W.keepIn K (.ref f) = true ∧ Binds K fd ps [] ∧ FnOk P w K mg base CX0 k f fd ps sp
theorem ixN_k {n j : Nat} (h : j < n) : ixN n (j : Int) = some j := by
  unfold ixN
  rw [if_pos (by omega), if_pos (by omega)]
  rfl
theorem small_le {n : Nat} (h : n ≤ 1000) : n ≤ sizeLine := Nat.le_of_lt (small1000 h)
/-- all but d stands -/
def Chg (d : Addr) (H H' : Hp) : Prop := ∀ b o, b ≠ d → H b = some o → H' b = some o
theorem Chg.refl (d : Addr) (H : Hp) : Chg d H H := fun _ _ _ h => h
theorem Chg.trans {d : Addr} {H H1 H2 : Hp} (a : Chg d H H1) (b : Chg d H1 H2) : Chg d H H2 := fun c o n h => b c o n (a c o n h)
theorem Chg.upd (d : Addr) (H : Hp) (o : HO) : Chg d H (upd H d o) := fun b u n h => by rw [upd_ne n]; exact h
theorem Chg.new {d : Addr} {H : Hp} {p : Addr} {o : HO} (h : H p = none) : Chg d H (L2.upd H p o) := fun b u _ e => by rw [upd_ne (ne_of_none e h)]; exact e
theorem Chg.of_same {d : Addr} {H H' : Hp} (s : Same H H') : Chg d H H' := fun b o _ h => s b o h
theorem same_upd {H : Hp} {p : Addr} {o : HO} (h : H p = none) : Same H (upd H p o) := fun b x e => by
  rw [upd_ne (ne_of_none e h)]
  exact e
/-- the draws' object: the list, the place, what is left of a great cell, the state, the number of mixes; then what else a law keeps there -/
def Dr (H : Hp) (d : Addr) (rest : List V) : Prop := ∃ (l : Addr) (ns : List Int) (at_ : Nat) (big st n : Int), H d = some (.lst (.ref l :: .int (at_ : Int) :: .int big :: .int st :: .int n :: rest)) ∧ H l = some (.lst (ns.map V.int)) ∧ ns.length ≤ 1000
theorem Dr.chg {H H' : Hp} {d e : Addr} {rest : List V} (h : Dr H d rest) (n : ∀ o, H e = some o → ∀ xs, o ≠ .lst xs) (c : Chg e H H') : Dr H' d rest := by
  obtain ⟨l, ns, a, big, st, m, h1, h2, h3⟩ := h
  exact ⟨l, ns, a, big, st, m, c _ _ (fun z => by subst z; exact n _ h1 _ rfl) h1, c _ _ (fun z => by subst z; exact n _ h2 _ rfl) h2, h3⟩
theorem Dr.same {H H' : Hp} {d : Addr} {rest : List V} (h : Dr H d rest) (c : Same H H') : Dr H' d rest := by
  obtain ⟨l, ns, a, big, st, m, h1, h2, h3⟩ := h
  exact ⟨l, ns, a, big, st, m, c _ _ h1, c _ _ h2, h3⟩
def spBegin (K : PySem.W.Frag) : Sp := fun vs H Q _ => ∃ (a : Addr) (ns : List Int), vs = [.ref a] ∧ SqL K H a (ns.map V.int) ∧ ns.length ≤ 1000 ∧ ∀ H' d, Same H H' → H d = none → Dr H' d [] → Q (.ref d) H'
def spStart (K : PySem.W.Frag) : Sp := fun vs H Q _ => ∃ (a : Addr) (ns : List Int) (x y : Int), vs = [.ref a, .int x, .int y] ∧ SqL K H a (ns.map V.int) ∧ ns.length ≤ 1000 ∧ ∀ H' d, Same H H' → H d = none → Dr H' d [.int x, .int y, .int 0] → Q (.ref d) H'
def spMix : Sp := fun vs H Q _ => ∃ (d : Addr) (x y z : V) (st n k : Int) (rest : List V), vs = [.ref d, .int k] ∧ H d = some (.lst (x :: y :: z :: .int st :: .int n :: rest)) ∧
  ∀ st' n', Q .non (upd H d (.lst (x :: y :: z :: .int st' :: .int n' :: rest)))
def spDraw : Sp := fun vs H Q _ => ∃ (d : Addr) (k : Int) (rest : List V), vs = [.ref d, .int k] ∧ 0 < k ∧ k < 1073741824 ∧ Dr H d rest ∧ ∀ r H', 0 ≤ r → r < k → Dr H' d rest → Chg d H H' → Q (.int r) H'
/-! ### data: what laws compare -/
inductive T where
  | non
  | int (i : Int)
  | str (s : Str)
  | tup (l : List T)
mutual
def Tv (K : PySem.W.Frag) (H : Hp) : T → V → Prop
  | .non, v => v = .non
  | .int i, v => v = .int i
  | .str s, v => v = .str s
  | .tup l, v => ∃ a xs, v = .ref a ∧ SqT K H a xs ∧ TvL K H l xs
def TvL (K : PySem.W.Frag) (H : Hp) : List T → List V → Prop
  | [], xs => xs = []
  | t :: l, xs => ∃ x r, xs = x :: r ∧ Tv K H t x ∧ TvL K H l r
end
/-- at most n tuples deep -/
def T.le : Nat → T → Prop
  | 0, .tup _ => False
  | n + 1, .tup l => l.length ≤ 1000000 ∧ ∀ t ∈ l, T.le n t
  | _, _ => True
section
variable {K : PySem.W.Frag} {H H' : Hp}
theorem TvL.length : ∀ {l : List T} {xs : List V}, TvL K H l xs → xs.length = l.length
  | [], _, h => by
    rw [show _ = _ from h]
    rfl
  | t :: l, _, h => by
    obtain ⟨x, r, rfl, _, h2⟩ := h
    rw [List.length_cons, List.length_cons, TvL.length h2]
theorem TvL.get : ∀ {l : List T} {xs : List V} {i : Nat} {t : T}, TvL K H l xs → l[i]? = some t → ∃ x, xs[i]? = some x ∧ Tv K H t x
  | [], _, _, _, _, e => by simp at e
  | u :: l, _, 0, t, h, e => by
    obtain ⟨x, r, rfl, h1, _⟩ := h
    have e1 : u = t := Option.some.inj e
    exact ⟨x, rfl, e1 ▸ h1⟩
  | u :: l, _, i + 1, t, h, e => by
    obtain ⟨x, r, rfl, _, h2⟩ := h
    exact TvL.get (i := i) h2 e
mutual
theorem Tv.map (k : ∀ a xs, SqT K H a xs → SqT K H' a xs) : ∀ (t : T) (v : V), Tv K H t v → Tv K H' t v
  | .non, _, h => h
  | .int _, _, h => h
  | .str _, _, h => h
  | .tup l, _, h => by
    obtain ⟨a, xs, e, h1, h2⟩ := h
    exact ⟨a, xs, e, k a xs h1, TvL.map k l xs h2⟩
theorem TvL.map (k : ∀ a xs, SqT K H a xs → SqT K H' a xs) : ∀ (l : List T) (xs : List V), TvL K H l xs → TvL K H' l xs
  | [], _, h => h
  | t :: l, _, h => by
    obtain ⟨x, r, e, h1, h2⟩ := h
    exact ⟨x, r, e, Tv.map k t x h1, TvL.map k l r h2⟩
end
theorem sqt_same (s : Same H H') : ∀ a xs, SqT K H a xs → SqT K H' a xs := fun a xs h => by
  rcases h with (h | ⟨o, h⟩) | h
  · exact .inl (.inl (s _ _ h))
  · exact .inl (.inr ⟨o, s _ _ h⟩)
  · exact .inr h
theorem sqt_chg {d : Addr} {ys : List V} (s : Chg d H H') (e : H d = some (.lst ys)) : ∀ a xs, SqT K H a xs → SqT K H' a xs := fun a xs h => by
  rcases h with (h | ⟨o, h⟩) | h
  · exact .inl (.inl (s _ _ (ne_of h e (fun z => nomatch z)) h))
  · exact .inl (.inr ⟨o, s _ _ (ne_of h e (fun z => nomatch z)) h⟩)
  · exact .inr h
theorem tyx_tup {a : Addr} {xs : List V} (h : SqT K H a xs) : TyX K H (.ref a) (.type "tuple") := by
  rcases h with (h | ⟨o, h⟩) | ⟨o, its, n, h1, h2, _⟩
  · exact .base (.tup h)
  · exact .fTuple h
  · exact .kTuple h1 h2
theorem Tv.same (s : Same H H') {t : T} {v : V} (h : Tv K H t v) : Tv K H' t v := Tv.map (sqt_same s) t v h
theorem Tv.chg {d : Addr} {ys : List V} (s : Chg d H H') (e : H d = some (.lst ys)) {t : T} {v : V} (h : Tv K H t v) : Tv K H' t v := Tv.map (sqt_chg s e) t v h
theorem Dr.lst {d : Addr} {rest : List V} (h : Dr H d rest) : ∃ ys, H d = some (.lst ys) := let ⟨_, _, _, _, _, _, h, _⟩ := h; ⟨_, h⟩
/-- strs -/
def tS (l : List Str) : T := .tup (l.map T.str)
theorem tvl_strs : ∀ l : List Str, TvL K H (l.map T.str) (l.map V.str)
  | [] => rfl
  | s :: l => ⟨_, _, rfl, rfl, tvl_strs l⟩
theorem tv_strs {a : Addr} {l : List Str} (h : SqT K H a (l.map V.str)) : Tv K H (tS l) (.ref a) := ⟨a, _, rfl, h, tvl_strs l⟩
theorem le_strs {l : List Str} (n : Nat) (hl : l.length ≤ 1000000) : T.le (n + 1) (tS l) := ⟨by rw [List.length_map]; exact hl, fun t h => by
  obtain ⟨s, _, rfl⟩ := List.mem_map.mp h
  cases n <;> trivial⟩
end
def spExact (K : PySem.W.Frag) (n : Nat) : Sp := fun vs H Q _ => ∃ (x y : V) (t : T), vs = [x, y] ∧ Tv K H t x ∧ Tv K H t y ∧ T.le n t ∧ Q (.bl true) H
def spExact0 (K : PySem.W.Frag) : Nat → Sp
  | 0 => fun _ _ _ _ => False
  | n + 1 => spExact K n
/-! ### tokens of lists of codes -/
namespace Tk
def run (c : Nat) : Bool := (decide (97 ≤ c) && decide (c ≤ 122)) || (decide (65 ≤ c) && decide (c ≤ 90)) || (decide (48 ≤ c) && decide (c ≤ 57))
def blank (c : Nat) : Bool := c == 32 || c == 10
def nrun : List Nat → Nat
  | [] => 0
  | c :: r => if run c = true then nrun r + 1 else 0
def tl2 (L : List Nat) : Bool := L.take 2 == [46, 46] || L.take 2 == [60, 61]
def beg : List Nat → Nat
  | c :: _ => if c = 45 then 1 else 0
  | [] => 0
def elen (L : List Nat) : Nat := if 0 < nrun (L.drop (beg L)) then beg L + nrun (L.drop (beg L)) else if tl2 L = true then 2 else 1
theorem nrun_cons (c : Nat) (r : List Nat) : nrun (c :: r) = if run c = true then nrun r + 1 else 0 := rfl
theorem beg_cons (c : Nat) (r : List Nat) : beg (c :: r) = if c = 45 then 1 else 0 := rfl
theorem run_blank {c : Nat} (h : blank c = true) : run c = false := by
  unfold blank at h
  unfold run
  simp only [Bool.or_eq_true, beq_iff_eq] at h
  rcases h with rfl | rfl <;> decide
theorem run_45 : run 45 = false := by decide
theorem nrun_le : ∀ L : List Nat, nrun L ≤ L.length
  | [] => Nat.le_refl 0
  | c :: r => by
    have := nrun_le r
    rw [nrun_cons]
    split
    · rw [List.length_cons]; omega
    · omega
theorem beg_le (L : List Nat) : beg L ≤ L.length := by
  cases L with
  | nil => exact Nat.le_refl 0
  | cons c r =>
    rw [beg_cons, List.length_cons]
    split <;> omega
theorem tl2_len {L : List Nat} (h : tl2 L = true) : 2 ≤ L.length := by
  unfold tl2 at h
  simp only [Bool.or_eq_true, beq_iff_eq] at h
  rcases h with h | h
  all_goals
    have e := congrArg List.length h
    rw [List.length_take] at e
    simp at e
    omega
theorem elen_pos (L : List Nat) : 1 ≤ elen L := by
  unfold elen
  split
  · omega
  · split <;> omega
theorem elen_le {L : List Nat} (h : L ≠ []) : elen L ≤ L.length := by
  have hl : 0 < L.length := List.length_pos_iff.mpr h
  unfold elen
  split
  · have h1 := nrun_le (L.drop (beg L))
    rw [List.length_drop] at h1
    have := beg_le L
    omega
  · split
    · rename_i _ h2
      exact tl2_len h2
    · omega
theorem nrun_app {c : Nat} (r : List Nat) (h : run c = false) : ∀ q : List Nat, nrun (q ++ c :: r) = nrun q
  | [] => by
    show (if run c = true then _ else 0) = 0
    rw [if_neg (by rw [h]; exact Bool.false_ne_true)]
  | d :: q => by
    show (if run d = true then nrun (q ++ c :: r) + 1 else 0) = if run d = true then nrun q + 1 else 0
    rw [nrun_app r h q]
theorem beg_app {L : List Nat} (h : L ≠ []) (R : List Nat) : beg (L ++ R) = beg L := by
  cases L with
  | nil => exact absurd rfl h
  | cons c r => rfl
theorem tl2_app {c : Nat} (r : List Nat) (hc : blank c = true) {L : List Nat} (h : L ≠ []) : tl2 (L ++ c :: r) = tl2 L := by
  cases L with
  | nil => exact absurd rfl h
  | cons d L =>
    cases L with
    | cons e L => rfl
    | nil =>
      unfold blank at hc
      simp only [Bool.or_eq_true, beq_iff_eq] at hc
      show (([d, c] : List Nat) == [46, 46] || [d, c] == [60, 61]) = ([d] == [46, 46] || [d] == [60, 61])
      rcases hc with rfl | rfl <;> simp
theorem elen_app {c : Nat} (r : List Nat) (hc : blank c = true) {L : List Nat} (h : L ≠ []) : elen (L ++ c :: r) = elen L := by
  unfold elen
  rw [beg_app h, tl2_app r hc h, List.drop_append_of_le_length (beg_le L), nrun_app r (run_blank hc)]
theorem elen_blank {c : Nat} (r : List Nat) (h : blank c = true) : elen (c :: r) = 1 := by
  have h2 : c = 32 ∨ c = 10 := by
    unfold blank at h
    simpa using h
  have n0 : nrun ((c :: r).drop (beg (c :: r))) = 0 := by
    have b0 : beg (c :: r) = 0 := by
      rw [beg_cons, if_neg]
      rcases h2 with rfl | rfl <;> decide
    rw [b0, List.drop_zero, nrun_cons, if_neg]
    rw [run_blank h]
    exact Bool.false_ne_true
  have t0 : tl2 (c :: r) = false := by
    unfold tl2
    rcases h2 with rfl | rfl <;> cases r <;> simp
  unfold elen
  rw [n0, if_neg (Nat.lt_irrefl 0), if_neg]
  rw [t0]
  exact Bool.false_ne_true
def tok (L : List Nat) : List (List Nat) :=
  match L with
  | [] => []
  | c :: r => if blank c = true then tok r else (c :: r).take (elen (c :: r)) :: tok ((c :: r).drop (elen (c :: r)))
termination_by L.length
decreasing_by
  · simp
  · have := elen_pos (c :: r)
    rw [List.length_drop, List.length_cons]
    omega
theorem tok_nil : tok [] = [] := by rw [tok]
theorem tok_blank {c : Nat} (r : List Nat) (h : blank c = true) : tok (c :: r) = tok r := by
  rw [tok, if_pos h]
theorem tok_cons {c : Nat} (r : List Nat) (h : blank c = false) : tok (c :: r) = (c :: r).take (elen (c :: r)) :: tok ((c :: r).drop (elen (c :: r))) := by
  rw [tok, if_neg (by rw [h]; exact Bool.false_ne_true)]
theorem tok_ne {L : List Nat} (h0 : L ≠ []) (h : ∀ c ∈ L, blank c = false) : tok L = L.take (elen L) :: tok (L.drop (elen L)) := by
  cases L with
  | nil => exact absurd rfl h0
  | cons c r => exact tok_cons r (h c List.mem_cons_self)
theorem tok_app {c : Nat} (r : List Nat) (hc : blank c = true) : ∀ (n : Nat) (p : List Nat), p.length ≤ n → (∀ d ∈ p, blank d = false) → tok (p ++ c :: r) = tok p ++ tok r
  | n, [], _, _ => by rw [List.nil_append, tok_blank r hc, tok_nil, List.nil_append]
  | 0, d :: p, h, _ => by simp at h
  | n + 1, d :: p, h, hb => by
    have hd := hb d List.mem_cons_self
    have he := elen_app r hc (L := d :: p) (by simp)
    have hle := elen_le (L := d :: p) (by simp)
    have hpos := elen_pos (d :: p)
    have ih := tok_app r hc n ((d :: p).drop (elen (d :: p))) (by rw [List.length_drop]; omega) (fun x hx => hb x (List.mem_of_mem_drop hx))
    rw [tok_cons p hd]
    show tok (d :: (p ++ c :: r)) = _
    rw [tok_cons _ hd]
    show List.take (elen (d :: p ++ c :: r)) (d :: p ++ c :: r) :: tok (List.drop (elen (d :: p ++ c :: r)) (d :: p ++ c :: r)) = _
    rw [he, List.take_append_of_le_length hle, List.drop_append_of_le_length hle, ih, List.cons_append]
/-! words -/
def lw (p : List Nat) : List Nat → List (List Nat)
  | [] => if p = [] then [] else [p]
  | c :: r => if blank c = true then (if p = [] then lw [] r else p :: lw [] r) else lw (p ++ [c]) r
theorem tok_words : ∀ (L p : List Nat), (∀ d ∈ p, blank d = false) → tok (p ++ L) = (lw p L).flatMap tok
  | [], p, _ => by
    rw [List.append_nil]
    show tok p = (if p = [] then [] else [p]).flatMap tok
    split
    · rename_i h
      rw [h, tok_nil]
      rfl
    · simp
  | c :: r, p, hp => by
    show _ = (if blank c = true then (if p = [] then lw [] r else p :: lw [] r) else lw (p ++ [c]) r).flatMap tok
    cases hc : blank c with
    | true =>
      rw [if_pos rfl, tok_app r hc p.length p (Nat.le_refl _) hp]
      have ih := tok_words r [] (fun _ h => by cases h)
      rw [List.nil_append] at ih
      split
      · rename_i h
        rw [h, tok_nil, List.nil_append, ih]
      · rw [List.flatMap_cons, ih]
    | false =>
      rw [if_neg Bool.false_ne_true]
      have ih := tok_words r (p ++ [c]) (fun d h => by
        rcases List.mem_append.mp h with h | h
        · exact hp d h
        · rw [List.mem_singleton.mp h]
          exact hc)
      rw [← ih, List.append_assoc]
      rfl
theorem lw_clean : ∀ (L p : List Nat), (∀ d ∈ p, blank d = false) → ∀ q ∈ lw p L, q ≠ [] ∧ ∀ d ∈ q, blank d = false
  | [], p, hp, q, hq => by
    have hq : q ∈ (if p = [] then [] else [p]) := hq
    split at hq
    · cases hq
    · rename_i h
      rw [List.mem_singleton.mp hq]
      exact ⟨h, hp⟩
  | c :: r, p, hp, q, hq => by
    have hq : q ∈ (if blank c = true then (if p = [] then lw [] r else p :: lw [] r) else lw (p ++ [c]) r) := hq
    split at hq
    · split at hq
      · exact lw_clean r [] (fun _ h => by cases h) q hq
      · rename_i h
        rcases List.mem_cons.mp hq with e | hq
        · rw [e]
          exact ⟨h, hp⟩
        · exact lw_clean r [] (fun _ h => by cases h) q hq
    · rename_i hc
      exact lw_clean r (p ++ [c]) (fun d h => by
        rcases List.mem_append.mp h with h | h
        · exact hp d h
        · rw [List.mem_singleton.mp h]
          simpa using hc) q hq
theorem lw_mem : ∀ (L p : List Nat), ∀ q ∈ lw p L, ∀ d ∈ q, d ∈ p ∨ d ∈ L
  | [], p, q, hq, d, hd => by
    have hq : q ∈ (if p = [] then [] else [p]) := hq
    split at hq
    · cases hq
    · rw [List.mem_singleton.mp hq] at hd
      exact .inl hd
  | c :: r, p, q, hq, d, hd => by
    have hq : q ∈ (if blank c = true then (if p = [] then lw [] r else p :: lw [] r) else lw (p ++ [c]) r) := hq
    have sub : q ∈ lw [] r → d ∈ p ∨ d ∈ c :: r := fun h => by
      rcases lw_mem r [] q h d hd with h | h
      · cases h
      · exact .inr (List.mem_cons_of_mem _ h)
    split at hq
    · split at hq
      · exact sub hq
      · rcases List.mem_cons.mp hq with e | hq
        · rw [e] at hd
          exact .inl hd
        · exact sub hq
    · rcases lw_mem r (p ++ [c]) q hq d hd with h | h
      · rcases List.mem_append.mp h with h | h
        · exact .inl h
        · rw [List.mem_singleton.mp h]
          exact .inr List.mem_cons_self
      · exact .inr (List.mem_cons_of_mem _ h)
theorem lw_flat : ∀ (L p : List Nat), (lw p L).flatten.length ≤ p.length + L.length
  | [], p => by
    show (if p = [] then [] else [p]).flatten.length ≤ _
    split
    · simp
    · simp
  | c :: r, p => by
    show (if blank c = true then (if p = [] then lw [] r else p :: lw [] r) else lw (p ++ [c]) r).flatten.length ≤ _
    have h0 := lw_flat r []
    rw [List.length_nil, Nat.zero_add] at h0
    rw [List.length_cons]
    split
    · split
      · omega
      · rw [List.flatten_cons, List.length_append]
        omega
    · have h1 := lw_flat r (p ++ [c])
      rw [List.length_append, List.length_singleton] at h1
      omega
theorem len_le_flatten : ∀ {W : List (List Nat)} {q : List Nat}, q ∈ W → q.length ≤ W.flatten.length
  | [], _, h => by cases h
  | p :: W, q, h => by
    rw [List.flatten_cons, List.length_append]
    rcases List.mem_cons.mp h with e | h
    · rw [e]
      omega
    · have := len_le_flatten h
      omega
/-! the law's judge -/
def body (p : List Nat) : List Nat := if p.take 1 = [45] then p.drop 1 else p
def isTok (p : List Nat) : Bool := (decide (0 < (body p).length) && (body p).all run) || p.length == 1 || p == [46, 46] || p == [60, 61]
theorem nrun_all : ∀ (L : List Nat) (m : Nat), m ≤ L.length → ((L.take m).all run = true ↔ m ≤ nrun L)
  | L, 0, _ => by simp
  | [], m + 1, h => by simp at h
  | c :: r, m + 1, h => by
    have ih := nrun_all r m (by simpa using h)
    rw [List.take_succ_cons, List.all_cons, Bool.and_eq_true, ih, nrun_cons]
    cases hc : run c with
    | true => simp
    | false => simp
theorem isTok_at {L : List Nat} (h : L ≠ []) : isTok (L.take (elen L)) = true ∧ ∀ m, elen L < m → m ≤ L.length → isTok (L.take m) = false := by
  cases L with
  | nil => exact absurd rfl h
  | cons c r =>
    have key : ∀ m, 1 ≤ m → m ≤ (c :: r).length → (isTok ((c :: r).take m) = true ↔ (beg (c :: r) < m ∧ m ≤ beg (c :: r) + nrun ((c :: r).drop (beg (c :: r)))) ∨ m = 1 ∨ (m = 2 ∧ tl2 (c :: r) = true)) := by
      intro m h1 h2
      obtain ⟨k, rfl⟩ : ∃ k, m = k + 1 := ⟨m - 1, by omega⟩
      have hlen : ((c :: r).take (k + 1)).length = k + 1 := by
        rw [List.length_take]
        omega
      have hb : (decide (0 < (body ((c :: r).take (k + 1))).length) && (body ((c :: r).take (k + 1))).all run) = true ↔ (beg (c :: r) < k + 1 ∧ k + 1 ≤ beg (c :: r) + nrun ((c :: r).drop (beg (c :: r)))) := by
        have hk : k ≤ r.length := by simpa using h2
        by_cases hc : c = 45
        · subst hc
          have e : body ((45 :: r).take (k + 1)) = r.take k := rfl
          rw [e]
          have b1 : beg (45 :: r) = 1 := rfl
          rw [b1]
          have n1 := nrun_all r k hk
          rw [Bool.and_eq_true, decide_eq_true_eq, n1, List.length_take]
          show _ ↔ 1 < k + 1 ∧ k + 1 ≤ 1 + nrun r
          omega
        · have b0 : beg (c :: r) = 0 := by
            rw [beg_cons, if_neg hc]
          have e : body ((c :: r).take (k + 1)) = (c :: r).take (k + 1) := by
            unfold body
            rw [if_neg]
            intro z
            rw [List.take_succ_cons] at z
            injection z with z1 _
            exact hc z1
          rw [e, b0]
          have n1 := nrun_all (c :: r) (k + 1) h2
          rw [Bool.and_eq_true, decide_eq_true_eq, n1, hlen]
          show _ ↔ 0 < k + 1 ∧ k + 1 ≤ 0 + nrun (c :: r)
          omega
      have ht : (((c :: r).take (k + 1) == [46, 46]) = true ∨ ((c :: r).take (k + 1) == [60, 61]) = true) ↔ (k + 1 = 2 ∧ tl2 (c :: r) = true) := by
        unfold tl2
        rw [beq_iff_eq, beq_iff_eq, Bool.or_eq_true, beq_iff_eq, beq_iff_eq]
        constructor
        · intro z
          have e2 : k + 1 = 2 := by
            rcases z with z | z
            all_goals
              have := congrArg List.length z
              rw [hlen] at this
              exact this
          rw [e2] at z
          exact ⟨e2, z⟩
        · rintro ⟨e2, z⟩
          rw [e2]
          exact z
      unfold isTok
      rw [Bool.or_eq_true, Bool.or_eq_true, Bool.or_eq_true, hb, beq_iff_eq, hlen]
      constructor
      · rintro (((z | z) | z) | z)
        · exact .inl z
        · exact .inr (.inl z)
        · exact .inr (.inr (ht.mp (.inl z)))
        · exact .inr (.inr (ht.mp (.inr z)))
      · rintro (z | z | z)
        · exact .inl (.inl (.inl z))
        · exact .inl (.inl (.inr z))
        · rcases ht.mpr z with z | z
          · exact .inl (.inr z)
          · exact .inr z
    have hp := elen_pos (c :: r)
    have hl := elen_le (L := c :: r) (by simp)
    have t0 : 0 < nrun ((c :: r).drop (beg (c :: r))) → tl2 (c :: r) = true → False := by
      intro h1 h2
      unfold tl2 at h2
      simp only [Bool.or_eq_true, beq_iff_eq] at h2
      have hc : c = 46 ∨ c = 60 := by
        rcases h2 with h2 | h2
        all_goals
          rw [List.take_succ_cons] at h2
          injection h2 with h2 _
        · exact .inl h2
        · exact .inr h2
      rcases hc with rfl | rfl
      · exact absurd h1 (by show ¬ 0 < nrun (46 :: r); rw [nrun_cons, if_neg (by decide)]; omega)
      · exact absurd h1 (by show ¬ 0 < nrun (60 :: r); rw [nrun_cons, if_neg (by decide)]; omega)
    have hcase : (0 < nrun ((c :: r).drop (beg (c :: r))) ∧ elen (c :: r) = beg (c :: r) + nrun ((c :: r).drop (beg (c :: r)))) ∨ (nrun ((c :: r).drop (beg (c :: r))) = 0 ∧ ((tl2 (c :: r) = true ∧ elen (c :: r) = 2) ∨ (tl2 (c :: r) = false ∧ elen (c :: r) = 1))) := by
      unfold elen
      split
      · exact .inl ⟨by assumption, rfl⟩
      · right
        refine ⟨by omega, ?_⟩
        split
        · exact .inl ⟨by assumption, rfl⟩
        · exact .inr ⟨by simpa using (by assumption : ¬ tl2 (c :: r) = true), rfl⟩
    constructor
    · refine (key _ hp hl).mpr ?_
      rcases hcase with ⟨h1, h2⟩ | ⟨h1, ⟨h2, h3⟩ | ⟨h2, h3⟩⟩
      · left; omega
      · right; right; exact ⟨h3, h2⟩
      · right; left; exact h3
    · intro m h1 h2
      cases hm : isTok ((c :: r).take m) with
      | false => rfl
      | true =>
        exfalso
        have z := (key m (by omega) h2).mp hm
        rcases z with z | z | ⟨z, z2⟩
        · rcases hcase with ⟨h3, h4⟩ | ⟨h3, _⟩ <;> omega
        · omega
        · rcases hcase with ⟨h3, h4⟩ | ⟨h3, ⟨h4, h5⟩ | ⟨h4, h5⟩⟩
          · exact t0 h3 z2
          · omega
          · rw [h4] at z2
            cases z2
/-! tokens are tokens -/
def isT (t : List Nat) : Prop := t ≠ [] ∧ (∀ c ∈ t, blank c = false) ∧ elen t = t.length
theorem tok_one {t : List Nat} (h : isT t) : tok t = [t] := by
  rw [tok_ne h.1 h.2.1, h.2.2, List.take_length, List.drop_length, tok_nil]
theorem tok_sep {t : List Nat} (h : isT t) {c : Nat} (hc : blank c = true) (r : List Nat) : tok (t ++ c :: r) = t :: tok r := by
  rw [tok_app r hc t.length t (Nat.le_refl _) h.2.1, tok_one h]
  rfl
theorem nrun_take : ∀ (L : List Nat), nrun (L.take (nrun L)) = nrun L
  | [] => rfl
  | c :: r => by
    cases hc : run c with
    | true =>
      rw [nrun_cons, if_pos hc, List.take_succ_cons, nrun_cons, if_pos hc, nrun_take r]
    | false =>
      rw [nrun_cons, if_neg (by rw [hc]; exact Bool.false_ne_true)]
      rfl
theorem run_mem : ∀ (L : List Nat), ∀ d ∈ L.take (nrun L), run d = true
  | [], _, h => by cases h
  | c :: r, d, h => by
    rw [nrun_cons] at h
    cases hc : run c with
    | true =>
      rw [hc, if_pos rfl, List.take_succ_cons] at h
      rcases List.mem_cons.mp h with e | h
      · rw [e, hc]
      · exact run_mem r d h
    | false =>
      rw [hc, if_neg Bool.false_ne_true] at h
      cases h
theorem run_nb {d : Nat} (h : run d = true) : blank d = false := by
  cases hb : blank d with
  | false => rfl
  | true => rw [run_blank hb] at h; cases h
theorem isT_take {c : Nat} {r : List Nat} (hb : blank c = false) : isT ((c :: r).take (elen (c :: r))) := by
  have hle := elen_le (L := c :: r) (by simp)
  have hpos := elen_pos (c :: r)
  have hlen : ((c :: r).take (elen (c :: r))).length = elen (c :: r) := by
    rw [List.length_take]
    omega
  have hne : (c :: r).take (elen (c :: r)) ≠ [] := fun z => by
    rw [z] at hlen
    simp at hlen
    omega
  refine ⟨hne, ?_, ?_⟩
  · by_cases h1 : 0 < nrun ((c :: r).drop (beg (c :: r)))
    · have e : elen (c :: r) = beg (c :: r) + nrun ((c :: r).drop (beg (c :: r))) := by
        unfold elen
        rw [if_pos h1]
      rw [e]
      intro d hd
      by_cases hc : c = 45
      · subst hc
        rw [show beg (45 :: r) = 1 from rfl, show 1 + nrun ((45 :: r).drop 1) = nrun r + 1 from Nat.add_comm _ _, List.take_succ_cons] at hd
        rcases List.mem_cons.mp hd with e | hd
        · rw [e]
          decide
        · exact run_nb (run_mem r d hd)
      · have b0 : beg (c :: r) = 0 := by
          rw [beg_cons, if_neg hc]
        rw [b0, Nat.zero_add, List.drop_zero] at hd
        exact run_nb (run_mem (c :: r) d hd)
    · have e : elen (c :: r) = if tl2 (c :: r) = true then 2 else 1 := by
        unfold elen
        rw [if_neg h1]
      rw [e]
      split
      · rename_i h2
        unfold tl2 at h2
        simp only [Bool.or_eq_true, beq_iff_eq] at h2
        intro d hd
        have h3 : d = 46 ∨ d = 60 ∨ d = 61 := by
          rcases h2 with z | z
          · rw [z] at hd
            simp at hd
            exact .inl hd
          · rw [z] at hd
            simp at hd
            exact .inr hd
        rcases h3 with rfl | rfl | rfl <;> decide
      · intro d hd
        have e9 : d = c := by simpa using hd
        rw [e9]
        exact hb
  · rw [hlen]
    obtain ⟨k, hk⟩ : ∃ k, elen (c :: r) = k + 1 := ⟨elen (c :: r) - 1, by omega⟩
    have e1 : beg ((c :: r).take (elen (c :: r))) = beg (c :: r) := by
      rw [hk]
      rfl
    by_cases h1 : 0 < nrun ((c :: r).drop (beg (c :: r)))
    · have e : elen (c :: r) = beg (c :: r) + nrun ((c :: r).drop (beg (c :: r))) := by
        unfold elen
        rw [if_pos h1]
      have e2 : ((c :: r).take (elen (c :: r))).drop (beg (c :: r)) = ((c :: r).drop (beg (c :: r))).take (nrun ((c :: r).drop (beg (c :: r)))) := by
        rw [e, List.drop_take, Nat.add_sub_cancel_left]
      have e3 : elen ((c :: r).take (elen (c :: r))) = beg (c :: r) + nrun ((c :: r).drop (beg (c :: r))) := by
        rw [elen, e1, e2, nrun_take, if_pos h1]
      rw [e3, ← e]
    · have e : elen (c :: r) = if tl2 (c :: r) = true then 2 else 1 := by
        unfold elen
        rw [if_neg h1]
      cases h2 : tl2 (c :: r) with
      | true =>
        rw [h2, if_pos rfl] at e
        rw [e]
        unfold tl2 at h2
        simp only [Bool.or_eq_true, beq_iff_eq] at h2
        rcases h2 with h2 | h2 <;> rw [h2] <;> decide
      | false =>
        rw [h2, if_neg Bool.false_ne_true] at e
        rw [e]
        show elen [c] = 1
        unfold elen
        have z : ¬ 0 < nrun (([c] : List Nat).drop (beg [c])) := by
          by_cases hc : c = 45
          · subst hc
            decide
          · have b0 : ∀ q, beg (c :: q) = 0 := fun q => by
              show (if c = 45 then 1 else 0) = 0
              rw [if_neg hc]
            rw [b0] at h1 ⊢
            intro z
            apply h1
            show 0 < nrun (c :: r)
            have z : 0 < nrun [c] := z
            rw [nrun_cons] at z ⊢
            split at z
            · rename_i hr
              rw [if_pos hr]
              omega
            · omega
        rw [if_neg z, if_neg]
        unfold tl2
        simp
theorem tok_isT : ∀ (n : Nat) (L : List Nat), L.length ≤ n → ∀ t ∈ tok L, isT t
  | _, [], _, t, ht => by
    rw [tok_nil] at ht
    cases ht
  | 0, c :: r, h, _, _ => by simp at h
  | n + 1, c :: r, h, t, ht => by
    have hl : r.length ≤ n := by simpa using h
    cases hb : blank c with
    | true =>
      rw [tok_blank r hb] at ht
      exact tok_isT n r hl t ht
    | false =>
      rw [tok_cons r hb] at ht
      rcases List.mem_cons.mp ht with e | ht
      · rw [e]
        exact isT_take hb
      · have hp := elen_pos (c :: r)
        exact tok_isT n _ (by rw [List.length_drop, List.length_cons]; omega) t ht
theorem tok_len : ∀ (n : Nat) (L : List Nat), L.length ≤ n → (tok L).length ≤ L.length
  | _, [], _ => by rw [tok_nil]; exact Nat.le_refl _
  | 0, c :: r, h => by simp at h
  | n + 1, c :: r, h => by
    have hl : r.length ≤ n := by simpa using h
    cases hb : blank c with
    | true =>
      rw [tok_blank r hb, List.length_cons]
      have := tok_len n r hl
      omega
    | false =>
      rw [tok_cons r hb, List.length_cons, List.length_cons]
      have hp := elen_pos (c :: r)
      have := tok_len n ((c :: r).drop (elen (c :: r))) (by rw [List.length_drop, List.length_cons]; omega)
      rw [List.length_drop, List.length_cons] at this
      omega
theorem tok_mem_len : ∀ (n : Nat) (L : List Nat), L.length ≤ n → ∀ t ∈ tok L, t.length ≤ L.length
  | _, [], _, t, ht => by
    rw [tok_nil] at ht
    cases ht
  | 0, c :: r, h, _, _ => by simp at h
  | n + 1, c :: r, h, t, ht => by
    have hl : r.length ≤ n := by simpa using h
    rw [List.length_cons]
    cases hb : blank c with
    | true =>
      rw [tok_blank r hb] at ht
      have := tok_mem_len n r hl t ht
      omega
    | false =>
      rw [tok_cons r hb] at ht
      have hp := elen_pos (c :: r)
      rcases List.mem_cons.mp ht with e | ht
      · rw [e, List.length_take, List.length_cons]
        omega
      · have := tok_mem_len n ((c :: r).drop (elen (c :: r))) (by rw [List.length_drop, List.length_cons]; omega) t ht
        rw [List.length_drop, List.length_cons] at this
        omega
theorem tok_len_flat : ∀ W : List (List Nat), (W.flatMap tok).length ≤ W.flatten.length
  | [] => Nat.le_refl _
  | p :: W => by
    rw [List.flatMap_cons, List.flatten_cons, List.length_append, List.length_append]
    have h1 := tok_len p.length p (Nat.le_refl _)
    have h2 := tok_len_flat W
    omega
theorem acc_le (W : List (List Nat)) (i : Nat) (h : i < W.length) : ((W.take i).flatMap tok).length + W[i].length ≤ W.flatten.length := by
  have h1 := tok_len_flat (W.take i)
  have h2 : W.flatten = (W.take i).flatten ++ (W[i] ++ (W.drop (i + 1)).flatten) := by
    rw [← List.flatten_cons, ← List.drop_eq_getElem_cons h, ← List.flatten_append, List.take_append_drop]
  rw [h2, List.length_append, List.length_append]
  omega
theorem tok_blanks : ∀ (s r : List Nat), (∀ c ∈ s, blank c = true) → tok (s ++ r) = tok r
  | [], _, _ => rfl
  | c :: s, r, h => by
    rw [List.cons_append, tok_blank _ (h c List.mem_cons_self)]
    exact tok_blanks s r fun d hd => h d (List.mem_cons_of_mem _ hd)
theorem tok_sepS {t : List Nat} (h : isT t) {s : List Nat} (hs : s ≠ []) (hb : ∀ c ∈ s, blank c = true) (r : List Nat) : tok (t ++ s ++ r) = t :: tok r := by
  cases s with
  | nil => exact absurd rfl hs
  | cons c s =>
    rw [List.append_assoc, List.cons_append, tok_sep h (hb c List.mem_cons_self), tok_blanks s r fun d hd => hb d (List.mem_cons_of_mem _ hd)]
end Tk
/-! ### texts and lists of codes -/
open TL
abbrev mk (l : List Nat) : Str := ⟨l.toArray⟩
theorem tl_mk' (l : List Nat) : tl (mk l) = l := rfl
theorem mk_inj {a b : List Nat} : mk a = mk b ↔ a = b := ⟨fun h => by
  have e := congrArg tl h
  rwa [tl_mk', tl_mk'] at e, fun h => by rw [h]⟩
theorem cut_key (a b : Nat) (L : List Nat) : List.take (min b L.length - min a L.length) (L.drop (min a L.length)) = (L.drop a).take (b - a) := by
  by_cases h : a ≤ L.length
  · rw [Nat.min_eq_left h]
    by_cases h2 : b ≤ L.length
    · rw [Nat.min_eq_left h2]
    · rw [Nat.min_eq_right (show L.length ≤ b by omega), List.take_of_length_le (show (L.drop a).length ≤ b - a by rw [List.length_drop]; omega), List.take_of_length_le (show (L.drop a).length ≤ L.length - a by rw [List.length_drop]; omega)]
  · rw [Nat.min_eq_right (show L.length ≤ a by omega), List.drop_length, List.drop_eq_nil_of_le (show L.length ≤ a by omega), List.take_nil, List.take_nil]
theorem cut_nat (z : Str) (a b : Nat) : cutS z (some (a : Int)) (some (b : Int)) = mk (((tl z).drop a).take (b - a)) := by
  unfold cutS
  rw [HT.sIx_nat, HT.sIx_nat, len_tl]
  exact mk_inj.mpr (cut_key a b (tl z))
theorem cut_to (z : Str) (b : Nat) : cutS z none (some (b : Int)) = mk ((tl z).take b) := by
  have h := cut_key 0 b (tl z)
  rw [Nat.zero_min, Nat.sub_zero, List.drop_zero, Nat.sub_zero] at h
  unfold cutS
  rw [HT.sIx_none, HT.sIx_nat, len_tl, Nat.sub_zero]
  exact mk_inj.mpr h
theorem cut_from (z : Str) (a : Nat) : cutS z (some (a : Int)) none = mk ((tl z).drop a) := by
  have h := cut_nat z a z.length
  unfold cutS at h ⊢
  rw [HT.sIx_none]
  rw [HT.sIx_nat z.length z.length, Nat.min_self] at h
  rw [h]
  congr 2
  rw [List.take_of_length_le]
  rw [List.length_drop, len_tl]
  exact Nat.le_refl _
theorem sgn_eq {c k : Nat} {s : Str} (h : s = mk [k]) : (V.str ⟨#[c]⟩ = V.str s) ↔ c = k := by
  rw [h]
  constructor
  · intro e
    injection e with e
    have e2 : tl (mk [c]) = tl (mk [k]) := congrArg tl e
    rw [tl_mk', tl_mk'] at e2
    injection e2
  · rintro rfl
    rfl
theorem s_minus : Str.ofString "-" = mk [45] := by decide +kernel
theorem s_blank : Str.ofString " " = mk [32] := by decide +kernel
theorem s_feed : Str.ofString "\n" = mk [10] := by decide +kernel
def runS : Str := Str.ofString "abcdefghijklmnopqrstuvwxyzABCDEFGHIJKLMNOPQRSTUVWXYZ0123456789"
theorem runS_list : runS.cps.toList = [97,98,99,100,101,102,103,104,105,106,107,108,109,110,111,112,113,114,115,116,117,118,119,120,121,122,65,66,67,68,69,70,71,72,73,74,75,76,77,78,79,80,81,82,83,84,85,86,87,88,89,90,48,49,50,51,52,53,54,55,56,57] := by decide +kernel
theorem run_mem_iff (c : Nat) : decide (c ∈ runS.cps.toList) = Tk.run c := by
  rw [runS_list]
  by_cases h : c < 128
  · revert c
    decide +kernel
  · rw [decide_eq_false]
    · unfold Tk.run
      simp
      omega
    · intro z
      simp at z
      omega
def okc (c : Nat) : Bool := (decide (32 ≤ c) && decide (c ≤ 126)) || c == 10
theorem alnum_ok : ∀ c, okc c = true → Unicode.isAlnum c = Tk.run c := by
  have h : ∀ c, c < 127 → okc c = true → Unicode.isAlnum c = Tk.run c := by decide +kernel
  intro c hc
  refine h c ?_ hc
  unfold okc at hc
  simp at hc
  omega
theorem space_ok : ∀ c, okc c = true → Unicode.isSpace c = Tk.blank c := by
  have h : ∀ c, c < 127 → okc c = true → Unicode.isSpace c = Tk.blank c := by decide +kernel
  intro c hc
  refine h c ?_ hc
  unfold okc at hc
  simp at hc
  omega
theorem foldl_words : ∀ (L : List Nat), (∀ c ∈ L, okc c = true) → ∀ (A : List Str) (p : Str), (∀ c ∈ tl p, Tk.blank c = false) → KWd.fin (L.foldl KWd.step (A, p)) = A ++ (Tk.lw (tl p) L).map mk
  | [], _, A, p, _ => by
    show KWd.fin (A, p) = A ++ (if tl p = [] then [] else [tl p]).map mk
    unfold KWd.fin
    show (if p.length = 0 then A else A ++ [p]) = _
    rw [len_tl]
    by_cases h : tl p = []
    · rw [if_pos (by rw [h]; rfl), if_pos h]
      simp
    · rw [if_neg (fun z => h (List.length_eq_zero_iff.mp z)), if_neg h]
      show A ++ [p] = A ++ [mk (tl p)]
      rw [show mk (tl p) = p from mk_tl p]
  | c :: r, hok, A, p, hp => by
    have hc := hok c List.mem_cons_self
    have hr : ∀ d ∈ r, okc d = true := fun d hd => hok d (List.mem_cons_of_mem _ hd)
    rw [List.foldl_cons]
    show _ = A ++ (if Tk.blank c = true then (if tl p = [] then Tk.lw [] r else tl p :: Tk.lw [] r) else Tk.lw (tl p ++ [c]) r).map mk
    unfold KWd.step
    rw [space_ok c hc]
    show KWd.fin (List.foldl KWd.step (if Tk.blank c = true then (if p.length = 0 then (A, p) else (A ++ [p], Str.empty)) else (A, p ++ ⟨#[c]⟩)) r) = _
    cases hb : Tk.blank c with
    | true =>
      rw [if_pos rfl, if_pos rfl, len_tl]
      by_cases h : tl p = []
      · rw [if_pos (by rw [h]; rfl), if_pos h, foldl_words r hr A p hp, h]
      · rw [if_neg (fun z => h (List.length_eq_zero_iff.mp z)), if_neg h, foldl_words r hr (A ++ [p]) Str.empty (fun c h => by cases h)]
        show A ++ [p] ++ (Tk.lw [] r).map mk = A ++ (mk (tl p) :: (Tk.lw [] r).map mk)
        rw [show mk (tl p) = p from mk_tl p, List.append_assoc]
        rfl
    | false =>
      rw [if_neg Bool.false_ne_true, if_neg Bool.false_ne_true]
      have e : tl (p ++ ⟨#[c]⟩) = tl p ++ [c] := tl_append p ⟨#[c]⟩
      rw [foldl_words r hr A (p ++ ⟨#[c]⟩) (fun d hd => by
        rw [e] at hd
        rcases List.mem_append.mp hd with h | h
        · exact hp d h
        · rw [List.mem_singleton.mp h]
          exact hb), e]
theorem words_list {z : Str} (h : ∀ c ∈ tl z, okc c = true) : Txt.words z = (Tk.lw [] (tl z)).map mk := by
  rw [KWd.words_scan]
  unfold KWd.scan
  have := foldl_words (tl z) h [] Str.empty (fun c h => by cases h)
  rw [List.nil_append] at this
  exact this
theorem alnum_list {l : List Nat} (h : ∀ c ∈ l, okc c = true) : Txt.isalnum (mk l) = (decide (0 < l.length) && l.all Tk.run) := by
  have e : l.toArray.all Unicode.isAlnum = l.all Unicode.isAlnum := List.all_toArray
  show (decide (l.toArray.size > 0) && l.toArray.all Unicode.isAlnum) = _
  rw [e]
  congr 1
  rw [Bool.eq_iff_iff, List.all_eq_true, List.all_eq_true]
  constructor
  · intro k c hc
    rw [← alnum_ok c (h c hc)]
    exact k c hc
  · intro k c hc
    rw [alnum_ok c (h c hc)]
    exact k c hc
abbrev toVs (l : List (List Nat)) : List V := l.map fun t => V.str (mk t)
theorem toVs_eq (l : List (List Nat)) : toVs l = (l.map mk).map V.str := by rw [List.map_map]; rfl
theorem seq_by {t u : TS} {D : Ends} {σ : L2.St} {H : Hp} (Pv : L2.St → Hp → Prop) (h1 : ∀ nx' : L2.St → Hp → Prop, (∀ σ H, Pv σ H → nx' σ H) → t { D with nx := nx' } σ H) (h2 : ∀ σ H, Pv σ H → u D σ H) : tSeq t u D σ H := h1 (u D) h2
theorem seq_nx {t u : TS} {D D' : Ends} {σ : L2.St} {H : Hp} (e : D'.nx = tSeq t u D) (Pv : L2.St → Hp → Prop) (h1 : ∀ nx' : L2.St → Hp → Prop, (∀ σ H, Pv σ H → nx' σ H) → t { D with nx := nx' } σ H) (h2 : ∀ σ H, Pv σ H → u D σ H) : D'.nx σ H := by
  rw [e]
  exact h1 (u D) h2
theorem ifCi {c : Bool} {i j : Int} {σ : L2.St} {H : Hp} {Q : VK} (h : ∀ m : Int, m = i ∨ m = j → Q (.int m) H) : if c = true then tC (.int i) σ H Q else tC (.int j) σ H Q := by
  split
  · exact h _ (.inl rfl)
  · exact h _ (.inr rfl)
abbrev s_tokens_of : Stmt := topS 3
theorem sc_tokens_of : FnScope ["text", "tokens", "at", "end"] ["text"] (defScope s_tokens_of) := ⟨rfl, rfl, rfl, by decide +kernel, rfl, by decide +kernel, by decide +kernel⟩
abbrev s_end_of : Stmt := topS 4
theorem sc_end_of : FnScope ["text", "at", "begin", "end"] ["text", "at"] (defScope s_end_of) := ⟨rfl, rfl, rfl, by decide +kernel, rfl, by decide +kernel, by decide +kernel⟩
abbrev s_begin : Stmt := topS 6
theorem sc_begin : FnScope ["_law_script"] ["_law_script"] (defScope s_begin) := ⟨rfl, rfl, rfl, by decide +kernel, rfl, by decide +kernel, by decide +kernel⟩
abbrev s_mix : Stmt := topS 7
theorem sc_mix : FnScope ["_law_d", "_law_number", "_law_word"] ["_law_d", "_law_number"] (defScope s_mix) := ⟨rfl, rfl, rfl, by decide +kernel, rfl, by decide +kernel, by decide +kernel⟩
abbrev s_draw : Stmt := topS 8
theorem sc_draw : FnScope ["_law_d", "_law_many", "_law_cell", "_law_left", "_law_digit"] ["_law_d", "_law_many"] (defScope s_draw) := ⟨rfl, rfl, rfl, by decide +kernel, rfl, by decide +kernel, by decide +kernel⟩
abbrev s_start : Stmt := topS 9
theorem sc_start : FnScope ["_law_script", "_law_room", "_law_fronts"] ["_law_script", "_law_room", "_law_fronts"] (defScope s_start) := ⟨rfl, rfl, rfl, by decide +kernel, rfl, by decide +kernel, by decide +kernel⟩
abbrev s_exact : Stmt := topS 10
theorem sc_exact : FnScope ["_law_told", "_law_due", "_law_k"] ["_law_told", "_law_due"] (defScope s_exact) := ⟨rfl, rfl, rfl, by decide +kernel, rfl, by decide +kernel, by decide +kernel⟩
abbrev s_is_token : Stmt := topS 11
theorem sc_is_token : FnScope ["_law_piece", "_law_body"] ["_law_piece"] (defScope s_is_token) := ⟨rfl, rfl, rfl, by decide +kernel, rfl, by decide +kernel, by decide +kernel⟩
abbrev s_tokens : Stmt := topS 12
theorem sc_tokens : FnScope ["_law_text", "_law_found", "_law_word", "_law_at", "_law_size"] ["_law_text"] (defScope s_tokens) := ⟨rfl, rfl, rfl, by decide +kernel, rfl, by decide +kernel, by decide +kernel⟩
abbrev s_parted : Stmt := topS 13
theorem sc_parted : FnScope ["_law_d", "_law_tokens_here", "_law_text", "_law_token"] ["_law_d", "_law_tokens_here"] (defScope s_parted) := ⟨rfl, rfl, rfl, by decide +kernel, rfl, by decide +kernel, by decide +kernel⟩
abbrev s_wild : Stmt := topS 14
theorem sc_wild : FnScope ["_law_d", "_law_common", "_law_signs", "_law_text", "_law_opened", "_law_k", "_law_shape", "_law_piece"] ["_law_d"] (defScope s_wild) := ⟨rfl, rfl, rfl, by decide +kernel, rfl, by decide +kernel, by decide +kernel⟩
abbrev s_law : Stmt := topS 15
theorem sc_law : FnScope ["_law_script", "_law_d", "_law_text", "_law_other", "_law_due"] ["_law_script"] (defScope s_law) := ⟨rfl, rfl, rfl, by decide +kernel, rfl, by decide +kernel, by decide +kernel⟩
section
variable {P : Program} {w : World} {K : PySem.W.Frag} {mg : Str → Option Value} {base : Heap}
theorem ok_mix (D : Df K mg "_law_mix" s_mix) (m_int : mg "int" = none) : Cal P w K mg base "_law_mix" 1 ["_law_d", "_law_number"] spMix := by
  obtain ⟨f, fd, F, g⟩ := D
  refine ⟨f, fd, g, F.kp, F.bindsN fun _ _ _ _ _ _ us hl => match us, hl with | [_, _], _ => rfl, ?_⟩
  refine F.ok sc_mix (fun vs H Q E h => ?_) (fun cdv A outer s H vs Q E hr h => ?_)
  · obtain ⟨d, x, y, z, st, n, k, rest, rfl, _⟩ := h
    rfl
  · obtain ⟨d, x, y, z, st, n, k, rest, rfl, hd, q⟩ := h
    refine ⟨_, pss_cons (ps_asg (pe_op op_add (pe_ix ix_list (pv 0) pe_int (fun _ _ => rfl)) pe_int) (pg_sub (pv 0) pe_int set_list))
      (pss_cons (ps_set (i := 2) sc_mix.nd rfl (.inl rfl) (pe_op op_mod (pe_callTy call_int1 (by rfl) m_int (by decide +kernel) (pa_cons (pe_op op_add (pe_op op_add (pe_op op_add (pe_op op_mul (pe_ix ix_list (pv 0) pe_int (fun _ _ => rfl)) pe_int) (pe_op op_mul (pv 1) pe_int)) (pe_op op_mul (pe_ix ix_list (pv 0) pe_int (fun _ _ => rfl)) pe_int)) pe_int) pa_nil)) pe_int))
      (pss_cons (ps_set (i := 2) sc_mix.nd rfl (.inl rfl) (pe_op op_mod (pe_callTy call_int1 (by rfl) m_int (by decide +kernel) (pa_cons (pe_op op_add (pe_op op_mul (pe_op op_xor (pv 2) (pe_op op_shr (pv 2) pe_int)) pe_int) (pe_op op_mul (pe_ix ix_list (pv 0) pe_int (fun _ _ => rfl)) pe_int)) pa_nil)) pe_int))
      (pss_cons (ps_set (i := 2) sc_mix.nd rfl (.inl rfl) (pe_op op_mod (pe_callTy call_int1 (by rfl) m_int (by decide +kernel) (pa_cons (pe_op op_add (pe_op op_mul (pe_op op_xor (pv 2) (pe_op op_shr (pv 2) pe_int)) pe_int) pe_int) pa_nil)) pe_int))
      (pss_one (ps_asg (pe_op op_xor (pv 2) (pe_op op_shr (pv 2) pe_int)) (pg_sub (pv 0) pe_int set_list)))))), ?_⟩
    refine ⟨_, rfl, d, _, 4, _, rfl, rfl, SqL.of hd, atI_nat (j := 4) rfl, _, _, rfl, rfl, _, rfl, d, _, 4, 4, rfl, rfl, hd, ixN_k (by simp), ?_⟩
    have h1 : upd H d (.lst (x :: y :: z :: .int st :: .int (n + 1) :: rest)) d = some (.lst (x :: y :: z :: .int st :: .int (n + 1) :: rest)) := upd_same
    refine ⟨_, rfl, d, _, 3, _, rfl, rfl, SqL.of h1, atI_nat (j := 3) rfl, _, _, rfl, rfl, .inr (by decide), _, rfl, _, _, rfl, rfl, .inr (by decide), _, _, rfl, rfl, _, rfl, d, _, 4, _, rfl, rfl, SqL.of h1, atI_nat (j := 4) rfl, _, _, rfl, rfl, .inr (by decide), _, _, rfl, rfl, _, _, rfl, rfl, .inl ⟨_, rfl, _, _, rfl, rfl, (by show (0:Int) < _; decide), ?_⟩⟩
    refine ⟨_, rfl, _, rfl, _, _, rfl, rfl, (by show (0:Int) ≤ _; decide), _, _, rfl, rfl, _, _, rfl, rfl, .inr (by decide), _, rfl, d, _, 4, _, rfl, rfl, SqL.of h1, atI_nat (j := 4) rfl, _, _, rfl, rfl, .inr (by decide), _, _, rfl, rfl, .inl ⟨_, rfl, _, _, rfl, rfl, (by show (0:Int) < _; decide), ?_⟩⟩
    refine ⟨_, rfl, _, rfl, _, _, rfl, rfl, (by show (0:Int) ≤ _; decide), _, _, rfl, rfl, _, _, rfl, rfl, .inr (by decide), _, _, rfl, rfl, .inl ⟨_, rfl, _, _, rfl, rfl, (by show (0:Int) < _; decide), ?_⟩⟩
    refine ⟨_, rfl, _, rfl, _, _, rfl, rfl, (by show (0:Int) ≤ _; decide), _, _, rfl, rfl, _, rfl, d, _, 3, 3, rfl, rfl, h1, ixN_k (by simp), ?_⟩
    show Q .non (upd (upd H d _) d (.lst (x :: y :: z :: .int _ :: .int _ :: rest)))
    rw [upd_upd]
    exact q _ _
theorem dr_ne {l : Addr} {ns : List Int} {x : V} {a : Addr} {rest : List V} : HO.lst (ns.map V.int) ≠ .lst (.ref a :: x :: rest) := by
  intro z
  cases ns with
  | nil => cases z
  | cons n ns => cases z
theorem ok_draw (D : Df K mg "_law_draw" s_draw) (C_mix : Cal P w K mg base "_law_mix" 1 ["_law_d", "_law_number"] spMix) (m_int : mg "int" = none) (m_len : mg "len" = none) (m_abs : mg "abs" = none) (m_divmod : mg "divmod" = none) :
    Cal P w K mg base "_law_draw" 2 ["_law_d", "_law_many"] spDraw := by
  obtain ⟨f, fd, F, g⟩ := D
  obtain ⟨f_mix, fd_mix, g_mix, k_mix, b_mix, G_mix⟩ := C_mix
  refine ⟨f, fd, g, F.kp, F.bindsN fun _ _ _ _ _ _ us hl => match us, hl with | [_, _], _ => rfl, ?_⟩
  refine F.ok sc_draw (fun vs H Q E h => ?_) (fun cdv A outer s H vs Q E hr h => ?_)
  · obtain ⟨d, k, rest, rfl, _⟩ := h
    rfl
  · obtain ⟨d, k, rest, rfl, k0, k1, ⟨l, ns, a, big, st, n, hd, hl, hlen⟩, q⟩ := h
    have hne : l ≠ d := ne_of hl hd (dr_ne (l := l))
    refine ⟨_, pss_cons (ps_if (PW.pt (pw_and (pt_cmpR op_eq (pe_ix ix_list (pv 0) pe_int (fun _ _ => rfl)) pe_int (nomark _)) (pw_and1 (pt_cmpR op_lt (pe_ix ix_list (pv 0) pe_int (fun _ _ => rfl)) (pe_callB call_len (by rfl) m_len (by decide +kernel) (pa_cons (pe_ix ix_list (pv 0) pe_int (fun _ _ => rfl)) pa_nil)) (nomark _)))))
      (pss_cons (ps_set (i := 2) sc_draw.nd rfl (.inl rfl) (pe_op op_and (pe_callB call_abs (by rfl) m_abs (by decide +kernel) (pa_cons (pe_ix ix_list (pe_ix ix_list (pv 0) pe_int (fun _ _ => rfl)) (pe_ix ix_list (pv 0) pe_int (fun _ _ => rfl)) (fun _ _ => rfl)) pa_nil)) (pe_op op_sub (pe_op op_shl pe_int pe_int) pe_int)))
        (pss_cons (ps_expr (pe_call G_mix (hr.mono (by decide)) (by rfl) g_mix k_mix b_mix .nil pass0 (pa_cons (pv 0) (pa_cons (pe_op op_add (pe_op op_mul pe_int (pv 2)) (pe_ifExp (pt_cmpR op_lt (pe_ix ix_list (pe_ix ix_list (pv 0) pe_int (fun _ _ => rfl)) (pe_ix ix_list (pv 0) pe_int (fun _ _ => rfl)) (fun _ _ => rfl)) pe_int (nomark _)) pe_int pe_int)) pa_nil))))
        (pss_cons (ps_asg (pe_op op_add (pe_ix ix_list (pv 0) pe_int (fun _ _ => rfl)) pe_int) (pg_sub (pv 0) pe_int set_list))
        (pss_one (ps_asg (pe_ifExp (pt_cmpR op_ge (pv 2) pe_int (nomark _)) (pv 2) pe_int) (pg_sub (pv 0) pe_int set_list))))))
      (pss_nil))
      (pss_cons (ps_if (pt_cmpR op_gt (pe_ix ix_list (pv 0) pe_int (fun _ _ => rfl)) pe_int (nomark _))
      (pss_cons (ps_asg (pe_callB call_divmod (by rfl) m_divmod (by decide +kernel) (pa_cons (pe_ix ix_list (pv 0) pe_int (fun _ _ => rfl)) (pa_cons (pv 1) pa_nil))) (pg_tup (by rfl) (pgs_cons (pg_name (i := 3) sc_draw.nd rfl (.inl rfl)) (pgs_cons (pg_name (i := 4) sc_draw.nd rfl (.inl rfl)) pgs_nil))))
        (pss_cons (ps_asg (pv 3) (pg_sub (pv 0) pe_int set_list))
        (pss_one (ps_ret (pv 4)))))
      (pss_nil))
      (pss_cons (ps_expr (pe_call G_mix (hr.mono (by decide)) (by rfl) g_mix k_mix b_mix .nil pass0 (pa_cons (pv 0) (pa_cons (pv 1) pa_nil))))
      (pss_one (ps_ret (pe_op op_mod (pe_callTy call_int1 (by rfl) m_int (by decide +kernel) (pa_cons (pe_op op_shr (pe_ix ix_list (pv 0) pe_int (fun _ _ => rfl)) pe_int) pa_nil)) (pv 1)))))), ?_⟩
    refine seq_by (fun σ' H' => ∃ y a' big' st' n', σ' = [some (.ref d), some (.int k), y, none, none] ∧ H' d = some (.lst (.ref l :: .int ((a' : Nat) : Int) :: .int big' :: .int st' :: .int n' :: rest)) ∧ Chg d H H') (fun nx hnx => ?_) (fun σ' H' h => ?_)
    · refine ⟨_, rfl, d, _, 2, _, rfl, rfl, SqL.of hd, atI_nat (j := 2) rfl, rfl, _, rfl, ite2 (fun e => ?_) (fun e => iteF (hnx _ _ ⟨none, a, big, st, n, rfl, hd, Chg.refl _ _⟩))⟩
      refine ⟨_, rfl, d, _, 1, _, rfl, rfl, SqL.of hd, atI_nat (j := 1) rfl, _, rfl, d, _, 0, _, rfl, rfl, SqL.of hd, atI_nat (j := 0) rfl, _, _, rfl, .inl ⟨_, SqL.of hl, rfl⟩, _, _, rfl, rfl, _, rfl, ite2 (fun e2 => ?_) (fun e2 => hnx _ _ ⟨none, a, big, st, n, rfl, hd, Chg.refl _ _⟩)⟩
      have e3 := of_decide_eq_true e2
      rw [List.length_map] at e3
      have ha : a < ns.length := by omega
      have hx : (ns.map V.int)[a]? = some (.int ns[a]) := by
        rw [List.getElem?_map, List.getElem?_eq_getElem ha]
        rfl
      refine ⟨_, rfl, d, _, 0, _, rfl, rfl, SqL.of hd, atI_nat (j := 0) rfl, _, rfl, d, _, 1, _, rfl, rfl, SqL.of hd, atI_nat (j := 1) rfl, l, _, _, _, rfl, rfl, SqL.of hl, atI_nat hx, _, rfl, _, _, rfl, rfl, ⟨by decide, by decide, by decide⟩, _, _, rfl, rfl, _, _, rfl, rfl, ?_⟩
      refine ⟨_, rfl, _, rfl, _, _, rfl, rfl, .inl (by decide), _, rfl, d, _, 0, _, rfl, rfl, SqL.of hd, atI_nat (j := 0) rfl, _, rfl, d, _, 1, _, rfl, rfl, SqL.of hd, atI_nat (j := 1) rfl, l, _, _, _, rfl, rfl, SqL.of hl, atI_nat hx, _, _, rfl, rfl, _, rfl, ifCi fun m _ => ?_⟩
      refine ⟨_, _, rfl, rfl, d, _, _, _, _, _, _, rest, rfl, hd, fun st1 n1 => ?_⟩
      have h1 : upd H d (HO.lst (V.ref l :: V.int (a : Int) :: .int big :: .int st1 :: .int n1 :: rest)) d = some (.lst (.ref l :: .int (a : Int) :: .int big :: .int st1 :: .int n1 :: rest)) := upd_same
      refine ⟨_, rfl, d, _, 1, _, rfl, rfl, SqL.of h1, atI_nat (j := 1) rfl, _, _, rfl, rfl, _, rfl, d, _, 1, 1, rfl, rfl, h1, ixN_k (by simp), ?_⟩
      have h2 : upd (upd H d (HO.lst (V.ref l :: V.int (a : Int) :: V.int big :: V.int st1 :: V.int n1 :: rest))) d (HO.lst (V.ref l :: .int ((a : Int) + 1) :: .int big :: .int st1 :: .int n1 :: rest)) d = some (.lst (.ref l :: .int ((a : Int) + 1) :: .int big :: .int st1 :: .int n1 :: rest)) := upd_same
      refine ⟨_, rfl, _, _, rfl, rfl, _, rfl, ite2 (fun e4 => ?_) (fun e4 => ?_)⟩
      · refine ⟨_, rfl, _, rfl, d, _, 2, 2, rfl, rfl, h2, ixN_k (by simp), ?_⟩
        exact hnx _ _ ⟨_, a + 1, _, _, _, rfl, upd_same, ((Chg.upd _ _ _).trans (Chg.upd _ _ _)).trans (Chg.upd _ _ _)⟩
      · refine ⟨_, rfl, d, _, 2, 2, rfl, rfl, h2, ixN_k (by simp), ?_⟩
        exact hnx _ _ ⟨_, a + 1, _, _, _, rfl, upd_same, ((Chg.upd _ _ _).trans (Chg.upd _ _ _)).trans (Chg.upd _ _ _)⟩
    · obtain ⟨y, a1, big1, st1, n1, rfl, hd1, c1⟩ := h
      have hl1 := c1 _ _ hne hl
      refine ⟨_, rfl, d, _, 2, _, rfl, rfl, SqL.of hd1, atI_nat (j := 2) rfl, _, _, rfl, rfl, _, rfl, ite2 (fun e => ?_) (fun e => ?_)⟩
      · refine ⟨_, rfl, d, _, 2, _, rfl, rfl, SqL.of hd1, atI_nat (j := 2) rfl, _, rfl, _, _, rfl, ⟨k0, k1⟩, fun p hp => ?_⟩
        have hpd : d ≠ p := ne_of_none hd1 hp
        have hd2 : upd H' p (.tup [.int (big1 / k), .int (big1 % k)]) d = some (.lst (.ref l :: .int ((a1 : Nat) : Int) :: .int big1 :: .int st1 :: .int n1 :: rest)) := by
          rw [upd_ne hpd]
          exact hd1
        refine ⟨p, _, rfl, SqT.of upd_same, rfl, _, _, rfl, _, _, rfl, rfl, ?_⟩
        refine ⟨_, rfl, _, rfl, d, _, 2, 2, rfl, rfl, hd2, ixN_k (by simp), _, rfl, ?_⟩
        have c2 : Chg d H' (upd H' p (.tup [.int (big1 / k), .int (big1 % k)])) := Chg.new hp
        refine q _ _ (Int.emod_nonneg _ (by omega)) (Int.emod_lt_of_pos _ k0) ⟨l, ns, a1, _, _, _, upd_same, ?_, hlen⟩ ((c1.trans c2).trans (Chg.upd _ _ _))
        exact ((c1.trans c2).trans (Chg.upd _ _ _)) _ _ hne hl
      · refine ⟨_, rfl, _, rfl, d, _, _, _, _, _, _, rest, rfl, hd1, fun st2 n2 => ?_⟩
        refine ⟨_, rfl, d, _, 3, _, rfl, rfl, SqL.of upd_same, atI_nat (j := 3) rfl, _, _, rfl, rfl, (by show (0:Int) ≤ _; decide), .inl ⟨_, rfl, _, rfl, _, _, rfl, rfl, k0, ?_⟩⟩
        refine q _ _ (Int.emod_nonneg _ (by omega)) (Int.emod_lt_of_pos _ k0) ⟨l, ns, a1, _, _, _, upd_same, ?_, hlen⟩ (c1.trans (Chg.upd _ _ _))
        exact (c1.trans (Chg.upd _ _ _)) _ _ hne hl
theorem ok_begin (D : Df K mg "_law_begin" s_begin) (m_list : mg "list" = none) : Cal P w K mg base "_law_begin" 1 ["_law_script"] (spBegin K) := by
  obtain ⟨f, fd, F, g⟩ := D
  refine ⟨f, fd, g, F.kp, F.bindsN fun _ _ _ _ _ _ us hl => match us, hl with | [_], _ => rfl, ?_⟩
  refine F.ok sc_begin (fun vs H Q E h => ?_) (fun cdv A outer s H vs Q E hr h => ?_)
  · obtain ⟨a, ns, rfl, _⟩ := h
    rfl
  · obtain ⟨a, ns, rfl, ha, hn, q⟩ := h
    refine ⟨_, pss_one (ps_ret (pe_lst (pa_cons (pe_callTy call_list_of (by rfl) m_list (by decide +kernel) (pa_cons (pv 0) pa_nil)) (pa_cons pe_int (pa_cons pe_int (pa_cons pe_int (pa_cons pe_int pa_nil))))))), ?_⟩
    refine ⟨_, rfl, a, _, rfl, .inl ha, fun l hl => ⟨by show 5 ≤ sizeLine; decide, fun d hd => ?_⟩⟩
    have hld : l ≠ d := ne_of_none upd_same hd
    have hd0 : H d = none := by
      rw [upd_ne hld.symm] at hd
      exact hd
    refine q _ _ ((same_upd hl).trans (same_upd hd)) hd0 ⟨l, ns, 0, 0, 271828, 0, upd_same, ?_, hn⟩
    rw [upd_ne hld]
    exact upd_same
theorem ok_start (D : Df K mg "_law_start" s_start) (C_begin : Cal P w K mg base "_law_begin" 1 ["_law_script"] (spBegin K)) : Cal P w K mg base "_law_start" 2 ["_law_script", "_law_room", "_law_fronts"] (spStart K) := by
  obtain ⟨f, fd, F, g⟩ := D
  obtain ⟨f_begin, fd_begin, g_begin, k_begin, b_begin, G_begin⟩ := C_begin
  refine ⟨f, fd, g, F.kp, F.bindsN fun _ _ _ _ _ _ us hl => match us, hl with | [_, _, _], _ => rfl, ?_⟩
  refine F.ok sc_start (fun vs H Q E h => ?_) (fun cdv A outer s H vs Q E hr h => ?_)
  · obtain ⟨a, ns, x, y, rfl, _⟩ := h
    rfl
  · obtain ⟨a, ns, x, y, rfl, ha, hn, q⟩ := h
    refine ⟨_, pss_one (ps_ret (pe_op op_cat (pe_call G_begin (hr.mono (by decide)) (by rfl) g_begin k_begin b_begin .nil pass0 (pa_cons (pv 0) pa_nil)) (pe_lst (pa_cons (pv 1) (pa_cons (pv 2) (pa_cons pe_int pa_nil)))))), ?_⟩
    refine ⟨_, rfl, a, ns, rfl, ha, hn, fun H1 d1 s1 n1 h1 => ?_⟩
    obtain ⟨l, ms, at_, big, st, n, h2, h3, h4⟩ := h1
    refine ⟨_, rfl, _, rfl, by show 3 ≤ sizeLine; decide, fun p hp => ?_⟩
    have e1 := same_upd (o := .lst [.int x, .int y, .int 0]) hp _ _ h2
    refine ⟨_, _, _, _, rfl, rfl, e1, upd_same, by show 8 ≤ sizeLine; decide, fun d hd => ?_⟩
    have sd := same_upd (o := .lst (.ref l :: .int (at_ : Int) :: .int big :: .int st :: .int n :: [.int x, .int y, .int 0])) hd
    refine q _ _ ((s1.trans (same_upd hp)).trans sd) ((s1.trans (same_upd hp)).free hd) ⟨l, ms, at_, big, st, n, upd_same, ?_, h4⟩
    exact sd _ _ (same_upd hp _ _ h3)
theorem ok_exact (D : Df K mg "_law_exact" s_exact) (m_isinstance : mg "isinstance" = none) (m_tuple : mg "tuple" = none) (m_len : mg "len" = none) (m_range : mg "range" = none) (m_str : mg "str" = none) (m_int : mg "int" = none) (m_bool : mg "bool" = none) :
    ∀ n : Nat, Cal P w K mg base "_law_exact" (n + 1) ["_law_told", "_law_due"] (spExact K n) := by
  obtain ⟨f, fd, F, g⟩ := D
  have B : Binds K fd ["_law_told", "_law_due"] [] := F.bindsN fun _ _ _ _ _ _ us hl => match us, hl with | [_, _], _ => rfl
  intro n
  refine ⟨f, fd, g, F.kp, B, ?_⟩
  have step : ∀ (n : Nat) (G : FnOk P w K mg base CX0 n f fd ["_law_told", "_law_due"] (spExact0 K n)), FnOk P w K mg base CX0 (n + 1) f fd ["_law_told", "_law_due"] (spExact0 K (n + 1)) := by
    intro n G_exact
    have g_exact := g
    have k_exact := F.kp
    have b_exact := B
    refine F.ok sc_exact (fun vs H Q E h => ?_) (fun cdv A outer s H vs Q E hr h => ?_)
    · obtain ⟨x, y, t, rfl, _⟩ := h
      rfl
    · obtain ⟨x, y, t, rfl, hx, hy, hle, q⟩ := h
      refine ⟨_, pss_cons (ps_if (pt_val (pe_callB call_isi (by rfl) m_isinstance (by decide +kernel) (pa_cons (pv 1) (pa_cons (pe_bltn (v := .ty "tuple") (by rfl) m_tuple (by decide +kernel) rfl) pa_nil))))
      (pss_cons (ps_if (PW.pt (pw_or (pt_not (pt_val (pe_callB call_isi (by rfl) m_isinstance (by decide +kernel) (pa_cons (pv 0) (pa_cons (pe_bltn (v := .ty "tuple") (by rfl) m_tuple (by decide +kernel) rfl) pa_nil))))) (pw_or1 (pt_cmpR op_ne (pe_callB call_len (by rfl) m_len (by decide +kernel) (pa_cons (pv 0) pa_nil)) (pe_callB call_len (by rfl) m_len (by decide +kernel) (pa_cons (pv 1) pa_nil)) (nomark _)))))
        (pss_one (ps_ret pe_bl))
        (pss_nil))
        (pss_cons (ps_for (passes_of rfl) rfl (pi_range1 (by rfl) m_range (pa_cons (pe_callB call_len (by rfl) m_len (by decide +kernel) (pa_cons (pv 1) pa_nil)) pa_nil)) (pg_name (i := 2) sc_exact.nd rfl (.inl rfl))
        (pss_one (ps_if (pt_not (pt_val (pe_call G_exact hr (by rfl) g_exact k_exact b_exact .nil pass0 (pa_cons (pe_ix ix_tup (pv 0) (pv 2) (fun _ _ => rfl)) (pa_cons (pe_ix ix_tup (pv 1) (pv 2) (fun _ _ => rfl)) pa_nil)))))
          (pss_one (ps_ret pe_bl))
          (pss_nil))))
        (pss_one (ps_ret pe_bl))))
      (pss_nil))
      (pss_cons (ps_if (pt_cmpR op_isN (pv 1) pe_non (nomark _))
      (pss_one (ps_ret (pe_cmpR op_isN (pv 0) pe_non (nomark _))))
      (pss_nil))
      (pss_cons (ps_if (pt_val (pe_callB call_isi (by rfl) m_isinstance (by decide +kernel) (pa_cons (pv 1) (pa_cons (pe_bltn (v := .ty "str") (by rfl) m_str (by decide +kernel) rfl) pa_nil))))
      (pss_one (ps_ret (pe_and (pe_callB call_isi (by rfl) m_isinstance (by decide +kernel) (pa_cons (pv 0) (pa_cons (pe_bltn (v := .ty "str") (by rfl) m_str (by decide +kernel) rfl) pa_nil))) (pe_one (pe_cmpR op_eq (pv 0) (pv 1) (nomark _))))))
      (pss_nil))
      (pss_one (ps_ret (pe_and (pe_callB call_isi (by rfl) m_isinstance (by decide +kernel) (pa_cons (pv 0) (pa_cons (pe_bltn (v := .ty "int") (by rfl) m_int (by decide +kernel) rfl) pa_nil))) (pe_and (pe_not (pe_callB call_isi (by rfl) m_isinstance (by decide +kernel) (pa_cons (pv 0) (pa_cons (pe_bltn (v := .ty "bool") (by rfl) m_bool (by decide +kernel) rfl) pa_nil)))) (pe_one (pe_cmpR op_eq (pv 0) (pv 1) (nomark _))))))))), ?_⟩
      cases t with
      | non =>
        obtain rfl : x = .non := hx
        obtain rfl : y = .non := hy
        refine ⟨_, rfl, _, _, _, _, false, rfl, .ty "tuple", .base .non, kit_ty (by decide +kernel), _, rfl, iteF ?_⟩
        refine ⟨_, rfl, rfl, _, rfl, iteT ?_⟩
        exact ⟨_, rfl, rfl, q⟩
      | str z =>
        obtain rfl : x = .str z := hx
        obtain rfl : y = .str z := hy
        refine ⟨_, rfl, _, _, _, _, false, rfl, .ty "tuple", .base (.str _), kit_ty (by decide +kernel), _, rfl, iteF ?_⟩
        refine ⟨_, rfl, rfl, _, rfl, iteF ?_⟩
        refine ⟨_, rfl, _, _, _, _, true, rfl, .ty "str", .base (.str _), kit_ty (by decide +kernel), _, rfl, iteT ?_⟩
        refine ⟨_, rfl, _, _, _, _, true, rfl, .ty "str", .base (.str _), kit_ty (by decide +kernel), _, rfl, iteT ?_⟩
        refine ⟨_, rfl, _, rfl, rfl, ?_⟩
        rw [decide_eq_true rfl]
        exact q
      | int z =>
        obtain rfl : x = .int z := hx
        obtain rfl : y = .int z := hy
        refine ⟨_, rfl, _, _, _, _, false, rfl, .ty "tuple", .base (.int _), kit_ty (by decide +kernel), _, rfl, iteF ?_⟩
        refine ⟨_, rfl, rfl, _, rfl, iteF ?_⟩
        refine ⟨_, rfl, _, _, _, _, false, rfl, .ty "str", .base (.int _), kit_ty (by decide +kernel), _, rfl, iteF ?_⟩
        refine ⟨_, rfl, _, _, _, _, true, rfl, .ty "int", .base (.int _), kit_ty (by decide +kernel), _, rfl, iteT ?_⟩
        refine ⟨_, rfl, _, _, _, _, false, rfl, .ty "bool", .base (.int _), kit_ty (by decide +kernel), _, rfl, _, rfl, iteT ?_⟩
        refine ⟨_, rfl, _, rfl, rfl, ?_⟩
        rw [decide_eq_true rfl]
        exact q
      | tup l =>
        obtain ⟨a, xs, rfl, ha, hxs⟩ := hx
        obtain ⟨b, ys, rfl, hb, hys⟩ := hy
        have lx := hxs.length
        have ly := hys.length
        refine ⟨_, rfl, _, _, _, _, true, rfl, .ty "tuple", tyx_tup hb, kit_ty (by decide +kernel), _, rfl, iteT ?_⟩
        refine ⟨_, rfl, _, _, _, _, true, rfl, .ty "tuple", tyx_tup ha, kit_ty (by decide +kernel), _, rfl, iteF ?_⟩
        refine ⟨_, rfl, _, _, rfl, .inr ⟨_, ha, rfl⟩, _, rfl, _, _, rfl, .inr ⟨_, hb, rfl⟩, rfl, _, rfl, iteNS (by rw [lx, ly]) ?_⟩
        obtain ⟨hlen, hall⟩ : l.length ≤ 1000000 ∧ ∃ m, n = m + 1 ∧ ∀ t ∈ l, T.le m t := by
          cases n with
          | zero => exact hle.elim
          | succ m => exact ⟨hle.1, m, rfl, hle.2⟩
        obtain ⟨m, rfl, hall⟩ := hall
        refine ⟨_, rfl, _, _, rfl, .inr ⟨_, hb, rfl⟩, _, rfl, by omega, by omega, for_range (n := ys.length) (fun i σ' H' => H' = H ∧ ∃ y, σ' = [some (.ref a), some (.ref b), y]) ⟨rfl, none, rfl⟩ (fun i σ' H' hi h => ?_) (fun σ' H' h => ?_)⟩
        · obtain ⟨rfl, y, rfl⟩ := h
          have hl : i < l.length := by omega
          obtain ⟨x1, ex, tx⟩ := hxs.get (List.getElem?_eq_getElem hl)
          obtain ⟨y1, ey, ty⟩ := hys.get (List.getElem?_eq_getElem hl)
          refine ⟨_, rfl, _, rfl, a, xs, _, x1, rfl, rfl, ha, by rw [Int.zero_add]; exact atI_nat ex, _, rfl, _, rfl, b, ys, _, y1, rfl, rfl, hb, by rw [Int.zero_add]; exact atI_nat ey, x1, y1, l[i], rfl, tx, ty, hall _ (List.getElem_mem hl), _, rfl, iteF ?_⟩
          exact ⟨rfl, _, rfl⟩
        · obtain ⟨rfl, y, rfl⟩ := h
          exact q
  induction n with
  | zero => exact step 0 ⟨fun _ _ _ _ h => h.elim, fun _ _ _ _ _ _ _ _ _ _ _ _ _ h => h.elim⟩
  | succ n ih => exact step (n + 1) ih
end
/-! ### the program's defs -/
theorem s_nil : Str.ofString "" = mk [] := by decide +kernel
theorem s_dots : Str.ofString ".." = mk [46, 46] := by decide +kernel
theorem s_le : Str.ofString "<=" = mk [60, 61] := by decide +kernel
theorem in_pairs (l : List Nat) : inV (.str (mk (l.take 2))) [V.str (Str.ofString ".."), V.str (Str.ofString "<=")] = Tk.tl2 l := by
  show ((Str.ofString ".." == mk (l.take 2)) || ((Str.ofString "<=" == mk (l.take 2)) || false)) = (l.take 2 == [46, 46] || l.take 2 == [60, 61])
  rw [s_dots, s_le, Bool.or_false, Bool.eq_iff_iff]
  simp only [Bool.or_eq_true, beq_iff_eq, mk_inj]
  constructor
  · rintro (h | h)
    · exact .inl h.symm
    · exact .inr h.symm
  · rintro (h | h)
    · exact .inl h.symm
    · exact .inr h.symm
theorem nrun_at {c : Nat} : ∀ {q : List Nat} {j : Nat}, j ≤ Tk.nrun q → q[j]? = some c → (Tk.run c = true ↔ j < Tk.nrun q)
  | [], _, _, h => by simp at h
  | d :: q, 0, _, h => by
    have e : d = c := by simpa using h
    rw [e, Tk.nrun_cons]
    split
    · rename_i hc
      rw [hc]
      exact ⟨fun _ => Nat.succ_pos _, fun _ => rfl⟩
    · rename_i hc
      exact ⟨fun z => absurd z hc, fun z => absurd z (Nat.lt_irrefl 0)⟩
  | d :: q, j + 1, hj, h => by
    rw [Tk.nrun_cons] at hj ⊢
    split at hj
    · rename_i hd
      rw [if_pos hd]
      have ih := nrun_at (q := q) (j := j) (by omega) (by simpa using h)
      rw [ih]
      omega
    · omega
theorem tl_get {z : Str} {i : Nat} (h : i < (tl z).length) : z.cps.toList[i]? = some (tl z)[i] := List.getElem?_eq_getElem h
theorem drop_at {L : List Nat} {i : Nat} (h : i < L.length) : L.drop i = L[i] :: L.drop (i + 1) := List.drop_eq_getElem_cons h
def spEnd : Sp := fun vs H Q _ => ∃ (z : Str) (i : Nat), vs = [.str z, .int (i : Int)] ∧ z.length ≤ sizeLine ∧ i < (tl z).length ∧ Q (.int ((i + Tk.elen ((tl z).drop i) : Nat) : Int)) H
def spTokensOf : Sp := fun vs H Q _ => ∃ z : Str, vs = [.str z] ∧ z.length ≤ 10000000 ∧ ∀ H' p, Same H H' → H p = none → H' p = some (.tup (toVs (Tk.tok (tl z)))) → Q (.ref p) H'
section
variable {P : Program} {w : World} {K : PySem.W.Frag} {mg : Str → Option Value} {base : Heap}
theorem ok_end_of (D : Df K mg "_end_of" s_end_of) (m_len : mg "len" = none) (gR : ∃ t, mg "RUNNING" = some (.str runS t)) {aP : Addr} (g_PAIRS : mg "PAIRS" = some (.ref aP)) (tP : ∀ H, SqT K H aP [.str (Str.ofString ".."), .str (Str.ofString "<=")]) :
    Cal P w K mg base "_end_of" 1 ["text", "at"] spEnd := by
  obtain ⟨f, fd, F, g⟩ := D
  obtain ⟨tR, g_RUNNING⟩ := gR
  have r_RUNNING : RelV (.str runS) (.str runS tR) := ⟨_, rfl⟩
  have r_PAIRS : RelV (.ref aP) (.ref aP) := rfl
  refine ⟨f, fd, g, F.kp, F.bindsN fun _ _ _ _ _ _ us hl => match us, hl with | [_, _], _ => rfl, ?_⟩
  refine F.ok sc_end_of (fun vs H Q E h => ?_) (fun cdv A outer s H vs Q E hr h => ?_)
  · obtain ⟨z, i, rfl, _⟩ := h
    rfl
  · obtain ⟨z, i, rfl, hz, hi, q⟩ := h
    refine ⟨_, pss_cons (ps_set (i := 2) sc_end_of.nd rfl (.inl rfl) (pe_ifExp (pt_cmpR op_eq (pe_ix ix_str (pv 0) (pv 1) (fun _ _ => rfl)) pe_str (nomark _)) (pe_op op_add (pv 1) pe_int) (pv 1)))
      (pss_cons (ps_set (i := 3) sc_end_of.nd rfl (.inl rfl) (pv 2))
      (pss_cons (ps_while (passes_of rfl) (PW.pt (pw_and (pt_cmpR op_lt (pv 3) (pe_callB call_len (by rfl) m_len (by decide +kernel) (pa_cons (pv 0) pa_nil)) (nomark _)) (pw_and1 (pt_cmpR op_in_sign (pe_ix ix_str (pv 0) (pv 3) (fun _ _ => rfl)) (pe_glob (by rfl) g_RUNNING r_RUNNING) rfl))))
      (pss_one (ps_aug (i := 3) sc_end_of.nd rfl (.inl rfl) pe_int ip_add)))
      (pss_cons (ps_if (pt_cmpR op_gt (pv 3) (pv 2) (nomark _))
      (pss_one (ps_ret (pv 3)))
      (pss_nil))
      (pss_cons (ps_if (pt_cmpR op_in_seq (pe_slice sl_str (pv 0) (po_some (pv 1)) (po_some (pe_op op_add (pv 1) pe_int))) (pe_glob (by rfl) g_PAIRS r_PAIRS) rfl)
      (pss_one (ps_ret (pe_op op_add (pv 1) pe_int)))
      (pss_nil))
      (pss_one (ps_ret (pe_op op_add (pv 1) pe_int))))))), ?_⟩
    have hd := drop_at hi
    have hbeg : Tk.beg ((tl z).drop i) = if (tl z)[i] = 45 then 1 else 0 := by
      rw [hd]
      rfl
    -- begin
    refine seq_by (fun σ' H' => H' = H ∧ σ' = [some (.str z), some (.int (i : Int)), some (.int ((i + Tk.beg ((tl z).drop i) : Nat) : Int)), none]) (fun nx hnx => ?_) (fun σ' H' h => ?_)
    · refine ⟨_, rfl, _, rfl, z, _, _, rfl, rfl, hz, atI_nat (tl_get hi), rfl, _, rfl, ite2 (fun e => ?_) (fun e => ?_)⟩
      · have e2 := (sgn_eq s_minus).mp (of_decide_eq_true e)
        refine ⟨_, rfl, _, _, rfl, rfl, ?_⟩
        refine hnx _ _ ⟨rfl, ?_⟩
        rw [hbeg, if_pos e2]
        rfl
      · have e2 : ¬ (tl z)[i] = 45 := fun z9 => e (decide_eq_true ((sgn_eq s_minus).mpr z9))
        refine ⟨_, rfl, ?_⟩
        refine hnx _ _ ⟨rfl, ?_⟩
        rw [hbeg, if_neg e2]
        rfl
    obtain ⟨rfl, rfl⟩ := h
    -- end = begin; the loop
    refine ⟨_, rfl, ?_⟩
    have hb := Tk.beg_le ((tl z).drop i)
    rw [List.length_drop] at hb
    have en : ((tl z).drop i).drop (Tk.beg ((tl z).drop i)) = (tl z).drop (i + Tk.beg ((tl z).drop i)) := List.drop_drop
    generalize hB : Tk.beg ((tl z).drop i) = b at hb en
    have hn := Tk.nrun_le ((tl z).drop (i + b))
    rw [List.length_drop] at hn
    have eL : Tk.elen ((tl z).drop i) = if 0 < Tk.nrun ((tl z).drop (i + b)) then b + Tk.nrun ((tl z).drop (i + b)) else if Tk.tl2 ((tl z).drop i) = true then 2 else 1 := by
      unfold Tk.elen
      rw [hB, en]
    generalize hN : Tk.nrun ((tl z).drop (i + b)) = n at hn eL
    show tSeq (tWhile _ _) _ _ _ _
    refine seq_by (fun σ' H'' => H'' = H' ∧ σ' = [some (.str z), some (.int (i : Int)), some (.int ((i + b : Nat) : Int)), some (.int ((i + b + n : Nat) : Int))]) (fun nx hnx => ?_) (fun σ' H'' h => ?_)
    · refine ⟨fun m σ' H'' => H'' = H' ∧ m ≤ n ∧ σ' = [some (.str z), some (.int (i : Int)), some (.int ((i + b : Nat) : Int)), some (.int ((i + b + (n - m) : Nat) : Int))], ⟨n, rfl, Nat.le_refl _, ?_⟩, fun m σ' H'' h => ?_⟩
      · rw [Nat.sub_self]
        rfl
      obtain ⟨rfl, hm, rfl⟩ := h
      refine ⟨_, rfl, _, rfl, _, _, rfl, ⟨hz, rfl⟩, _, _, rfl, rfl, _, rfl, ite2 (fun e => ?_) (fun e => ?_)⟩
      · have e1 := of_decide_eq_true e
        rw [len_tl] at e1
        have e2 : i + b + (n - m) < (tl z).length := by omega
        refine ⟨_, rfl, _, rfl, z, _, _, rfl, rfl, hz, atI_nat (tl_get e2), _, _, rfl, rfl, _, rfl, ?_⟩
        rw [run_mem_iff]
        have h3 := nrun_at (c := (tl z)[i + b + (n - m)]) (q := (tl z).drop (i + b)) (j := n - m) (by omega) (by rw [List.getElem?_drop, List.getElem?_eq_getElem e2])
        rw [hN] at h3
        refine ite2 (fun e4 => ?_) (fun e4 => ?_)
        · have h5 := h3.mp e4
          refine ⟨fun σ' H' => H' = H'' ∧ σ' = [some (.str z), some (.int (i : Int)), some (.int ((i + b : Nat) : Int)), some (.int ((i + b + (n - (m - 1)) : Nat) : Int))], fun σ' H' h => ?_, ?_⟩
          · obtain ⟨rfl, rfl⟩ := h
            exact ⟨m - 1, by omega, rfl, by omega, rfl⟩
          · refine ⟨_, rfl, _, _, rfl, rfl, rfl, ?_⟩
            have e6 : ((i + b + (n - m) : Nat) : Int) + 1 = ((i + b + (n - (m - 1)) : Nat) : Int) := by omega
            show [some (V.str z), some (.int (i : Int)), some (.int ((i + b : Nat) : Int)), some (V.int (((i + b + (n - m) : Nat) : Int) + 1))] = _
            rw [e6]
        · have h5 : ¬ n - m < n := fun z9 => e4 (h3.mpr z9)
          have e7 : n - m = n := by omega
          refine hnx _ _ ⟨rfl, ?_⟩
          rw [e7]
      · have e1 : ¬ ((i + b + (n - m) : Nat) : Int) < ((z.length : Nat) : Int) := fun z9 => e (decide_eq_true z9)
        rw [len_tl] at e1
        have e7 : n - m = n := by omega
        refine iteF (hnx _ _ ⟨rfl, ?_⟩)
        rw [e7]
    obtain ⟨rfl, rfl⟩ := h
    refine ⟨_, rfl, _, rfl, _, _, rfl, rfl, _, rfl, ite2 (fun e => ?_) (fun e => ?_)⟩
    · have e1 := of_decide_eq_true e
      have e2 : 0 < n := by omega
      rw [if_pos e2] at eL
      refine ⟨_, rfl, ?_⟩
      rw [eL, ← Nat.add_assoc] at q
      exact q
    · have e1 : ¬ ((i + b + n : Nat) : Int) > ((i + b : Nat) : Int) := fun z9 => e (decide_eq_true z9)
      have e2 : ¬ 0 < n := by omega
      rw [if_neg e2] at eL
      refine ⟨_, rfl, _, rfl, _, rfl, _, rfl, _, _, rfl, rfl, _, rfl, z, rfl, hz, aP, _, rfl, .inr (tP _), rfl, rfl, _, rfl, ?_⟩
      have ec : cutS z (some (i : Int)) (some ((i : Int) + 2)) = mk (((tl z).drop i).take 2) := by
        have e9 : (i : Int) + 2 = ((i + 2 : Nat) : Int) := by omega
        rw [e9, cut_nat, Nat.add_sub_cancel_left]
      show if inV (V.str (cutS z (some (i : Int)) (some ((i : Int) + 2)))) [V.str (Str.ofString ".."), V.str (Str.ofString "<=")] = true then _ else _
      rw [ec, in_pairs]
      refine ite2 (fun e3 => ?_) (fun e3 => ?_)
      · rw [if_pos e3] at eL
        refine ⟨_, rfl, _, _, rfl, rfl, ?_⟩
        rw [eL] at q
        exact q
      · rw [if_neg e3] at eL
        refine ⟨_, rfl, _, _, rfl, rfl, ?_⟩
        rw [eL] at q
        exact q
theorem ok_tokens_of (D : Df K mg "tokens_of" s_tokens_of) (C_end : Cal P w K mg base "_end_of" 1 ["text", "at"] spEnd) (m_len : mg "len" = none) (m_tuple : mg "tuple" = none) : Cal P w K mg base "tokens_of" 2 ["text"] spTokensOf := by
  obtain ⟨f, fd, F, g⟩ := D
  obtain ⟨f_end_of, fd_end_of, g_end_of, k_end_of, b_end_of, G_end_of⟩ := C_end
  refine ⟨f, fd, g, F.kp, F.bindsN fun _ _ _ _ _ _ us hl => match us, hl with | [_], _ => rfl, ?_⟩
  refine F.ok sc_tokens_of (fun vs H Q E h => ?_) (fun cdv A outer s H vs Q E hr h => ?_)
  · obtain ⟨z, rfl, _⟩ := h
    rfl
  · obtain ⟨z, rfl, hz, q⟩ := h
    refine ⟨_, pss_cons (ps_set (i := 1) sc_tokens_of.nd rfl (.inl rfl) (pe_lst pa_nil))
      (pss_cons (ps_set (i := 2) sc_tokens_of.nd rfl (.inl rfl) pe_int)
      (pss_cons (ps_while (passes_of rfl) (pt_cmpR op_lt (pv 2) (pe_callB call_len (by rfl) m_len (by decide +kernel) (pa_cons (pv 0) pa_nil)) (nomark _))
      (pss_cons (ps_set (i := 3) sc_tokens_of.nd rfl (.inl rfl) (pe_call G_end_of (hr.mono (by decide)) (by rfl) g_end_of k_end_of b_end_of .nil pass0 (pa_cons (pv 0) (pa_cons (pv 2) pa_nil))))
        (pss_cons (ps_if (PW.pt (pw_and (pt_cmpR op_ne (pe_ix ix_str (pv 0) (pv 2) (fun _ _ => rfl)) pe_str (nomark _)) (pw_and1 (pt_cmpR op_ne (pe_ix ix_str (pv 0) (pv 2) (fun _ _ => rfl)) pe_str (nomark _)))))
        (pss_one (ps_expr (pe_bm PySem.F.plainAttrs_list PySem.F.slot_list_append PySem.F.type_list_append mt_append (pv 1) (pa_cons (pe_slice sl_str (pv 0) (po_some (pv 2)) (po_some (pv 3))) pa_nil))))
        (pss_nil))
        (pss_one (ps_set (i := 2) sc_tokens_of.nd rfl (.inl rfl) (pv 3))))))
      (pss_one (ps_ret (pe_callTy call_tuple_of (by rfl) m_tuple (by decide +kernel) (pa_cons (pv 1) pa_nil)))))), ?_⟩
    have hzs : z.length ≤ sizeLine := Nat.le_trans hz (by rw [sizeLine_eq]; decide)
    have hzl : (tl z).length ≤ 10000000 := by rw [← len_tl]; exact hz
    refine ⟨Nat.zero_le _, fun o no => ?_⟩
    show tSeq (tWhile _ _) _ _ _ _
    refine seq_by (fun σ' H' => Same H H' ∧ H' o = some (.lst (toVs (Tk.tok (tl z)))) ∧ ∃ y2 y3, σ' = [some (.str z), some (.ref o), y2, y3]) (fun nx hnx => ?_) (fun σ' H' h => ?_)
    · refine ⟨fun m σ' H' => Same H H' ∧ ∃ (i : Nat) (done : List (List Nat)) (y3 : Option V), m = (tl z).length - i ∧ i ≤ (tl z).length ∧ done.length ≤ i ∧ Tk.tok (tl z) = done ++ Tk.tok ((tl z).drop i) ∧ H' o = some (.lst (toVs done)) ∧ σ' = [some (.str z), some (.ref o), some (.int (i : Int)), y3],
        ⟨_, same_upd no, 0, [], none, rfl, Nat.zero_le _, Nat.le_refl _, by rw [List.drop_zero]; rfl, upd_same, rfl⟩, fun m σ' H' h => ?_⟩
      obtain ⟨sm, i, done, y3, rfl, hi, hd, et, eo, rfl⟩ := h
      refine ⟨_, rfl, _, rfl, _, _, rfl, ⟨hzs, rfl⟩, _, _, rfl, rfl, _, rfl, ite2 (fun e => ?_) (fun e => ?_)⟩
      · have e1 := of_decide_eq_true e
        rw [len_tl] at e1
        have e2 : i < (tl z).length := by omega
        have hdr := drop_at e2
        have hpos := Tk.elen_pos ((tl z).drop i)
        have hle := Tk.elen_le (L := (tl z).drop i) (by rw [hdr]; simp)
        rw [List.length_drop] at hle
        refine ⟨fun σ' H' => Same H H' ∧ ∃ (done : List (List Nat)), done.length ≤ i + 1 ∧ Tk.tok (tl z) = done ++ Tk.tok ((tl z).drop (i + Tk.elen ((tl z).drop i))) ∧ H' o = some (.lst (toVs done)) ∧ σ' = [some (.str z), some (.ref o), some (.int ((i + Tk.elen ((tl z).drop i) : Nat) : Int)), some (.int ((i + Tk.elen ((tl z).drop i) : Nat) : Int))], fun σ' H' h => ?_, ?_⟩
        · obtain ⟨sm', done', hd', et', eo', rfl⟩ := h
          exact ⟨(tl z).length - (i + Tk.elen ((tl z).drop i)), by omega, sm', _, done', _, rfl, by omega, by omega, et', eo', rfl⟩
        -- end = _end_of(text, at)
        refine ⟨_, rfl, _, rfl, z, i, rfl, hzs, e2, ?_⟩
        dsimp only [gName]
        refine seq_by (fun σ' H' => Same H H' ∧ ∃ (done : List (List Nat)), done.length ≤ i + 1 ∧ Tk.tok (tl z) = done ++ Tk.tok ((tl z).drop (i + Tk.elen ((tl z).drop i))) ∧ H' o = some (.lst (toVs done)) ∧ σ' = [some (.str z), some (.ref o), some (.int (i : Int)), some (.int ((i + Tk.elen ((tl z).drop i) : Nat) : Int))]) (fun nx hnx => ?_) (fun σ' H' h => ?_)
        · have etb : Tk.blank (tl z)[i] = true → Tk.tok (tl z) = done ++ Tk.tok ((tl z).drop (i + Tk.elen ((tl z).drop i))) := fun hb => by
            have e5 : Tk.elen ((tl z).drop i) = 1 := by
              rw [hdr]
              exact Tk.elen_blank _ hb
            rw [e5, et, hdr, Tk.tok_blank _ hb]
          have etn : Tk.blank (tl z)[i] = false → Tk.tok (tl z) = (done ++ [((tl z).drop i).take (Tk.elen ((tl z).drop i))]) ++ Tk.tok ((tl z).drop (i + Tk.elen ((tl z).drop i))) := fun hb => by
            have e6 := Tk.tok_cons ((tl z).drop (i + 1)) hb
            rw [← hdr] at e6
            rw [et, e6, List.append_assoc, List.drop_drop]
            rfl
          refine ⟨_, rfl, _, rfl, z, _, _, rfl, rfl, hzs, atI_nat (tl_get e2), rfl, _, rfl, ?_⟩
          refine ite2 (fun e3 => ?_) (fun e3 => iteF (hnx _ _ ⟨sm, done, by omega, etb ?_, eo, rfl⟩))
          · refine ⟨_, rfl, _, rfl, z, _, _, rfl, rfl, hzs, atI_nat (tl_get e2), rfl, _, rfl, ?_⟩
            refine ite2 (fun e4 => ?_) (fun e4 => hnx _ _ ⟨sm, done, by omega, etb ?_, eo, rfl⟩)
            · have hb : Tk.blank (tl z)[i] = false := by
                unfold Tk.blank
                simp only [Bool.or_eq_false_iff, beq_eq_false_iff_ne]
                constructor
                · intro z9
                  rw [decide_eq_true ((sgn_eq s_blank).mpr z9)] at e3
                  cases e3
                · intro z9
                  rw [decide_eq_true ((sgn_eq s_feed).mpr z9)] at e4
                  cases e4
              refine ⟨_, rfl, .inl ⟨rfl, _, SqL.of eo⟩, _, rfl, _, rfl, _, rfl, _, rfl, _, rfl, z, rfl, hzs, o, _, _, rfl, rfl, eo, ?_, ?_⟩
              · rw [List.length_map]
                exact Nat.lt_of_le_of_lt (Nat.le_trans hd (by omega : i ≤ 10000000)) (by rw [sizeLine_eq]; decide)
              · refine hnx _ _ ⟨fun b x e => ?_, done ++ [((tl z).drop i).take (Tk.elen ((tl z).drop i))], by rw [List.length_append, List.length_singleton]; omega, etn hb, ?_, rfl⟩
                · rw [upd_ne (ne_of_none e no)]
                  exact sm _ _ e
                · rw [upd_same, cut_nat, Nat.add_sub_cancel_left]
                  show some (HO.lst _) = some (HO.lst _)
                  rw [toVs, toVs, List.map_append]
                  rfl
            · have z9 := (sgn_eq s_feed).mp (Classical.byContradiction fun k => e4 (by rw [decide_eq_false k]; rfl))
              unfold Tk.blank
              rw [z9]
              rfl
          · have z9 := (sgn_eq s_blank).mp (Classical.byContradiction fun k => e3 (by rw [decide_eq_false k]; rfl))
            unfold Tk.blank
            rw [z9]
            rfl
        · obtain ⟨sm', done', hd', et', eo', rfl⟩ := h
          refine ⟨_, rfl, ?_⟩
          exact ⟨sm', done', hd', et', eo', rfl⟩
      · have e1 : ¬ ((i : Nat) : Int) < ((z.length : Nat) : Int) := fun z9 => e (decide_eq_true z9)
        rw [len_tl] at e1
        have e2 : i = (tl z).length := by omega
        rw [e2, List.drop_length, Tk.tok_nil, List.append_nil] at et
        refine hnx _ _ ⟨sm, ?_, _, _, rfl⟩
        rw [et]
        exact eo
    · obtain ⟨sm, eo, y2, y3, rfl⟩ := h
      refine ⟨_, rfl, o, _, rfl, .inl ⟨SqL.of eo, fun l hl => ?_⟩⟩
      exact q _ l (sm.trans (same_upd hl)) (sm.free hl) upd_same
end
/-! ### the law's defs -/
def okz (z : Str) : Prop := ∀ c ∈ tl z, okc c = true
def spIsTok : Sp := fun vs H Q _ => ∃ p : List Nat, vs = [.str (mk p)] ∧ p.length ≤ 10000 ∧ (∀ c ∈ p, okc c = true) ∧ ∀ H', Same H H' → Q (.bl (Tk.isTok p)) H'
def spLTokens : Sp := fun vs H Q _ => ∃ z : Str, vs = [.str z] ∧ z.length ≤ 10000 ∧ okz z ∧ ∀ H' p, Same H H' → H p = none → H' p = some (.tup (toVs (Tk.tok (tl z)))) → Q (.ref p) H'
def spParted (K : PySem.W.Frag) (rest : List V) : Sp := fun vs H Q _ => ∃ (d a : Addr) (ts : List (List Nat)), vs = [.ref d, .ref a] ∧ Dr H d rest ∧ SqT K H a (toVs ts) ∧ ts.length ≤ 2400 ∧ (∀ t ∈ ts, Tk.isT t ∧ t.length ≤ 2400) ∧
  ∀ H' z, z.length ≤ 10000000 → Tk.tok (tl z) = ts → Dr H' d rest → Chg d H H' → Q (.str z) H'
def spWild (rest : List V) : Sp := fun vs H Q _ => ∃ d, vs = [.ref d] ∧ Dr H d rest ∧ ∀ H' z, z.length ≤ 2400 → okz z → Dr H' d rest → Chg d H H' → Q (.str z) H'
theorem in_two (p : List Nat) : inV (.str (mk p)) [V.str (Str.ofString ".."), V.str (Str.ofString "<=")] = (p == [46, 46] || p == [60, 61]) := by
  show ((Str.ofString ".." == mk p) || ((Str.ofString "<=" == mk p) || false)) = _
  rw [s_dots, s_le, Bool.or_false, Bool.eq_iff_iff]
  simp only [Bool.or_eq_true, beq_iff_eq, mk_inj]
  constructor
  · rintro (h | h)
    · exact .inl h.symm
    · exact .inr h.symm
  · rintro (h | h)
    · exact .inl h.symm
    · exact .inr h.symm
section
variable {P : Program} {w : World} {K : PySem.W.Frag} {mg : Str → Option Value} {base : Heap}
theorem ok_is_token (D : Df K mg "_law_is_token" s_is_token) (m_len : mg "len" = none) : Cal P w K mg base "_law_is_token" 1 ["_law_piece"] spIsTok := by
  obtain ⟨f, fd, F, g⟩ := D
  refine ⟨f, fd, g, F.kp, F.bindsN fun _ _ _ _ _ _ us hl => match us, hl with | [_], _ => rfl, ?_⟩
  refine F.ok sc_is_token (fun vs H Q E h => ?_) (fun cdv A outer s H vs Q E hr h => ?_)
  · obtain ⟨p, rfl, _⟩ := h
    rfl
  · obtain ⟨p, rfl, hp, hok, q⟩ := h
    refine ⟨_, pss_cons (ps_set (i := 1) sc_is_token.nd rfl (.inl rfl) (pe_ifExp (pt_cmpR op_eq (pe_slice sl_str (pv 0) po_none (po_some pe_int)) pe_str (nomark _)) (pe_slice sl_str (pv 0) (po_some pe_int) po_none) (pv 0)))
      (pss_one (ps_ret (pe_or (pe_m0 PySem.F.slot_str_isalnum PySem.F.type_str_isalnum mt_isalnum (pv 1)) (pe_or (pe_cmpR op_eq (pe_callB call_len (by rfl) m_len (by decide +kernel) (pa_cons (pv 0) pa_nil)) pe_int (nomark _)) (pe_one (pe_cmpR op_in_seq (pv 0) (pe_lst (pa_cons pe_str (pa_cons pe_str pa_nil))) rfl)))))), ?_⟩
    have hpl : (mk p).length ≤ sizeLine := by
      rw [len_tl]
      exact Nat.le_trans hp (by rw [sizeLine_eq]; decide)
    refine seq_by (fun σ' H' => H' = H ∧ σ' = [some (.str (mk p)), some (.str (mk (Tk.body p)))]) (fun nx hnx => ?_) (fun σ' H' h => ?_)
    · refine ⟨_, rfl, 1, rfl, mk p, rfl, hpl, rfl, _, rfl, ?_⟩
      have e1 : cutS (mk p) none (some 1) = mk (p.take 1) := cut_to (mk p) 1
      show if decide (V.str (cutS (mk p) none (some 1)) = V.str (Str.ofString "-")) = true then _ else _
      rw [e1, s_minus]
      refine ite2 (fun e => ?_) (fun e => ?_)
      · have e2 : p.take 1 = [45] := mk_inj.mp (V.str.inj (of_decide_eq_true e))
        refine ⟨_, rfl, 1, rfl, mk p, rfl, hpl, ?_⟩
        refine hnx _ _ ⟨rfl, ?_⟩
        rw [show Tk.body p = p.drop 1 by unfold Tk.body; rw [if_pos e2]]
        show [some (V.str (mk p)), some (V.str (cutS (mk p) (some 1) none))] = _
        rw [show cutS (mk p) (some 1) none = mk (p.drop 1) from cut_from (mk p) 1]
      · have e2 : ¬ p.take 1 = [45] := fun z => e (decide_eq_true (by rw [z]))
        refine ⟨_, rfl, ?_⟩
        refine hnx _ _ ⟨rfl, ?_⟩
        rw [show Tk.body p = p by unfold Tk.body; rw [if_neg e2]]
        rfl
    · obtain ⟨rfl, rfl⟩ := h
      have hbo : ∀ c ∈ Tk.body p, okc c = true := fun c hc => hok c (by
        unfold Tk.body at hc
        split at hc
        · exact List.mem_of_mem_drop hc
        · exact hc)
      refine ⟨_, rfl, ⟨_, rfl⟩, mk (Tk.body p), rfl, rfl, trivial, _, rfl, ?_⟩
      rw [alnum_list hbo]
      refine ite2 (fun e => ?_) (fun e => ?_)
      · have e9 : Tk.isTok p = true := by
          unfold Tk.isTok
          rw [e]
          rfl
        rw [e9] at q
        exact q _ (Same.refl _)
      · refine ⟨_, rfl, _, _, rfl, ⟨hpl, rfl⟩, rfl, _, rfl, ?_⟩
        refine ite2 (fun e2 => ?_) (fun e2 => ?_)
        · have e3 : ((mk p).length : Int) = 1 := V.int.inj (of_decide_eq_true e2)
          rw [len_tl] at e3
          have e4 : p.length = 1 := by
            have e5 : ((tl (mk p)).length : Int) = 1 := e3
            rw [tl_mk'] at e5
            omega
          have e9 : Tk.isTok p = true := by
            unfold Tk.isTok
            rw [e4]
            simp
          rw [e9] at q
          exact q _ (Same.refl _)
        · have e4 : ¬ p.length = 1 := fun z => e2 (decide_eq_true (by
            rw [len_tl, tl_mk', z]
            rfl))
          refine ⟨_, rfl, by show 2 ≤ sizeLine; decide, fun o no => ?_⟩
          refine ⟨o, _, rfl, .inl (SqL.of upd_same), rfl, rfl, ?_⟩
          show Q (.bl (inV (.str (mk p)) [V.str (Str.ofString ".."), V.str (Str.ofString "<=")])) _
          have e9 : Tk.isTok p = (p == [46, 46] || p == [60, 61]) := by
            unfold Tk.isTok
            have e5 : (decide (0 < (Tk.body p).length) && (Tk.body p).all Tk.run) = false := by simpa using e
            have e6 : (p.length == 1) = false := by simpa using e4
            rw [e5, e6]
            rfl
          rw [in_two, ← e9]
          exact q _ (same_upd no)
theorem ok_tokens (D : Df K mg "_law_tokens" s_tokens) (C_is : Cal P w K mg base "_law_is_token" 1 ["_law_piece"] spIsTok) (m_len : mg "len" = none) (m_tuple : mg "tuple" = none) : Cal P w K mg base "_law_tokens" 2 ["_law_text"] spLTokens := by
  obtain ⟨f, fd, F, g⟩ := D
  obtain ⟨f_is_token, fd_is_token, g_is_token, k_is_token, b_is_token, G_is_token⟩ := C_is
  refine ⟨f, fd, g, F.kp, F.bindsN fun _ _ _ _ _ _ us hl => match us, hl with | [_], _ => rfl, ?_⟩
  refine F.ok sc_tokens (fun vs H Q E h => ?_) (fun cdv A outer s H vs Q E hr h => ?_)
  · obtain ⟨z, rfl, _⟩ := h
    rfl
  · obtain ⟨z, rfl, hz, hok, q⟩ := h
    refine ⟨_, pss_cons (ps_set (i := 1) sc_tokens.nd rfl (.inl rfl) (pe_lst pa_nil))
      (pss_cons (ps_for (passes_of rfl) rfl (pi_list (pe_words (pv 0))) (pg_name (i := 2) sc_tokens.nd rfl (.inl rfl))
      (pss_cons (ps_set (i := 3) sc_tokens.nd rfl (.inl rfl) pe_int)
        (pss_one (ps_while (passes_of rfl) (pt_cmpR op_lt (pv 3) (pe_callB call_len (by rfl) m_len (by decide +kernel) (pa_cons (pv 2) pa_nil)) (nomark _))
        (pss_cons (ps_set (i := 4) sc_tokens.nd rfl (.inl rfl) (pe_op op_sub (pe_callB call_len (by rfl) m_len (by decide +kernel) (pa_cons (pv 2) pa_nil)) (pv 3)))
          (pss_cons (ps_while (passes_of rfl) (pt_not (pt_val (pe_call G_is_token (hr.mono (by decide)) (by rfl) g_is_token k_is_token b_is_token .nil pass0 (pa_cons (pe_slice sl_str (pv 2) (po_some (pv 3)) (po_some (pe_op op_add (pv 3) (pv 4)))) pa_nil))))
          (pss_one (ps_set (i := 4) sc_tokens.nd rfl (.inl rfl) (pe_op op_sub (pv 4) pe_int))))
          (pss_cons (ps_expr (pe_bm PySem.F.plainAttrs_list PySem.F.slot_list_append PySem.F.type_list_append mt_append (pv 1) (pa_cons (pe_slice sl_str (pv 2) (po_some (pv 3)) (po_some (pe_op op_add (pv 3) (pv 4)))) pa_nil)))
          (pss_one (ps_set (i := 3) sc_tokens.nd rfl (.inl rfl) (pe_op op_add (pv 3) (pv 4)))))))))))
      (pss_one (ps_ret (pe_callTy call_tuple_of (by rfl) m_tuple (by decide +kernel) (pa_cons (pv 1) pa_nil))))), ?_⟩
    have hl16 : (16777216 : Nat) ≤ sizeLine := by rw [sizeLine_eq]; decide
    have hzl : (tl z).length ≤ 10000 := by rw [← len_tl]; exact hz
    refine ⟨Nat.zero_le _, fun o no => ?_⟩
    -- the words
    have hw := words_list hok
    have hclean := Tk.lw_clean (tl z) [] (fun _ h => by cases h)
    have hmem := Tk.lw_mem (tl z) []
    have htw : Tk.tok (tl z) = (Tk.lw [] (tl z)).flatMap Tk.tok := by
      have := Tk.tok_words (tl z) [] (fun _ h => by cases h)
      rwa [List.nil_append] at this
    have hflat := Tk.lw_flat (tl z) []
    generalize hW : Tk.lw [] (tl z) = W at hw hclean hmem htw hflat
    have hWlen : W.flatten.length ≤ 10000 := by
      rw [List.length_nil, Nat.zero_add] at hflat
      omega
    refine ⟨_, rfl, ⟨_, rfl⟩, z, rfl, rfl, by omega, fun p np => ?_⟩
    have npo : p ≠ o := fun e => by
      rw [e, upd_same] at np
      cases np
    have s1 : Same H (upd (upd H o (.lst [])) p (.lst ((Txt.words z).map V.str))) := (same_upd no).trans (same_upd np)
    refine ⟨p, rfl, ⟨_, SqL.of upd_same⟩, ?_⟩
    have hx : ∀ i (hi : i < W.length), ((Txt.words z).map V.str)[i]? = some (V.str (mk W[i])) := fun i hi => by
      rw [hw, List.getElem?_map, List.getElem?_map, List.getElem?_eq_getElem hi]
      rfl
    have hxl : ((Txt.words z).map V.str).length = W.length := by rw [hw, List.length_map, List.length_map]
    refine for_list (xs := (Txt.words z).map V.str) (fun i σ' H' => Same H H' ∧ H' p = some (.lst ((Txt.words z).map V.str)) ∧ H' o = some (.lst (toVs ((W.take i).flatMap Tk.tok))) ∧ ∃ y2 y3 y4, σ' = [some (.str z), some (.ref o), y2, y3, y4]) ⟨s1, upd_same, ?_, none, none, none, rfl⟩ (fun i σ' H' hi h => SqL.of h.2.1) (fun i x σ' H' hx1 h => ?_) (fun σ' H' h => ?_)
    · rw [upd_ne npo.symm]
      exact upd_same
    · obtain ⟨sm, ep, eo, y2, y3, y4, rfl⟩ := h
      have hiW : i < W.length := by
        rw [← hxl]
        exact (List.getElem?_eq_some_iff.mp hx1).1
      obtain rfl : x = V.str (mk W[i]) := Option.some.inj (hx1.symm.trans (hx i hiW))
      have hWi : W[i] ∈ W := List.getElem_mem hiW
      have hne := (hclean _ hWi).1
      have hnb := (hclean _ hWi).2
      have hok2 : ∀ c ∈ W[i], okc c = true := fun c hc => by
        rcases hmem _ hWi c hc with h | h
        · cases h
        · exact hok c h
      have hlenW : W[i].length ≤ 10000 := Nat.le_trans (Tk.len_le_flatten hWi) hWlen
      have hacc : ((W.take i).flatMap Tk.tok).length + W[i].length ≤ 10000 := Nat.le_trans (Tk.acc_le W i hiW) hWlen
      have hsum : (W.take (i + 1)).flatMap Tk.tok = (W.take i).flatMap Tk.tok ++ Tk.tok W[i] := by
        rw [List.take_add_one, List.getElem?_eq_getElem hiW, List.flatMap_append]
        simp
      generalize hA : (W.take i).flatMap Tk.tok = acc at eo hacc hsum
      generalize W[i] = q2 at hne hnb hok2 hlenW hacc hsum hx hx1
      have hql : (mk q2).length ≤ sizeLine := by
        rw [len_tl, tl_mk']
        omega
      refine ⟨fun m σ' H' => Same H H' ∧ H' p = some (.lst ((Txt.words z).map V.str)) ∧ ∃ (j : Nat) (done : List (List Nat)) (y4 : Option V), m = q2.length - j ∧ j ≤ q2.length ∧ done.length ≤ j ∧ Tk.tok q2 = done ++ Tk.tok (q2.drop j) ∧ H' o = some (.lst (toVs (acc ++ done))) ∧ σ' = [some (.str z), some (.ref o), some (.str (mk q2)), some (.int (j : Int)), y4],
        ⟨_, sm, ep, 0, [], y4, rfl, Nat.zero_le _, Nat.le_refl _, by rw [List.drop_zero]; rfl, by rw [List.append_nil]; exact eo, rfl⟩, fun m σ' H' h => ?_⟩
      obtain ⟨sm, ep, j, done, y4, rfl, hj, hd, et, eo, rfl⟩ := h
      refine ⟨_, rfl, _, rfl, _, _, rfl, ⟨hql, rfl⟩, _, _, rfl, rfl, _, rfl, ite2 (fun e => ?_) (fun e => ?_)⟩
      · have e1 : ((j : Nat) : Int) < (((mk q2).length : Nat) : Int) := of_decide_eq_true e
        rw [len_tl, tl_mk'] at e1
        have e2 : j < q2.length := by omega
        have hdne : q2.drop j ≠ [] := fun z9 => by
          have z8 := congrArg List.length z9
          rw [List.length_drop, List.length_nil] at z8
          omega
        have hpos := Tk.elen_pos (q2.drop j)
        have hle := Tk.elen_le hdne
        have hmax := Tk.isTok_at hdne
        rw [List.length_drop] at hle
        generalize hE : Tk.elen (q2.drop j) = n at hpos hle hmax
        refine ⟨fun σ' H' => Same H H' ∧ H' p = some (.lst ((Txt.words z).map V.str)) ∧ ∃ (done : List (List Nat)) (y4 : Option V), done.length ≤ j + 1 ∧ Tk.tok q2 = done ++ Tk.tok (q2.drop (j + n)) ∧ H' o = some (.lst (toVs (acc ++ done))) ∧ σ' = [some (.str z), some (.ref o), some (.str (mk q2)), some (.int ((j + n : Nat) : Int)), y4], fun σ' H' h => ?_, ?_⟩
        · obtain ⟨sm', ep', done', y4', hd', et', eo', rfl⟩ := h
          exact ⟨q2.length - (j + n), by omega, sm', ep', j + n, done', _, rfl, by omega, by omega, et', eo', rfl⟩
        -- size = len(word) - at
        refine ⟨_, rfl, _, _, rfl, ⟨hql, rfl⟩, _, rfl, _, _, rfl, rfl, ?_⟩
        dsimp only [gName]
        refine seq_by (fun σ' H'' => Same H' H'' ∧ σ' = [some (.str z), some (.ref o), some (.str (mk q2)), some (.int (j : Int)), some (.int ((n : Nat) : Int))]) (fun nx hnx => ?_) (fun σ' H'' h => ?_)
        · refine ⟨fun m σ' H'' => Same H' H'' ∧ n ≤ m ∧ m ≤ q2.length - j ∧ σ' = [some (.str z), some (.ref o), some (.str (mk q2)), some (.int (j : Int)), some (.int ((m : Nat) : Int))], ⟨q2.length - j, Same.refl _, hle, Nat.le_refl _, ?_⟩, fun m σ' H'' h => ?_⟩
          · have e5 : (((mk q2).length : Nat) : Int) - (j : Int) = ((q2.length - j : Nat) : Int) := by
              rw [len_tl, tl_mk']
              omega
            rw [e5]
            rfl
          obtain ⟨sm2, hm1, hm2, rfl⟩ := h
          have ecut : cutS (mk q2) (some (j : Int)) (some ((j : Int) + (m : Int))) = mk ((q2.drop j).take m) := by
            have e9 : (j : Int) + (m : Int) = ((j + m : Nat) : Int) := by omega
            rw [e9, cut_nat, Nat.add_sub_cancel_left]
          refine ⟨_, rfl, _, rfl, _, rfl, _, rfl, _, rfl, _, _, rfl, rfl, _, rfl, mk q2, rfl, hql, (q2.drop j).take m, by rw [ecut]; rfl, ?_, fun c hc => hok2 c (List.mem_of_mem_drop (List.mem_of_mem_take hc)), fun H3 sm3 => ?_⟩
          · rw [List.length_take]
            omega
          refine ⟨_, rfl, ?_⟩
          refine ite2 (fun e6 => ?_) (fun e6 => ?_)
          · have e7 : n < m := by
              rcases Nat.lt_or_ge n m with h | h
              · exact h
              · exfalso
                have e8 : m = n := by omega
                rw [e8, hmax.1] at e6
                cases e6
            refine ⟨fun σ' H4 => H4 = H3 ∧ σ' = [some (.str z), some (.ref o), some (.str (mk q2)), some (.int (j : Int)), some (.int ((m - 1 : Nat) : Int))], fun σ' H4 h => ?_, ?_⟩
            · obtain ⟨rfl, rfl⟩ := h
              exact ⟨m - 1, by omega, sm2.trans sm3, by omega, by omega, rfl⟩
            · refine ⟨_, rfl, _, _, rfl, rfl, rfl, ?_⟩
              have e5 : ((m : Nat) : Int) - 1 = ((m - 1 : Nat) : Int) := by omega
              show [some (V.str z), some (V.ref o), some (V.str (mk q2)), some (.int (j : Int)), some (V.int ((m : Int) - 1))] = _
              rw [e5]
          · have e7 : m = n := by
              rcases Nat.lt_or_ge n m with h | h
              · exfalso
                apply e6
                rw [hmax.2 m h (by rw [List.length_drop]; exact hm2)]
                rfl
              · omega
            refine hnx _ _ ⟨sm2.trans sm3, ?_⟩
            rw [e7]
        · obtain ⟨sm2, rfl⟩ := h
          have ecut : cutS (mk q2) (some (j : Int)) (some ((j : Int) + (n : Int))) = mk ((q2.drop j).take n) := by
            have e9 : (j : Int) + (n : Int) = ((j + n : Nat) : Int) := by omega
            rw [e9, cut_nat, Nat.add_sub_cancel_left]
          have eo2 := sm2 _ _ eo
          have ep2 := sm2 _ _ ep
          refine ⟨_, rfl, .inl ⟨rfl, _, SqL.of eo2⟩, _, rfl, _, rfl, _, rfl, _, rfl, _, rfl, _, _, rfl, rfl, _, rfl, mk q2, rfl, hql, o, _, _, rfl, rfl, eo2, ?_, ?_⟩
          · rw [List.length_map, List.length_append]
            omega
          refine ⟨_, rfl, _, rfl, _, _, rfl, rfl, ?_⟩
          refine ⟨fun b x e => ?_, ?_, done ++ [(q2.drop j).take n], _, by rw [List.length_append, List.length_singleton]; omega, ?_, ?_, rfl⟩
          · rw [upd_ne (ne_of_none e no)]
            exact (sm.trans sm2) _ _ e
          · rw [upd_ne npo]
            exact ep2
          · have e6 := Tk.tok_ne hdne (fun c hc => hnb c (List.mem_of_mem_drop hc))
            rw [hE] at e6
            rw [et, e6, List.append_assoc, List.drop_drop]
            rfl
          · rw [upd_same, ecut]
            show some (HO.lst _) = some (HO.lst _)
            rw [toVs, toVs, ← List.append_assoc, List.map_append (l₁ := acc ++ done)]
            rfl
      · have e1 : ¬ ((j : Nat) : Int) < (((mk q2).length : Nat) : Int) := fun z9 => e (decide_eq_true z9)
        rw [len_tl, tl_mk'] at e1
        have e2 : j = q2.length := by omega
        rw [e2, List.drop_length, Tk.tok_nil, List.append_nil] at et
        refine ⟨sm, ep, ?_, _, _, _, rfl⟩
        rw [hsum, et]
        exact eo
    · obtain ⟨sm, ep, eo, y2, y3, y4, rfl⟩ := h
      rw [hxl, List.take_length, ← htw] at eo
      refine ⟨_, rfl, o, _, rfl, .inl ⟨SqL.of eo, fun l hl => ?_⟩⟩
      exact q _ l (sm.trans (same_upd hl)) (sm.free hl) upd_same
end
/-! ### drawing from displays -/
theorem pick {items : List V} {Pr : V → Prop} (h : ∀ v ∈ items, Pr v) {r : Int} (h0 : 0 ≤ r) (h1 : r < (items.length : Int)) : ∃ v, atI items r = some v ∧ Pr v := by
  obtain ⟨k, rfl⟩ := Int.eq_ofNat_of_zero_le h0
  have hk : k < items.length := by omega
  exact ⟨items[k], atI_nat (List.getElem?_eq_getElem hk), h _ (List.getElem_mem hk)⟩
/-- a text of at most n signs of the alphabet -/
def okp (n : Nat) (v : V) : Bool := match v with
  | .str z => decide (z.length ≤ n) && z.cps.toList.all okc
  | _ => false
theorem okp_of {n : Nat} {v : V} (h : okp n v = true) : ∃ z, v = .str z ∧ z.length ≤ n ∧ okz z := by
  cases v with
  | str z =>
    obtain ⟨h1, h2⟩ := Bool.and_eq_true_iff.mp (show (decide (z.length ≤ n) && z.cps.toList.all okc) = true from h)
    exact ⟨z, rfl, of_decide_eq_true h1, List.all_eq_true.mp h2⟩
  | _ => cases h
theorem okp_all {n : Nat} {items : List V} (h : items.all (okp n) = true) : ∀ v ∈ items, ∃ z, v = .str z ∧ z.length ≤ n ∧ okz z := fun v hv => okp_of (List.all_eq_true.mp h v hv)
def oki (n : Nat) (v : V) : Bool := match v with
  | .int i => decide (0 ≤ i) && decide (i ≤ n)
  | _ => false
theorem oki_all {n : Nat} {items : List V} (h : items.all (oki n) = true) : ∀ v ∈ items, ∃ k : Nat, v = .int (k : Int) ∧ k ≤ n := fun v hv => by
  have h1 := List.all_eq_true.mp h v hv
  cases v with
  | int i =>
    obtain ⟨h1, h2⟩ := Bool.and_eq_true_iff.mp (show (decide (0 ≤ i) && decide (i ≤ n)) = true from h1)
    have h3 := of_decide_eq_true h1
    have h4 := of_decide_eq_true h2
    exact ⟨i.toNat, by rw [Int.toNat_of_nonneg h3], by omega⟩
  | _ => cases h1
theorem op_repS {X : Cx} : OpR X (binaryOp .Mult) (fun x y H Q => ∃ z n, x = .str z ∧ y = .int n ∧ MulOk z n ∧ Q (.str (Txt.mul z n)) H) := by
  intro pins s σ H x y v u Q I rx ry h
  obtain ⟨z, n, rfl, rfl, hm, q⟩ := h
  obtain ⟨t, rfl⟩ := rx
  obtain ⟨u', rfl⟩ := ry
  exact PySem.SB.mul hm fun t' k => ⟨.str _, H, I.tok _, ⟨_, rfl⟩, q⟩
theorem mul_ok {c : Nat} {n : Int} (h0 : 1 ≤ n) (h1 : n ≤ 1000) : MulOk ⟨#[c]⟩ n := by
  refine ⟨?_, fun _ _ => ?_, fun _ _ => ?_⟩
  · rw [Bool.or_eq_false_iff]
    exact ⟨decide_eq_false (by omega), decide_eq_false (by omega)⟩
  · have h2 : (1 : Int) ≤ (2 ^ 63 - 1) / n := by
      rw [Int.le_ediv_iff_mul_le (by omega)]
      omega
    show ¬ ((1 : Nat) : Int) > _
    omega
  · show Builtin.Str.tooLong (1 * n.toNat) = false
    unfold Builtin.Str.tooLong
    refine decide_eq_false ?_
    rw [sizeLine_eq]
    omega
theorem rep_tl (c : Nat) : ∀ (n : Nat) (a : Array Nat), ((List.replicate n #[c]).foldl (· ++ ·) a).toList = a.toList ++ List.replicate n c
  | 0, a => by simp
  | n + 1, a => by
    rw [List.replicate_succ, List.foldl_cons, rep_tl c n, Array.toList_append, List.replicate_succ, List.append_assoc]
    rfl
theorem mul_tl {c : Nat} {n : Int} (h0 : 1 ≤ n) : tl (Txt.mul ⟨#[c]⟩ n) = List.replicate n.toNat c := by
  unfold Txt.mul
  rw [if_neg (by omega)]
  split
  · rename_i h
    have h2 : n = 1 := by
      rw [Bool.or_eq_true] at h
      rcases h with h | h
      · simpa using h
      · exact absurd h (by show ¬ ((1 : Nat) == 0) = true; decide)
    rw [h2]
    rfl
  · have := rep_tl c n.toNat #[]
    rw [show (#[] : Array Nat).toList = [] from rfl, List.nil_append] at this
    exact this
theorem okz_app {a b : Str} (ha : okz a) (hb : okz b) : okz (a ++ b) := fun c hc => by
  rw [tl_append] at hc
  rcases List.mem_append.mp hc with h | h
  · exact ha c h
  · exact hb c h
theorem len_app (a b : Str) : (a ++ b).length = a.length + b.length := by
  rw [len_tl, len_tl, len_tl, tl_append, List.length_append]
def commonV : List V := [.str (Str.ofString "-"), .str (Str.ofString " "), .str (Str.ofString "\n"), .str (Str.ofString "."), .str (Str.ofString "<"), .str (Str.ofString "="), .str (Str.ofString "a"), .str (Str.ofString "Z"), .str (Str.ofString "0"), .str (Str.ofString "-77"), .str (Str.ofString ".."), .str (Str.ofString "<="), .str (Str.ofString "-5"), .str (Str.ofString "--"), .str (Str.ofString "-a1"), .str (Str.ofString "+"), .str (Str.ofString "q9"), .str (Str.ofString ","), .str (Str.ofString "{"), .str (Str.ofString "Bc"), .str (Str.ofString " -"), .str (Str.ofString ";"), .str (Str.ofString "( "), .str (Str.ofString "5-"), .str (Str.ofString "..."), .str (Str.ofString "=<"), .str (Str.ofString "<=="), .str (Str.ofString "open"), .str (Str.ofString "a.b"), .str (Str.ofString "-Z"), .str (Str.ofString "]"), .str (Str.ofString "x -3")]
theorem common_ok : ∀ v ∈ commonV, ∃ z, v = .str z ∧ z.length ≤ 60 ∧ okz z := okp_all (by decide +kernel)
def signA : Str := Str.ofString " !\"#$&'()*+,-./0123456789:;<=>?@ABCDEFGHIJKLMNOPQRSTUVWXYZ[\\]^_`"
def signB : Str := Str.ofString "abcdefghijklmnopqrstuvwxyz{|}~\n"
theorem sign_len : (signA ++ signB).length = 95 := by decide +kernel
theorem sign_ok : okz (signA ++ signB) := List.all_eq_true.mp (show (signA ++ signB).cps.toList.all okc = true by decide +kernel)
def digS : Str := Str.ofString "0123456789"
theorem dig_len : digS.length = 10 := by decide +kernel
theorem dig_ok : okz digS := List.all_eq_true.mp (show digS.cps.toList.all okc = true by decide +kernel)
theorem pickS {z : Str} {r : Int} (h0 : 0 ≤ r) (h1 : r < (z.length : Int)) (ok : okz z) : ∃ c, atI z.cps.toList r = some c ∧ okc c = true := by
  rw [len_tl] at h1
  obtain ⟨k, rfl⟩ := Int.eq_ofNat_of_zero_le h0
  have hk : k < (tl z).length := by omega
  exact ⟨(tl z)[k], atI_nat (List.getElem?_eq_getElem hk), ok _ (List.getElem_mem hk)⟩
section
variable {P : Program} {w : World} {K : PySem.W.Frag} {mg : Str → Option Value} {base : Heap}
theorem ok_parted {rest : List V} (D : Df K mg "_law_parted" s_parted) (C_draw : Cal P w K mg base "_law_draw" 2 ["_law_d", "_law_many"] spDraw) : Cal P w K mg base "_law_parted" 3 ["_law_d", "_law_tokens_here"] (spParted K rest) := by
  obtain ⟨f, fd, F, g⟩ := D
  obtain ⟨f_draw, fd_draw, g_draw, k_draw, b_draw, G_draw⟩ := C_draw
  refine ⟨f, fd, g, F.kp, F.bindsN fun _ _ _ _ _ _ us hl => match us, hl with | [_, _], _ => rfl, ?_⟩
  refine F.ok sc_parted (fun vs H Q E h => ?_) (fun cdv A outer s H vs Q E hr h => ?_)
  · obtain ⟨d, a, ts, rfl, _⟩ := h
    rfl
  · obtain ⟨d, a, ts, rfl, hD, ha, hts, hT, q⟩ := h
    refine ⟨_, pss_cons (ps_set (i := 2) sc_parted.nd rfl (.inl rfl) (pe_ix ix_list (pe_lst (pa_cons pe_str (pa_cons pe_str (pa_cons pe_str pa_nil)))) (pe_call G_draw (hr.mono (by decide)) (by rfl) g_draw k_draw b_draw .nil pass0 (pa_cons (pv 0) (pa_cons pe_int pa_nil))) (fun _ _ => rfl)))
      (pss_cons (ps_for (passes_of rfl) rfl (pi_tup (pv 1)) (pg_name (i := 3) sc_parted.nd rfl (.inl rfl))
      (pss_one (ps_set (i := 2) sc_parted.nd rfl (.inl rfl) (pe_op op_add_str (pe_op op_add_str (pv 2) (pv 3)) (pe_ix ix_list (pe_lst (pa_cons pe_str (pa_cons pe_str (pa_cons pe_str pa_nil)))) (pe_call G_draw (hr.mono (by decide)) (by rfl) g_draw k_draw b_draw .nil pass0 (pa_cons (pv 0) (pa_cons pe_int pa_nil))) (fun _ _ => rfl))))))
      (pss_one (ps_ret (pv 2)))), ?_⟩
    have hl16 : (16777216 : Nat) ≤ sizeLine := by rw [sizeLine_eq]; decide
    have first : ∀ v ∈ [V.str (Str.ofString ""), V.str (Str.ofString " "), V.str (Str.ofString "\n")], ∃ z, v = .str z ∧ z.length ≤ 2 ∧ ∀ c ∈ tl z, Tk.blank c = true := by
      intro v hv
      simp only [List.mem_cons, List.not_mem_nil, or_false] at hv
      rcases hv with rfl | rfl | rfl
      · exact ⟨_, rfl, by decide +kernel, List.all_eq_true.mp (show (Str.ofString "").cps.toList.all Tk.blank = true by decide +kernel)⟩
      · exact ⟨_, rfl, by decide +kernel, List.all_eq_true.mp (show (Str.ofString " ").cps.toList.all Tk.blank = true by decide +kernel)⟩
      · exact ⟨_, rfl, by decide +kernel, List.all_eq_true.mp (show (Str.ofString "\n").cps.toList.all Tk.blank = true by decide +kernel)⟩
    have later : ∀ v ∈ [V.str (Str.ofString " "), V.str (Str.ofString "\n"), V.str (Str.ofString "  ")], ∃ z, v = .str z ∧ z.length ≤ 2 ∧ tl z ≠ [] ∧ ∀ c ∈ tl z, Tk.blank c = true := by
      intro v hv
      simp only [List.mem_cons, List.not_mem_nil, or_false] at hv
      rcases hv with rfl | rfl | rfl
      · exact ⟨_, rfl, by decide +kernel, by decide +kernel, List.all_eq_true.mp (show (Str.ofString " ").cps.toList.all Tk.blank = true by decide +kernel)⟩
      · exact ⟨_, rfl, by decide +kernel, by decide +kernel, List.all_eq_true.mp (show (Str.ofString "\n").cps.toList.all Tk.blank = true by decide +kernel)⟩
      · exact ⟨_, rfl, by decide +kernel, by decide +kernel, List.all_eq_true.mp (show (Str.ofString "  ").cps.toList.all Tk.blank = true by decide +kernel)⟩
    refine ⟨by show 3 ≤ sizeLine; decide, fun p np => ⟨_, rfl, d, 3, rest, rfl, by decide, by decide, hD.same (same_upd np), fun r H1 r0 r1 hD1 c1 => ?_⟩⟩
    obtain ⟨v, hv, z0, rfl, hz0, hb0⟩ := pick first r0 r1
    have hdp : p ≠ d := fun e => by
      obtain ⟨ys, e2⟩ := hD.lst
      rw [← e, np] at e2
      cases e2
    refine ⟨p, _, _, _, rfl, rfl, SqL.of (c1 _ _ hdp upd_same), hv, ?_⟩
    have chg1 : Chg d H H1 := (Chg.new np).trans c1
    obtain ⟨ys, hys⟩ := hD.lst
    refine ⟨_, rfl, a, rfl, ⟨_, sqt_chg chg1 hys _ _ ha⟩, ?_⟩
    refine for_tup (xs := toVs ts) (fun i σ' H' => Dr H' d rest ∧ Chg d H H' ∧ ∃ z y3, σ' = [some (.ref d), some (.ref a), some (.str z), y3] ∧ z.length ≤ 2 + 2402 * i ∧ ∀ R, Tk.tok (tl z ++ R) = ts.take i ++ Tk.tok R) ⟨hD1, chg1, z0, none, rfl, by omega, fun R => by rw [Tk.tok_blanks _ _ hb0]; rfl⟩ (fun i σ' H' hi h => sqt_chg h.2.1 hys _ _ ha) (fun i x σ' H' hx1 h => ?_) (fun σ' H' h => ?_)
    · obtain ⟨hD2, chg2, z, y3, rfl, hz, hR⟩ := h
      have hi : i < ts.length := by
        have := (List.getElem?_eq_some_iff.mp hx1).1
        rwa [List.length_map] at this
      have ex : x = V.str (mk ts[i]) := by
        rw [List.getElem?_map, List.getElem?_eq_getElem hi] at hx1
        exact (Option.some.inj hx1).symm
      subst ex
      obtain ⟨hT1, hT2⟩ := hT _ (List.getElem_mem hi)
      have hli : (mk ts[i]).length ≤ 2400 := by
        rw [len_tl, tl_mk']
        exact hT2
      refine ⟨_, rfl, _, rfl, _, _, rfl, rfl, by omega, ?_⟩
      refine ⟨by show 3 ≤ sizeLine; decide, fun p2 np2 => ⟨_, rfl, d, 3, rest, rfl, by decide, by decide, hD2.same (same_upd np2), fun r2 H3 r3 r4 hD3 c3 => ?_⟩⟩
      obtain ⟨v2, hv2, z2, rfl, hz2, hne2, hb2⟩ := pick later r3 r4
      have hdp2 : p2 ≠ d := fun e => by
        obtain ⟨ys, e2⟩ := hD2.lst
        rw [← e, np2] at e2
        cases e2
      refine ⟨p2, _, _, _, rfl, rfl, SqL.of (c3 _ _ hdp2 upd_same), hv2, ?_⟩
      have hl2 : (z ++ mk ts[i]).length ≤ 2 + 2402 * i + 2400 := by
        rw [len_app]
        omega
      refine ⟨_, _, rfl, rfl, by omega, ?_⟩
      refine ⟨hD3, (chg2.trans (Chg.new np2)).trans c3, _, _, rfl, ?_, fun R => ?_⟩
      · rw [len_app]
        omega
      · rw [tl_append, tl_append, List.append_assoc, List.append_assoc, hR, ← List.append_assoc (tl (mk ts[i])), tl_mk', Tk.tok_sepS hT1 hne2 hb2, List.take_add_one, List.getElem?_eq_getElem hi, List.append_assoc]
        rfl
    · obtain ⟨hD2, chg2, z, y3, rfl, hz, hR⟩ := h
      have hlen : (toVs ts).length = ts.length := List.length_map _
      rw [hlen] at hz hR
      have h0 := hR []
      rw [List.append_nil, Tk.tok_nil, List.append_nil, List.take_length] at h0
      exact ⟨_, rfl, q _ z (by omega) h0 hD2 chg2⟩
theorem ok_wild {rest : List V} (D : Df K mg "_law_wild" s_wild) (C_draw : Cal P w K mg base "_law_draw" 2 ["_law_d", "_law_many"] spDraw) (m_range : mg "range" = none) : Cal P w K mg base "_law_wild" 3 ["_law_d"] (spWild rest) := by
  obtain ⟨f, fd, F, g⟩ := D
  obtain ⟨f_draw, fd_draw, g_draw, k_draw, b_draw, G_draw⟩ := C_draw
  refine ⟨f, fd, g, F.kp, F.bindsN fun _ _ _ _ _ _ us hl => match us, hl with | [_], _ => rfl, ?_⟩
  refine F.ok sc_wild (fun vs H Q E h => ?_) (fun cdv A outer s H vs Q E hr h => ?_)
  · obtain ⟨d, rfl, _⟩ := h
    rfl
  · obtain ⟨d, rfl, hD, q⟩ := h
    refine ⟨_, pss_cons (ps_set (i := 1) sc_wild.nd rfl (.inl rfl) (pe_lst (pa_cons pe_str (pa_cons pe_str (pa_cons pe_str (pa_cons pe_str (pa_cons pe_str (pa_cons pe_str (pa_cons pe_str (pa_cons pe_str (pa_cons pe_str (pa_cons pe_str (pa_cons pe_str (pa_cons pe_str (pa_cons pe_str (pa_cons pe_str (pa_cons pe_str (pa_cons pe_str (pa_cons pe_str (pa_cons pe_str (pa_cons pe_str (pa_cons pe_str (pa_cons pe_str (pa_cons pe_str (pa_cons pe_str (pa_cons pe_str (pa_cons pe_str (pa_cons pe_str (pa_cons pe_str (pa_cons pe_str (pa_cons pe_str (pa_cons pe_str (pa_cons pe_str (pa_cons pe_str pa_nil))))))))))))))))))))))))))))))))))
      (pss_cons (ps_set (i := 2) sc_wild.nd rfl (.inl rfl) pe_str)
      (pss_cons (ps_set (i := 2) sc_wild.nd rfl (.inl rfl) (pe_op op_add_str (pv 2) pe_str))
      (pss_cons (ps_set (i := 3) sc_wild.nd rfl (.inl rfl) pe_str)
      (pss_cons (ps_set (i := 4) sc_wild.nd rfl (.inl rfl) pe_int)
      (pss_cons (ps_for (passes_of rfl) rfl (pi_range1 (by rfl) m_range (pa_cons (pe_ix ix_list (pe_lst (pa_cons pe_int (pa_cons pe_int (pa_cons pe_int (pa_cons pe_int (pa_cons pe_int (pa_cons pe_int (pa_cons pe_int (pa_cons pe_int pa_nil))))))))) (pe_call G_draw (hr.mono (by decide)) (by rfl) g_draw k_draw b_draw .nil pass0 (pa_cons (pv 0) (pa_cons pe_int pa_nil))) (fun _ _ => rfl)) pa_nil)) (pg_name (i := 5) sc_wild.nd rfl (.inl rfl))
      (pss_cons (ps_set (i := 6) sc_wild.nd rfl (.inl rfl) (pe_call G_draw (hr.mono (by decide)) (by rfl) g_draw k_draw b_draw .nil pass0 (pa_cons (pv 0) (pa_cons pe_int pa_nil))))
        (pss_cons (ps_set (i := 7) sc_wild.nd rfl (.inl rfl) (pe_ix ix_list (pv 1) (pe_call G_draw (hr.mono (by decide)) (by rfl) g_draw k_draw b_draw .nil pass0 (pa_cons (pv 0) (pa_cons pe_int pa_nil))) (fun _ _ => rfl)))
        (pss_cons (ps_if (pt_cmpR op_gt (pv 6) pe_int (nomark _))
        (pss_one (ps_set (i := 7) sc_wild.nd rfl (.inl rfl) (pe_ix ix_str (pv 2) (pe_call G_draw (hr.mono (by decide)) (by rfl) g_draw k_draw b_draw .nil pass0 (pa_cons (pv 0) (pa_cons pe_int pa_nil))) (fun _ _ => rfl))))
        (pss_nil))
        (pss_cons (ps_if (PW.pt (pw_and (pt_cmpR op_eq (pv 6) pe_int (nomark _)) (pw_and1 (PW.pt (pw_or (pt_cmpR op_eq (pv 5) pe_int (nomark _)) (pw_or1 (pt_cmpR op_eq (pv 5) pe_int (nomark _))))))))
        (pss_one (ps_set (i := 7) sc_wild.nd rfl (.inl rfl) (pe_op op_repS (pe_ix ix_str pe_str (pe_call G_draw (hr.mono (by decide)) (by rfl) g_draw k_draw b_draw .nil pass0 (pa_cons (pv 0) (pa_cons pe_int pa_nil))) (fun _ _ => rfl)) (pe_op op_add pe_int (pe_call G_draw (hr.mono (by decide)) (by rfl) g_draw k_draw b_draw .nil pass0 (pa_cons (pv 0) (pa_cons pe_int pa_nil)))))))
        (pss_nil))
        (pss_cons (ps_set (i := 4) sc_wild.nd rfl (.inl rfl) (pe_op op_add (pe_op op_add (pe_op op_add (pv 4) (pe_m1 PySem.F.slot_str_count PySem.F.type_str_count mt_count (pv 7) pe_str)) (pe_m1 PySem.F.slot_str_count PySem.F.type_str_count mt_count (pv 7) pe_str)) (pe_m1 PySem.F.slot_str_count PySem.F.type_str_count mt_count (pv 7) pe_str)))
        (pss_one (ps_set (i := 3) sc_wild.nd rfl (.inl rfl) (pe_op op_add_str (pv 3) (pe_ifExp (pt_cmpR op_le (pv 4) pe_int (nomark _)) (pv 7) pe_str))))))))))
      (pss_one (ps_ret (pv 3)))))))), ?_⟩
    have hl16 : (16777216 : Nat) ≤ sizeLine := by rw [sizeLine_eq]; decide
    refine ⟨by show 32 ≤ sizeLine; decide, fun c nc => ?_⟩
    have hD1 : Dr (upd H c (.lst commonV)) d rest := hD.same (same_upd nc)
    have hc1 : upd H c (.lst commonV) c = some (.lst commonV) := upd_same
    have chg1 : Chg d H (upd H c (.lst commonV)) := Chg.new nc
    have hcd : c ≠ d := fun e => by
      obtain ⟨ys, e2⟩ := hD.lst
      rw [← e, nc] at e2
      cases e2
    show (tSeq _ _ _ _ (upd H c (.lst commonV)))
    generalize upd H c (.lst commonV) = H1 at hD1 hc1 chg1
    refine ⟨_, rfl, _, _, rfl, rfl, ?_, ?_⟩
    · show signA.length + signB.length ≤ sizeLine
      rw [← len_app, sign_len]
      decide
    show tSeq _ _ _ [some (.ref d), some (.ref c), some (.str (signA ++ signB)), none, none, none, none, none] _
    have hsl := sign_len
    have hso := sign_ok
    generalize signA ++ signB = sg at hsl hso
    refine ⟨by show 8 ≤ sizeLine; decide, fun l nl => ⟨_, rfl, d, 8, rest, rfl, by decide, by decide, hD1.same (same_upd nl), fun r H2 r0 r1 hD2 c2 => ?_⟩⟩
    have hld : l ≠ d := fun e => by
      obtain ⟨ys, e2⟩ := hD1.lst
      rw [← e, nl] at e2
      cases e2
    obtain ⟨v, hv, n, rfl, hn⟩ := pick (items := [.int 7, .int 4, .int 12, .int 0, .int 20, .int 2, .int 1, .int 40]) (oki_all (n := 40) (by decide +kernel)) r0 r1
    refine ⟨l, _, _, _, rfl, rfl, SqL.of (c2 _ _ hld upd_same), hv, (n : Int), rfl, by omega, by omega, ?_⟩
    have chg2 : Chg d H H2 := (chg1.trans (Chg.new nl)).trans c2
    have hc2 : H2 c = some (.lst commonV) := ((Chg.new nl).trans c2) _ _ hcd hc1
    refine for_range (n := n) (fun i σ' H' => Dr H' d rest ∧ Chg d H H' ∧ H' c = some (.lst commonV) ∧ ∃ z op y5 y6 y7, σ' = [some (.ref d), some (.ref c), some (.str sg), some (.str z), some (.int op), y5, y6, y7] ∧ z.length ≤ 60 * i ∧ okz z) ⟨hD2, chg2, hc2, Str.ofString "", 0, none, none, none, rfl, by decide +kernel, fun c hc => by rw [s_nil] at hc; cases hc⟩ (fun i σ' H' hi h => ?_) (fun σ' H' h => ?_)
    · obtain ⟨hD3, chg3, hc3, z, op, y5, y6, y7, rfl, hz, hzo⟩ := h
      refine ⟨_, rfl, d, 7, rest, rfl, by decide, by decide, hD3, fun sh H4 s0 s1 hD4 c4 => ?_⟩
      have hc4 := c4 _ _ hcd hc3
      refine ⟨_, rfl, _, rfl, d, 32, rest, rfl, by decide, by decide, hD4, fun r5 H5 a0 a1 hD5 c5 => ?_⟩
      have hc5 := c5 _ _ hcd hc4
      obtain ⟨v5, hv5, pz, rfl, hp, hpo⟩ := pick common_ok (r := r5) a0 a1
      refine ⟨c, _, _, _, rfl, rfl, SqL.of hc5, hv5, ?_⟩
      have chg5 := (chg3.trans c4).trans c5
      dsimp only [gName]
      refine seq_by (fun σ' H' => Dr H' d rest ∧ Chg d H H' ∧ H' c = some (.lst commonV) ∧ ∃ pz, σ' = [some (.ref d), some (.ref c), some (.str sg), some (.str z), some (.int op), some (.int (0 + (i : Int))), some (.int sh), some (.str pz)] ∧ pz.length ≤ 60 ∧ okz pz) (fun nx hnx => ?_) (fun σ' H' h => ?_)
      · refine ⟨_, rfl, _, _, rfl, rfl, _, rfl, ite2 (fun e => ?_) (fun e => ?_)⟩
        · refine ⟨_, rfl, _, rfl, d, 95, rest, rfl, by decide, by decide, hD5, fun r6 H6 b0 b1 hD6 c6 => ?_⟩
          obtain ⟨cc, hcc, hok⟩ := pickS (z := sg) b0 (by rw [hsl]; exact b1) hso
          refine ⟨sg, _, _, rfl, rfl, by rw [hsl]; omega, hcc, ?_⟩
          refine hnx _ _ ⟨hD6, chg5.trans c6, c6 _ _ hcd hc5, _, rfl, (show 1 ≤ 60 by omega), fun c hc => ?_⟩
          have e9 : c = cc := List.mem_singleton.mp hc
          rw [e9]
          exact hok
        · exact hnx _ _ ⟨hD5, chg5, hc5, _, rfl, hp, hpo⟩
      obtain ⟨hD6, chg6, hc6, pz6, rfl, hp6, hpo6⟩ := h
      refine seq_by (fun σ' H' => Dr H' d rest ∧ Chg d H H' ∧ H' c = some (.lst commonV) ∧ ∃ pz, σ' = [some (.ref d), some (.ref c), some (.str sg), some (.str z), some (.int op), some (.int (0 + (i : Int))), some (.int sh), some (.str pz)] ∧ pz.length ≤ 60 ∧ okz pz) (fun nx hnx => ?_) (fun σ' H' h => ?_)
      · have stay : nx [some (.ref d), some (.ref c), some (.str sg), some (.str z), some (.int op), some (.int (0 + (i : Int))), some (.int sh), some (.str pz6)] H' := hnx _ _ ⟨hD6, chg6, hc6, _, rfl, hp6, hpo6⟩
        have body : tAsg (tOp (fun x y H Q => ∃ z n, x = .str z ∧ y = .int n ∧ MulOk z n ∧ Q (.str (Txt.mul z n)) H) (tOp rIxS (tC (.str digS)) (tCall spDraw [] E0 (tCons (tVar 0) (tCons (tC (.int 10)) tNil)))) (tOp (rI0 fun i j => .int (i + j)) (tC (.int 1)) (tCall spDraw [] E0 (tCons (tVar 0) (tCons (tC (.int 60)) tNil))))) (gName 7) { nx := nx, rt := Q } [some (.ref d), some (.ref c), some (.str sg), some (.str z), some (.int op), some (.int (0 + (i : Int))), some (.int sh), some (.str pz6)] H' := by
          refine ⟨_, rfl, d, 10, rest, rfl, by decide, by decide, hD6, fun r7 H7 b0 b1 hD7 c7 => ?_⟩
          obtain ⟨cc, hcc, hok⟩ := pickS (z := digS) b0 (by rw [dig_len]; exact b1) dig_ok
          refine ⟨digS, _, _, rfl, rfl, by rw [dig_len]; omega, hcc, ?_⟩
          refine ⟨_, rfl, d, 60, rest, rfl, by decide, by decide, hD7, fun r8 H8 d0 d1 hD8 c8 => ?_⟩
          refine ⟨_, _, rfl, rfl, _, _, rfl, rfl, mul_ok (by omega) (by omega), ?_⟩
          refine hnx _ _ ⟨hD8, (chg6.trans c7).trans c8, c8 _ _ hcd (c7 _ _ hcd hc6), _, rfl, ?_, fun c hc => ?_⟩
          · rw [len_tl, mul_tl (by omega), List.length_replicate]
            omega
          · rw [mul_tl (by omega)] at hc
            rw [(List.mem_replicate.mp hc).2]
            exact hok
        refine ⟨_, rfl, rfl, _, rfl, ite2 (fun e => ?_) (fun e => iteF stay)⟩
        refine ⟨_, rfl, rfl, _, rfl, ite2 (fun e2 => ?_) (fun e2 => ⟨_, rfl, rfl, _, rfl, ite2 (fun e3 => ?_) (fun e3 => stay)⟩)⟩
        · exact iteT body
        · exact body
      obtain ⟨hD7, chg7, hc7, pz7, rfl, hp7, hpo7⟩ := h
      refine ⟨_, rfl, _, rfl, ⟨_, rfl⟩, _, _, rfl, rfl, _, _, rfl, rfl, _, rfl, ⟨_, rfl⟩, _, _, rfl, rfl, _, _, rfl, rfl, _, rfl, ⟨_, rfl⟩, _, _, rfl, rfl, _, _, rfl, rfl, ?_⟩
      refine ⟨_, rfl, _, rfl, _, _, rfl, rfl, _, rfl, ite2 (fun e => ?_) (fun e => ?_)⟩
      · refine ⟨_, rfl, _, _, rfl, rfl, by omega, ?_⟩
        exact ⟨hD7, chg7, hc7, _, _, _, _, _, rfl, by rw [len_app]; omega, okz_app hzo hpo7⟩
      · have hdot : (Str.ofString ".").length = 1 := by decide +kernel
        have hdo : okz (Str.ofString ".") := List.all_eq_true.mp (show (Str.ofString ".").cps.toList.all okc = true by decide +kernel)
        refine ⟨_, _, rfl, rfl, by rw [hdot]; omega, ?_⟩
        exact ⟨hD7, chg7, hc7, _, _, _, _, _, rfl, by rw [len_app, hdot]; omega, okz_app hzo hdo⟩
    · obtain ⟨hD3, chg3, hc3, z, op, y5, y6, y7, rfl, hz, hzo⟩ := h
      exact ⟨_, rfl, q _ z (by omega) hzo hD3 chg3⟩
end
/-! ### the law -/
def spLaw (K : PySem.W.Frag) : Sp := fun vs H Q _ => ∃ (a : Addr) (ns : List Int), vs = [.ref a] ∧ SqL K H a (ns.map V.int) ∧ ns.length ≤ 63 ∧ ∀ H', Q (.bl true) H'
section
variable {P : Program} {w : World} {K : PySem.W.Frag} {mg : Str → Option Value} {base : Heap}
theorem ok_law {f : Addr} {fd : FuncData} (F : FunD K "law" "law" (defArgs s_law) (defBody s_law) (defScope s_law) [] [] f fd)
    (C_start : Cal P w K mg base "_law_start" 2 ["_law_script", "_law_room", "_law_fronts"] (spStart K))
    (C_wild : Cal P w K mg base "_law_wild" 3 ["_law_d"] (spWild [.int 0, .int 0, .int 0]))
    (C_tokens : Cal P w K mg base "_law_tokens" 2 ["_law_text"] spLTokens)
    (C_exact : Cal P w K mg base "_law_exact" 2 ["_law_told", "_law_due"] (spExact K 1))
    (C_tokens_of : Cal P w K mg base "tokens_of" 2 ["text"] spTokensOf)
    (C_parted : Cal P w K mg base "_law_parted" 3 ["_law_d", "_law_tokens_here"] (spParted K [.int 0, .int 0, .int 0])) :
    FnOk P w K mg base CX0 4 f fd ["_law_script"] (spLaw K) := by
  obtain ⟨f_start, fd_start, g_start, k_start, b_start, G_start⟩ := C_start
  obtain ⟨f_wild, fd_wild, g_wild, k_wild, b_wild, G_wild⟩ := C_wild
  obtain ⟨f_tokens, fd_tokens, g_tokens, k_tokens, b_tokens, G_tokens⟩ := C_tokens
  obtain ⟨f_exact, fd_exact, g_exact, k_exact, b_exact, G_exact⟩ := C_exact
  obtain ⟨f_tokens_of, fd_tokens_of, g_tokens_of, k_tokens_of, b_tokens_of, G_tokens_of⟩ := C_tokens_of
  obtain ⟨f_parted, fd_parted, g_parted, k_parted, b_parted, G_parted⟩ := C_parted
  refine F.ok sc_law (fun vs H Q E h => ?_) (fun cdv A outer s H vs Q E hr h => ?_)
  · obtain ⟨a, ns, rfl, _⟩ := h
    rfl
  · obtain ⟨a, ns, rfl, hS, hlen, q⟩ := h
    refine ⟨_, pss_cons (ps_set (i := 1) sc_law.nd rfl (.inl rfl) (pe_call G_start (hr.mono (by decide)) (by rfl) g_start k_start b_start .nil pass0 (pa_cons (pv 0) (pa_cons pe_int (pa_cons pe_int pa_nil)))))
      (pss_cons (ps_set (i := 2) sc_law.nd rfl (.inl rfl) (pe_call G_wild (hr.mono (by decide)) (by rfl) g_wild k_wild b_wild .nil pass0 (pa_cons (pv 1) pa_nil)))
      (pss_cons (ps_set (i := 3) sc_law.nd rfl (.inl rfl) (pe_call G_wild (hr.mono (by decide)) (by rfl) g_wild k_wild b_wild .nil pass0 (pa_cons (pv 1) pa_nil)))
      (pss_cons (ps_set (i := 4) sc_law.nd rfl (.inl rfl) (pe_call G_tokens (hr.mono (by decide)) (by rfl) g_tokens k_tokens b_tokens .nil pass0 (pa_cons (pv 2) pa_nil)))
      (pss_cons (ps_if (pt_not (pt_val (pe_call G_exact (hr.mono (by decide)) (by rfl) g_exact k_exact b_exact .nil pass0 (pa_cons (pe_call G_tokens_of (hr.mono (by decide)) (by rfl) g_tokens_of k_tokens_of b_tokens_of .nil pass0 (pa_cons (pv 2) pa_nil)) (pa_cons (pv 4) pa_nil)))))
      (pss_one (ps_ret pe_bl))
      (pss_nil))
      (pss_cons (ps_if (pt_not (pt_val (pe_call G_exact (hr.mono (by decide)) (by rfl) g_exact k_exact b_exact .nil pass0 (pa_cons (pe_call G_tokens_of (hr.mono (by decide)) (by rfl) g_tokens_of k_tokens_of b_tokens_of .nil pass0 (pa_cons (pv 3) pa_nil)) (pa_cons (pe_call G_tokens (hr.mono (by decide)) (by rfl) g_tokens k_tokens b_tokens .nil pass0 (pa_cons (pv 3) pa_nil)) pa_nil)))))
      (pss_one (ps_ret pe_bl))
      (pss_nil))
      (pss_cons (ps_if (pt_not (pt_val (pe_call G_exact (hr.mono (by decide)) (by rfl) g_exact k_exact b_exact .nil pass0 (pa_cons (pe_call G_tokens_of (hr.mono (by decide)) (by rfl) g_tokens_of k_tokens_of b_tokens_of .nil pass0 (pa_cons (pe_call G_parted (hr.mono (by decide)) (by rfl) g_parted k_parted b_parted .nil pass0 (pa_cons (pv 1) (pa_cons (pv 4) pa_nil))) pa_nil)) (pa_cons (pv 4) pa_nil)))))
      (pss_one (ps_ret pe_bl))
      (pss_nil))
      (pss_one (ps_ret (pe_call G_exact (hr.mono (by decide)) (by rfl) g_exact k_exact b_exact .nil pass0 (pa_cons (pe_call G_tokens_of (hr.mono (by decide)) (by rfl) g_tokens_of k_tokens_of b_tokens_of .nil pass0 (pa_cons (pv 2) pa_nil)) (pa_cons (pv 4) pa_nil))))))))))), ?_⟩
    have tv : ∀ {H : Hp} {p : Addr} {ts : List (List Nat)}, H p = some (.tup (toVs ts)) → Tv K H (tS (ts.map mk)) (.ref p) := fun {H p ts} h => tv_strs (SqT.of (by rw [← toVs_eq]; exact h))
    have le1 : ∀ ts : List (List Nat), ts.length ≤ 2400 → T.le 1 (tS (ts.map mk)) := fun ts h => le_strs 0 (by rw [List.length_map]; omega)
    refine ⟨_, rfl, a, ns, 0, 0, rfl, hS, by omega, fun H1 d s1 n1 hD1 => ?_⟩
    refine ⟨_, rfl, d, rfl, hD1, fun H2 z hz hzo hD2 c2 => ?_⟩
    refine ⟨_, rfl, d, rfl, hD2, fun H3 z2 hz2 hzo2 hD3 c3 => ?_⟩
    refine ⟨_, rfl, z, rfl, by omega, hzo, fun H4 p s4 np ep => ?_⟩
    have hD4 := hD3.same s4
    have ltok := Tk.tok_len (tl z).length (tl z) (Nat.le_refl _)
    have ltok2 := Tk.tok_len (tl z2).length (tl z2) (Nat.le_refl _)
    rw [← len_tl] at ltok ltok2
    have lt1 : (Tk.tok (tl z)).length ≤ 2400 := by omega
    have lt2 : (Tk.tok (tl z2)).length ≤ 2400 := by omega
    -- the first comparison
    refine ⟨_, rfl, z, rfl, by omega, fun H5 p5 s5 np5 ep5 => ⟨_, rfl, _, _, tS ((Tk.tok (tl z)).map mk), rfl, tv ep5, tv (s5 _ _ ep), le1 _ lt1, _, rfl, iteF ?_⟩⟩
    -- the second one
    refine ⟨_, rfl, z2, rfl, by omega, fun H6 p6 s6 np6 ep6 => ⟨_, rfl, z2, rfl, by omega, hzo2, fun H7 p7 s7 np7 ep7 => ⟨_, _, tS ((Tk.tok (tl z2)).map mk), rfl, tv (s7 _ _ ep6), tv ep7, le1 _ lt2, _, rfl, iteF ?_⟩⟩⟩
    -- the third one
    have hp7 := s7 _ _ (s6 _ _ (s5 _ _ ep))
    have hD7 := ((hD4.same s5).same s6).same s7
    obtain ⟨ys, hys⟩ := hD7.lst
    refine ⟨_, rfl, _, rfl, d, p, Tk.tok (tl z), rfl, hD7, SqT.of hp7, lt1, fun t ht => ⟨Tk.tok_isT _ _ (Nat.le_refl _) t ht, ?_⟩, fun H8 z8 hz8 e8 hD8 c8 => ?_⟩
    · have := Tk.tok_mem_len (tl z).length (tl z) (Nat.le_refl _) t ht
      rw [← len_tl] at this
      omega
    have hp8 : H8 p = some (.tup (toVs (Tk.tok (tl z)))) := c8 _ _ (ne_of hp7 hys (fun z => nomatch z)) hp7
    refine ⟨z8, rfl, hz8, fun H9 p9 s9 np9 ep9 => ⟨_, rfl, _, _, tS ((Tk.tok (tl z)).map mk), rfl, ?_, tv (s9 _ _ hp8), le1 _ lt1, _, rfl, iteF ?_⟩⟩
    · rw [e8] at ep9
      exact tv ep9
    -- the last one
    refine ⟨_, rfl, z, rfl, by omega, fun H10 p10 s10 np10 ep10 => ⟨_, rfl, _, _, tS ((Tk.tok (tl z)).map mk), rfl, tv ep10, tv (s10 _ _ (s9 _ _ hp8)), le1 _ lt1, q _⟩⟩
end
/-! ### the head -/
def dd (x : Str) (st : Stmt) : He.DefD := ⟨(x, none), x, x, defArgs st, defBody st, defScope st, [], []⟩
def fn : List He.DefD := [dd "tokens_of" s_tokens_of, dd "_end_of" s_end_of, dd "_law_begin" s_begin, dd "_law_mix" s_mix, dd "_law_draw" s_draw, dd "_law_start" s_start, dd "_law_exact" s_exact, dd "_law_is_token" s_is_token, dd "_law_tokens" s_tokens, dd "_law_parted" s_parted, dd "_law_wild" s_wild, dd "law" s_law]
def fa : List He.Fa := [.glo "tokens_of", .glo "_end_of", .glo "_law_begin", .glo "_law_mix", .glo "_law_draw", .glo "_law_start", .glo "_law_exact", .glo "_law_is_token", .glo "_law_tokens", .glo "_law_parted", .glo "_law_wild", .glo "law",
  .free "len", .free "tuple", .free "list", .free "int", .free "abs", .free "divmod", .free "isinstance", .free "range", .free "str", .free "bool", .str "RUNNING" runS, .glo "PAIRS"]
def ex (K : PySem.W.Frag) : Bool := He.tupB K "PAIRS" [.str (Str.ofString ".."), .str (Str.ofString "<=")]
abbrev R : PySem.W.OpenRow := PySem.W.OpenLaw.row PySem.Challenge.rw_telltrove_k06_tokens
abbrev hk : PySem.W.Hook := He.hookX 4 fa fn [] [] ex
def ob (s : PySem.W.SharedT) : He.AlX := He.obsX 4 fa fn [] [] ex (HandSHeadRun.getT s)
theorem ob_eq (s : PySem.W.SharedT) : ob s = hk.obs s.abs := He.obsX_eq (HandSHeadRun.getT_eq s)
def loose : List Str := ["RUNNING", "PAIRS", "tokens_of", "_end_of", "_law_begin", "_law_mix", "_law_draw", "_law_start", "_law_exact", "_law_is_token", "_law_tokens", "_law_parted", "_law_wild"]
theorem run (w : World) : HandSHeadRun.RunEq R (PySem.W.view R.prog [15]) hk ob 2000 loose w := by
  intro os
  kernel_rfl
theorem facts {P : Program} {w : World} {K : PySem.W.Frag} {h : Heap} {hh : Heap} {mg : Str → Option Value} {f : Addr} (X : K.In h) (G : h.Ns mainGlobals mg) (hfa : mg ("law" : Str) = some (.ref f)) (cx : He.SaysX fa fn [] [] ex w hh K) :
    ∃ fd : FuncData, (∀ (s : Shared) (v : Value), BindsTo s fd ⟨[v], []⟩ [("_law_script", v)]) ∧ ∀ base : Heap, K.In base → base.Ns mainGlobals mg → FnOk P w K mg base CX0 4 f fd ["_law_script"] (spLaw K) := by
  have c : He.SaysD fa fn K := congrArg (fun z : He.AlT => z.1) cx.t
  have G0 : ∀ (i : Nat) (x : Str) (st : Stmt), fn[i]? = some (dd x st) → fa[i]? = some (.glo x) → Df K mg x st := fun i x st h1 h2 => by
    obtain ⟨fd, F⟩ := c.def_ i (d := dd x st) h1
    exact ⟨_, fd, F, He.glo_ok X G (c.fact i (f := .glo x) h2)⟩
  have Fr : ∀ (i : Nat) (x : Str), fa[i]? = some (.free x) → mg x = none := fun i x h2 => He.free_ok X G (c.fact i (f := .free x) h2)
  have hPAIRS : ∀ H, SqT K H (He.ga K "PAIRS") [.str (Str.ofString ".."), .str (Str.ofString "<=")] := fun H => He.tupB_ok cx.more H
  have m_len := Fr 12 "len" rfl
  have m_tuple := Fr 13 "tuple" rfl
  have m_list := Fr 14 "list" rfl
  have m_int := Fr 15 "int" rfl
  have m_abs := Fr 16 "abs" rfl
  have m_divmod := Fr 17 "divmod" rfl
  have m_isinstance := Fr 18 "isinstance" rfl
  have m_range := Fr 19 "range" rfl
  have m_str := Fr 20 "str" rfl
  have m_bool := Fr 21 "bool" rfl
  have gR := He.str_ok X G (c.fact 22 (f := .str "RUNNING" runS) rfl)
  have gP := He.glo_ok X G (c.fact 23 (f := .glo "PAIRS") rfl)
  obtain ⟨fd, F⟩ := c.def_ 11 (d := dd "law" s_law) rfl
  have e := hfa.symm.trans (He.glo_ok X G (c.fact 11 (f := .glo "law") rfl))
  cases e
  have b := FunD.bindsA (ps := ["_law_script"]) F fun _ _ _ _ _ _ us hl => match us, hl with | [_], _ => rfl
  refine ⟨fd, fun s v => b s [v] rfl, fun base _ _ => ?_⟩
  have C_mix := ok_mix (P := P) (w := w) (base := base) (G0 3 _ _ rfl rfl) m_int
  have C_draw := ok_draw (G0 4 _ _ rfl rfl) C_mix m_int m_len m_abs m_divmod
  have C_begin := ok_begin (P := P) (w := w) (base := base) (G0 2 _ _ rfl rfl) m_list
  have C_start := ok_start (G0 5 _ _ rfl rfl) C_begin
  have C_exact := ok_exact (P := P) (w := w) (base := base) (G0 6 _ _ rfl rfl) m_isinstance m_tuple m_len m_range m_str m_int m_bool 1
  have C_end := ok_end_of (P := P) (w := w) (base := base) (G0 1 _ _ rfl rfl) m_len gR gP hPAIRS
  have C_tokens_of := ok_tokens_of (G0 0 _ _ rfl rfl) C_end m_len m_tuple
  have C_is := ok_is_token (P := P) (w := w) (base := base) (G0 7 _ _ rfl rfl) m_len
  have C_tokens := ok_tokens (G0 8 _ _ rfl rfl) C_is m_len m_tuple
  have C_parted := ok_parted (rest := [.int 0, .int 0, .int 0]) (G0 9 _ _ rfl rfl) C_draw
  have C_wild := ok_wild (rest := [.int 0, .int 0, .int 0]) (G0 10 _ _ rfl rfl) C_draw m_range
  exact ok_law F C_start C_wild C_tokens C_exact C_tokens_of C_parted
end Z
open PySem PySem.W PySem.Calls PyProof.Rows
theorem PySem.Challenge.cw_telltrove_k06_tokens_holds : PySem.Challenge.rw_telltrove_k06_tokens.Holds := by
  w_on; o_law
  refine HandSHeadRun.head_any (r := OpenLaw.row PySem.Challenge.rw_telltrove_k06_tokens) (q := view (OpenLaw.row PySem.Challenge.rw_telltrove_k06_tokens).prog [15]) (H := Z.hk) (ob := Z.ob) (M := 2000) (loose := Z.loose) (d := HandSHeadRun.topDef (OpenLaw.row PySem.Challenge.rw_telltrove_k06_tokens).prog 15) (kwd := []) Z.ob_eq
    (by kernel_rfl) (fun s => by kernel_rfl) Z.run (by kernel_rfl) (by kernel_rfl) (by kernel_rfl) (by rfl) (by first | assumption | decide +kernel) (by decide +kernel) ⟨rfl, rfl, rfl, rfl, rfl, by decide +kernel⟩ ?hw ?hc
  case hw => w_witness2
  case hc =>
    refine L2.walk_ofE (l := PySem.Challenge.rw_telltrove_k06_tokens) (n := 63) (k := 4) (x := "_law_script") (CX := L2.CX0) rfl (by decide) (by kernel_rfl) ⟨rfl, by decide, by decide⟩ ?F (fun _ _ _ _ z => z)
    intro w mg fa h Y G hmg0
    obtain ⟨K, KX, c⟩ := Y
    have hmg : mg ("law" : PySem.Str) = some (.ref fa) := by
      have e : (HandSHeadRun.topDef (OpenLaw.row PySem.Challenge.rw_telltrove_k06_tokens).prog 15).name = ("law" : PySem.Str) := by kernel_rfl
      rw [← e]
      exact hmg0
    obtain ⟨fd, hb, hF⟩ := Z.facts (P := (PySem.Challenge.rw_telltrove_k06_tokens).prog) (w := w) KX G hmg c
    exact ⟨K, fd, Z.spLaw K, KX, hb, fun H a ns hl _ hS => ⟨a, ns, rfl, hS, hl, fun _ => rfl⟩, hF⟩
