import PyProof.Rows.All
import Wide.All
import OpenK.AllK
import Wide.FinOn
import KE.KStateDown
import HandS.ForMost
import HandS.Defaults
import HandS.Wide
import HandS.WideBits
import HandS.IsInst
import HandS.Deep
import HandS.TupAny
import HandS.Star
import HandS.RaiseMore
import HandS.Conv
import HandS.Zip
import HandS.Rev
import HandS.Flow
import HandS.Style
import HandS.More
import HandS.Head0
import HandS.Head1
import HandS.Head2
import HandS.HeadEnd
import HandS.HeadHook1
import HandS.HeadHook2
import HandS.HeadHook3
import HandS.HeadHook4
import KE.KWords
import PySem.Challenge.RW_telltrove_k09_kinds_and_ways_written
import HandS.Text
set_option Elab.async false
set_option linter.all false
set_option maxRecDepth 100000
set_option maxHeartbeats 4000000
namespace Y
open PySem PySem.Spec PyProof.Rows L2
/-! ### data by value -/
inductive T where
  | non | bl (b : Bool) | int (i : Int) | str (s : Str) | tup (l : List T) | lst (l : List T) | adr (a : Addr)
/-- H' holds what H holds -/
abbrev Le (H H' : Hp) : Prop := ∀ a o, H a = some o → H' a = some o
theorem Le.refl (H : Hp) : Le H H := fun _ _ h => h
theorem Le.trans {H H1 H2 : Hp} (a : Le H H1) (b : Le H1 H2) : Le H H2 := fun c o h => b c o (a c o h)
mutual
def Tv (K : PySem.W.Frag) (F : Hp) : T → V → Prop
  | .non, v => v = .non
  | .bl b, v => v = .bl b
  | .int i, v => v = .int i
  | .str s, v => v = .str s
  | .tup l, v => ∃ a xs, v = .ref a ∧ SqT K F a xs ∧ TvL K F l xs
  | .lst l, v => ∃ a xs, v = .ref a ∧ F a = some (.lst xs) ∧ TvL K F l xs
  | .adr a, v => v = .ref a
def TvL (K : PySem.W.Frag) (F : Hp) : List T → List V → Prop
  | [], xs => xs = []
  | t :: l, xs => ∃ x r, xs = x :: r ∧ Tv K F t x ∧ TvL K F l r
end
section
variable {K : PySem.W.Frag} {F F' H : Hp}
theorem sqt_le (s : Le F F') {a : Addr} {xs : List V} (h : SqT K F a xs) : SqT K F' a xs := by
  rcases h with (h | ⟨o, h⟩) | h
  · exact .inl (.inl (s _ _ h))
  · exact .inl (.inr ⟨o, s _ _ h⟩)
  · exact .inr h
mutual
theorem Tv.le (s : Le F F') : ∀ (t : T) (v : V), Tv K F t v → Tv K F' t v
  | .non, _, h => h
  | .bl _, _, h => h
  | .int _, _, h => h
  | .str _, _, h => h
  | .tup l, _, h => by
    obtain ⟨a, xs, e, h1, h2⟩ := h
    exact ⟨a, xs, e, sqt_le s h1, TvL.le s l xs h2⟩
  | .lst l, _, h => by
    obtain ⟨a, xs, e, h1, h2⟩ := h
    exact ⟨a, xs, e, s _ _ h1, TvL.le s l xs h2⟩
  | .adr _, _, h => h
theorem TvL.le (s : Le F F') : ∀ (l : List T) (xs : List V), TvL K F l xs → TvL K F' l xs
  | [], _, h => h
  | t :: l, _, h => by
    obtain ⟨x, r, e, h1, h2⟩ := h
    exact ⟨x, r, e, Tv.le s t x h1, TvL.le s l r h2⟩
end
theorem TvL.length : ∀ {l : List T} {xs : List V}, TvL K F l xs → xs.length = l.length
  | [], _, h => by
    rw [show _ = _ from h]
    rfl
  | t :: l, _, h => by
    obtain ⟨x, r, rfl, _, h2⟩ := h
    rw [List.length_cons, List.length_cons, TvL.length h2]
theorem TvL.get : ∀ {l : List T} {xs : List V} {i : Nat} {t : T}, TvL K F l xs → l[i]? = some t → ∃ x, xs[i]? = some x ∧ Tv K F t x
  | [], _, _, _, _, e => by simp at e
  | u :: l, _, 0, t, h, e => by
    obtain ⟨x, r, rfl, h1, _⟩ := h
    have e1 : u = t := Option.some.inj e
    exact ⟨x, rfl, e1 ▸ h1⟩
  | u :: l, _, i + 1, t, h, e => by
    obtain ⟨x, r, rfl, _, h2⟩ := h
    exact TvL.get (i := i) h2 e
theorem TvL.get' : ∀ {l : List T} {xs : List V} {i : Nat} {x : V}, TvL K F l xs → xs[i]? = some x → ∃ t, l[i]? = some t ∧ Tv K F t x
  | [], xs, _, _, h, e => by
    rw [show xs = [] from h] at e
    simp at e
  | u :: l, _, 0, t, h, e => by
    obtain ⟨x, r, rfl, h1, _⟩ := h
    have e1 : x = t := Option.some.inj e
    exact ⟨u, rfl, e1 ▸ h1⟩
  | u :: l, _, i + 1, t, h, e => by
    obtain ⟨x, r, rfl, _, h2⟩ := h
    exact TvL.get' (i := i) h2 e
theorem TvL.app : ∀ {l m : List T} {xs ys : List V}, TvL K F l xs → TvL K F m ys → TvL K F (l ++ m) (xs ++ ys)
  | [], m, xs, ys, h, hv => by
    rw [show xs = [] from h]
    exact hv
  | u :: l, _, _, _, h, hv => by
    obtain ⟨x, r, rfl, h1, h2⟩ := h
    exact ⟨x, r ++ _, rfl, h1, TvL.app h2 hv⟩
theorem TvL.one {t : T} {v : V} (h : Tv K F t v) : TvL K F [t] [v] := ⟨v, [], rfl, h, rfl⟩
theorem TvL.take : ∀ {l : List T} {xs : List V} (n : Nat), TvL K F l xs → TvL K F (l.take n) (xs.take n)
  | _, _, 0, _ => rfl
  | [], xs, n + 1, h => by
    rw [show xs = [] from h]
    rfl
  | t :: l, _, n + 1, h => by
    obtain ⟨x, r, rfl, h1, h2⟩ := h
    exact ⟨x, r.take n, rfl, h1, TvL.take n h2⟩
theorem TvL.drop : ∀ {l : List T} {xs : List V} (n : Nat), TvL K F l xs → TvL K F (l.drop n) (xs.drop n)
  | _, _, 0, h => h
  | [], xs, n + 1, h => by
    rw [show xs = [] from h]
    rfl
  | t :: l, _, n + 1, h => by
    obtain ⟨x, r, rfl, h1, h2⟩ := h
    exact TvL.drop n h2
theorem TvL.set : ∀ {l : List T} {xs : List V} (i : Nat) {t : T} {v : V}, TvL K F l xs → Tv K F t v → TvL K F (l.set i t) (xs.set i v)
  | [], xs, _, _, _, h, _ => by
    rw [show xs = [] from h]
    rfl
  | u :: l, _, 0, t, v, h, hv => by
    obtain ⟨x, r, rfl, h1, h2⟩ := h
    exact ⟨v, r, rfl, hv, h2⟩
  | u :: l, _, i + 1, t, v, h, hv => by
    obtain ⟨x, r, rfl, h1, h2⟩ := h
    exact ⟨x, r.set i v, rfl, h1, TvL.set i h2 hv⟩
theorem TvL.eraseIdx : ∀ {l : List T} {xs : List V} (i : Nat), TvL K F l xs → TvL K F (l.eraseIdx i) (xs.eraseIdx i)
  | [], xs, _, h => by
    rw [show xs = [] from h]
    rfl
  | u :: l, _, 0, h => by
    obtain ⟨x, r, rfl, h1, h2⟩ := h
    exact h2
  | u :: l, _, i + 1, h => by
    obtain ⟨x, r, rfl, h1, h2⟩ := h
    exact ⟨x, r.eraseIdx i, rfl, h1, TvL.eraseIdx i h2⟩
theorem TvL.rev : ∀ {l : List T} {xs : List V}, TvL K F l xs → TvL K F l.reverse xs.reverse
  | [], xs, h => by
    rw [show xs = [] from h]
    rfl
  | u :: l, _, h => by
    obtain ⟨x, r, rfl, h1, h2⟩ := h
    rw [List.reverse_cons, List.reverse_cons]
    exact TvL.app (TvL.rev h2) (TvL.one h1)
theorem TvL.rep {l : List T} {xs : List V} (h : TvL K F l xs) : ∀ k : Nat, TvL K F (List.replicate k l).flatten (List.replicate k xs).flatten
  | 0 => rfl
  | k + 1 => by
    rw [List.replicate_succ, List.replicate_succ, List.flatten_cons, List.flatten_cons]
    exact TvL.app h (TvL.rep h k)
theorem TvL.ints : ∀ {l : List T} {xs : List V} (ns : List Int), l = ns.map T.int → TvL K F l xs → xs = ns.map V.int
  | _, xs, [], rfl, h => h
  | _, xs, n :: ns, rfl, h => by
    obtain ⟨x, r, rfl, h1, h2⟩ := h
    rw [show x = V.int n from h1, TvL.ints ns rfl h2]
    rfl
theorem TvL.strs : ∀ {l : List T} {xs : List V} (ns : List Str), l = ns.map T.str → TvL K F l xs → xs = ns.map V.str
  | _, xs, [], rfl, h => h
  | _, xs, n :: ns, rfl, h => by
    obtain ⟨x, r, rfl, h1, h2⟩ := h
    rw [show x = V.str n from h1, TvL.strs ns rfl h2]
    rfl
theorem TvL.bls : ∀ {l : List T} {xs : List V} (ns : List Bool), l = ns.map T.bl → TvL K F l xs → xs = ns.map V.bl
  | _, xs, [], rfl, h => h
  | _, xs, n :: ns, rfl, h => by
    obtain ⟨x, r, rfl, h1, h2⟩ := h
    rw [show x = V.bl n from h1, TvL.bls ns rfl h2]
    rfl
theorem tvl_ints : ∀ ns : List Int, TvL K F (ns.map T.int) (ns.map V.int)
  | [] => rfl
  | _ :: ns => ⟨_, _, rfl, rfl, tvl_ints ns⟩
theorem tvl_strs : ∀ ns : List Str, TvL K F (ns.map T.str) (ns.map V.str)
  | [] => rfl
  | _ :: ns => ⟨_, _, rfl, rfl, tvl_strs ns⟩
end
/-! ### what a law keeps: the draws' object, tables of code -/
structure Wld where
  D : Addr → Prop
  A : Addr → Prop
  ok : Hp → Prop
  sub : ∀ a, D a → A a
  stb : ∀ H H' : Hp, (∀ a, A a → H' a = H a) → ok H → ok H'
  al : ∀ (H : Hp) a, ok H → A a → H a ≠ none
/-! ### slots -/
inductive Sl where
  | no | fz (t : T) | ow (l : List T)
abbrev PS' : Type := List Sl
/-- F: what is frozen; B: what the callers keep; F0: what was frozen at the start -/
structure Rep (K : PySem.W.Frag) (W : Wld) (B F0 : Hp) (ρ : PS') (σ : L2.St) (F H : Hp) : Prop where
  fh : Le F H
  f0 : Le F0 F
  fd : ∀ a, F a ≠ none → F0 a ≠ none ∨ B a = none
  bh : Le B H
  ok : W.ok H
  wf : ∀ a, W.D a → F a = none
  wb : ∀ a, W.D a → B a = none
  ln : ρ.length = σ.length
  fz : ∀ (i : Nat) (t : T), ρ[i]? = some (Sl.fz t) → ∃ v, σ[i]? = some (some v) ∧ Tv K F t v
  ow : ∀ (i : Nat) (l : List T), ρ[i]? = some (Sl.ow l) → ∃ a xs, σ[i]? = some (some (V.ref a)) ∧ H a = some (.lst xs) ∧ TvL K F l xs ∧ F a = none ∧ B a = none ∧ ¬ W.A a
  ds : ∀ (i j : Nat) (l m : List T), ρ[i]? = some (Sl.ow l) → ρ[j]? = some (Sl.ow m) → σ[i]? = σ[j]? → i = j
/-- a value that an expression gave: frozen, or a new list that nobody else has -/
def VR (K : PySem.W.Frag) (W : Wld) (B : Hp) (ρ : PS') (σ : L2.St) (F H : Hp) (t : T) (f : Bool) (v : V) : Prop :=
  match f with
  | false => Tv K F t v
  | true => ∃ l a xs, t = .lst l ∧ v = .ref a ∧ H a = some (.lst xs) ∧ TvL K F l xs ∧ F a = none ∧ B a = none ∧ ¬ W.A a ∧ ∀ (i : Nat) (l' : List T), ρ[i]? = some (Sl.ow l') → σ[i]? ≠ some (some (V.ref a))
theorem some_ne {H : Hp} {a : Addr} {o : HO} (h : H a = some o) : H a ≠ none := fun e => by rw [h] at e; cases e
theorem none_of_le {F H : Hp} (s : Le F H) {a : Addr} (h : H a = none) : F a = none := by
  cases e : F a with
  | none => rfl
  | some o => rw [s _ _ e] at h; cases h
section
variable {K : PySem.W.Frag} {W : Wld} {B F0 F H : Hp} {ρ : PS'} {σ : L2.St}
/-- the new list is frozen -/
theorem Rep.freeze (R : Rep K W B F0 ρ σ F H) {t : T} {f : Bool} {v : V} (h : VR K W B ρ σ F H t f v) : ∃ F', Rep K W B F0 ρ σ F' H ∧ Le F F' ∧ Tv K F' t v := by
  cases f with
  | false => exact ⟨F, R, Le.refl _, h⟩
  | true =>
    obtain ⟨l, a, xs, rfl, rfl, h1, h2, h3, h4, h5, h6⟩ := h
    have le : Le F (upd F a (.lst xs)) := fun b o e => by
      rw [upd_ne (ne_of_none e h3)]
      exact e
    refine ⟨upd F a (.lst xs), ⟨fun b o e => ?_, R.f0.trans le, fun b e => ?_, R.bh, R.ok, fun b e => ?_, R.wb, R.ln, fun i t e => ?_, fun i l' e => ?_, R.ds⟩, le, a, xs, rfl, upd_same, TvL.le le _ _ h2⟩
    · by_cases hb : b = a
      · rw [hb, upd_same] at e
        cases e
        rw [hb]
        exact h1
      · rw [upd_ne hb] at e
        exact R.fh _ _ e
    · by_cases hb : b = a
      · rw [hb]
        exact .inr h4
      · rw [upd_ne hb] at e
        exact R.fd _ e
    · have hb : b ≠ a := fun z => h5 (z ▸ W.sub _ e)
      rw [upd_ne hb]
      exact R.wf _ e
    · obtain ⟨v, e1, e2⟩ := R.fz i t e
      exact ⟨v, e1, Tv.le le _ _ e2⟩
    · obtain ⟨b, ys, e1, e2, e3, e4, e5, e6⟩ := R.ow i l' e
      have hb : b ≠ a := fun z => h6 i l' e (z ▸ e1)
      exact ⟨b, ys, e1, e2, TvL.le le _ _ e3, by rw [upd_ne hb]; exact e4, e5, e6⟩
/-- .. and so what a slot owns -/
theorem Rep.freezeSl (R : Rep K W B F0 ρ σ F H) {i : Nat} {l : List T} (h : ρ[i]? = some (Sl.ow l)) : ∃ F', Rep K W B F0 (ρ.set i (Sl.fz (T.lst l))) σ F' H ∧ Le F F' := by
  obtain ⟨a, xs, h0, h1, h2, h3, h4, h5⟩ := R.ow i l h
  have hi : i < ρ.length := (List.getElem?_eq_some_iff.mp h).1
  have le : Le F (upd F a (.lst xs)) := fun b o e => by
    rw [upd_ne (ne_of_none e h3)]
    exact e
  refine ⟨upd F a (.lst xs), ⟨fun b o e => ?_, R.f0.trans le, fun b e => ?_, R.bh, R.ok, fun b e => ?_, R.wb, by rw [List.length_set]; exact R.ln, fun j t e => ?_, fun j l' e => ?_, fun j k m m' e1 e2 => ?_⟩, le⟩
  · by_cases hb : b = a
    · rw [hb, upd_same] at e
      cases e
      rw [hb]
      exact h1
    · rw [upd_ne hb] at e
      exact R.fh _ _ e
  · by_cases hb : b = a
    · rw [hb]
      exact .inr h4
    · rw [upd_ne hb] at e
      exact R.fd _ e
  · have hb : b ≠ a := fun z => h5 (z ▸ W.sub _ e)
    rw [upd_ne hb]
    exact R.wf _ e
  · by_cases hj : i = j
    · subst hj
      rw [List.getElem?_set_self hi] at e
      cases e
      exact ⟨_, h0, a, xs, rfl, upd_same, TvL.le le _ _ h2⟩
    · rw [List.getElem?_set_ne hj] at e
      obtain ⟨v, e1, e2⟩ := R.fz j t e
      exact ⟨v, e1, Tv.le le _ _ e2⟩
  · by_cases hj : i = j
    · subst hj
      rw [List.getElem?_set_self hi] at e
      cases e
    · rw [List.getElem?_set_ne hj] at e
      obtain ⟨b, ys, e1, e2, e3, e4, e5, e6⟩ := R.ow j l' e
      have hb : b ≠ a := fun z => hj (R.ds i j _ _ h e (by rw [h0, e1, z]))
      exact ⟨b, ys, e1, e2, TvL.le le _ _ e3, by rw [upd_ne hb]; exact e4, e5, e6⟩
  · have z : ∀ {j : Nat} {m : List T}, (ρ.set i (Sl.fz (T.lst l)))[j]? = some (Sl.ow m) → ρ[j]? = some (Sl.ow m) := fun {j m} e => by
      by_cases hj : i = j
      · subst hj
        rw [List.getElem?_set_self hi] at e
        cases e
      · rw [List.getElem?_set_ne hj] at e
        exact e
    exact R.ds j k m m' (z e1) (z e2)
/-- a heap that keeps all but one new address -/
theorem Rep.grow (R : Rep K W B F0 ρ σ F H) {p : Addr} {o : HO} (n : H p = none) : Rep K W B F0 ρ σ F (upd H p o) := by
  have le : Le H (upd H p o) := fun b u e => by
    rw [upd_ne (ne_of_none e n)]
    exact e
  have nA : ¬ W.A p := fun z => W.al H p R.ok z n
  refine ⟨R.fh.trans le, R.f0, R.fd, R.bh.trans le, W.stb H _ (fun a ha => ?_) R.ok, R.wf, R.wb, R.ln, R.fz, fun i l e => ?_, R.ds⟩
  · rw [upd_ne (fun (z : a = p) => nA (z ▸ ha))]
  · obtain ⟨a, xs, h0, h1, h2⟩ := R.ow i l e
    exact ⟨a, xs, h0, le _ _ h1, h2⟩
theorem Rep.newT (R : Rep K W B F0 ρ σ F H) {p : Addr} {l : List T} {xs : List V} (n : H p = none) (h : TvL K F l xs) : ∃ F', Rep K W B F0 ρ σ F' (upd H p (.tup xs)) ∧ Le F F' ∧ Tv K F' (.tup l) (.ref p) := by
  have nF := none_of_le R.fh n
  have le : Le F (upd F p (.tup xs)) := fun b o e => by
    rw [upd_ne (ne_of_none e nF)]
    exact e
  have R1 := R.grow (o := .tup xs) n
  have nA : ¬ W.A p := fun z => W.al H p R.ok z n
  refine ⟨upd F p (.tup xs), ⟨fun b o e => ?_, R.f0.trans le, fun b e => ?_, R1.bh, R1.ok, fun b e => ?_, R.wb, R.ln, fun i t e => ?_, fun i l' e => ?_, R.ds⟩, le, p, xs, rfl, SqT.of upd_same, TvL.le le _ _ h⟩
  · by_cases hb : b = p
    · rw [hb, upd_same] at e
      cases e
      rw [hb, upd_same]
    · rw [upd_ne hb] at e
      exact R1.fh _ _ e
  · by_cases hb : b = p
    · rw [hb]
      exact .inr (none_of_le R.bh n)
    · rw [upd_ne hb] at e
      exact R.fd _ e
  · rw [upd_ne (fun (z : b = p) => nA (z ▸ W.sub _ e))]
    exact R.wf _ e
  · obtain ⟨v, e1, e2⟩ := R.fz i t e
    exact ⟨v, e1, Tv.le le _ _ e2⟩
  · obtain ⟨a, ys, e1, e2, e3, e4, e5, e6⟩ := R1.ow i l' e
    obtain ⟨a', ys', e1', e2', _⟩ := R.ow i l' e
    have ea : a = a' := by
      rw [e1] at e1'
      cases e1'
      rfl
    have hb : a ≠ p := fun z => by
      rw [← ea, z, n] at e2'
      cases e2'
    exact ⟨a, ys, e1, e2, TvL.le le _ _ e3, by rw [upd_ne hb]; exact e4, e5, e6⟩
theorem Rep.newL (R : Rep K W B F0 ρ σ F H) {p : Addr} {l : List T} {xs : List V} (n : H p = none) (h : TvL K F l xs) : Rep K W B F0 ρ σ F (upd H p (.lst xs)) ∧ VR K W B ρ σ F (upd H p (.lst xs)) (.lst l) true (.ref p) := by
  refine ⟨R.grow n, l, p, xs, rfl, rfl, upd_same, h, none_of_le R.fh n, none_of_le R.bh n, fun z => W.al H p R.ok z n, fun i l' e z => ?_⟩
  obtain ⟨a, ys, e1, e2, _⟩ := R.ow i l' e
  rw [e1] at z
  cases z
  rw [n] at e2
  cases e2
/-- a slot is set to a value -/
def Sl.of : T → Bool → Sl
  | .lst l, true => .ow l
  | t, _ => .fz t
theorem Rep.set (R : Rep K W B F0 ρ σ F H) {t : T} {f : Bool} {v : V} (h : VR K W B ρ σ F H t f v) (i : Nat) : Rep K W B F0 (ρ.set i (Sl.of t f)) (σ.set i (some v)) F H := by
  by_cases hi : i < ρ.length
  · have hs : i < σ.length := by rw [← R.ln]; exact hi
    refine ⟨R.fh, R.f0, R.fd, R.bh, R.ok, R.wf, R.wb, by rw [List.length_set, List.length_set]; exact R.ln, fun j u e => ?_, fun j l e => ?_, fun j k l m e1 e2 e3 => ?_⟩
    · by_cases hj : i = j
      · subst hj
        rw [List.getElem?_set_self hi] at e
        rw [List.getElem?_set_self hs]
        refine ⟨v, rfl, ?_⟩
        cases f with
        | false =>
          have : t = u := by cases t <;> exact Sl.fz.inj (Option.some.inj e)
          rw [← this]
          exact h
        | true =>
          obtain ⟨l, _, _, rfl, _⟩ := h
          cases e
      · rw [List.getElem?_set_ne hj] at e
        rw [List.getElem?_set_ne hj]
        exact R.fz j u e
    · by_cases hj : i = j
      · subst hj
        rw [List.getElem?_set_self hi] at e
        rw [List.getElem?_set_self hs]
        cases f with
        | false => cases t <;> cases e
        | true =>
          obtain ⟨l2, a, xs, rfl, rfl, h1, h2, h3, h4, h5, h6⟩ := h
          have : l2 = l := Sl.ow.inj (Option.some.inj e)
          rw [← this]
          exact ⟨a, xs, rfl, h1, h2, h3, h4, h5⟩
      · rw [List.getElem?_set_ne hj] at e
        rw [List.getElem?_set_ne hj]
        exact R.ow j l e
    · have new : ∀ {j : Nat} {l : List T}, (ρ.set i (Sl.of t f))[j]? = some (Sl.ow l) → i = j → ∃ a, v = .ref a ∧ ∀ (k : Nat) (l' : List T), ρ[k]? = some (Sl.ow l') → σ[k]? ≠ some (some (V.ref a)) := fun {j l} e hj => by
        subst hj
        rw [List.getElem?_set_self hi] at e
        cases f with
        | false => cases t <;> cases e
        | true =>
          obtain ⟨l2, a, xs, rfl, rfl, h1, h2, h3, h4, h5, h6⟩ := h
          exact ⟨a, rfl, h6⟩
      by_cases hj : i = j
      · by_cases hk : i = k
        · omega
        · obtain ⟨a, rfl, h6⟩ := new e1 hj
          rw [List.getElem?_set_ne hk] at e2 e3
          rw [← hj, List.getElem?_set_self hs] at e3
          exact absurd e3.symm (h6 k m e2)
      · by_cases hk : i = k
        · obtain ⟨a, rfl, h6⟩ := new e2 hk
          rw [List.getElem?_set_ne hj] at e1 e3
          rw [← hk, List.getElem?_set_self hs] at e3
          exact absurd e3 (h6 j l e1)
        · rw [List.getElem?_set_ne hj] at e1 e3
          rw [List.getElem?_set_ne hk] at e2 e3
          exact R.ds j k l m e1 e2 e3
  · have hs : ¬ i < σ.length := by rw [← R.ln]; exact hi
    rw [List.set_eq_of_length_le (by omega), List.set_eq_of_length_le (by omega)]
    exact R
/-- what a slot owns is changed -/
theorem Rep.mut (R : Rep K W B F0 ρ σ F H) {i : Nat} {l m : List T} {a : Addr} {ys : List V} (h : ρ[i]? = some (Sl.ow l)) (ha : σ[i]? = some (some (V.ref a))) (hm : TvL K F m ys) : Rep K W B F0 (ρ.set i (Sl.ow m)) σ F (upd H a (.lst ys)) := by
  have hi : i < ρ.length := (List.getElem?_eq_some_iff.mp h).1
  obtain ⟨a', xs, h0, h1, h2, h3, h4, h5⟩ := R.ow i l h
  obtain rfl : a' = a := by
    rw [ha] at h0
    cases h0
    rfl
  have nb : ∀ {G : Hp} (s : G a' = none) {b : Addr} {o : HO}, G b = some o → b ≠ a' := fun {G} s {b o} e z => by
    rw [z, s] at e
    cases e
  refine ⟨fun b o e => ?_, R.f0, R.fd, fun b o e => ?_, W.stb H _ (fun b hb => ?_) R.ok, R.wf, R.wb, by rw [List.length_set]; exact R.ln, fun j t e => ?_, fun j l' e => ?_, fun j k m1 m2 e1 e2 => ?_⟩
  · rw [upd_ne (nb h3 e)]
    exact R.fh _ _ e
  · rw [upd_ne (nb h4 e)]
    exact R.bh _ _ e
  · rw [upd_ne (fun (z : b = a') => h5 (z ▸ hb))]
  · by_cases hj : i = j
    · subst hj
      rw [List.getElem?_set_self hi] at e
      cases e
    · rw [List.getElem?_set_ne hj] at e
      exact R.fz j t e
  · by_cases hj : i = j
    · subst hj
      rw [List.getElem?_set_self hi] at e
      cases e
      exact ⟨a', ys, ha, upd_same, hm, h3, h4, h5⟩
    · rw [List.getElem?_set_ne hj] at e
      obtain ⟨b, zs, e1, e2, e3⟩ := R.ow j l' e
      have hb : b ≠ a' := fun z => hj (R.ds i j _ _ h e (by rw [ha, e1, z]))
      exact ⟨b, zs, e1, by rw [upd_ne hb]; exact e2, e3⟩
  · have z : ∀ {j : Nat} {m' : List T}, (ρ.set i (Sl.ow m))[j]? = some (Sl.ow m') → ∃ m'', ρ[j]? = some (Sl.ow m'') := fun {j m'} e => by
      by_cases hj : i = j
      · subst hj
        exact ⟨_, h⟩
      · rw [List.getElem?_set_ne hj] at e
        exact ⟨_, e⟩
    obtain ⟨_, z1⟩ := z e1
    obtain ⟨_, z2⟩ := z e2
    exact R.ds j k _ _ z1 z2
end
end Y

namespace Y
open PySem PySem.Spec PyProof.Rows L2
/-! ### data for == -/
mutual
def T.pd : T → PyData
  | .non => .none
  | .bl b => .bool b
  | .int i => .int i
  | .str s => .str s
  | .tup l => .tuple (T.pdL l)
  | .lst l => .list (T.pdL l)
  | .adr _ => .none
def T.pdL : List T → List PyData
  | [] => []
  | t :: l => T.pd t :: T.pdL l
end
mutual
def T.noA : T → Bool
  | .tup l => T.noAL l
  | .lst l => T.noAL l
  | .adr _ => false
  | _ => true
def T.noAL : List T → Bool
  | [] => true
  | t :: l => T.noA t && T.noAL l
end
def T.cmp (t : T) : Bool := T.noA t && SeqAt.shaped (T.pd t)
def T.eqv (x y : T) : Bool := PyData.eqv (T.pd x) (T.pd y)
theorem T.pdL_length : ∀ l : List T, (T.pdL l).length = l.length
  | [] => rfl
  | t :: l => by rw [T.pdL, List.length_cons, List.length_cons, T.pdL_length l]
theorem T.pdL_any (f : PyData → Bool) : ∀ l : List T, (T.pdL l).any f = l.any fun t => f (T.pd t)
  | [] => rfl
  | t :: l => by rw [T.pdL, List.any_cons, List.any_cons, T.pdL_any f l]
section
variable {K : PySem.W.Frag} {F H : Hp}
mutual
theorem Tv.dp : ∀ (t : T) (v : V), T.noA t = true → Tv K F t v → Dp K F v (T.pd t)
  | .non, _, _, h => by rw [show _ = _ from h]; exact .non
  | .bl b, _, _, h => by rw [show _ = _ from h]; exact .bl b
  | .int i, _, _, h => by rw [show _ = _ from h]; exact .int i
  | .str s, _, _, h => by rw [show _ = _ from h]; exact .str s
  | .tup l, _, n, h => by
    obtain ⟨a, xs, rfl, h1, h2⟩ := h
    exact .tup h1 (TvL.dp l xs n h2)
  | .lst l, _, n, h => by
    obtain ⟨a, xs, rfl, h1, h2⟩ := h
    exact .lst (.of h1) (TvL.dp l xs n h2)
  | .adr _, _, n, _ => by cases n
theorem TvL.dp : ∀ (l : List T) (xs : List V), T.noAL l = true → TvL K F l xs → DpAll K F xs (T.pdL l)
  | [], xs, _, h => by rw [show xs = [] from h]; exact .nil
  | t :: l, _, n, h => by
    obtain ⟨x, r, rfl, h1, h2⟩ := h
    have n2 := Bool.and_eq_true_iff.mp (show (T.noA t && T.noAL l) = true from n)
    exact .cons (Tv.dp t x n2.1 h1) (TvL.dp l r n2.2 h2)
end
end
/-! ### expressions -/
theorem VR.fz {K : PySem.W.Frag} {W : Wld} {B : Hp} {ρ : PS'} {σ : L2.St} {F H : Hp} {t : T} {v : V} (h : Tv K F t v) : VR K W B ρ σ F H t false v := h
section
variable {K : PySem.W.Frag} {W : Wld} {B : Hp} {ρ : PS'} {σ : L2.St} {F H : Hp}
theorem VR.int {i : Int} : VR K W B ρ σ F H (.int i) false (.int i) := rfl
theorem VR.bl {i : Bool} : VR K W B ρ σ F H (.bl i) false (.bl i) := rfl
theorem VR.str {i : Str} : VR K W B ρ σ F H (.str i) false (.str i) := rfl
theorem VR.non : VR K W B ρ σ F H .non false .non := rfl
end
abbrev PE' := PS' → (T → Bool → PS' → Prop) → Prop
def SmE (K : PySem.W.Frag) (W : Wld) (t : TE) (p : PE') : Prop :=
  ∀ (B F0 : Hp) (ρ : PS') (σ : L2.St) (F H : Hp) (Φ : T → Bool → PS' → Prop) (Q : VK), Rep K W B F0 ρ σ F H → p ρ Φ →
    (∀ τ f ρ' v F' H', Rep K W B F0 ρ' σ F' H' → Le F F' → VR K W B ρ' σ F' H' τ f v → Φ τ f ρ' → Q v H') → t σ H Q
structure QE (X : Cx) (W : Wld) (e : Expr) (p : PE') : Prop where
  ex : ∃ t, PE X e t ∧ SmE X.K W t p
theorem SmE.fz {K : PySem.W.Frag} {W : Wld} {t : TE} {p : PE'} (h : SmE K W t p) {B F0 : Hp} {ρ : PS'} {σ : L2.St} {F H : Hp} {Q : VK} {Ψ : T → PS' → Prop} (R : Rep K W B F0 ρ σ F H) (hp : p ρ fun τ _ ρ' => Ψ τ ρ')
    (k : ∀ τ ρ' v F' H', Rep K W B F0 ρ' σ F' H' → Le F F' → Tv K F' τ v → Ψ τ ρ' → Q v H') : t σ H Q :=
  h B F0 ρ σ F H _ Q R hp fun τ f ρ' v F' H' R' le vr q => by
    obtain ⟨F2, R2, le2, tv⟩ := R'.freeze vr
    exact k τ ρ' v F2 H' R2 (le.trans le2) tv q
/-- .. read only: a slot's own list stays its own -/
inductive Rdr where
  | fz (t : T) | sl (i : Nat)
def Rdr.look : Rdr → PS' → Option T
  | .fz t, _ => some t
  | .sl i, ρ => match ρ[i]? with
    | some (Sl.ow l) => some (.lst l)
    | some (Sl.fz t) => some t
    | _ => none
def RdOk (K : PySem.W.Frag) (F : Hp) (σ : L2.St) : Rdr → V → Prop
  | .fz t, v => Tv K F t v
  | .sl i, v => σ[i]? = some (some v)
/-- readable in H, its items frozen in F -/
def Rv (K : PySem.W.Frag) (F H : Hp) : T → V → Prop
  | .lst l, v => ∃ a xs, v = .ref a ∧ H a = some (.lst xs) ∧ TvL K F l xs
  | t, v => Tv K F t v
theorem Rv.of {K : PySem.W.Frag} {F H : Hp} (le : Le F H) {t : T} {v : V} (h : Tv K F t v) : Rv K F H t v := by
  cases t with
  | lst l =>
    obtain ⟨a, xs, e, h1, h2⟩ := h
    exact ⟨a, xs, e, le _ _ h1, h2⟩
  | _ => exact h
abbrev PR' := PS' → (Rdr → PS' → Prop) → Prop
def SmR (K : PySem.W.Frag) (W : Wld) (t : TE) (p : PR') : Prop :=
  ∀ (B F0 : Hp) (ρ : PS') (σ : L2.St) (F H : Hp) (Φ : Rdr → PS' → Prop) (Q : VK), Rep K W B F0 ρ σ F H → p ρ Φ →
    (∀ r ρ' v F' H', Rep K W B F0 ρ' σ F' H' → Le F F' → RdOk K F' σ r v → Φ r ρ' → Q v H') → t σ H Q
structure QR (X : Cx) (W : Wld) (e : Expr) (p : PR') : Prop where
  ex : ∃ t, PE X e t ∧ SmR X.K W t p
section
variable {K : PySem.W.Frag} {W : Wld} {B F0 F F' H : Hp} {ρ : PS'} {σ : L2.St}
theorem RdOk.le (le : Le F F') {r : Rdr} {v : V} (h : RdOk K F σ r v) : RdOk K F' σ r v := by
  cases r with
  | fz t => exact Tv.le le _ _ h
  | sl i => exact h
theorem Rep.rv (R : Rep K W B F0 ρ σ F H) {r : Rdr} {v : V} {t : T} (h : RdOk K F σ r v) (e : r.look ρ = some t) : Rv K F H t v := by
  cases r with
  | fz u =>
    have : u = t := Option.some.inj e
    rw [← this]
    exact Rv.of R.fh h
  | sl i =>
    have h : σ[i]? = some (some v) := h
    have e : (match ρ[i]? with
      | some (Sl.ow l) => some (.lst l)
      | some (Sl.fz t) => some t
      | _ => none) = some t := e
    split at e
    · rename_i l hl
      obtain rfl := Option.some.inj e
      obtain ⟨a, xs, e1, e2, e3, _⟩ := R.ow i l hl
      rw [h] at e1
      obtain rfl := Option.some.inj (Option.some.inj e1)
      exact ⟨a, xs, rfl, e2, e3⟩
    · rename_i u hu
      obtain rfl := Option.some.inj e
      obtain ⟨w, e1, e2⟩ := R.fz i u hu
      rw [h] at e1
      obtain rfl := Option.some.inj (Option.some.inj e1)
      exact Rv.of R.fh e2
    · cases e
end
section
variable {X : Cx} {W : Wld} {a b c e : Expr} {pos : Pos}
/-! #### names, constants -/
def pC (t : T) : PE' := fun ρ Φ => Φ t false ρ
theorem qe_const {v : V} {t : T} (h : PE X e (tC v)) (hv : ∀ F, Tv X.K F t v) : QE X W e (pC t) := ⟨_, h, fun B F0 ρ σ F H Φ Q R hp k => k t false ρ v F H R (Le.refl _) (hv F) hp⟩
theorem qe_int {i : Int} {j : Nat} : QE X W (.Constant (.int i) j pos) (pC (.int i)) := qe_const pe_int fun _ => rfl
theorem qe_str {i : Str} {j : Nat} : QE X W (.Constant (.str i) j pos) (pC (.str i)) := qe_const pe_str fun _ => rfl
theorem qe_bl {i : Bool} {j : Nat} : QE X W (.Constant (.bool i) j pos) (pC (.bl i)) := qe_const pe_bl fun _ => rfl
theorem qe_non {j : Nat} : QE X W (.Constant .none j pos) (pC .non) := qe_const pe_non fun _ => rfl
def pV (i : Nat) : PE' := fun ρ Φ => match ρ[i]? with
  | some (Sl.fz t) => Φ t false ρ
  | some (Sl.ow l) => Φ (.lst l) false (ρ.set i (Sl.fz (.lst l)))
  | _ => False
theorem qe_name {x : Str} {i : Nat} (h : PE X (.Name x pos) (tVar i)) : QE X W (.Name x pos) (pV i) := by
  refine ⟨_, h, fun B F0 ρ σ F H Φ Q R hp k => ?_⟩
  unfold pV at hp
  split at hp
  · rename_i t ht
    obtain ⟨v, e1, e2⟩ := R.fz i t ht
    exact ⟨v, e1, k _ false _ v F H R (Le.refl _) (VR.fz e2) hp⟩
  · rename_i l hl
    obtain ⟨a, xs, e1, e2, e3, e4, e5, e6⟩ := R.ow i l hl
    obtain ⟨F', R', le⟩ := R.freezeSl hl
    obtain ⟨w, z1, z2⟩ := R'.fz i (.lst l) (List.getElem?_set_self (List.getElem?_eq_some_iff.mp hl).1)
    rw [e1] at z1
    cases z1
    exact ⟨_, e1, k _ false _ _ F' H R' le (VR.fz z2) hp⟩
  · exact hp.elim
def pRV (i : Nat) : PR' := fun ρ Φ => match ρ[i]? with
  | some (Sl.fz t) => Φ (.fz t) ρ
  | some (Sl.ow _) => Φ (.sl i) ρ
  | _ => False
theorem qr_name {x : Str} {i : Nat} (h : PE X (.Name x pos) (tVar i)) : QR X W (.Name x pos) (pRV i) := by
  refine ⟨_, h, fun B F0 ρ σ F H Φ Q R hp k => ?_⟩
  unfold pRV at hp
  split at hp
  · rename_i t ht
    obtain ⟨v, e1, e2⟩ := R.fz i t ht
    exact ⟨v, e1, k (.fz t) ρ v F H R (Le.refl _) e2 hp⟩
  · rename_i l hl
    obtain ⟨a, xs, e1, e2⟩ := R.ow i l hl
    exact ⟨_, e1, k (.sl i) ρ _ F H R (Le.refl _) e1 hp⟩
  · exact hp.elim
def pRE (p : PE') : PR' := fun ρ Φ => p ρ fun t _ ρ' => Φ (.fz t) ρ'
theorem qr_of {p : PE'} (h : QE X W e p) : QR X W e (pRE p) := by
  obtain ⟨t, h1, h2⟩ := h.ex
  exact ⟨t, h1, fun B F0 ρ σ F H Φ Q R hp k => h2.fz R hp fun τ ρ' v F' H' R' le tv q => k (.fz τ) ρ' v F' H' R' le tv q⟩
/-- a global that stands as a value -/
theorem qe_glob {x : Str} {v : V} {u : Value} {t : T} (hg : Gl X x) (hm : X.mg x = some u) (r : RelV v u) (hv : ∀ F, Tv X.K F t v) (h : ∀ (hg : Gl X x) (hm : X.mg x = some u) (r : RelV v u), PE X (.Name x pos) (tC v)) : QE X W (.Name x pos) (pC t) := qe_const (h hg hm r) hv
/-! #### argument lists, displays -/
abbrev PA' := PS' → (List T → PS' → Prop) → Prop
def SmA (K : PySem.W.Frag) (W : Wld) (t : TA) (p : PA') : Prop :=
  ∀ (B F0 : Hp) (ρ : PS') (σ : L2.St) (F H : Hp) (Φ : List T → PS' → Prop) (Q : List V → Hp → Prop), Rep K W B F0 ρ σ F H → p ρ Φ →
    (∀ l ρ' vs F' H', Rep K W B F0 ρ' σ F' H' → Le F F' → TvL K F' l vs → Φ l ρ' → Q vs H') → t σ H Q
structure QA (X : Cx) (W : Wld) (es : List Expr) (p : PA') : Prop where
  ex : ∃ t, PA X es t ∧ SmA X.K W t p
def pNil : PA' := fun ρ Φ => Φ [] ρ
def pCons (p : PE') (q : PA') : PA' := fun ρ Φ => p ρ fun t _ ρ1 => q ρ1 fun l ρ2 => Φ (t :: l) ρ2
def T.items : T → Option (List T)
  | .tup m => some m
  | .lst m => some m
  | _ => none
def pStar (p : PE') (q : PA') : PA' := fun ρ Φ => p ρ fun t _ ρ1 => ∃ m, t.items = some m ∧ q ρ1 fun l ρ2 => Φ (m ++ l) ρ2
theorem items_sq {K : PySem.W.Frag} {F H : Hp} (le : Le F H) {t : T} {v : V} {m : List T} (e : t.items = some m) (h : Tv K F t v) : ∃ a xs, v = .ref a ∧ (SqT K H a xs ∨ SqL K H a xs) ∧ TvL K F m xs := by
  cases t <;> first | cases e | skip
  · obtain ⟨a, xs, e1, e2, e3⟩ := h
    exact ⟨a, xs, e1, .inl (sqt_le le e2), e3⟩
  · obtain ⟨a, xs, e1, e2, e3⟩ := h
    exact ⟨a, xs, e1, .inr (.of (le _ _ e2)), e3⟩
variable {es : List Expr} {pa pb : PE'} {q : PA'}
theorem qa_nil : QA X W [] pNil := ⟨_, pa_nil, fun B F0 ρ σ F H Φ Q R hp k => k [] ρ [] F H R (Le.refl _) rfl hp⟩
theorem qa_cons (ha : QE X W e pa) (hr : QA X W es q) (hs : starEach (e :: es) X.env = (false, eval e X.env) :: starEach es X.env := by rfl) : QA X W (e :: es) (pCons pa q) := by
  obtain ⟨t, h1, h2⟩ := ha.ex
  obtain ⟨u, h3, h4⟩ := hr.ex
  refine ⟨_, pa_cons h1 h3 hs, fun B F0 ρ σ F H Φ Q R hp k => ?_⟩
  refine h2.fz R hp fun τ ρ1 v F1 H1 R1 le1 tv1 q1 => ?_
  refine h4 B F0 ρ1 σ F1 H1 _ _ R1 q1 fun l ρ2 vs F2 H2 R2 le2 tvl q2 => ?_
  exact k (τ :: l) ρ2 (v :: vs) F2 H2 R2 (le1.trans le2) ⟨v, vs, rfl, Tv.le le2 _ _ tv1, tvl⟩ q2
theorem qa_star {p : Pos} (ha : QE X W e pa) (hr : QA X W es q) (hs : starEach (.Starred e p :: es) X.env = (true, eval e X.env) :: starEach es X.env := by rfl) : QA X W (.Starred e p :: es) (pStar pa q) := by
  obtain ⟨t, h1, h2⟩ := ha.ex
  obtain ⟨u, h3, h4⟩ := hr.ex
  refine ⟨_, StX.pa_star h1 h3 hs, fun B F0 ρ σ F H Φ Q R hp k => ?_⟩
  refine h2.fz R hp fun τ ρ1 v F1 H1 R1 le1 tv1 q1 => ?_
  obtain ⟨m, em, q1⟩ := q1
  obtain ⟨a, xs, ev, hx, tm⟩ := items_sq R1.fh em tv1
  refine ⟨a, xs, ev, hx, h4 B F0 ρ1 σ F1 H1 _ _ R1 q1 fun l ρ2 vs F2 H2 R2 le2 tvl q2 => ?_⟩
  exact k (m ++ l) ρ2 (xs ++ vs) F2 H2 R2 (le1.trans le2) (TvL.app (TvL.le le2 _ _ tm) tvl) q2
end
end Y

namespace Y
open PySem PySem.Spec PyProof.Rows L2
theorem sl16 : sizeLine = 16777216 := sizeLine_eq
section
variable {X : Cx} {W : Wld} {a b c e : Expr} {es : List Expr} {pos : Pos} {pa pb pc : PE'} {q : PA'}
/-! #### displays -/
def pTup (q : PA') : PE' := fun ρ Φ => q ρ fun l ρ' => l.length ≤ 16000000 ∧ Φ (.tup l) false ρ'
def pLst (q : PA') : PE' := fun ρ Φ => q ρ fun l ρ' => l.length ≤ 16000000 ∧ Φ (.lst l) true ρ'
theorem qe_tup {x1} (h : QA X W es q) : QE X W (.Tuple es x1 pos) (pTup q) := by
  obtain ⟨t, h1, h2⟩ := h.ex
  refine ⟨_, pe_tup h1, fun B F0 ρ σ F H Φ Q R hp k => ?_⟩
  refine h2 B F0 ρ σ F H _ _ R hp fun l ρ1 vs F1 H1 R1 le1 tvl q1 => ?_
  obtain ⟨hl, q1⟩ := q1
  have := tvl.length
  have := sl16
  refine ⟨by omega, fun p np => ?_⟩
  obtain ⟨F2, R2, le2, tv⟩ := R1.newT np tvl
  exact k _ false ρ1 _ F2 _ R2 (le1.trans le2) (VR.fz tv) q1
theorem qe_lst (h : QA X W es q) : QE X W (.List es pos) (pLst q) := by
  obtain ⟨t, h1, h2⟩ := h.ex
  refine ⟨_, pe_lst h1, fun B F0 ρ σ F H Φ Q R hp k => ?_⟩
  refine h2 B F0 ρ σ F H _ _ R hp fun l ρ1 vs F1 H1 R1 le1 tvl q1 => ?_
  obtain ⟨hl, q1⟩ := q1
  have := tvl.length
  have := sl16
  refine ⟨by omega, fun p np => ?_⟩
  obtain ⟨R2, vr⟩ := R1.newL np tvl
  exact k _ true ρ1 _ F1 _ R2 le1 vr q1
/-! #### two-place operations, by values -/
/-- what f gives, whatever the rule -/
def rS2 (X : Cx) (f : Value → Value → Sem Value) : R2 := fun x y H Q => ∀ (pins : List (Addr × Obj)) (s : Shared) (σ : L2.St) (v u : Value), Inv X pins σ H s → RelV x v → RelV y u → wpAny (model X.prog X.w) X.A (f v u) (EP X pins σ Q) X.xe s
theorem opS (X : Cx) (f : Value → Value → Sem Value) : OpR X f (rS2 X f) := fun pins s σ H x y v u Q I rx ry h => h pins s σ v u I rx ry
theorem rS2.of {f : Value → Value → Sem Value} {r : R2} (o : OpR X f r) {x y : V} {H : Hp} {Q : VK} (h : r x y H Q) : rS2 X f x y H Q := fun pins s σ v u I rx ry => o pins s σ H x y v u Q I rx ry h
def OpQ (X : Cx) (W : Wld) (f : Value → Value → Sem Value) (P : T → T → (T → Bool → Prop) → Prop) : Prop :=
  ∀ (B F0 : Hp) (ρ : PS') (σ : L2.St) (F H : Hp) (x y : T) (v u : V) (Φ : T → Bool → Prop) (Q : VK), Rep X.K W B F0 ρ σ F H → Tv X.K F x v → Tv X.K F y u → P x y Φ →
    (∀ τ f w F' H', Rep X.K W B F0 ρ σ F' H' → Le F F' → VR X.K W B ρ σ F' H' τ f w → Φ τ f → Q w H') → rS2 X f v u H Q
def pOp (P : T → T → (T → Bool → Prop) → Prop) (pa pb : PE') : PE' := fun ρ Φ => pa ρ fun x _ ρ1 => pb ρ1 fun y _ ρ2 => P x y fun τ f => Φ τ f ρ2
theorem sm_op {f : Value → Value → Sem Value} {P} (ho : OpQ X W f P) {ta tb : TE} (ha : SmE X.K W ta pa) (hb : SmE X.K W tb pb) : SmE X.K W (tOp (rS2 X f) ta tb) (pOp P pa pb) := fun B F0 ρ σ F H Φ Q R hp k => by
  refine ha.fz R hp fun x ρ1 v F1 H1 R1 le1 tv1 q1 => ?_
  refine hb.fz R1 q1 fun y ρ2 u F2 H2 R2 le2 tv2 q2 => ?_
  exact ho B F0 ρ2 σ F2 H2 x y v u _ Q R2 (Tv.le le2 _ _ tv1) tv2 q2 fun τ f w F' H' R' le vr q => k τ f ρ2 w F' H' R' (le1.trans (le2.trans le)) vr q
theorem qe_op {op : Operator} {P} (ho : OpQ X W (binaryOp op) P) (ha : QE X W a pa) (hb : QE X W b pb) : QE X W (.BinOp a op b pos) (pOp P pa pb) := by
  obtain ⟨t, h1, h2⟩ := ha.ex
  obtain ⟨u, h3, h4⟩ := hb.ex
  exact ⟨_, pe_op (opS X _) h1 h3, sm_op ho h2 h4⟩
theorem qe_cmp {op : CmpOp} {P} (ho : OpQ X W (compareOp op) P) (ha : QE X W a pa) (hb : QE X W b pb) (hm : behindInMarks op b = false) : QE X W (.Compare a [op] [b] pos) (pOp P pa pb) := by
  obtain ⟨t, h1, h2⟩ := ha.ex
  obtain ⟨u, h3, h4⟩ := hb.ex
  exact ⟨_, pe_cmpR (opS X _) h1 h3 hm, sm_op ho h2 h4⟩
theorem OpQ.int {f : Value → Value → Sem Value} {C : Int → Int → Prop} {g : Int → Int → Int} (h : OpR X f (rI C fun i j => .int (g i j))) : OpQ X W f (fun x y Φ => ∃ i j, x = .int i ∧ y = .int j ∧ C i j ∧ Φ (.int (g i j)) false) := by
  intro B F0 ρ σ F H x y v u Φ Q R hx hy hp k
  obtain ⟨i, j, rfl, rfl, hc, hp⟩ := hp
  exact rS2.of h ⟨i, j, hx, hy, hc, k _ false _ F H R (Le.refl _) VR.int hp⟩
theorem OpQ.int0 {f : Value → Value → Sem Value} {g : Int → Int → T} {g' : Int → Int → V} (hg : ∀ i j F, Tv X.K F (g i j) (g' i j)) (h : OpR X f (rI0 fun i j => g' i j)) : OpQ X W f (fun x y Φ => ∃ i j, x = .int i ∧ y = .int j ∧ Φ (g i j) false) := by
  intro B F0 ρ σ F H x y v u Φ Q R hx hy hp k
  obtain ⟨i, j, rfl, rfl, hp⟩ := hp
  exact rS2.of h ⟨i, j, hx, hy, k _ false _ F H R (Le.refl _) (VR.fz (hg i j F)) hp⟩
/-- + of ints, texts, lists, tuples -/
def PAdd (x y : T) (Φ : T → Bool → Prop) : Prop := match x, y with
  | .int i, .int j => Φ (.int (i + j)) false
  | .str i, .str j => i.length + j.length ≤ 16000000 ∧ Φ (.str (i ++ j)) false
  | .lst l, .lst m => l.length + m.length ≤ 16000000 ∧ Φ (.lst (l ++ m)) true
  | .tup l, .tup m => l.length + m.length ≤ 16000000 ∧ Φ (.tup (l ++ m)) false
  | _, _ => False
theorem oq_add : OpQ X W (binaryOp .Add) PAdd := by
  intro B F0 ρ σ F H x y v u Φ Q R hx hy hp k
  have hs := sl16
  unfold PAdd at hp
  split at hp
  · rename_i i j
    rw [show v = .int i from hx, show u = .int j from hy]
    exact rS2.of op_add ⟨i, j, rfl, rfl, k _ false _ F H R (Le.refl _) VR.int hp⟩
  · rename_i i j
    rw [show v = .str i from hx, show u = .str j from hy]
    exact rS2.of op_add_str ⟨i, j, rfl, rfl, by omega, k _ false _ F H R (Le.refl _) VR.str hp.2⟩
  · rename_i l m
    obtain ⟨p, xs, rfl, h1, h2⟩ := hx
    obtain ⟨p2, ys, rfl, h3, h4⟩ := hy
    have l1 := h2.length
    have l2 := h4.length
    refine rS2.of op_cat ⟨p, p2, xs, ys, rfl, rfl, R.fh _ _ h1, R.fh _ _ h3, by omega, fun z nz => ?_⟩
    obtain ⟨R2, vr⟩ := R.newL nz (TvL.app h2 h4)
    exact k _ true _ F _ R2 (Le.refl _) vr hp.2
  · rename_i l m
    obtain ⟨p, xs, rfl, h1, h2⟩ := hx
    obtain ⟨p2, ys, rfl, h3, h4⟩ := hy
    have l1 := h2.length
    have l2 := h4.length
    have hl : ∀ {l : List T} {xs : List V}, TvL X.K F l xs → xs = [] → l = [] := fun {l xs} h e => by
      have := h.length
      rw [e, List.length_nil] at this
      exact List.eq_nil_of_length_eq_zero this.symm
    refine rS2.of op_catA ⟨p, p2, xs, ys, rfl, rfl, sqt_le R.fh h1, sqt_le R.fh h3, by omega, fun e => ?_, fun _ e => ?_, fun _ _ z nz => ?_⟩
    · have e2 := hl h2 e
      rw [e2] at hp
      exact k _ false _ F H R (Le.refl _) (VR.fz (t := .tup _) ⟨p2, ys, rfl, h3, h4⟩) hp.2
    · have e2 := hl h4 e
      rw [e2, List.append_nil] at hp
      exact k _ false _ F H R (Le.refl _) (VR.fz (t := .tup _) ⟨p, xs, rfl, h1, h2⟩) hp.2
    · obtain ⟨F2, R2, le2, tv⟩ := R.newT nz (TvL.app h2 h4)
      exact k _ false _ F2 _ R2 le2 (VR.fz tv) hp.2
  · exact hp.elim
def PSub (x y : T) (Φ : T → Bool → Prop) : Prop := match x, y with
  | .int i, .int j => Φ (.int (i - j)) false
  | _, _ => False
theorem oq_sub : OpQ X W (binaryOp .Sub) PSub := by
  intro B F0 ρ σ F H x y v u Φ Q R hx hy hp k
  unfold PSub at hp
  split at hp
  · exact rS2.of op_sub ⟨_, _, hx, hy, k _ false _ F H R (Le.refl _) VR.int hp⟩
  · exact hp.elim
def PMul (x y : T) (Φ : T → Bool → Prop) : Prop := match x, y with
  | .int i, .int j => (CMul i j ∨ CMulX i j) ∧ Φ (.int (i * j)) false
  | .lst l, .int j => -(2 ^ 63) ≤ j ∧ j < 2 ^ 63 ∧ l.length * j.toNat ≤ 16000000 ∧ Φ (.lst (List.replicate j.toNat l).flatten) true
  | _, _ => False
theorem oq_mul : OpQ X W (binaryOp .Mult) PMul := by
  intro B F0 ρ σ F H x y v u Φ Q R hx hy hp k
  have hs := sl16
  unfold PMul at hp
  split at hp
  · obtain ⟨hc, hp⟩ := hp
    have fin := k _ false _ F H R (Le.refl _) VR.int hp
    rcases hc with hc | hc
    · exact rS2.of op_mul ⟨_, _, hx, hy, hc, fin⟩
    · exact rS2.of op_mulX ⟨_, _, hx, hy, hc, fin⟩
  · obtain ⟨h63, h63', hl, hp⟩ := hp
    obtain ⟨p, xs, rfl, h1, h2⟩ := hx
    have l1 := h2.length
    refine rS2.of op_rep ⟨p, _, xs, rfl, hy, R.fh _ _ h1, h63, h63', by rw [l1]; omega, fun z nz => ?_⟩
    obtain ⟨R2, vr⟩ := R.newL nz (h2.rep _)
    exact k _ true _ F _ R2 (Le.refl _) vr hp
  · exact hp.elim
def PMod (x y : T) (Φ : T → Bool → Prop) : Prop := match x, y with
  | .int i, .int j => 0 < j ∧ Φ (.int (i % j)) false
  | _, _ => False
theorem oq_mod : OpQ X W (binaryOp .Mod) PMod := by
  intro B F0 ρ σ F H x y v u Φ Q R hx hy hp k
  unfold PMod at hp
  split at hp
  · exact rS2.of op_mod ⟨_, _, hx, hy, hp.1, k _ false _ F H R (Le.refl _) VR.int hp.2⟩
  · exact hp.elim
def PFdiv (x y : T) (Φ : T → Bool → Prop) : Prop := match x, y with
  | .int i, .int j => (CDiv i j ∨ CDivW i j) ∧ Φ (.int (i / j)) false
  | _, _ => False
theorem oq_fdiv : OpQ X W (binaryOp .FloorDiv) PFdiv := by
  intro B F0 ρ σ F H x y v u Φ Q R hx hy hp k
  unfold PFdiv at hp
  split at hp
  · obtain ⟨hc, hp⟩ := hp
    have fin := k _ false _ F H R (Le.refl _) VR.int hp
    rcases hc with hc | hc
    · exact rS2.of op_fdiv ⟨_, _, hx, hy, hc, fin⟩
    · exact rS2.of op_fdivW ⟨_, _, hx, hy, hc, fin⟩
  · exact hp.elim
def PPow (x y : T) (Φ : T → Bool → Prop) : Prop := match x, y with
  | .int i, .int j => CPow i j ∧ Φ (.int (i ^ j.toNat)) false
  | _, _ => False
theorem oq_pow : OpQ X W (binaryOp .Pow) PPow := by
  intro B F0 ρ σ F H x y v u Φ Q R hx hy hp k
  unfold PPow at hp
  split at hp
  · exact rS2.of op_pow ⟨_, _, hx, hy, hp.1, k _ false _ F H R (Le.refl _) VR.int hp.2⟩
  · exact hp.elim
def PAnd (x y : T) (Φ : T → Bool → Prop) : Prop := match x, y with
  | .int i, .int j => Φ (.int (Builtin.bitAnd i j)) false
  | _, _ => False
theorem oq_and : OpQ X W (binaryOp .BitAnd) PAnd := by
  intro B F0 ρ σ F H x y v u Φ Q R hx hy hp k
  unfold PAnd at hp
  split at hp
  · exact rS2.of op_and ⟨_, _, hx, hy, k _ false _ F H R (Le.refl _) VR.int hp⟩
  · exact hp.elim
/-! #### comparisons -/
def PCmpI (g : Int → Int → Bool) (x y : T) (Φ : T → Bool → Prop) : Prop := match x, y with
  | .int i, .int j => Φ (.bl (g i j)) false
  | _, _ => False
theorem oq_ci {op : CmpOp} {g : Int → Int → Bool} (h : OpR X (compareOp op) (rI0 fun i j => .bl (g i j))) : OpQ X W (compareOp op) (PCmpI g) := by
  intro B F0 ρ σ F H x y v u Φ Q R hx hy hp k
  unfold PCmpI at hp
  split at hp
  · exact rS2.of h ⟨_, _, hx, hy, k _ false _ F H R (Le.refl _) VR.bl hp⟩
  · exact hp.elim
abbrev gLt : Int → Int → Bool := fun i j => decide (i < j)
abbrev gLe : Int → Int → Bool := fun i j => decide (i ≤ j)
abbrev gGt : Int → Int → Bool := fun i j => decide (j < i)
abbrev gGe : Int → Int → Bool := fun i j => decide (j ≤ i)
theorem oq_lt : OpQ X W (compareOp .Lt) (PCmpI gLt) := oq_ci op_lt
theorem oq_le : OpQ X W (compareOp .LtE) (PCmpI gLe) := oq_ci op_le
theorem oq_gt : OpQ X W (compareOp .Gt) (PCmpI gGt) := oq_ci op_gt
theorem oq_ge : OpQ X W (compareOp .GtE) (PCmpI gGe) := oq_ci op_ge
def T.isN : T → Bool
  | .non => true
  | _ => false
theorem isN_v {K : PySem.W.Frag} {F : Hp} {t : T} {v : V} (h : Tv K F t v) : decide (v = .non) = t.isN := by
  cases t with
  | non => rw [show v = .non from h]; rfl
  | bl b => rw [show v = .bl b from h]; rfl
  | int b => rw [show v = .int b from h]; rfl
  | str b => rw [show v = .str b from h]; exact decide_eq_false (fun z => nomatch z)
  | adr b => rw [show v = .ref b from h]; rfl
  | tup l => obtain ⟨a, _, rfl, _⟩ := h; rfl
  | lst l => obtain ⟨a, _, rfl, _⟩ := h; rfl
def PIs (x y : T) (Φ : T → Bool → Prop) : Prop := match y with
  | .non => Φ (.bl x.isN) false
  | _ => False
def PIsNot (x y : T) (Φ : T → Bool → Prop) : Prop := match y with
  | .non => Φ (.bl (!x.isN)) false
  | _ => False
theorem oq_is : OpQ X W (compareOp .Is) PIs := by
  intro B F0 ρ σ F H x y v u Φ Q R hx hy hp k
  unfold PIs at hp
  split at hp
  · refine rS2.of op_isN ⟨hy, ?_⟩
    rw [isN_v hx]
    exact k _ false _ F H R (Le.refl _) VR.bl hp
  · exact hp.elim
theorem oq_isnot : OpQ X W (compareOp .IsNot) PIsNot := by
  intro B F0 ρ σ F H x y v u Φ Q R hx hy hp k
  unfold PIsNot at hp
  split at hp
  · refine rS2.of op_notN ⟨hy, ?_⟩
    rw [isN_v hx]
    exact k _ false _ F H R (Le.refl _) VR.bl hp
  · exact hp.elim
def T.sc : T → T → Bool
  | .non, .non => true
  | .bl _, .bl _ => true
  | .int _, .int _ => true
  | .str _, .str _ => true
  | _, _ => false
theorem sc_v {K : PySem.W.Frag} {F : Hp} {x y : T} {v u : V} (hx : Tv K F x v) (hy : Tv K F y u) (h : T.sc x y = true) : scal v u = true ∧ decide (v = u) = T.eqv x y := by
  cases x <;> cases y <;> first | cases h | skip
  · rw [show v = _ from hx, show u = _ from hy]
    exact ⟨rfl, rfl⟩
  · rename_i a b
    rw [show v = _ from hx, show u = _ from hy]
    refine ⟨rfl, ?_⟩
    show _ = (a == b)
    rw [Bool.eq_iff_iff]; simp
  · rename_i a b
    rw [show v = _ from hx, show u = _ from hy]
    refine ⟨rfl, ?_⟩
    show _ = (a == b)
    rw [Bool.eq_iff_iff]; simp
  · rename_i a b
    rw [show v = _ from hx, show u = _ from hy]
    refine ⟨rfl, ?_⟩
    show _ = (a == b)
    rw [Bool.eq_iff_iff]; simp
def PEq (x y : T) (Φ : T → Bool → Prop) : Prop := (T.sc x y || (x.cmp && y.cmp)) = true ∧ Φ (.bl (T.eqv x y)) false
def PNe (x y : T) (Φ : T → Bool → Prop) : Prop := (T.sc x y || (x.cmp && y.cmp)) = true ∧ Φ (.bl (!T.eqv x y)) false
theorem cmp_parts {t : T} (h : t.cmp = true) : t.noA = true ∧ SeqAt.shaped t.pd = true := Bool.and_eq_true_iff.mp h
theorem eq_cases {x y : T} (h : (T.sc x y || (x.cmp && y.cmp)) = true) : T.sc x y = true ∨ (x.cmp = true ∧ y.cmp = true) := by
  rcases Bool.or_eq_true_iff.mp h with h | h
  · exact .inl h
  · exact .inr (Bool.and_eq_true_iff.mp h)
theorem oq_eq (hu : X.A.units + 64 < cLine) : OpQ X W (compareOp .Eq) PEq := by
  intro B F0 ρ σ F H x y v u Φ Q R hx hy hp k
  obtain ⟨c1, hp⟩ := hp
  rcases eq_cases c1 with c1 | ⟨c1, c2⟩
  · obtain ⟨e1, e2⟩ := sc_v hx hy c1
    refine rS2.of op_eq ⟨e1, ?_⟩
    rw [e2]
    exact k _ false _ F H R (Le.refl _) VR.bl hp
  obtain ⟨n1, s1⟩ := cmp_parts c1
  obtain ⟨n2, s2⟩ := cmp_parts c2
  exact rS2.of (op_eqD hu) ⟨_, _, Tv.dp x v n1 (Tv.le R.fh _ _ hx), Tv.dp y u n2 (Tv.le R.fh _ _ hy), s1, s2, k _ false _ F H R (Le.refl _) VR.bl hp⟩
theorem oq_ne (hu : X.A.units + 64 < cLine) : OpQ X W (compareOp .NotEq) PNe := by
  intro B F0 ρ σ F H x y v u Φ Q R hx hy hp k
  obtain ⟨c1, hp⟩ := hp
  rcases eq_cases c1 with c1 | ⟨c1, c2⟩
  · obtain ⟨e1, e2⟩ := sc_v hx hy c1
    refine rS2.of op_ne ⟨e1, ?_⟩
    rw [e2]
    exact k _ false _ F H R (Le.refl _) VR.bl hp
  obtain ⟨n1, s1⟩ := cmp_parts c1
  obtain ⟨n2, s2⟩ := cmp_parts c2
  exact rS2.of (op_neD hu) ⟨_, _, Tv.dp x v n1 (Tv.le R.fh _ _ hx), Tv.dp y u n2 (Tv.le R.fh _ _ hy), s1, s2, k _ false _ F H R (Le.refl _) VR.bl hp⟩
/-- in: flat things in a tuple; data in a list; a sign in a text -/
def T.flat : T → Bool
  | .non => true
  | .bl _ => true
  | .int _ => true
  | .str _ => true
  | _ => false
theorem flat_v {K : PySem.W.Frag} {F : Hp} {t : T} {v : V} (h : Tv K F t v) (f : t.flat = true) : flatV v = true := by
  cases t with
  | non => rw [show v = .non from h]; rfl
  | bl b => rw [show v = .bl b from h]; rfl
  | int b => rw [show v = .int b from h]; rfl
  | str b => rw [show v = .str b from h]; rfl
  | adr b => cases f
  | tup l => cases f
  | lst l => cases f
theorem flat_eqv {K : PySem.W.Frag} {F : Hp} {t u : T} {v w : V} (h : Tv K F t v) (h2 : Tv K F u w) (f : t.flat = true) (f2 : u.flat = true) : eqV v w = T.eqv t u := by
  cases t <;> first | cases f | skip
  all_goals
    cases u <;> first | cases f2 | skip
    all_goals
      rw [show v = _ from h, show w = _ from h2]
      first | rfl | (simp only [eqV, T.eqv, T.pd, PyData.eqv])
theorem flat_all {K : PySem.W.Frag} {F : Hp} : ∀ {l : List T} {xs : List V}, TvL K F l xs → l.all T.flat = true → xs.all flatV = true
  | [], xs, h, _ => by rw [show xs = [] from h]; rfl
  | t :: l, _, h, f => by
    obtain ⟨x, r, rfl, h1, h2⟩ := h
    rw [List.all_cons, Bool.and_eq_true] at f ⊢
    exact ⟨flat_v h1 f.1, flat_all h2 f.2⟩
theorem flat_any {K : PySem.W.Frag} {F : Hp} {t : T} {v : V} (h : Tv K F t v) (ft : t.flat = true) : ∀ {l : List T} {xs : List V}, TvL K F l xs → l.all T.flat = true → inV v xs = l.any fun z => T.eqv z t
  | [], xs, h, _ => by rw [show xs = [] from h]; rfl
  | u :: l, _, h2, f => by
    obtain ⟨x, r, rfl, h3, h4⟩ := h2
    rw [List.all_cons, Bool.and_eq_true] at f
    have ih := flat_any h ft h4 f.2
    unfold inV at ih ⊢
    rw [List.any_cons, List.any_cons, ih, flat_eqv h3 h f.1 ft]
def PIn (neg : Bool) (x y : T) (Φ : T → Bool → Prop) : Prop := match y with
  | .tup l => x.flat = true ∧ l.all T.flat = true ∧ Φ (.bl (if neg then !(l.any fun z => T.eqv z x) else l.any fun z => T.eqv z x)) false
  | .lst l => ((x.flat && l.all T.flat) || (x.cmp && T.cmp (.lst l))) = true ∧ Φ (.bl (if neg then !(l.any fun z => T.eqv z x) else l.any fun z => T.eqv z x)) false
  | .str z => ∃ c, x = .str ⟨#[c]⟩ ∧ Φ (.bl (if neg then !(decide (c ∈ z.cps.toList)) else decide (c ∈ z.cps.toList))) false
  | _ => False
theorem oq_in (hu : X.A.units + 65 < cLine) : OpQ X W (compareOp .In) (PIn false) := by
  intro B F0 ρ σ F H x y v u Φ Q R hx hy hp k
  unfold PIn at hp
  split at hp
  · rename_i l
    obtain ⟨f1, f2, hp⟩ := hp
    obtain ⟨a, xs, rfl, h1, h2⟩ := hy
    refine rS2.of op_in_seq ⟨a, xs, rfl, .inr (sqt_le R.fh h1), flat_v hx f1, flat_all h2 f2, ?_⟩
    rw [flat_any hx f1 h2 f2]
    exact k _ false _ F H R (Le.refl _) VR.bl hp
  · rename_i l
    obtain ⟨cc, hp⟩ := hp
    rcases Bool.or_eq_true_iff.mp cc with cc | cc
    · obtain ⟨f1, f2⟩ := Bool.and_eq_true_iff.mp cc
      obtain ⟨a, xs, rfl, h1, h2⟩ := hy
      refine rS2.of op_in_seq ⟨a, xs, rfl, .inl (.of (R.fh _ _ h1)), flat_v hx f1, flat_all h2 f2, ?_⟩
      rw [flat_any hx f1 h2 f2]
      exact k _ false _ F H R (Le.refl _) VR.bl hp
    obtain ⟨c1, c2⟩ := Bool.and_eq_true_iff.mp cc
    obtain ⟨n1, s1⟩ := cmp_parts c1
    obtain ⟨n2, s2⟩ := cmp_parts c2
    refine rS2.of (op_inD hu) ⟨_, _, Tv.dp x v n1 (Tv.le R.fh _ _ hx), Tv.dp _ u n2 (Tv.le R.fh _ _ hy), s1, s2, ?_⟩
    rw [T.pdL_any]
    exact k _ false _ F H R (Le.refl _) VR.bl hp
  · obtain ⟨c, rfl, hp⟩ := hp
    exact rS2.of op_in_sign ⟨c, _, hx, hy, k _ false _ F H R (Le.refl _) VR.bl hp⟩
  · exact hp.elim
theorem oq_notin (hu : X.A.units + 65 < cLine) : OpQ X W (compareOp .NotIn) (PIn true) := by
  intro B F0 ρ σ F H x y v u Φ Q R hx hy hp k
  unfold PIn at hp
  split at hp
  · rename_i l
    obtain ⟨f1, f2, hp⟩ := hp
    obtain ⟨a, xs, rfl, h1, h2⟩ := hy
    refine rS2.of op_notIn_seq ⟨a, xs, rfl, .inr (sqt_le R.fh h1), flat_v hx f1, flat_all h2 f2, ?_⟩
    rw [flat_any hx f1 h2 f2]
    exact k _ false _ F H R (Le.refl _) VR.bl hp
  · rename_i l
    obtain ⟨cc, hp⟩ := hp
    rcases Bool.or_eq_true_iff.mp cc with cc | cc
    · obtain ⟨f1, f2⟩ := Bool.and_eq_true_iff.mp cc
      obtain ⟨a, xs, rfl, h1, h2⟩ := hy
      refine rS2.of op_notIn_seq ⟨a, xs, rfl, .inl (.of (R.fh _ _ h1)), flat_v hx f1, flat_all h2 f2, ?_⟩
      rw [flat_any hx f1 h2 f2]
      exact k _ false _ F H R (Le.refl _) VR.bl hp
    obtain ⟨c1, c2⟩ := Bool.and_eq_true_iff.mp cc
    obtain ⟨n1, s1⟩ := cmp_parts c1
    obtain ⟨n2, s2⟩ := cmp_parts c2
    refine rS2.of (op_notInD hu) ⟨_, _, Tv.dp x v n1 (Tv.le R.fh _ _ hx), Tv.dp _ u n2 (Tv.le R.fh _ _ hy), s1, s2, ?_⟩
    rw [T.pdL_any]
    exact k _ false _ F H R (Le.refl _) VR.bl hp
  · obtain ⟨c, rfl, hp⟩ := hp
    exact rS2.of op_notIn_sign ⟨c, _, hx, hy, k _ false _ F H R (Le.refl _) VR.bl hp⟩
  · exact hp.elim
/-- a < b < c -/
def pChain (P P' : T → T → (T → Bool → Prop) → Prop) (pa pb pc : PE') : PE' := fun ρ Φ => pa ρ fun x _ ρ1 => pb ρ1 fun y _ ρ2 => P x y fun z _ => ∃ k, z = .bl k ∧ if k = true then pc ρ2 fun w _ ρ3 => P' y w fun τ f => Φ τ f ρ3 else Φ (.bl false) false ρ2
theorem qe_chain {op op' : CmpOp} {P P'} (ho : OpQ X W (compareOp op) P) (ho' : OpQ X W (compareOp op') P') (ha : QE X W a pa) (hb : QE X W b pb) (hc : QE X W c pc)
    (hm : lastMarks [op, op'] [b, c] = false := by with_unfolding_all rfl) : QE X W (.Compare a [op, op'] [b, c] pos) (pChain P P' pa pb pc) := by
  obtain ⟨t, h1, h2⟩ := ha.ex
  obtain ⟨u, h3, h4⟩ := hb.ex
  obtain ⟨w, h5, h6⟩ := hc.ex
  refine ⟨_, pe_chain (opS X _) (opS X _) h1 h3 h5 hm, fun B F0 ρ σ F H Φ Q R hp k => ?_⟩
  refine h2.fz R hp fun x ρ1 v F1 H1 R1 le1 tv1 q1 => ?_
  refine h4.fz R1 q1 fun y ρ2 u F2 H2 R2 le2 tv2 q2 => ?_
  refine ho B F0 ρ2 σ F2 H2 x y v u _ _ R2 (Tv.le le2 _ _ tv1) tv2 q2 fun τ f w F' H' R' le vr q => ?_
  obtain ⟨kk, rfl, q⟩ := q
  have ew : w = .bl kk := by
    cases f with
    | false => exact vr
    | true => obtain ⟨_, _, _, z, _⟩ := vr; cases z
  refine ⟨kk, ew, ?_⟩
  cases kk with
  | false =>
    rw [if_neg Bool.false_ne_true] at q ⊢
    exact k _ false ρ2 _ F' H' R' (le1.trans (le2.trans le)) VR.bl q
  | true =>
    rw [if_pos rfl] at q ⊢
    refine h6.fz R' q fun z ρ3 u3 F3 H3 R3 le3 tv3 q3 => ?_
    exact ho' B F0 ρ3 σ F3 H3 y z u u3 _ Q R3 (Tv.le (le.trans le3) _ _ tv2) tv3 q3 fun τ f w F' H' R' le' vr q => k τ f ρ3 w F' H' R' (le1.trans (le2.trans (le.trans (le3.trans le')))) vr q
/-! #### one-place -/
def KNeg (x : T) (Φ : T → Prop) : Prop := match x with
  | .int i => Φ (.int (-i))
  | _ => False
def pNeg (pa : PE') : PE' := fun ρ Φ => pa ρ fun x _ ρ1 => KNeg x fun t => Φ t false ρ1
theorem qe_neg (ha : QE X W a pa) : QE X W (.UnaryOp .USub a pos) (pNeg pa) := by
  obtain ⟨t, h1, h2⟩ := ha.ex
  refine ⟨_, pe_un un_neg h1, fun B F0 ρ σ F H Φ Q R hp k => ?_⟩
  refine h2.fz R hp fun x ρ1 v F1 H1 R1 le1 tv1 q1 => ?_
  unfold KNeg at q1
  split at q1
  · exact ⟨_, tv1, k _ false ρ1 _ F1 H1 R1 le1 VR.int q1⟩
  · exact q1.elim
end
end Y

namespace Y
open PySem PySem.Spec PyProof.Rows L2
/-! ### the weakest reading -/
def tE (K : PySem.W.Frag) (W : Wld) (p : PE') : TE := fun σ H Q => ∃ (B F0 : Hp) (ρ : PS') (F : Hp) (Φ : T → Bool → PS' → Prop), Rep K W B F0 ρ σ F H ∧ p ρ Φ ∧
  ∀ τ f ρ' v F' H', Rep K W B F0 ρ' σ F' H' → Le F F' → VR K W B ρ' σ F' H' τ f v → Φ τ f ρ' → Q v H'
theorem QE.can {X : Cx} {W : Wld} {e : Expr} {p : PE'} (h : QE X W e p) : PE X e (tE X.K W p) := by
  obtain ⟨t, h1, h2⟩ := h.ex
  refine ⟨fun pins s σ H Q I hq => h1.run pins s σ H Q I ?_⟩
  obtain ⟨B, F0, ρ, F, Φ, R, hp, k⟩ := hq
  exact h2 B F0 ρ σ F H Φ Q R hp k
theorem sm_tE {K : PySem.W.Frag} {W : Wld} {p : PE'} : SmE K W (tE K W p) p := fun B F0 ρ σ F H Φ Q R hp k => ⟨B, F0, ρ, F, Φ, R, hp, k⟩
/-! ### tests -/
abbrev PT' := PS' → (Bool → PS' → Prop) → Prop
def SmT (K : PySem.W.Frag) (W : Wld) (t : TT) (p : PT') : Prop :=
  ∀ (B F0 : Hp) (ρ : PS') (σ : L2.St) (F H : Hp) (Φ : Bool → PS' → Prop) (Q : Bool → Hp → Prop), Rep K W B F0 ρ σ F H → p ρ Φ →
    (∀ b ρ' F' H', Rep K W B F0 ρ' σ F' H' → Le F F' → Φ b ρ' → Q b H') → t σ H Q
structure QT (X : Cx) (W : Wld) (e : Expr) (p : PT') : Prop where
  ex : ∃ t, PT X e t ∧ SmT X.K W t p
structure QW (X : Cx) (W : Wld) (e : Expr) (p : PT') : Prop where
  ex : ∃ t, PW X e t ∧ SmT X.K W t p
def tT (K : PySem.W.Frag) (W : Wld) (p : PT') : TT := fun σ H Q => ∃ (B F0 : Hp) (ρ : PS') (F : Hp) (Φ : Bool → PS' → Prop), Rep K W B F0 ρ σ F H ∧ p ρ Φ ∧
  ∀ b ρ' F' H', Rep K W B F0 ρ' σ F' H' → Le F F' → Φ b ρ' → Q b H'
theorem sm_tT {K : PySem.W.Frag} {W : Wld} {p : PT'} : SmT K W (tT K W p) p := fun B F0 ρ σ F H Φ Q R hp k => ⟨B, F0, ρ, F, Φ, R, hp, k⟩
theorem QT.can {X : Cx} {W : Wld} {e : Expr} {p : PT'} (h : QT X W e p) : PT X e (tT X.K W p) := by
  obtain ⟨t, h1, h2⟩ := h.ex
  refine ⟨fun pins s σ H Q I hq => h1.run pins s σ H Q I ?_⟩
  obtain ⟨B, F0, ρ, F, Φ, R, hp, k⟩ := hq
  exact h2 B F0 ρ σ F H Φ Q R hp k
def T.tru : T → Option Bool
  | .non => some false
  | .bl b => some b
  | .int i => some (i != 0)
  | .str s => if s.length ≤ 16000000 then some ((s.length : Int) != 0) else none
  | .tup l => some (!l.isEmpty)
  | .lst l => some (!l.isEmpty)
  | .adr _ => none
theorem isE {K : PySem.W.Frag} {F : Hp} {l : List T} {xs : List V} (h : TvL K F l xs) : l.isEmpty = xs.isEmpty := by
  have := h.length
  cases l <;> cases xs <;> first | rfl | (simp at this)
theorem tru_v {K : PySem.W.Frag} {F H : Hp} (le : Le F H) {t : T} {v : V} {c : Bool} (h : Rv K F H t v) (e : t.tru = some c) : TruV K v H c := by
  have hs := sl16
  cases t with
  | non => rw [show v = .non from h]; exact (Option.some.inj e).symm
  | bl b => rw [show v = .bl b from h]; exact (Option.some.inj e).symm
  | int b => rw [show v = .int b from h]; exact (Option.some.inj e).symm
  | str b =>
    rw [show v = .str b from h]
    have e : (if b.length ≤ 16000000 then some ((b.length : Int) != 0) else none) = some c := e
    split at e
    · exact ⟨by omega, (Option.some.inj e).symm⟩
    · cases e
  | adr b => cases e
  | tup l =>
    obtain ⟨a, xs, rfl, h1, h2⟩ := h
    refine .inr (.inl ⟨xs, sqt_le le h1, ?_⟩)
    rw [← isE h2]
    exact (Option.some.inj e).symm
  | lst l =>
    obtain ⟨a, xs, rfl, h1, h2⟩ := h
    refine .inl ⟨xs, .of h1, ?_⟩
    rw [← isE h2]
    exact (Option.some.inj e).symm
section
variable {X : Cx} {W : Wld} {a b c e : Expr} {rest : List Expr} {pos : Pos} {pa pb pc : PE'} {ta tb tc : PT'} {pr : PR'}
def pTru (pr : PR') : PT' := fun ρ Φ => pr ρ fun r ρ' => ∃ t c, r.look ρ' = some t ∧ t.tru = some c ∧ Φ c ρ'
theorem qt_truth (h : QR X W a pr) (he : ∀ whole, isTrue a X.env whole = (do let v ← whole; standAt a.pos; holding [v] (truthy v))) : QT X W a (pTru pr) := by
  obtain ⟨t, h1, h2⟩ := h.ex
  refine ⟨_, pt_truth h1 he, fun B F0 ρ σ F H Φ Q R hp k => ?_⟩
  refine h2 B F0 ρ σ F H _ _ R hp fun r ρ1 v F1 H1 R1 le1 rd q1 => ?_
  obtain ⟨u, c, e1, e2, q1⟩ := q1
  exact ⟨c, tru_v R1.fh (R1.rv rd e1) e2, k c ρ1 F1 H1 R1 le1 q1⟩
def pTB (p : PE') : PT' := fun ρ Φ => p ρ fun t _ ρ' => ∃ c, t = .bl c ∧ Φ c ρ'
theorem qt_val (h : QE X W e pa) (he : ∀ whole, isTrue e X.env whole = (do let v ← whole; standAt e.pos; holding [v] (truthy v)) := by intro _; rfl) : QT X W e (pTB pa) := by
  obtain ⟨t, h1, h2⟩ := h.ex
  refine ⟨_, pt_val h1 he, fun B F0 ρ σ F H Φ Q R hp k => ?_⟩
  refine h2.fz R hp fun τ ρ1 v F1 H1 R1 le1 tv q1 => ?_
  obtain ⟨c, rfl, q1⟩ := q1
  exact ⟨c, tv, k c ρ1 F1 H1 R1 le1 q1⟩
theorem qt_cmp {op : CmpOp} {P} (ho : OpQ X W (compareOp op) P) (ha : QE X W a pa) (hb : QE X W b pb) (hm : behindInMarks op b = false) : QT X W (.Compare a [op] [b] pos) (pTB (pOp P pa pb)) := by
  obtain ⟨t, h1, h2⟩ := ha.ex
  obtain ⟨u, h3, h4⟩ := hb.ex
  refine ⟨_, pt_cmpR (opS X _) h1 h3 hm, fun B F0 ρ σ F H Φ Q R hp k => ?_⟩
  refine (sm_op ho h2 h4).fz R hp fun τ ρ1 v F1 H1 R1 le1 tv q1 => ?_
  obtain ⟨c, rfl, q1⟩ := q1
  exact ⟨c, tv, k c ρ1 F1 H1 R1 le1 q1⟩
theorem qt_chain {op op' : CmpOp} {P P'} (ho : OpQ X W (compareOp op) P) (ho' : OpQ X W (compareOp op') P') (ha : QE X W a pa) (hb : QE X W b pb) (hc : QE X W c pc)
    (hm : lastMarks [op, op'] [b, c] = false := by with_unfolding_all rfl) : QT X W (.Compare a [op, op'] [b, c] pos) (pTB (pChain P P' pa pb pc)) := by
  obtain ⟨t, h1, h2⟩ := ha.ex
  obtain ⟨u, h3, h4⟩ := hb.ex
  obtain ⟨w, h5, h6⟩ := hc.ex
  refine ⟨_, pt_chain (opS X _) (opS X _) h1 h3 h5 hm, fun B F0 ρ σ F H Φ Q R hp k => ?_⟩
  have sm : SmE X.K W (tChain (rS2 X (compareOp op)) (rS2 X (compareOp op')) t u w) (pChain P P' pa pb pc) := fun B F0 ρ σ F H Φ Q R hp k => by
    refine h2.fz R hp fun x ρ1 v F1 H1 R1 le1 tv1 q1 => ?_
    refine h4.fz R1 q1 fun y ρ2 u F2 H2 R2 le2 tv2 q2 => ?_
    refine ho B F0 ρ2 σ F2 H2 x y v u _ _ R2 (Tv.le le2 _ _ tv1) tv2 q2 fun τ f w F' H' R' le vr q => ?_
    obtain ⟨kk, rfl, q⟩ := q
    have ew : w = .bl kk := by
      cases f with
      | false => exact vr
      | true => obtain ⟨_, _, _, z, _⟩ := vr; cases z
    refine ⟨kk, ew, ?_⟩
    cases kk with
    | false =>
      rw [if_neg Bool.false_ne_true] at q ⊢
      exact k _ false ρ2 _ F' H' R' (le1.trans (le2.trans le)) VR.bl q
    | true =>
      rw [if_pos rfl] at q ⊢
      refine h6.fz R' q fun z ρ3 u3 F3 H3 R3 le3 tv3 q3 => ?_
      exact ho' B F0 ρ3 σ F3 H3 y z u u3 _ Q R3 (Tv.le (le.trans le3) _ _ tv2) tv3 q3 fun τ f w F' H' R' le' vr q => k τ f ρ3 w F' H' R' (le1.trans (le2.trans (le.trans (le3.trans le')))) vr q
  refine sm.fz R hp fun τ ρ1 v F1 H1 R1 le1 tv q1 => ?_
  obtain ⟨c, rfl, q1⟩ := q1
  exact ⟨c, tv, k c ρ1 F1 H1 R1 le1 q1⟩
def pTAnd (ta tb : PT') : PT' := fun ρ Φ => ta ρ fun c ρ1 => if c = true then tb ρ1 Φ else Φ false ρ1
def pTOr (ta tb : PT') : PT' := fun ρ Φ => ta ρ fun c ρ1 => if c = true then Φ true ρ1 else tb ρ1 Φ
def pTNot (ta : PT') : PT' := fun ρ Φ => ta ρ fun c ρ1 => Φ (!c) ρ1
theorem sm_and {t u : TT} (h1 : SmT X.K W t ta) (h2 : SmT X.K W u tb) : SmT X.K W (tAnd t u) (pTAnd ta tb) := fun B F0 ρ σ F H Φ Q R hp k => by
  refine h1 B F0 ρ σ F H _ _ R hp fun c ρ1 F1 H1 R1 le1 q1 => ?_
  cases c with
  | true =>
    rw [if_pos rfl] at q1 ⊢
    exact h2 B F0 ρ1 σ F1 H1 Φ Q R1 q1 fun b ρ2 F2 H2 R2 le2 q2 => k b ρ2 F2 H2 R2 (le1.trans le2) q2
  | false =>
    rw [if_neg Bool.false_ne_true] at q1 ⊢
    exact k false ρ1 F1 H1 R1 le1 q1
theorem sm_or {t u : TT} (h1 : SmT X.K W t ta) (h2 : SmT X.K W u tb) : SmT X.K W (tOr t u) (pTOr ta tb) := fun B F0 ρ σ F H Φ Q R hp k => by
  refine h1 B F0 ρ σ F H _ _ R hp fun c ρ1 F1 H1 R1 le1 q1 => ?_
  cases c with
  | false =>
    rw [if_neg Bool.false_ne_true] at q1 ⊢
    exact h2 B F0 ρ1 σ F1 H1 Φ Q R1 q1 fun b ρ2 F2 H2 R2 le2 q2 => k b ρ2 F2 H2 R2 (le1.trans le2) q2
  | true =>
    rw [if_pos rfl] at q1 ⊢
    exact k true ρ1 F1 H1 R1 le1 q1
theorem qw_and1 (h : QT X W a ta) : QW X W (.BoolOp .And [a] pos) ta := let ⟨t, h1, h2⟩ := h.ex; ⟨t, pw_and1 h1, h2⟩
theorem qw_or1 (h : QT X W a ta) : QW X W (.BoolOp .Or [a] pos) ta := let ⟨t, h1, h2⟩ := h.ex; ⟨t, pw_or1 h1, h2⟩
theorem qw_and (h : QT X W a ta) (h' : QW X W (.BoolOp .And (b :: rest) pos) tb) : QW X W (.BoolOp .And (a :: b :: rest) pos) (pTAnd ta tb) := let ⟨t, h1, h2⟩ := h.ex; let ⟨u, h3, h4⟩ := h'.ex; ⟨_, pw_and h1 h3, sm_and h2 h4⟩
theorem qw_or (h : QT X W a ta) (h' : QW X W (.BoolOp .Or (b :: rest) pos) tb) : QW X W (.BoolOp .Or (a :: b :: rest) pos) (pTOr ta tb) := let ⟨t, h1, h2⟩ := h.ex; let ⟨u, h3, h4⟩ := h'.ex; ⟨_, pw_or h1 h3, sm_or h2 h4⟩
theorem QW.qt (h : QW X W a ta) : QT X W a ta := let ⟨t, h1, h2⟩ := h.ex; ⟨t, h1.pt, h2⟩
theorem qt_not (h : QT X W a ta) : QT X W (.UnaryOp .Not a pos) (pTNot ta) := by
  obtain ⟨t, h1, h2⟩ := h.ex
  refine ⟨_, pt_not h1, fun B F0 ρ σ F H Φ Q R hp k => ?_⟩
  exact h2 B F0 ρ σ F H _ _ R hp fun c ρ1 F1 H1 R1 le1 q1 => k (!c) ρ1 F1 H1 R1 le1 q1
/-! #### and, or, not, if as values -/
def pAndV (pa pb : PE') : PE' := fun ρ Φ => pa ρ fun x _ ρ1 => ∃ c, x.tru = some c ∧ if c = true then pb ρ1 Φ else Φ x false ρ1
def pOrV (pa pb : PE') : PE' := fun ρ Φ => pa ρ fun x _ ρ1 => ∃ c, x.tru = some c ∧ if c = true then Φ x false ρ1 else pb ρ1 Φ
def pNotV (pa : PE') : PE' := fun ρ Φ => pa ρ fun x _ ρ1 => ∃ c, x.tru = some c ∧ Φ (.bl (!c)) false ρ1
theorem qe_one {op} (h : QE X W a pa) : QE X W (.BoolOp op [a] pos) pa := let ⟨t, h1, h2⟩ := h.ex; ⟨t, pe_one h1, h2⟩
theorem qe_and (h : QE X W a pa) (h' : QE X W (.BoolOp .And (b :: rest) pos) pb) : QE X W (.BoolOp .And (a :: b :: rest) pos) (pAndV pa pb) := by
  obtain ⟨t, h1, h2⟩ := h.ex
  obtain ⟨u, h3, h4⟩ := h'.ex
  refine ⟨_, pe_andT h1 h3, fun B F0 ρ σ F H Φ Q R hp k => ?_⟩
  refine h2.fz R hp fun x ρ1 v F1 H1 R1 le1 tv q1 => ?_
  obtain ⟨c, e1, q1⟩ := q1
  refine ⟨c, tru_v R1.fh (Rv.of R1.fh tv) e1, ?_⟩
  cases c with
  | true =>
    rw [if_pos rfl] at q1 ⊢
    exact h4 B F0 ρ1 σ F1 H1 Φ Q R1 q1 fun τ f ρ2 w F2 H2 R2 le2 vr q2 => k τ f ρ2 w F2 H2 R2 (le1.trans le2) vr q2
  | false =>
    rw [if_neg Bool.false_ne_true] at q1 ⊢
    exact k x false ρ1 v F1 H1 R1 le1 (VR.fz tv) q1
theorem qe_or (h : QE X W a pa) (h' : QE X W (.BoolOp .Or (b :: rest) pos) pb) : QE X W (.BoolOp .Or (a :: b :: rest) pos) (pOrV pa pb) := by
  obtain ⟨t, h1, h2⟩ := h.ex
  obtain ⟨u, h3, h4⟩ := h'.ex
  refine ⟨_, pe_orT h1 h3, fun B F0 ρ σ F H Φ Q R hp k => ?_⟩
  refine h2.fz R hp fun x ρ1 v F1 H1 R1 le1 tv q1 => ?_
  obtain ⟨c, e1, q1⟩ := q1
  refine ⟨c, tru_v R1.fh (Rv.of R1.fh tv) e1, ?_⟩
  cases c with
  | false =>
    rw [if_neg Bool.false_ne_true] at q1 ⊢
    exact h4 B F0 ρ1 σ F1 H1 Φ Q R1 q1 fun τ f ρ2 w F2 H2 R2 le2 vr q2 => k τ f ρ2 w F2 H2 R2 (le1.trans le2) vr q2
  | true =>
    rw [if_pos rfl] at q1 ⊢
    exact k x false ρ1 v F1 H1 R1 le1 (VR.fz tv) q1
theorem qe_not (h : QE X W a pa) : QE X W (.UnaryOp .Not a pos) (pNotV pa) := by
  obtain ⟨t, h1, h2⟩ := h.ex
  refine ⟨_, pe_notT h1, fun B F0 ρ σ F H Φ Q R hp k => ?_⟩
  refine h2.fz R hp fun x ρ1 v F1 H1 R1 le1 tv q1 => ?_
  obtain ⟨c, e1, q1⟩ := q1
  exact ⟨c, tru_v R1.fh (Rv.of R1.fh tv) e1, k _ false ρ1 _ F1 H1 R1 le1 VR.bl q1⟩
def pIf (tc : PT') (pa pb : PE') : PE' := fun ρ Φ => tc ρ fun c ρ1 => if c = true then pa ρ1 Φ else pb ρ1 Φ
theorem qe_if (hc : QT X W c tc) (ha : QE X W a pa) (hb : QE X W b pb) : QE X W (.IfExp c a b pos) (pIf tc pa pb) := by
  obtain ⟨t, h1, h2⟩ := hc.ex
  obtain ⟨u, h3, h4⟩ := ha.ex
  obtain ⟨w, h5, h6⟩ := hb.ex
  refine ⟨_, pe_ifExp h1 h3 h5, fun B F0 ρ σ F H Φ Q R hp k => ?_⟩
  refine h2 B F0 ρ σ F H _ _ R hp fun c ρ1 F1 H1 R1 le1 q1 => ?_
  cases c with
  | true =>
    rw [if_pos rfl] at q1 ⊢
    exact h4 B F0 ρ1 σ F1 H1 Φ Q R1 q1 fun τ f ρ2 w F2 H2 R2 le2 vr q2 => k τ f ρ2 w F2 H2 R2 (le1.trans le2) vr q2
  | false =>
    rw [if_neg Bool.false_ne_true] at q1 ⊢
    exact h6 B F0 ρ1 σ F1 H1 Φ Q R1 q1 fun τ f ρ2 w F2 H2 R2 le2 vr q2 => k τ f ρ2 w F2 H2 R2 (le1.trans le2) vr q2
/-! #### items, slices -/
def rSI (X : Cx) (b : Expr) : R2 := fun x y H Q => ∀ (value slice : Expr) (pins : List (Addr × Obj)) (s : Shared) (σ : L2.St) (v u : Value), Inv X pins σ H s → RelV x v → RelV y u → subscripted slice false v u = operate [v, u] (getItem v u) →
  wpAny (model X.prog X.w) X.A (subscriptTail value slice v u) (EP X pins σ Q) X.xe s
theorem ixS (X : Cx) (b : Expr) : IxR X (rSI X b) := fun value slice pins s σ H x y v u Q I rx ry h hs => h value slice pins s σ v u I rx ry hs
theorem rSI.of {r : R2} (o : IxR X r) {x y : V} {H : Hp} {Q : VK} (h : r x y H Q) : rSI X b x y H Q := fun value slice pins s σ v u I rx ry hs => o value slice pins s σ H x y v u Q I rx ry h hs
def PIx (x y : T) (Φ : T → Prop) : Prop := match x, y with
  | .lst l, .int i => ∃ t, atI l i = some t ∧ Φ t
  | .tup l, .int i => ∃ t, atI l i = some t ∧ Φ t
  | .str z, .int i => z.length ≤ 16000000 ∧ ∃ c, atI z.cps.toList i = some c ∧ Φ (.str ⟨#[c]⟩)
  | _, _ => False
theorem at_v {K : PySem.W.Frag} {F : Hp} {l : List T} {xs : List V} (h : TvL K F l xs) {i : Int} {t : T} (e : atI l i = some t) : ∃ v, atI xs i = some v ∧ Tv K F t v := by
  unfold atI at e ⊢
  rw [h.length]
  cases z : ixN l.length i with
  | none => rw [z] at e; cases e
  | some j =>
    rw [z] at e
    obtain ⟨v, e1, e2⟩ := h.get (i := j) e
    exact ⟨v, e1, e2⟩
def pIx (pr : PR') (pb : PE') : PE' := fun ρ Φ => pr ρ fun r ρ1 => pb ρ1 fun y _ ρ2 => ∃ t, r.look ρ2 = some t ∧ PIx t y fun τ => Φ τ false ρ2
theorem qe_ix (ha : QR X W a pr) (hb : QE X W b pb) (hs : PlainIx b) : QE X W (.Subscript a b pos) (pIx pr pb) := by
  have hl := sl16
  obtain ⟨t, h1, h2⟩ := ha.ex
  obtain ⟨u, h3, h4⟩ := hb.ex
  refine ⟨_, pe_ix (ixS X b) h1 h3 hs, fun B F0 ρ σ F H Φ Q R hp k => ?_⟩
  refine h2 B F0 ρ σ F H _ _ R hp fun r ρ1 v F1 H1 R1 le1 rd q1 => ?_
  refine h4.fz R1 q1 fun y ρ2 w F2 H2 R2 le2 tv2 q2 => ?_
  obtain ⟨x, e1, q2⟩ := q2
  have rv := R2.rv (rd.le le2) e1
  unfold PIx at q2
  split at q2
  · obtain ⟨τ, e2, q2⟩ := q2
    obtain ⟨p, xs, rfl, h5, h6⟩ := rv
    obtain ⟨z, e3, e4⟩ := at_v h6 e2
    exact rSI.of ix_list ⟨p, xs, _, z, rfl, tv2, .of h5, e3, k _ false ρ2 _ F2 H2 R2 (le1.trans le2) (VR.fz e4) q2⟩
  · obtain ⟨τ, e2, q2⟩ := q2
    obtain ⟨p, xs, rfl, h5, h6⟩ := rv
    obtain ⟨z, e3, e4⟩ := at_v h6 e2
    exact rSI.of ix_tup ⟨p, xs, _, z, rfl, tv2, sqt_le R2.fh h5, e3, k _ false ρ2 _ F2 H2 R2 (le1.trans le2) (VR.fz e4) q2⟩
  · obtain ⟨hz, c, e2, q2⟩ := q2
    exact rSI.of ix_str ⟨_, _, c, rv, tv2, by omega, e2, k _ false ρ2 _ F2 H2 R2 (le1.trans le2) VR.str q2⟩
  · exact q2.elim
/-- a part of a slice -/
abbrev PO' := PS' → (Option Int → PS' → Prop) → Prop
structure QO (X : Cx) (W : Wld) (e : Option Expr) (p : PO') : Prop where
  ex : ∃ t, PO X e t ∧ ∀ (B F0 : Hp) (ρ : PS') (σ : L2.St) (F H : Hp) (Φ : Option Int → PS' → Prop) (Q : Option Int → Hp → Prop), Rep X.K W B F0 ρ σ F H → p ρ Φ → (∀ o ρ' F' H', Rep X.K W B F0 ρ' σ F' H' → Le F F' → Φ o ρ' → Q o H') → t σ H Q
def pNoPart : PO' := fun ρ Φ => Φ none ρ
def KPart (t : T) (Φ : Option Int → Prop) : Prop := match t with
  | .int i => Φ (some i)
  | _ => False
def pPart (p : PE') : PO' := fun ρ Φ => p ρ fun t _ ρ' => KPart t fun o => Φ o ρ'
theorem qo_none : QO X W none pNoPart := ⟨_, po_none, fun B F0 ρ σ F H Φ Q R hp k => k none ρ F H R (Le.refl _) hp⟩
theorem qo_some (h : QE X W e pa) : QO X W (some e) (pPart pa) := by
  obtain ⟨t, h1, h2⟩ := h.ex
  refine ⟨_, po_some h1, fun B F0 ρ σ F H Φ Q R hp k => ?_⟩
  refine h2.fz R hp fun τ ρ1 v F1 H1 R1 le1 tv q1 => ?_
  unfold KPart at q1
  split at q1
  · exact ⟨_, tv, k _ ρ1 F1 H1 R1 le1 q1⟩
  · exact q1.elim
def cutT {α : Type} (xs : List α) (lo hi : Option Int) : List α := (xs.drop (HT.sIx xs.length 0 lo)).take (HT.sIx xs.length xs.length hi - HT.sIx xs.length 0 lo)
theorem cutT_len {α : Type} (xs : List α) (lo hi : Option Int) : (cutT xs lo hi).length ≤ xs.length := by
  unfold cutT
  rw [List.length_take, List.length_drop]
  omega
theorem cut_v {K : PySem.W.Frag} {F : Hp} {l : List T} {xs : List V} (h : TvL K F l xs) (lo hi : Option Int) : TvL K F (cutT l lo hi) (cutV xs lo hi) := by
  unfold cutT cutV
  rw [h.length]
  exact (h.drop _).take _
def PSl (x : T) (lo hi : Option Int) (Φ : T → Bool → Prop) : Prop := match x with
  | .lst l => Φ (.lst (cutT l lo hi)) true
  | .tup l => Φ (.tup (cutT l lo hi)) false
  | .str z => z.length ≤ 16000000 ∧ Φ (.str (cutS z lo hi)) false
  | _ => False
def rSS (X : Cx) : V → Option Int → Option Int → Hp → VK → Prop := fun x lo hi H Q => ∀ (pins : List (Addr × Obj)) (s : Shared) (σ : L2.St) (v vl vu : Value) (sl : Addr), Inv X pins σ H s → RelV x v → s.heap.IsSliceOf sl vl vu .none → IsPart vl lo → IsPart vu hi →
    ∃ T id, typeLookup (.type T) "__getitem__" = pure (some (.builtin id)) ∧ s.TypeIs v T ∧ wpAny (model X.prog X.w) X.A (getItem v (.ref sl)) (EP X pins σ Q) X.xe s
theorem slS (X : Cx) : SlR X (rSS X) := fun pins s σ H x v vl vu lo hi sl Q I rx hs pl pu h => h pins s σ v vl vu sl I rx hs pl pu
theorem rSS.of {r : V → Option Int → Option Int → Hp → VK → Prop} (o : SlR X r) {x : V} {lo hi : Option Int} {H : Hp} {Q : VK} (h : r x lo hi H Q) : rSS X x lo hi H Q := fun pins s σ v vl vu sl I rx hs pl pu => o pins s σ H x v vl vu lo hi sl Q I rx hs pl pu h
def pSl (pr : PR') (pl ph : PO') : PE' := fun ρ Φ => pr ρ fun r ρ1 => pl ρ1 fun lo ρ2 => ph ρ2 fun hi ρ3 => ∃ t, r.look ρ3 = some t ∧ PSl t lo hi fun τ f => Φ τ f ρ3
theorem qe_slice {lo hi : Option Expr} {pl ph : PO'} {p2 : Pos} (ha : QR X W a pr) (hl : QO X W lo pl) (hh : QO X W hi ph) : QE X W (.Subscript a (.Slice lo hi none p2) pos) (pSl pr pl ph) := by
  have hs := sl16
  obtain ⟨t, h1, h2⟩ := ha.ex
  obtain ⟨u, h3, h4⟩ := hl.ex
  obtain ⟨w, h5, h6⟩ := hh.ex
  refine ⟨_, pe_slice (slS X) h1 h3 h5, fun B F0 ρ σ F H Φ Q R hp k => ?_⟩
  refine h2 B F0 ρ σ F H _ _ R hp fun r ρ1 v F1 H1 R1 le1 rd q1 => ?_
  refine h4 B F0 ρ1 σ F1 H1 _ _ R1 q1 fun o1 ρ2 F2 H2 R2 le2 q2 => ?_
  refine h6 B F0 ρ2 σ F2 H2 _ _ R2 q2 fun o2 ρ3 F3 H3 R3 le3 q3 => ?_
  obtain ⟨x, e1, q3⟩ := q3
  have rv := R3.rv (rd.le (le2.trans le3)) e1
  have le := le1.trans (le2.trans le3)
  unfold PSl at q3
  split at q3
  · obtain ⟨p, xs, rfl, h7, h8⟩ := rv
    refine rSS.of sl_list ⟨p, xs, rfl, .of h7, fun z nz => ?_⟩
    obtain ⟨R4, vr⟩ := R3.newL nz (cut_v h8 o1 o2)
    exact k _ true ρ3 _ F3 _ R4 le vr q3
  · rename_i l
    obtain ⟨p, xs, rfl, h7, h8⟩ := rv
    refine rSS.of sl_tupA ⟨p, xs, rfl, sqt_le R3.fh h7, fun hw => ?_, fun _ z nz => ?_⟩
    · have e : cutT l o1 o2 = l := by
        unfold cutT
        rw [← h8.length, hw.1, hw.2, List.drop_zero, Nat.sub_zero, h8.length, List.take_length]
      rw [e] at q3
      exact k _ false ρ3 _ F3 H3 R3 le (VR.fz (t := .tup l) ⟨p, xs, rfl, h7, h8⟩) q3
    · obtain ⟨F4, R4, le4, tv⟩ := R3.newT nz (cut_v h8 o1 o2)
      exact k _ false ρ3 _ F4 _ R4 (le.trans le4) (VR.fz tv) q3
  · exact rSS.of sl_str ⟨_, rv, by omega, k _ false ρ3 _ F3 H3 R3 le VR.str q3.2⟩
  · exact q3.elim
end
end Y

namespace Y
open PySem PySem.Spec PyProof.Rows L2 RT RZ
/-! ### what is walked -/
/-- J walks these things while F stands -/
structure ItOk (K : PySem.W.Frag) (J : It) (F : Hp) (items : List T) : Prop where
  go : ∀ i H, Le F H → i < items.length → J.go i H
  stop : ∀ i H, Le F H → items.length ≤ i → J.stop i H
  yld : ∀ i H x H', Le F H → i < items.length → J.yld i H x H' → ∃ t, items[i]? = some t ∧ ((H' = H ∧ Tv K F t x) ∨ ∃ p xs l, x = .ref p ∧ t = .tup l ∧ TvL K F l xs ∧ H p = none ∧ H' = upd H p (.tup xs))
abbrev PI' := PS' → (List T → PS' → Prop) → Prop
structure QI (X : Cx) (W : Wld) (tg iter : Expr) (p : PI') : Prop where
  ex : ∃ wi, PI X tg iter wi ∧ ∀ (B F0 : Hp) (ρ : PS') (σ : L2.St) (F H : Hp) (Φ : List T → PS' → Prop) (R : It → Hp → Prop), Rep X.K W B F0 ρ σ F H → p ρ Φ →
    (∀ items ρ' F' H' J, Rep X.K W B F0 ρ' σ F' H' → Le F F' → ItOk X.K J F' items → Φ items ρ' → R J H') → wi σ H R
def T.iter : T → Option (List T)
  | .tup l => some l
  | .lst l => some l
  | .str z => some (z.cps.toList.map fun c => .str ⟨#[c]⟩)
  | _ => none
section
variable {K : PySem.W.Frag} {F : Hp}
theorem it_list {a : Addr} {xs : List V} {l : List T} (h : F a = some (.lst xs)) (tv : TvL K F l xs) : ItOk K (Itl K a) F l where
  go := fun i H le hi => by
    obtain ⟨x, e, _⟩ := tv.get (List.getElem?_eq_getElem hi)
    exact ⟨xs, x, .of (le _ _ h), e⟩
  stop := fun i H le hi => ⟨xs, .of (le _ _ h), by rw [tv.length]; exact hi⟩
  yld := fun i H x H' le hi y => by
    obtain ⟨e, y⟩ := y
    have hx := y xs (.of (le _ _ h))
    obtain ⟨t, e1, e2⟩ := tv.get' hx
    exact ⟨t, e1, .inl ⟨e, e2⟩⟩
theorem it_tup {a : Addr} {xs : List V} {l : List T} (h : SqT K F a xs) (tv : TvL K F l xs) : ItOk K (Itt K a) F l where
  go := fun i H le hi => by
    obtain ⟨x, e, _⟩ := tv.get (List.getElem?_eq_getElem hi)
    exact ⟨xs, x, sqt_le le h, e⟩
  stop := fun i H le hi => ⟨xs, sqt_le le h, by rw [tv.length]; exact hi⟩
  yld := fun i H x H' le hi y => by
    obtain ⟨e, y⟩ := y
    have hx := y xs (sqt_le le h)
    obtain ⟨t, e1, e2⟩ := tv.get' hx
    exact ⟨t, e1, .inl ⟨e, e2⟩⟩
theorem it_str (z : Str) : ItOk K (Its z) F (z.cps.toList.map fun c => .str ⟨#[c]⟩) where
  go := fun i H le hi => by
    rw [List.length_map] at hi
    show i < z.cps.size
    simpa using hi
  stop := fun i H le hi => by
    rw [List.length_map] at hi
    show z.cps.size ≤ i
    simpa using hi
  yld := fun i H x H' le hi y => by
    obtain ⟨e, c, hc, rfl⟩ := y
    refine ⟨.str ⟨#[c]⟩, ?_, .inl ⟨e, rfl⟩⟩
    rw [List.getElem?_map, Array.getElem?_toList, hc]
    rfl
theorem it_rng (lo : Int) (n : Nat) : ItOk K (Itr lo n) F ((List.range n).map fun i => .int (lo + (i : Nat))) where
  go := fun i H le hi => by
    rw [List.length_map, List.length_range] at hi
    exact hi
  stop := fun i H le hi => by
    rw [List.length_map, List.length_range] at hi
    exact hi
  yld := fun i H x H' le hi y => by
    obtain ⟨e, rfl⟩ := y
    rw [List.length_map, List.length_range] at hi
    refine ⟨.int (lo + i), ?_, .inl ⟨e, rfl⟩⟩
    rw [List.getElem?_map, List.getElem?_range hi]
    rfl
theorem it_enum {a : Addr} {xs : List V} {l : List T} (h : F a = some (.lst xs)) (tv : TvL K F l xs) : ItOk K (Ite K a) F (l.mapIdx fun i t => .tup [.int (i : Nat), t]) where
  go := fun i H le hi => by
    rw [List.length_mapIdx] at hi
    obtain ⟨x, e, _⟩ := tv.get (List.getElem?_eq_getElem hi)
    exact ⟨xs, x, .of (le _ _ h), e⟩
  stop := fun i H le hi => by
    rw [List.length_mapIdx] at hi
    exact ⟨xs, .of (le _ _ h), by rw [tv.length]; exact hi⟩
  yld := fun i H x H' le hi y => by
    obtain ⟨p, x, rfl, np, e, y⟩ := y
    have hx := y xs (.of (le _ _ h))
    obtain ⟨t, e1, e2⟩ := tv.get' hx
    refine ⟨.tup [.int (i : Nat), t], ?_, .inr ⟨p, _, _, rfl, rfl, ⟨_, _, rfl, rfl, _, _, rfl, e2, rfl⟩, np, e⟩⟩
    rw [List.getElem?_mapIdx, e1]
    rfl
theorem it_rev {a : Addr} {xs : List V} {l : List T} (h : F a = some (.lst xs)) (tv : TvL K F l xs) : ItOk K (Itv K a xs.length) F l.reverse where
  go := fun i H le hi => by
    rw [List.length_reverse, ← tv.length] at hi
    have hj : xs.length - 1 - i < xs.length := by omega
    exact ⟨hi, xs, xs[xs.length - 1 - i], .of (le _ _ h), List.getElem?_eq_getElem hj⟩
  stop := fun i H le hi => by
    rw [List.length_reverse, ← tv.length] at hi
    exact hi
  yld := fun i H x H' le hi y => by
    obtain ⟨e, y⟩ := y
    rw [List.length_reverse] at hi
    have hx := y xs (.of (le _ _ h))
    obtain ⟨t, e1, e2⟩ := tv.get' hx
    refine ⟨t, ?_, .inl ⟨e, e2⟩⟩
    rw [List.getElem?_reverse hi, ← tv.length]
    exact e1
theorem it_revT {a : Addr} {xs : List V} {l : List T} (h : SqT K F a xs) (tv : TvL K F l xs) : ItOk K (ItvT K a xs.length) F l.reverse where
  go := fun i H le hi => by
    rw [List.length_reverse, ← tv.length] at hi
    have hj : xs.length - 1 - i < xs.length := by omega
    exact ⟨hi, xs, xs[xs.length - 1 - i], sqt_le le h, List.getElem?_eq_getElem hj⟩
  stop := fun i H le hi => by
    rw [List.length_reverse, ← tv.length] at hi
    exact hi
  yld := fun i H x H' le hi y => by
    obtain ⟨e, y⟩ := y
    rw [List.length_reverse] at hi
    have hx := y xs (sqt_le le h)
    obtain ⟨t, e1, e2⟩ := tv.get' hx
    refine ⟨t, ?_, .inl ⟨e, e2⟩⟩
    rw [List.getElem?_reverse hi, ← tv.length]
    exact e1
theorem zip_get {l m : List T} {i : Nat} {t u : T} (h : l[i]? = some t) (h' : m[i]? = some u) : (List.zipWith (fun x y => T.tup [x, y]) l m)[i]? = some (.tup [t, u]) := by
  rw [List.getElem?_zipWith, h, h']
theorem it_zip {a b : Addr} {xs ys : List V} {l m : List T} (h : F a = some (.lst xs)) (h' : F b = some (.lst ys)) (tv : TvL K F l xs) (tv' : TvL K F m ys) : ItOk K (Itz K a b) F (List.zipWith (fun x y => T.tup [x, y]) l m) where
  go := fun i H le hi => by
    rw [List.length_zipWith] at hi
    obtain ⟨x, e, _⟩ := tv.get (List.getElem?_eq_getElem (show i < l.length by omega))
    obtain ⟨y, e', _⟩ := tv'.get (List.getElem?_eq_getElem (show i < m.length by omega))
    exact ⟨xs, ys, x, y, .of (le _ _ h), .of (le _ _ h'), e, e'⟩
  stop := fun i H le hi => by
    rw [List.length_zipWith] at hi
    have := tv.length
    have := tv'.length
    exact ⟨xs, ys, .of (le _ _ h), .of (le _ _ h'), by omega⟩
  yld := fun i H x H' le hi y => by
    obtain ⟨p, x, z, rfl, np, e, y, y'⟩ := y
    obtain ⟨t, e1, e2⟩ := tv.get' (y xs (.of (le _ _ h)))
    obtain ⟨u, e3, e4⟩ := tv'.get' (y' ys (.of (le _ _ h')))
    exact ⟨_, zip_get e1 e3, .inr ⟨p, _, _, rfl, rfl, ⟨_, _, rfl, e2, _, _, rfl, e4, rfl⟩, np, e⟩⟩
theorem it_zipT {a b : Addr} {xs ys : List V} {l m : List T} (h : SqT K F a xs) (h' : SqT K F b ys) (tv : TvL K F l xs) (tv' : TvL K F m ys) : ItOk K (ItzT K a b) F (List.zipWith (fun x y => T.tup [x, y]) l m) where
  go := fun i H le hi => by
    rw [List.length_zipWith] at hi
    obtain ⟨x, e, _⟩ := tv.get (List.getElem?_eq_getElem (show i < l.length by omega))
    obtain ⟨y, e', _⟩ := tv'.get (List.getElem?_eq_getElem (show i < m.length by omega))
    exact ⟨xs, ys, x, y, sqt_le le h, sqt_le le h', e, e'⟩
  stop := fun i H le hi => by
    rw [List.length_zipWith] at hi
    have := tv.length
    have := tv'.length
    exact ⟨xs, ys, sqt_le le h, sqt_le le h', by omega⟩
  yld := fun i H x H' le hi y => by
    obtain ⟨p, x, z, rfl, np, e, y, y'⟩ := y
    obtain ⟨t, e1, e2⟩ := tv.get' (y xs (sqt_le le h))
    obtain ⟨u, e3, e4⟩ := tv'.get' (y' ys (sqt_le le h'))
    exact ⟨_, zip_get e1 e3, .inr ⟨p, _, _, rfl, rfl, ⟨_, _, rfl, e2, _, _, rfl, e4, rfl⟩, np, e⟩⟩
end
section
variable {X : Cx} {W : Wld} {tg e e2 : Expr} {pos p : Pos} {pa pb : PE'}
/-- a value that is walked: a list, a tuple, a text -/
def iAny (K : PySem.W.Frag) (te : TE) : TI := fun σ H R => te σ H fun x H1 => (∃ a xs, x = .ref a ∧ SqL K H1 a xs ∧ R (Itl K a) H1) ∨ (∃ a xs, x = .ref a ∧ SqT K H1 a xs ∧ R (Itt K a) H1) ∨ ∃ z, x = .str z ∧ R (Its z) H1
theorem pi_any {te : TE} (he : PE X e te) : PI X tg e (iAny X.K te) := by
  refine ⟨fun pins s σ H R I h => ?_⟩
  refine thn (he.run pins s σ H _ I h) fun v s1 ⟨x, H1, I1, r1, q1⟩ => ?_
  rcases q1 with ⟨a, xs, rfl, hq, q⟩ | ⟨a, xs, rfl, hq, q⟩ | ⟨z, rfl, q⟩
  · cases r1
    obtain ⟨its, rv, p, hz⟩ := I1.list hq
    exact wpAny_pyIter_list p.isList (pi_one (tk := s1.toks) I1 _ (turn_list a _) ⟨_, Heap.get?_push_size _ rfl, rfl, rfl⟩ q)
  · cases r1
    obtain ⟨its, rv, p, hz⟩ := I1.tuple hq
    exact wpAny_pyIter_tuple (show s1.heap.IsTuple a its.toArray from p) (pi_one (tk := s1.toks) I1 _ (turn_tuple a _) ⟨_, Heap.get?_push_size _ rfl, rfl, rfl⟩ q)
  · obtain ⟨t, rfl⟩ := r1
    cases ha : z.cps.all (· < 128)
    · exact wpAny_pyIter_wide ha (pi_one (tk := s1.toks) I1 _ (turn_str _ z t "str_iterator" (.inr rfl)) ⟨_, Heap.get?_push_size _ rfl, rfl, rfl⟩ q)
    · exact wpAny_pyIter_ascii ha (pi_one (tk := s1.toks) I1 _ (turn_str _ z t "str_ascii_iterator" (.inl rfl)) ⟨_, Heap.get?_push_size _ rfl, rfl, rfl⟩ q)
def pIter (pa : PE') : PI' := fun ρ Φ => pa ρ fun t _ ρ' => ∃ l, t.iter = some l ∧ Φ l ρ'
theorem qi_val (h : QE X W e pa) : QI X W tg e (pIter pa) := by
  obtain ⟨t, h1, h2⟩ := h.ex
  refine ⟨_, pi_any h1, fun B F0 ρ σ F H Φ R R0 hp k => ?_⟩
  refine h2.fz R0 hp fun τ ρ1 v F1 H1 R1 le1 tv q1 => ?_
  obtain ⟨l, e1, q1⟩ := q1
  cases τ <;> first | cases e1 | skip
  · obtain rfl := tv
    exact .inr (.inr ⟨_, rfl, k _ ρ1 F1 H1 _ R1 le1 (it_str _) q1⟩)
  · obtain ⟨a, xs, rfl, h3, h4⟩ := tv
    exact .inr (.inl ⟨a, xs, rfl, sqt_le R1.fh h3, k _ ρ1 F1 H1 _ R1 le1 (it_tup h3 h4) q1⟩)
  · obtain ⟨a, xs, rfl, h3, h4⟩ := tv
    exact .inl ⟨a, xs, rfl, .of (R1.fh _ _ h3), k _ ρ1 F1 H1 _ R1 le1 (it_list h3 h4) q1⟩
def rngT (lo : Int) (n : Nat) : List T := (List.range n).map fun i => .int (lo + (i : Nat))
def KRng1 (t : T) (Φ : List T → Prop) : Prop := match t with
  | .int j => -(2 ^ 62) ≤ j ∧ j < 2 ^ 62 ∧ Φ (rngT 0 j.toNat)
  | _ => False
def pRng1 (pa : PE') : PI' := fun ρ Φ => pa ρ fun t _ ρ' => KRng1 t fun l => Φ l ρ'
theorem qi_range1 (hg : Gl X "range") (hm : X.mg "range" = none) (h : QE X W e pa) (hs : starEach [e] X.env = [(false, eval e X.env)] := by rfl) : QI X W tg (.Call (.Name "range" p) [e] [] pos) (pRng1 pa) := by
  obtain ⟨t, h1, h2⟩ := h.ex
  refine ⟨_, pi_range1 hg hm (pa_cons h1 pa_nil (by rw [hs]; rfl)) hs, fun B F0 ρ σ F H Φ R R0 hp k => ?_⟩
  refine h2.fz R0 hp fun τ ρ1 v F1 H1 R1 le1 tv q1 => ?_
  unfold KRng1 at q1
  split at q1
  · exact ⟨_, by rw [show v = _ from tv], q1.1, q1.2.1, k _ ρ1 F1 H1 _ R1 le1 (it_rng 0 _) q1.2.2⟩
  · exact q1.elim
def KRng2 (t u : T) (Φ : List T → Prop) : Prop := match t, u with
  | .int i, .int j => (-(2 ^ 62) ≤ i ∧ i < 2 ^ 62 ∧ -(2 ^ 62) ≤ j ∧ j < 2 ^ 62) ∧ Φ (rngT i (j - i).toNat)
  | _, _ => False
def pRng2 (pa pb : PE') : PI' := fun ρ Φ => pa ρ fun t _ ρ1 => pb ρ1 fun u _ ρ2 => KRng2 t u fun l => Φ l ρ2
theorem qi_range2 (hg : Gl X "range") (hm : X.mg "range" = none) (h : QE X W e pa) (h' : QE X W e2 pb) (hs : starEach [e, e2] X.env = [(false, eval e X.env), (false, eval e2 X.env)] := by rfl) (hs2 : starEach [e2] X.env = [(false, eval e2 X.env)] := by rfl) :
    QI X W tg (.Call (.Name "range" p) [e, e2] [] pos) (pRng2 pa pb) := by
  obtain ⟨t, h1, h2⟩ := h.ex
  obtain ⟨u, h3, h4⟩ := h'.ex
  refine ⟨_, pi_range2 hg hm (pa_cons h1 (pa_cons h3 pa_nil (by rw [hs2]; rfl)) (by rw [hs, hs2])) hs hs2, fun B F0 ρ σ F H Φ R R0 hp k => ?_⟩
  refine h2.fz R0 hp fun τ ρ1 v F1 H1 R1 le1 tv q1 => ?_
  refine h4.fz R1 q1 fun τ2 ρ2 w F2 H2 R2 le2 tv2 q2 => ?_
  unfold KRng2 at q2
  split at q2
  · exact ⟨_, _, by rw [show v = _ from tv, show w = _ from tv2], q2.1, k _ ρ2 F2 H2 _ R2 (le1.trans le2) (it_rng _ _) q2.2⟩
  · exact q2.elim
def KEnum (t : T) (Φ : List T → Prop) : Prop := match t with
  | .lst l => Φ (l.mapIdx fun i t => .tup [.int (i : Nat), t])
  | _ => False
def pEnum (pa : PE') : PI' := fun ρ Φ => pa ρ fun t _ ρ' => KEnum t fun l => Φ l ρ'
theorem qi_enum {elts : List Expr} {kk : Nat} {tpos : Pos} (hg : Gl X "enumerate") (hm : X.mg "enumerate" = none) (h : QE X W e pa) (hs : starEach [e] X.env = [(false, eval e X.env)] := by rfl) : QI X W (.Tuple elts kk tpos) (.Call (.Name "enumerate" p) [e] [] pos) (pEnum pa) := by
  obtain ⟨t, h1, h2⟩ := h.ex
  refine ⟨_, pi_enum hg hm (pa_cons h1 pa_nil (by rw [hs]; rfl)) hs, fun B F0 ρ σ F H Φ R R0 hp k => ?_⟩
  refine h2.fz R0 hp fun τ ρ1 v F1 H1 R1 le1 tv q1 => ?_
  unfold KEnum at q1
  split at q1
  · obtain ⟨a, xs, rfl, h3, h4⟩ := tv
    exact ⟨a, xs, rfl, .of (R1.fh _ _ h3), k _ ρ1 F1 H1 _ R1 le1 (it_enum h3 h4) q1⟩
  · exact q1.elim
def pRev (pa : PE') : PI' := fun ρ Φ => pa ρ fun t _ ρ' => ∃ l, t.items = some l ∧ Φ l.reverse ρ'
theorem qi_rev (hg : Gl X "reversed") (hm : X.mg "reversed" = none) (h : QE X W e pa) (hs : starEach [e] X.env = (false, eval e X.env) :: starEach [] X.env := by rfl) : QI X W tg (.Call (.Name "reversed" p) [e] [] pos) (pRev pa) := by
  obtain ⟨t, h1, h2⟩ := h.ex
  refine ⟨_, pi_revA hg hm h1 hs, fun B F0 ρ σ F H Φ R R0 hp k => ?_⟩
  refine h2.fz R0 hp fun τ ρ1 v F1 H1 R1 le1 tv q1 => ?_
  obtain ⟨l, e1, q1⟩ := q1
  cases τ <;> first | cases e1 | skip
  · obtain ⟨a, xs, rfl, h3, h4⟩ := tv
    exact ⟨a, xs, rfl, .inr ⟨sqt_le R1.fh h3, k _ ρ1 F1 H1 _ R1 le1 (it_revT h3 h4) q1⟩⟩
  · obtain ⟨a, xs, rfl, h3, h4⟩ := tv
    exact ⟨a, xs, rfl, .inl ⟨.of (R1.fh _ _ h3), k _ ρ1 F1 H1 _ R1 le1 (it_rev h3 h4) q1⟩⟩
def KZip (t u : T) (Φ : List T → Prop) : Prop := match t, u with
  | .lst l, .lst m => Φ (List.zipWith (fun x y => T.tup [x, y]) l m)
  | .tup l, .tup m => Φ (List.zipWith (fun x y => T.tup [x, y]) l m)
  | _, _ => False
def pZip (pa pb : PE') : PI' := fun ρ Φ => pa ρ fun t _ ρ1 => pb ρ1 fun u _ ρ2 => KZip t u fun l => Φ l ρ2
theorem qi_zip {elts : List Expr} {kk : Nat} {tpos : Pos} (hg : Gl X "zip") (hm : X.mg "zip" = none) (h : QE X W e pa) (h' : QE X W e2 pb) (hs : starEach [e, e2] X.env = (false, eval e X.env) :: starEach [e2] X.env := by rfl) (hs2 : starEach [e2] X.env = (false, eval e2 X.env) :: starEach [] X.env := by rfl)
    (hpl : (backTo pos (starEach [e2] X.env)).any (·.1) = false := by rfl) : QI X W (.Tuple elts kk tpos) (.Call (.Name "zip" p) [e, e2] [] pos) (pZip pa pb) := by
  obtain ⟨t, h1, h2⟩ := h.ex
  obtain ⟨u, h3, h4⟩ := h'.ex
  refine ⟨_, pi_zipA hg hm (pa_cons h1 (pa_cons h3 pa_nil hs2) hs) hs hpl, fun B F0 ρ σ F H Φ R R0 hp k => ?_⟩
  refine h2.fz R0 hp fun τ ρ1 v F1 H1 R1 le1 tv q1 => ?_
  refine h4.fz R1 q1 fun τ2 ρ2 w F2 H2 R2 le2 tv2 q2 => ?_
  have tv := Tv.le le2 _ _ tv
  unfold KZip at q2
  split at q2
  · obtain ⟨a, xs, rfl, h5, h6⟩ := tv
    obtain ⟨b, ys, rfl, h7, h8⟩ := tv2
    exact ⟨a, b, xs, ys, rfl, .inl ⟨.of (R2.fh _ _ h5), .of (R2.fh _ _ h7), k _ ρ2 F2 H2 _ R2 (le1.trans le2) (it_zip h5 h7 h6 h8) q2⟩⟩
  · obtain ⟨a, xs, rfl, h5, h6⟩ := tv
    obtain ⟨b, ys, rfl, h7, h8⟩ := tv2
    exact ⟨a, b, xs, ys, rfl, .inr ⟨sqt_le R2.fh h5, sqt_le R2.fh h7, k _ ρ2 F2 H2 _ R2 (le1.trans le2) (it_zipT h5 h7 h6 h8) q2⟩⟩
  · exact q2.elim
end
/-! ### targets -/
abbrev PG' := T → Bool → PS' → (PS' → Prop) → Prop
def SmG (K : PySem.W.Frag) (W : Wld) (sl : List Nat) (t : TG) (g : PG') : Prop :=
  ∀ (B F0 : Hp) (ρ : PS') (σ : L2.St) (F H : Hp) (τ : T) (f : Bool) (v : V) (Φ : PS' → Prop) (Q : L2.St → Hp → Prop), Rep K W B F0 ρ σ F H → VR K W B ρ σ F H τ f v → g τ f ρ Φ →
    (∀ ρ' σ' F' H', Rep K W B F0 ρ' σ' F' H' → Le F F' → (∀ i, i ∉ sl → σ'[i]? = σ[i]?) → σ'.length = σ.length → Φ ρ' → Q σ' H') → t v σ H Q
structure QG (X : Cx) (W : Wld) (tg : Expr) (sl : List Nat) (g : PG') : Prop where
  ex : ∃ t, PG X tg t ∧ SmG X.K W sl t g
def tGc (K : PySem.W.Frag) (W : Wld) (sl : List Nat) (g : PG') : TG := fun v σ H Q => ∃ (B F0 : Hp) (ρ : PS') (F : Hp) (τ : T) (f : Bool) (Φ : PS' → Prop), Rep K W B F0 ρ σ F H ∧ VR K W B ρ σ F H τ f v ∧ g τ f ρ Φ ∧
    (∀ ρ' σ' F' H', Rep K W B F0 ρ' σ' F' H' → Le F F' → (∀ i, i ∉ sl → σ'[i]? = σ[i]?) → σ'.length = σ.length → Φ ρ' → Q σ' H')
theorem sm_tG {K : PySem.W.Frag} {W : Wld} {sl : List Nat} {g : PG'} : SmG K W sl (tGc K W sl g) g := fun B F0 ρ σ F H τ f v Φ Q R vr hg k => ⟨B, F0, ρ, F, τ, f, Φ, R, vr, hg, k⟩
theorem QG.can {X : Cx} {W : Wld} {tg : Expr} {sl : List Nat} {g : PG'} (h : QG X W tg sl g) : PG X tg (tGc X.K W sl g) := by
  obtain ⟨t, h1, h2⟩ := h.ex
  refine ⟨fun pins s σ H v u Q I r hq => h1.run pins s σ H v u Q I r ?_⟩
  obtain ⟨B, F0, ρ, F, τ, f, Φ, R, vr, hp, k⟩ := hq
  exact h2 B F0 ρ σ F H τ f v Φ Q R vr hp k
section
variable {X : Cx} {W : Wld} {tg e : Expr} {es : List Expr} {pos : Pos} {sl sl' : List Nat} {g : PG'}
def gN (i : Nat) : PG' := fun τ f ρ Φ => Φ (ρ.set i (Sl.of τ f))
theorem qg_name {x : Str} {i : Nat} (h : PG X (.Name x pos) (gName i)) : QG X W (.Name x pos) [i] (gN i) := by
  refine ⟨_, h, fun B F0 ρ σ F H τ f v Φ Q R vr hg k => ?_⟩
  refine k _ _ F H (R.set vr i) (Le.refl _) (fun j hj => ?_) (List.length_set ..) hg
  rw [List.getElem?_set_ne (fun z => hj (by rw [z]; exact List.mem_singleton.mpr rfl))]
abbrev PGs' := List T → PS' → (PS' → Prop) → Prop
structure QGs (X : Cx) (W : Wld) (ts : List Expr) (sl : List Nat) (g : PGs') : Prop where
  ex : ∃ t, PGs X ts t ∧ ∀ (B F0 : Hp) (ρ : PS') (σ : L2.St) (F H : Hp) (l : List T) (vs : List V) (Φ : PS' → Prop) (Q : L2.St → Hp → Prop), Rep X.K W B F0 ρ σ F H → TvL X.K F l vs → g l ρ Φ →
    (∀ ρ' σ' F' H', Rep X.K W B F0 ρ' σ' F' H' → Le F F' → (∀ i, i ∉ sl → σ'[i]? = σ[i]?) → σ'.length = σ.length → Φ ρ' → Q σ' H') → t vs σ H Q
def gsNil : PGs' := fun l ρ Φ => l = [] ∧ Φ ρ
def gsCons (g : PG') (gs : PGs') : PGs' := fun l ρ Φ => ∃ t r, l = t :: r ∧ g t false ρ fun ρ1 => gs r ρ1 Φ
theorem qgs_nil : QGs X W [] [] gsNil := ⟨_, pgs_nil, fun B F0 ρ σ F H l vs Φ Q R tv hg k => by
  obtain ⟨rfl, hg⟩ := hg
  exact ⟨tv, k ρ σ F H R (Le.refl _) (fun _ _ => rfl) rfl hg⟩⟩
theorem qgs_cons {gs : PGs'} (h : QG X W e sl g) (h' : QGs X W es sl' gs) (hs : (assignEach (e :: es) X.env).map (·.2) = assign e X.env :: (assignEach es X.env).map (·.2) := by rfl) : QGs X W (e :: es) (sl ++ sl') (gsCons g gs) := by
  obtain ⟨t, h1, h2⟩ := h.ex
  obtain ⟨u, h3, h4⟩ := h'.ex
  refine ⟨_, pgs_cons h1 h3 hs, fun B F0 ρ σ F H l vs Φ Q R tv hg k => ?_⟩
  obtain ⟨τ, r, rfl, hg⟩ := hg
  obtain ⟨x, xs, rfl, tv1, tv2⟩ := tv
  refine ⟨x, xs, rfl, ?_⟩
  refine h2 B F0 ρ σ F H τ false x _ _ R (VR.fz tv1) hg fun ρ1 σ1 F1 H1 R1 le1 o1 l1 q1 => ?_
  refine h4 B F0 ρ1 σ1 F1 H1 r xs Φ Q R1 (TvL.le le1 _ _ tv2) q1 fun ρ2 σ2 F2 H2 R2 le2 o2 l2 q2 => ?_
  refine k ρ2 σ2 F2 H2 R2 (le1.trans le2) (fun i hi => ?_) (l2.trans l1) q2
  rw [o2 i (fun z => hi (List.mem_append_right _ z)), o1 i (fun z => hi (List.mem_append_left _ z))]
def gTp (gs : PGs') : PG' := fun τ _ ρ Φ => ∃ l, τ = .tup l ∧ gs l ρ Φ
theorem qg_tup {gs : PGs'} {k : Nat} {n : Nat} (hc : X.calm = true) (h : QGs X W es sl gs) (hlen : ∀ l ρ Φ, gs l ρ Φ → l.length = n)
    (hn : (assignEach es X.env).length = n := by rfl) (hst : (assignEach es X.env).findIdx? (·.1) = none := by rfl) : QG X W (.Tuple es k pos) sl (gTp gs) := by
  obtain ⟨t, h1, h2⟩ := h.ex
  refine ⟨_, pg_tup hc h1 hn hst, fun B F0 ρ σ F H τ f v Φ Q R vr hg k => ?_⟩
  obtain ⟨l, rfl, hg⟩ := hg
  have tv : Tv X.K F (.tup l) v := by
    cases f with
    | false => exact vr
    | true => obtain ⟨_, _, _, z, _⟩ := vr; cases z
  obtain ⟨a, xs, rfl, h3, h4⟩ := tv
  exact ⟨a, xs, rfl, sqt_le R.fh h3, by rw [h4.length]; exact hlen l ρ Φ hg, h2 B F0 ρ σ F H l xs Φ Q R h4 hg k⟩
theorem len_nil : ∀ l ρ Φ, gsNil l ρ Φ → l.length = 0 := fun l ρ Φ h => by rw [h.1]; rfl
theorem len_cons {gs : PGs'} {n : Nat} (hg : ∀ t f ρ Φ, g t f ρ Φ → ∃ ρ1, Φ ρ1) (h : ∀ l ρ Φ, gs l ρ Φ → l.length = n) : ∀ l ρ Φ, gsCons g gs l ρ Φ → l.length = n + 1 := fun l ρ Φ hh => by
  obtain ⟨t, r, rfl, hh⟩ := hh
  obtain ⟨ρ1, q⟩ := hg _ _ _ _ hh
  rw [List.length_cons, h r ρ1 Φ q]
theorem ex_name {i : Nat} : ∀ t f ρ Φ, gN i t f ρ Φ → ∃ ρ1, Φ ρ1 := fun t f ρ Φ h => ⟨_, h⟩
theorem exs_nil : ∀ l ρ Φ, gsNil l ρ Φ → ∃ ρ1, Φ ρ1 := fun l ρ Φ h => ⟨_, h.2⟩
theorem exs_cons {gs : PGs'} (hg : ∀ t f ρ Φ, g t f ρ Φ → ∃ ρ1, Φ ρ1) (h : ∀ l ρ Φ, gs l ρ Φ → ∃ ρ1, Φ ρ1) : ∀ l ρ Φ, gsCons g gs l ρ Φ → ∃ ρ1, Φ ρ1 := fun l ρ Φ hh => by
  obtain ⟨t, r, rfl, hh⟩ := hh
  obtain ⟨ρ1, q⟩ := hg _ _ _ _ hh
  exact h _ _ _ q
theorem ex_tup {gs : PGs'} (h : ∀ l ρ Φ, gs l ρ Φ → ∃ ρ1, Φ ρ1) : ∀ t f ρ Φ, gTp gs t f ρ Φ → ∃ ρ1, Φ ρ1 := fun t f ρ Φ ⟨l, _, q⟩ => h l ρ Φ q
/-- xs[i] = v, xs a slot's own list -/
def gSubT (i : Nat) (pb : PE') : PG' := fun τ _ ρ Φ => (∃ l, ρ[i]? = some (Sl.ow l)) ∧ pb ρ fun y _ ρ1 => ∃ l j k, ρ1[i]? = some (Sl.ow l) ∧ y = .int j ∧ ixN l.length j = some k ∧ Φ (ρ1.set i (Sl.ow (l.set k τ)))
theorem qg_sub {x : Str} {i : Nat} {b : Expr} {p2 : Pos} {pb : PE'} (h : PE X (.Name x p2) (tVar i)) (hb : QE X W b pb)
    (ha : ∀ v, assign (.Subscript (.Name x p2) b pos) X.env v = (do
      let ov ← holding [v] (eval (.Name x p2) X.env)
      let iv ← holding [v, ov] (eval b X.env)
      standAt pos
      holding [v, ov, iv] (setItem ov iv v)
      release [v, ov, iv] []) := by intro _; rfl) : QG X W (.Subscript (.Name x p2) b pos) [] (gSubT i pb) := by
  obtain ⟨u, h3, h4⟩ := hb.ex
  refine ⟨_, pg_sub h h3 set_list ha, fun B F0 ρ σ F H τ f v Φ Q R vr hg k => ?_⟩
  obtain ⟨⟨l0, e0⟩, hg⟩ := hg
  obtain ⟨F', R', le', tv⟩ := R.freeze vr
  obtain ⟨a, xs, e1, _⟩ := R'.ow i l0 e0
  refine ⟨_, e1, ?_⟩
  refine h4.fz R' hg fun y ρ1 w F1 H1 R1 le1 tv1 q1 => ?_
  obtain ⟨l, j, kk, e2, rfl, e3, q1⟩ := q1
  obtain ⟨a2, ys, e4, e5, e6, _⟩ := R1.ow i l e2
  rw [e1] at e4
  obtain rfl : a = a2 := V.ref.inj (Option.some.inj (Option.some.inj e4))
  refine ⟨a, ys, j, kk, rfl, tv1, e5, by rw [e6.length]; exact e3, ?_⟩
  exact k _ σ F1 _ (R1.mut e2 e1 (e6.set kk (Tv.le le1 _ _ tv))) (le'.trans le1) (fun _ _ => rfl) rfl q1
end
end Y

namespace Y
open PySem PySem.Spec PyProof.Rows L2 RT RZ
/-! ### comprehensions -/
def wipeP (ρ : PS') : List Nat → PS'
  | [] => ρ
  | v :: vs => (wipeP ρ vs).set v Sl.no
def restore (ρ1 ρ : PS') : List Nat → PS'
  | [] => ρ
  | v :: vs => (restore ρ1 ρ vs).set v (ρ1.getD v Sl.no)
theorem wipeP_length (ρ : PS') : ∀ vs, (wipeP ρ vs).length = ρ.length
  | [] => rfl
  | v :: vs => by rw [wipeP, List.length_set, wipeP_length ρ vs]
theorem restore_length (ρ1 ρ : PS') : ∀ vs, (restore ρ1 ρ vs).length = ρ.length
  | [] => rfl
  | v :: vs => by rw [restore, List.length_set, restore_length ρ1 ρ vs]
theorem restore_out {ρ1 ρ : PS'} {i : Nat} : ∀ {vs : List Nat}, i ∉ vs → (restore ρ1 ρ vs)[i]? = ρ[i]?
  | [], _ => rfl
  | v :: vs, h => by
    have h1 : v ≠ i := fun e => h (by rw [e]; exact List.mem_cons_self)
    rw [restore, List.getElem?_set_ne h1]
    exact restore_out fun m => h (List.mem_cons_of_mem _ m)
theorem restore_in {ρ1 ρ : PS'} {i : Nat} (hi : i < ρ.length) : ∀ {vs : List Nat}, i ∈ vs → (restore ρ1 ρ vs)[i]? = some (ρ1.getD i Sl.no)
  | [], h => by cases h
  | v :: vs, h => by
    rw [restore]
    by_cases hv : v = i
    · subst hv
      rw [List.getElem?_set_self (by rw [restore_length]; exact hi)]
    · rw [List.getElem?_set_ne hv]
      rcases List.mem_cons.mp h with e | h
      · exact absurd e.symm hv
      · exact restore_in hi h
section
variable {K : PySem.W.Frag} {W : Wld} {B F0 F H : Hp} {ρ ρ1 : PS'} {σ : L2.St}
theorem Rep.clr (R : Rep K W B F0 ρ σ F H) (v : Nat) : Rep K W B F0 (ρ.set v Sl.no) (σ.set v none) F H := by
  have out : ∀ {i : Nat} {s : Sl}, (ρ.set v Sl.no)[i]? = some s → s ≠ Sl.no → v ≠ i ∧ ρ[i]? = some s := fun {i s} e n => by
    by_cases hi : v = i
    · subst hi
      by_cases hv : v < ρ.length
      · rw [List.getElem?_set_self hv] at e
        exact absurd (Option.some.inj e).symm n
      · rw [List.getElem?_eq_none (by rw [List.length_set]; omega)] at e
        cases e
    · rw [List.getElem?_set_ne hi] at e
      exact ⟨hi, e⟩
  refine ⟨R.fh, R.f0, R.fd, R.bh, R.ok, R.wf, R.wb, by rw [List.length_set, List.length_set]; exact R.ln, fun i t e => ?_, fun i l e => ?_, fun i j l m e1 e2 e3 => ?_⟩
  · obtain ⟨hi, e⟩ := out e (fun z => nomatch z)
    rw [List.getElem?_set_ne hi]
    exact R.fz i t e
  · obtain ⟨hi, e⟩ := out e (fun z => nomatch z)
    rw [List.getElem?_set_ne hi]
    exact R.ow i l e
  · obtain ⟨hi, e1⟩ := out e1 (fun z => nomatch z)
    obtain ⟨hj, e2⟩ := out e2 (fun z => nomatch z)
    rw [List.getElem?_set_ne hi, List.getElem?_set_ne hj] at e3
    exact R.ds i j l m e1 e2 e3
theorem Rep.wipe (R : Rep K W B F0 ρ σ F H) : ∀ vs : List Nat, Rep K W B F0 (wipeP ρ vs) (L2.wipe σ vs) F H
  | [] => R
  | v :: vs => (R.wipe vs).clr v
theorem Rep.unwipe {vs : List Nat} {F1 H1 : Hp} (R : Rep K W B F0 ρ (L2.wipe σ vs) F H) (R1 : Rep K W B F0 ρ1 σ F1 H1) (le : Le F1 F) (no : ∀ i ∈ vs, ∀ l, ρ1[i]? ≠ some (Sl.ow l)) : Rep K W B F0 (restore ρ1 ρ vs) σ F H := by
  have ln : ρ.length = σ.length := by rw [R.ln, wipe_length]
  have cs : ∀ {i : Nat} {s : Sl}, (restore ρ1 ρ vs)[i]? = some s → (i ∈ vs ∧ (ρ1[i]? = some s ∨ s = Sl.no)) ∨ (i ∉ vs ∧ ρ[i]? = some s) := fun {i s} e => by
    by_cases hi : i ∈ vs
    · have hl : i < ρ.length := by
        have := (List.getElem?_eq_some_iff.mp e).1
        rwa [restore_length] at this
      rw [restore_in hl hi] at e
      refine .inl ⟨hi, ?_⟩
      have e2 : ρ1.getD i Sl.no = s := Option.some.inj e
      rw [List.getD_eq_getElem?_getD] at e2
      cases z : ρ1[i]? with
      | none => rw [z] at e2; exact .inr e2.symm
      | some u => rw [z] at e2; exact .inl (congrArg some e2)
    · rw [restore_out hi] at e
      exact .inr ⟨hi, e⟩
  refine ⟨R.fh, R.f0, R.fd, R.bh, R.ok, R.wf, R.wb, by rw [restore_length]; exact ln, fun i t e => ?_, fun i l e => ?_, fun i j l m e1 e2 e3 => ?_⟩
  · rcases cs e with ⟨hi, z | z⟩ | ⟨hi, e⟩
    · obtain ⟨v, e1, e2⟩ := R1.fz i t z
      exact ⟨v, e1, Tv.le le _ _ e2⟩
    · cases z
    · have := R.fz i t e
      rwa [wipe_out hi] at this
  · rcases cs e with ⟨hi, z | z⟩ | ⟨hi, e⟩
    · exact absurd z (no i hi l)
    · cases z
    · have := R.ow i l e
      rwa [wipe_out hi] at this
  · rcases cs e1 with ⟨hi, z | z⟩ | ⟨hi, e1⟩
    · exact absurd z (no i hi l)
    · cases z
    · rcases cs e2 with ⟨hj, z | z⟩ | ⟨hj, e2⟩
      · exact absurd z (no j hj m)
      · cases z
      · have := R.ds i j l m e1 e2
        rw [wipe_out hi, wipe_out hj] at this
        exact this e3
/-- the list at D is kept -/
theorem Rep.prot (R : Rep K W B F0 ρ σ F H) {D : Addr} {o : HO} (h : H D = some o) (hF : F D = none) (hA : ¬ W.A D) (hs : ∀ (i : Nat) (l : List T), ρ[i]? = some (Sl.ow l) → σ[i]? ≠ some (some (V.ref D))) : Rep K W (upd B D o) F0 ρ σ F H := by
  refine ⟨R.fh, R.f0, fun a e => ?_, fun a u e => ?_, R.ok, R.wf, fun a e => ?_, R.ln, R.fz, fun i l e => ?_, R.ds⟩
  · have hn : a ≠ D := fun z => e (by rw [z]; exact hF)
    rw [upd_ne hn]
    exact R.fd a e
  · by_cases hn : a = D
    · rw [hn, upd_same] at e
      cases e
      rw [hn]
      exact h
    · rw [upd_ne hn] at e
      exact R.bh _ _ e
  · have hn : a ≠ D := fun z => hA (z ▸ W.sub _ e)
    rw [upd_ne hn]
    exact R.wb a e
  · obtain ⟨a, xs, e1, e2, e3, e4, e5, e6⟩ := R.ow i l e
    have hn : a ≠ D := fun z => hs i l e (z ▸ e1)
    exact ⟨a, xs, e1, e2, e3, e4, by rw [upd_ne hn]; exact e5, e6⟩
theorem Rep.ownNe {D : Addr} {o : HO} (R : Rep K W (upd B D o) F0 ρ σ F H) : ∀ (i : Nat) (l : List T), ρ[i]? = some (Sl.ow l) → σ[i]? ≠ some (some (V.ref D)) := fun i l e z => by
  obtain ⟨a, xs, e1, e2, e3, e4, e5, e6⟩ := R.ow i l e
  rw [e1] at z
  cases z
  rw [upd_same] at e5
  cases e5
theorem Rep.reprot {D : Addr} {o o' : HO} (R : Rep K W (upd B D o) F0 ρ σ F H) (hF : F D = none) (hA : ¬ W.A D) : Rep K W (upd B D o') F0 ρ σ F (upd H D o') := by
  refine ⟨fun a u e => ?_, R.f0, fun a e => ?_, fun a u e => ?_, W.stb H _ (fun a ha => ?_) R.ok, R.wf, fun a e => ?_, R.ln, R.fz, fun i l e => ?_, R.ds⟩
  · rw [upd_ne (ne_of_none e hF)]
    exact R.fh _ _ e
  · have hn : a ≠ D := fun z => e (by rw [z]; exact hF)
    have := R.fd a e
    rw [upd_ne hn] at this ⊢
    exact this
  · by_cases hn : a = D
    · rw [hn, upd_same] at e ⊢
      exact e
    · rw [upd_ne hn] at e ⊢
      exact R.bh _ _ (by rw [upd_ne hn]; exact e)
  · rw [upd_ne (fun (z : a = D) => hA (z ▸ ha))]
  · have hn : a ≠ D := fun z => hA (z ▸ W.sub _ e)
    have := R.wb a e
    rw [upd_ne hn] at this ⊢
    exact this
  · obtain ⟨a, xs, e1, e2, e3, e4, e5, e6⟩ := R.ow i l e
    have hn : a ≠ D := fun z => R.ownNe i l e (z ▸ e1)
    rw [upd_ne hn] at e5
    exact ⟨a, xs, e1, by rw [upd_ne hn]; exact e2, e3, e4, by rw [upd_ne hn]; exact e5, e6⟩
theorem Rep.unprot {D : Addr} {o : HO} (R : Rep K W (upd B D o) F0 ρ σ F H) (hB : B D = none) (hA : ¬ W.A D) : Rep K W B F0 ρ σ F H := by
  refine ⟨R.fh, R.f0, fun a e => ?_, fun a u e => ?_, R.ok, R.wf, fun a e => ?_, R.ln, R.fz, fun i l e => ?_, R.ds⟩
  · by_cases hn : a = D
    · rw [hn]
      exact .inr hB
    · have := R.fd a e
      rwa [upd_ne hn] at this
  · exact R.bh _ _ (by rw [upd_ne (ne_of_none e hB)]; exact e)
  · have hn : a ≠ D := fun z => hA (z ▸ W.sub _ e)
    have := R.wb a e
    rwa [upd_ne hn] at this
  · obtain ⟨a, xs, e1, e2, e3, e4, e5, e6⟩ := R.ow i l e
    have hn : a ≠ D := fun z => R.ownNe i l e (z ▸ e1)
    rw [upd_ne hn] at e5
    exact ⟨a, xs, e1, e2, e3, e4, e5, e6⟩
end
structure QTs (X : Cx) (W : Wld) (ifs : List Expr) (p : PT') : Prop where
  ex : PTs X ifs (tT X.K W p)
def pYes : PT' := fun ρ Φ => Φ true ρ
theorem qts_nil {X : Cx} {W : Wld} : QTs X W [] pYes := ⟨⟨fun pins s σ H Q I hq => by
  obtain ⟨B, F0, ρ, F, Φ, R, hp, k⟩ := hq
  exact pts_nil.run pins s σ H Q I (k true ρ F H R (Le.refl _) hp)⟩⟩
theorem qts_one {X : Cx} {W : Wld} {c : Expr} {p : PT'} (h : QT X W c p) : QTs X W [c] p := ⟨pts_one h.can⟩
def LcK (g : PG') (pt : PT') (pe : PE') (vs : List Nat) (items : List T) (ρ1 : PS') (Φ : T → Bool → PS' → Prop) : Prop := items.length ≤ 16000000 ∧ (∀ i ∈ vs, ∀ l, ρ1[i]? ≠ some (Sl.ow l)) ∧ ∃ Inv : Nat → List T → PS' → Prop, Inv 0 [] (wipeP ρ1 vs) ∧
  (∀ i t acc ρ2, items[i]? = some t → acc.length ≤ i → Inv i acc ρ2 → g t false ρ2 fun ρ3 => pt ρ3 fun b ρ4 => if b = true then pe ρ4 fun y _ ρ5 => Inv (i + 1) (acc ++ [y]) (wipeP ρ5 vs) else Inv (i + 1) acc (wipeP ρ4 vs)) ∧
  ∀ acc ρ2, acc.length ≤ items.length → Inv items.length acc ρ2 → Φ (.lst acc) true (restore ρ1 ρ2 vs)
def pLc (pi : PI') (g : PG') (pt : PT') (pe : PE') (vs : List Nat) : PE' := fun ρ Φ => pi ρ fun items ρ1 => LcK g pt pe vs items ρ1 Φ
theorem wipe_eq {σ σ2 : L2.St} : ∀ {vs : List Nat}, (∀ i, i ∉ vs → σ2[i]? = (wipe σ vs)[i]?) → σ2.length = σ.length → wipe σ2 vs = wipe σ vs := fun {vs} h hl => by
  have key : ∀ (σ : L2.St) (vs : List Nat) (i : Nat), i ∈ vs → i < σ.length → (wipe σ vs)[i]? = some none := by
    intro σ vs i
    induction vs with
    | nil => intro h; cases h
    | cons v vs ih =>
      intro h hi
      unfold wipe
      by_cases hv : v = i
      · subst hv
        rw [List.getElem?_set_self (by rw [wipe_length]; exact hi)]
      · rw [List.getElem?_set_ne hv]
        rcases List.mem_cons.mp h with e | h
        · exact absurd e.symm hv
        · exact ih h hi
  apply List.ext_getElem?
  intro i
  by_cases hi : i ∈ vs
  · by_cases hl2 : i < σ.length
    · rw [key σ vs i hi hl2, key σ2 vs i hi (by omega)]
    · rw [List.getElem?_eq_none (by rw [wipe_length]; omega), List.getElem?_eq_none (by rw [wipe_length]; omega)]
  · rw [wipe_out hi, h i hi, wipe_out hi]
section
variable {X : Cx} {W : Wld} {elt tg iter : Expr} {ifs : List Expr} {scope : Scope} {own : List (Str × Nat)} {pos : Pos} {sl : List Nat} {pi : PI'} {g : PG'} {pt : PT'} {pe : PE'}
theorem sm_lc {wi : TI} {vs : List Nat} (hsl : ∀ i ∈ sl, i ∈ vs) (hi : ∀ (B F0 : Hp) (ρ : PS') (σ : L2.St) (F H : Hp) (Φ : List T → PS' → Prop) (R : It → Hp → Prop), Rep X.K W B F0 ρ σ F H → pi ρ Φ →
    (∀ items ρ' F' H' J, Rep X.K W B F0 ρ' σ F' H' → Le F F' → ItOk X.K J F' items → Φ items ρ' → R J H') → wi σ H R) :
    SmE X.K W (tLc wi (tGc X.K W sl g) (tT X.K W pt) (tE X.K W pe) vs) (pLc pi g pt pe vs) := fun B F0 ρ σ F H Φ Q R hp k => by
  have hs16 := sl16
  refine hi B F0 ρ σ F H _ _ R hp fun items ρ1 F1 H1 J R1 le1 it q1 => ?_
  obtain ⟨hlen, now, Inv, h0, hstep, hend⟩ := q1
  intro D nD
  have nA : ¬ W.A D := fun z => W.al H1 D R1.ok z nD
  have nF1 := none_of_le R1.fh nD
  have nB := none_of_le R1.bh nD
  have nF0 : F0 D = none := none_of_le R1.f0 nF1
  have hown : ∀ (i : Nat) (l : List T), ρ1[i]? = some (Sl.ow l) → σ[i]? ≠ some (some (V.ref D)) := fun i l e z => by
    obtain ⟨a, xs, e1, e2, _⟩ := R1.ow i l e
    rw [e1] at z
    cases z
    rw [nD] at e2
    cases e2
  -- the turns
  let Pv : Nat → Hp → Prop := fun i H' => ∃ acc xs ρ2 F2, Inv i acc ρ2 ∧ acc.length ≤ i ∧ Rep X.K W (upd B D (.lst xs)) F0 ρ2 (wipe σ vs) F2 H' ∧ TvL X.K F2 acc xs ∧ Le F1 F2
  have fD : ∀ {F2 : Hp} {xs : List V} {ρ2 : PS'} {σ2 : L2.St} {H2 : Hp}, Rep X.K W (upd B D (.lst xs)) F0 ρ2 σ2 F2 H2 → F2 D = none := fun {F2 xs ρ2 σ2 H2} R2 => by
    cases z : F2 D with
    | none => rfl
    | some o =>
      rcases R2.fd D (some_ne z) with y | y
      · exact absurd nF0 y
      · rw [upd_same] at y
        cases y
  refine ⟨fun i m H' => m = items.length - i ∧ i ≤ items.length ∧ Pv i H', ⟨_, rfl, Nat.zero_le _, [], [], wipeP ρ1 vs, F1, h0, Nat.le_refl _, ?_, rfl, Le.refl _⟩, ?_⟩
  · refine ((R1.grow (o := .lst []) nD).prot upd_same nF1 nA hown).wipe vs
  · rintro i m H2 ⟨rfl, hi2, acc, xs, ρ2, F2, inv, hacc, R2, tv, le2⟩
    by_cases hlt : i < items.length
    · refine .inr ⟨it.go i H2 (le2.trans R2.fh) hlt, Pv (i + 1), fun H' p' => ⟨items.length - (i + 1), by omega, rfl, hlt, p'⟩, fun x H3 y => ?_⟩
      obtain ⟨t, et, hx⟩ := it.yld i H2 x H3 (le2.trans R2.fh) hlt y
      -- the item is there
      obtain ⟨F3, R3, le3, tvx⟩ : ∃ F3, Rep X.K W (upd B D (.lst xs)) F0 ρ2 (wipe σ vs) F3 H3 ∧ Le F2 F3 ∧ Tv X.K F3 t x := by
        rcases hx with ⟨rfl, tvx⟩ | ⟨p, ys, l, rfl, rfl, tvl, np, rfl⟩
        · exact ⟨F2, R2, Le.refl _, Tv.le le2 _ _ tvx⟩
        · exact R2.newT np (TvL.le le2 _ _ tvl)
      refine sm_tG (upd B D (.lst xs)) F0 ρ2 (wipe σ vs) F3 H3 t false x _ _ R3 (VR.fz tvx) (hstep i t acc ρ2 et hacc inv) fun ρ3 σ3 F4 H4 R4 le4 out len q4 => ?_
      have we2 : wipe σ3 vs = wipe σ vs := wipe_eq (fun j hj => out j (fun z => hj (hsl j z))) (len.trans (wipe_length ..))
      refine ⟨we2, ?_⟩
      refine sm_tT (upd B D (.lst xs)) F0 ρ3 σ3 F4 H4 _ _ R4 q4 fun b ρ4 F5 H5 R5 le5 q5 => ?_
      cases b with
      | false =>
        rw [if_neg Bool.false_ne_true] at q5 ⊢
        refine ⟨acc, xs, _, F5, q5, by omega, we2 ▸ R5.wipe vs, TvL.le (le3.trans (le4.trans le5)) _ _ tv, le2.trans (le3.trans (le4.trans le5))⟩
      | true =>
        rw [if_pos rfl] at q5 ⊢
        refine sm_tE.fz R5 q5 fun y ρ5 v F6 H6 R6 le6 tvy q6 => ?_
        have lx := tv.length
        refine ⟨xs, R6.bh _ _ upd_same, by omega, acc ++ [y], xs ++ [v], _, F6, q6, ?_, ?_, ?_, ?_⟩
        · rw [List.length_append, List.length_singleton]
          omega
        · exact we2 ▸ ((R6.reprot (o' := .lst (xs ++ [v])) (fD R6) nA).wipe vs)
        · exact TvL.app (TvL.le (le3.trans (le4.trans (le5.trans le6))) _ _ tv) (TvL.one tvy)
        · exact le2.trans (le3.trans (le4.trans (le5.trans le6)))
    · have e : i = items.length := by omega
      subst e
      refine .inl ⟨it.stop _ H2 (le2.trans R2.fh) (Nat.le_refl _), ?_⟩
      have R9 := R2.unprot nB nA
      refine k _ true _ (.ref D) F2 H2 (R9.unwipe R1 le2 now) (le1.trans le2) ?_ (hend acc ρ2 hacc inv)
      refine ⟨acc, D, xs, rfl, rfl, R2.bh _ _ upd_same, tv, fD R2, nB, nA, fun i l e => ?_⟩
      by_cases hv : i ∈ vs
      · have hl : i < ρ2.length := by
          have := (List.getElem?_eq_some_iff.mp e).1
          rwa [restore_length] at this
        rw [restore_in hl hv] at e
        have e2 : ρ1.getD i Sl.no = Sl.ow l := Option.some.inj e
        rw [List.getD_eq_getElem?_getD] at e2
        cases z : ρ1[i]? with
        | none => rw [z] at e2; cases e2
        | some u =>
          rw [z] at e2
          exact absurd (z.trans (congrArg some e2)) (now i hv l)
      · rw [restore_out hv] at e
        have := R2.ownNe i l e
        rwa [wipe_out hv] at this
theorem qe_lc (hc : X.calm = true) (hN : X.N.Nodup) (hsl : ∀ i ∈ sl, i ∈ own.map (·.2)) (hi : QI X W tg iter pi) (ok : BlkOk X.N X.env.scope scope own)
    (hg : ∀ (s : Shared) (H : Hp) (C : Addr) (cl : List (Str × Addr)) (fp : List Addr), QG (X.blk s H scope (compEnvC scope cl C X.env) fp) W tg sl g)
    (ht : ∀ (s : Shared) (H : Hp) (C : Addr) (cl : List (Str × Addr)) (fp : List Addr), QTs (X.blk s H scope (compEnvC scope cl C X.env) fp) W ifs pt)
    (he : ∀ (s : Shared) (H : Hp) (C : Addr) (cl : List (Str × Addr)) (fp : List Addr), QE (X.blk s H scope (compEnvC scope cl C X.env) fp) W elt pe)
    (hs : ∀ x, foldedSetIterable iter X.env x = pure x := by intro _; rfl) : QE X W (.ListComp elt [⟨tg, iter, ifs, 0⟩] scope pos) (pLc pi g pt pe (own.map (·.2))) := by
  obtain ⟨wi, h1, h2⟩ := hi.ex
  exact ⟨_, pe_lc hc hN h1 ok (fun s H C cl fp => (hg s H C cl fp).can) (fun s H C cl fp => (ht s H C cl fp).ex) (fun s H C cl fp => (he s H C cl fp).can) hs, sm_lc hsl h2⟩
end
/-! ### statements -/
structure PEnds where
  nx : PS' → Prop
  rt : T → Bool → Prop
  bk : PS' → Prop := fun _ => False
  ct : PS' → Prop := fun _ => False
abbrev PSt := PEnds → PS' → Prop
/-- how the ends of a statement are met -/
structure EndsOk (K : PySem.W.Frag) (W : Wld) (B F0 F : Hp) (Δ : PEnds) (D : Ends) : Prop where
  nx : ∀ ρ σ F' H, Rep K W B F0 ρ σ F' H → Le F F' → Δ.nx ρ → D.nx σ H
  rt : ∀ τ f v ρ σ F' H, Rep K W B F0 ρ σ F' H → Le F F' → VR K W B ρ σ F' H τ f v → Δ.rt τ f → D.rt v H
  bk : ∀ ρ σ F' H, Rep K W B F0 ρ σ F' H → Le F F' → Δ.bk ρ → D.bk σ H
  ct : ∀ ρ σ F' H, Rep K W B F0 ρ σ F' H → Le F F' → Δ.ct ρ → D.ct σ H
theorem EndsOk.le {K : PySem.W.Frag} {W : Wld} {B F0 F F1 : Hp} {Δ : PEnds} {D : Ends} (h : EndsOk K W B F0 F Δ D) (le : Le F F1) : EndsOk K W B F0 F1 Δ D :=
  ⟨fun ρ σ F' H R l q => h.nx ρ σ F' H R (le.trans l) q, fun τ f v ρ σ F' H R l vr q => h.rt τ f v ρ σ F' H R (le.trans l) vr q, fun ρ σ F' H R l q => h.bk ρ σ F' H R (le.trans l) q, fun ρ σ F' H R l q => h.ct ρ σ F' H R (le.trans l) q⟩
def SmS (K : PySem.W.Frag) (W : Wld) (t : TS) (p : PSt) : Prop :=
  ∀ (B F0 : Hp) (ρ : PS') (σ : L2.St) (F H : Hp) (Δ : PEnds) (D : Ends), Rep K W B F0 ρ σ F H → p Δ ρ → EndsOk K W B F0 F Δ D → t D σ H
structure QS (X : Cx) (W : Wld) (st : Stmt) (p : PSt) : Prop where
  ex : ∃ t, PS X st t ∧ SmS X.K W t p
structure QSs (X : Cx) (W : Wld) (st : List Stmt) (p : PSt) : Prop where
  ex : ∃ t, PSs X st t ∧ SmS X.K W t p
section
variable {X : Cx} {W : Wld} {st : Stmt} {rest body : List Stmt} {c e tg iter : Expr} {pos : Pos} {sl : List Nat} {p q : PSt} {pe : PE'} {pt : PT'} {pi : PI'} {g : PG'}
def sNext : PSt := fun Δ ρ => Δ.nx ρ
def sSeq (p q : PSt) : PSt := fun Δ ρ => p { Δ with nx := q Δ } ρ
theorem qss_nil : QSs X W [] sNext := ⟨_, pss_nil, fun B F0 ρ σ F H Δ D R hp k => k.nx ρ σ F H R (Le.refl _) hp⟩
theorem qss_one (h : QS X W st p) : QSs X W [st] p := let ⟨t, h1, h2⟩ := h.ex; ⟨t, pss_one h1, h2⟩
theorem qss_cons (h : QS X W st p) (h' : QSs X W rest q) : QSs X W (st :: rest) (sSeq p q) := by
  obtain ⟨t, h1, h2⟩ := h.ex
  obtain ⟨u, h3, h4⟩ := h'.ex
  refine ⟨_, pss_cons h1 h3, fun B F0 ρ σ F H Δ D R hp k => ?_⟩
  exact h2 B F0 ρ σ F H _ _ R hp ⟨fun ρ1 σ1 F1 H1 R1 le1 q1 => h4 B F0 ρ1 σ1 F1 H1 Δ D R1 q1 (k.le le1), k.rt, k.bk, k.ct⟩
theorem qs_pass : QS X W (.Pass pos) sNext := ⟨_, ps_pass, fun B F0 ρ σ F H Δ D R hp k => k.nx ρ σ F H R (Le.refl _) hp⟩
def sBreak : PSt := fun Δ ρ => Δ.bk ρ
def sCont : PSt := fun Δ ρ => Δ.ct ρ
theorem qs_break : QS X W (.Break pos) sBreak := ⟨_, ps_break, fun B F0 ρ σ F H Δ D R hp k => k.bk ρ σ F H R (Le.refl _) hp⟩
theorem qs_continue : QS X W (.Continue pos) sCont := ⟨_, ps_continue, fun B F0 ρ σ F H Δ D R hp k => k.ct ρ σ F H R (Le.refl _) hp⟩
def sExpr (pe : PE') : PSt := fun Δ ρ => pe ρ fun _ _ ρ' => Δ.nx ρ'
theorem qs_expr (h : QE X W e pe) (hs : swapsWith e none pos.line X.env = pure false := by rfl) : QS X W (.Expr e pos) (sExpr pe) := by
  obtain ⟨t, h1, h2⟩ := h.ex
  refine ⟨_, ps_expr h1 hs, fun B F0 ρ σ F H Δ D R hp k => ?_⟩
  exact h2.fz R hp fun τ ρ1 v F1 H1 R1 le1 tv q1 => k.nx ρ1 σ F1 H1 R1 le1 q1
def sRet (pe : PE') : PSt := fun Δ ρ => pe ρ fun τ f _ => Δ.rt τ f
theorem qs_ret (h : QE X W e pe) : QS X W (.Return (some e) pos) (sRet pe) := by
  obtain ⟨t, h1, h2⟩ := h.ex
  refine ⟨_, ps_ret h1, fun B F0 ρ σ F H Δ D R hp k => ?_⟩
  exact h2 B F0 ρ σ F H _ _ R hp fun τ f ρ1 v F1 H1 R1 le1 vr q1 => k.rt τ f v ρ1 σ F1 H1 R1 le1 vr q1
/-- return x, x a slot's own list: it is the caller's -/
def sRetV (i : Nat) : PSt := fun Δ ρ => match ρ[i]? with
  | some (Sl.fz t) => Δ.rt t false
  | some (Sl.ow l) => Δ.rt (.lst l) true
  | _ => False
theorem qs_retV {x : Str} {i : Nat} {p2 : Pos} (h : PE X (.Name x p2) (tVar i)) : QS X W (.Return (some (.Name x p2)) pos) (sRetV i) := by
  refine ⟨_, ps_ret h, fun B F0 ρ σ F H Δ D R hp k => ?_⟩
  unfold sRetV at hp
  split at hp
  · rename_i t ht
    obtain ⟨v, e1, e2⟩ := R.fz i t ht
    exact ⟨v, e1, k.rt t false v ρ σ F H R (Le.refl _) (VR.fz e2) hp⟩
  · rename_i l hl
    obtain ⟨a, xs, e1, e2, e3, e4, e5, e6⟩ := R.ow i l hl
    have R' := R.clr i
    refine ⟨_, e1, k.rt (.lst l) true (.ref a) _ _ F H R' (Le.refl _) ⟨l, a, xs, rfl, rfl, e2, e3, e4, e5, e6, fun j m ej => ?_⟩ hp⟩
    have hij : i ≠ j := fun z => by
      subst z
      rw [List.getElem?_set_self (List.getElem?_eq_some_iff.mp hl).1] at ej
      cases ej
    rw [List.getElem?_set_ne hij] at ej
    rw [List.getElem?_set_ne hij]
    exact fun z => hij (R.ds i j l m hl ej (e1.trans z.symm))
  · exact hp.elim
def sRetN : PSt := fun Δ _ => Δ.rt .non false
theorem qs_retN : QS X W (.Return none pos) sRetN := ⟨_, ps_retN, fun B F0 ρ σ F H Δ D R hp k => k.rt _ _ _ ρ σ F H R (Le.refl _) VR.non hp⟩
def sIf (pt : PT') (p q : PSt) : PSt := fun Δ ρ => pt ρ fun b ρ1 => if b = true then p Δ ρ1 else q Δ ρ1
theorem qs_if {a b : List Stmt} (hc : QT X W c pt) (ha : QSs X W a p) (hb : QSs X W b q) : QS X W (.If c a b pos) (sIf pt p q) := by
  obtain ⟨t, h1, h2⟩ := hc.ex
  obtain ⟨u, h3, h4⟩ := ha.ex
  obtain ⟨w, h5, h6⟩ := hb.ex
  refine ⟨_, ps_if h1 h3 h5, fun B F0 ρ σ F H Δ D R hp k => ?_⟩
  refine h2 B F0 ρ σ F H _ _ R hp fun b ρ1 F1 H1 R1 le1 q1 => ?_
  cases b with
  | true =>
    rw [if_pos rfl] at q1 ⊢
    exact h4 B F0 ρ1 σ F1 H1 Δ D R1 q1 (k.le le1)
  | false =>
    rw [if_neg Bool.false_ne_true] at q1 ⊢
    exact h6 B F0 ρ1 σ F1 H1 Δ D R1 q1 (k.le le1)
def sAsg (pe : PE') (g : PG') : PSt := fun Δ ρ => pe ρ fun τ f ρ1 => g τ f ρ1 Δ.nx
theorem sm_asg {t : TE} {u : TG} (h2 : SmE X.K W t pe) (h4 : SmG X.K W sl u g) : SmS X.K W (tAsg t u) (sAsg pe g) := fun B F0 ρ σ F H Δ D R hp k => by
  refine h2 B F0 ρ σ F H _ _ R hp fun τ f ρ1 v F1 H1 R1 le1 vr q1 => ?_
  exact h4 B F0 ρ1 σ F1 H1 τ f v _ _ R1 vr q1 fun ρ2 σ2 F2 H2 R2 le2 _ _ q2 => k.nx ρ2 σ2 F2 H2 R2 (le1.trans le2) q2
theorem qs_set {x : Str} {i : Nat} {p2 : Pos} (hN : X.N.Nodup) (hi : X.N[i]? = some x) (hx : Loc X.env.scope x) (h : QE X W e pe) (hs : swapsWith e (some (.Name x p2)) pos.line X.env = pure false := by rfl) (hf : X.fn x = true ∨ X.env.scope.names.lookup x = some .local := by first | exact .inl rfl | exact .inr rfl | assumption) :
    QS X W (.Assign [.Name x p2] e pos) (sAsg pe (gN i)) := by
  obtain ⟨t, h1, h2⟩ := h.ex
  obtain ⟨u, h3, h4⟩ := (qg_name (W := W) (pg_name (pos := p2) hN hi hx hf)).ex
  exact ⟨_, ps_set hN hi hx h1 hs hf, sm_asg h2 (fun B F0 ρ σ F H τ f v Φ Q R vr hg k => k _ _ F H (R.set vr i) (Le.refl _) (fun j hj => by rw [List.getElem?_set_ne (fun z => hj (by rw [z]; exact List.mem_singleton.mpr rfl))]) (List.length_set ..) hg : SmG X.K W [i] (gName i) (gN i))⟩
theorem qs_asg (h : QE X W e pe) (hg : QG X W tg sl g) (hs : swapsWithSole [tg] e pos.line X.env = pure false := by rfl) (hw : swappedStores [tg] e X.env = pure none := by rfl)
    (h1 : (assignEach [tg] X.env).map (·.2) = [assign tg X.env] := by rfl) : QS X W (.Assign [tg] e pos) (sAsg pe g) := by
  obtain ⟨t, h2, h3⟩ := h.ex
  obtain ⟨u, h4, h5⟩ := hg.ex
  exact ⟨_, ps_asg h2 h4 hs hw h1, sm_asg h3 h5⟩
theorem qs_setLc {i : Nat} {y : Str} {py : Pos} {elt : Expr} {ifs : List Expr} {scope : Scope} {own : List (Str × Nat)} {spos : Pos} (hc : X.calm = true) (hN : X.N.Nodup) (hy : X.N[i]? = some y) (hyl : X.env.scope.names.lookup y = some .local)
    (hsw : swapsWith (.ListComp elt [⟨tg, iter, ifs, 0⟩] scope pos) (some (.Name y py)) spos.line X.env = pure true) (hsl : ∀ i ∈ sl, i ∈ own.map (·.2)) (hi : QI X W tg iter pi) (ok : BlkOk X.N X.env.scope scope own)
    (hg : ∀ (s : Shared) (H : Hp) (C : Addr) (cl : List (Str × Addr)) (fp : List Addr), QG (X.blk s H scope (compEnvC scope cl C X.env) fp) W tg sl g)
    (ht : ∀ (s : Shared) (H : Hp) (C : Addr) (cl : List (Str × Addr)) (fp : List Addr), QTs (X.blk s H scope (compEnvC scope cl C X.env) fp) W ifs pt)
    (he : ∀ (s : Shared) (H : Hp) (C : Addr) (cl : List (Str × Addr)) (fp : List Addr), QE (X.blk s H scope (compEnvC scope cl C X.env) fp) W elt pe)
    (hs : ∀ x, foldedSetIterable iter X.env x = pure x := by intro _; rfl) : QS X W (.Assign [.Name y py] (.ListComp elt [⟨tg, iter, ifs, 0⟩] scope pos) spos) (sAsg (pLc pi g pt pe (own.map (·.2))) (gN i)) := by
  obtain ⟨wi, h1, h2⟩ := hi.ex
  exact ⟨_, ps_setLc hc hN hy hyl hsw h1 ok (fun s H C cl fp => (hg s H C cl fp).can) (fun s H C cl fp => (ht s H C cl fp).ex) (fun s H C cl fp => (he s H C cl fp).can) hs,
    sm_asg (sm_lc hsl h2) (fun B F0 ρ σ F H τ f v Φ Q R vr hg k => k _ _ F H (R.set vr i) (Le.refl _) (fun j hj => by rw [List.getElem?_set_ne (fun z => hj (by rw [z]; exact List.mem_singleton.mpr rfl))]) (List.length_set ..) hg : SmG X.K W [i] (gName i) (gN i))⟩
/-- x += e -/
def sAug (i : Nat) (P : T → T → (T → Bool → Prop) → Prop) (pe : PE') : PSt := fun Δ ρ => ∃ t, ρ[i]? = some (Sl.fz t) ∧ pe ρ fun y _ ρ1 => P t y fun τ f => Δ.nx (ρ1.set i (Sl.of τ f))
theorem qs_aug {x : Str} {i : Nat} {op : Operator} {P} {p2 : Pos} (hN : X.N.Nodup) (hi : X.N[i]? = some x) (hx : Loc X.env.scope x) (h : QE X W e pe) (ho : OpQ X W (inplaceOp op) P) (hf : X.fn x = true ∨ X.env.scope.names.lookup x = some .local := by first | exact .inl rfl | exact .inr rfl | assumption) :
    QS X W (.AugAssign (.Name x p2) op e pos) (sAug i P pe) := by
  obtain ⟨t, h1, h2⟩ := h.ex
  refine ⟨_, ps_aug hN hi hx h1 (opS X _) hf, fun B F0 ρ σ F H Δ D R hp k => ?_⟩
  obtain ⟨τ0, e0, hp⟩ := hp
  obtain ⟨v, e1, e2⟩ := R.fz i τ0 e0
  refine ⟨v, e1, ?_⟩
  refine h2.fz R hp fun y ρ1 u F1 H1 R1 le1 tv q1 => ?_
  exact ho B F0 ρ1 σ F1 H1 τ0 y v u _ _ R1 (Tv.le le1 _ _ e2) tv q1 fun τ f w F2 H2 R2 le2 vr q2 => k.nx _ _ F2 H2 (R2.set vr i) (le1.trans le2) q2
theorem oq_iadd : OpQ X W (inplaceOp .Add) (fun x y Φ => match x, y with
    | .int i, .int j => Φ (.int (i + j)) false
    | .str i, .str j => i.length + j.length ≤ 16000000 ∧ Φ (.str (i ++ j)) false
    | _, _ => False) := by
  intro B F0 ρ σ F H x y v u Φ Q R hx hy hp k
  have hs := sl16
  split at hp
  · exact rS2.of iop_add ⟨_, _, hx, hy, k _ false _ F H R (Le.refl _) VR.int hp⟩
  · exact rS2.of iop_add_str ⟨_, _, hx, hy, by omega, k _ false _ F H R (Le.refl _) VR.str hp.2⟩
  · exact hp.elim
theorem oq_isub : OpQ X W (inplaceOp .Sub) PSub := by
  intro B F0 ρ σ F H x y v u Φ Q R hx hy hp k
  unfold PSub at hp
  split at hp
  · exact rS2.of iop_sub ⟨_, _, hx, hy, k _ false _ F H R (Le.refl _) VR.int hp⟩
  · exact hp.elim
/-! #### loops -/
def ForK (g : PG') (p : PSt) (Δ : PEnds) (items : List T) (ρ1 : PS') : Prop := ∃ Inv : Nat → PS' → Prop, Inv 0 ρ1 ∧
  (∀ i t ρ2, items[i]? = some t → Inv i ρ2 → g t false ρ2 fun ρ3 => p { Δ with nx := Inv (i + 1), ct := Inv (i + 1), bk := Δ.nx } ρ3) ∧ ∀ ρ2, Inv items.length ρ2 → Δ.nx ρ2
def sFor (pi : PI') (g : PG') (p : PSt) : PSt := fun Δ ρ => pi ρ fun items ρ1 => ForK g p Δ items ρ1
theorem qs_for (hp : PassesOwn (model X.prog X.w) X.A X.env X.xe) (hc : X.calm = true) (hi : QI X W tg iter pi) (hg : QG X W tg sl g) (hb : QSs X W body p)
    (hs : ∀ x, foldedSetIterable iter X.env x = pure x := by intro _; rfl) : QS X W (.For tg iter body [] pos) (sFor pi g p) := by
  obtain ⟨wi, h1, h2⟩ := hi.ex
  obtain ⟨u, h3, h4⟩ := hg.ex
  obtain ⟨t, h5, h6⟩ := hb.ex
  refine ⟨_, ps_for hp hc h1 h3 h5 hs, fun B F0 ρ σ F H Δ D R hpp k => ?_⟩
  refine h2 B F0 ρ σ F H _ _ R hpp fun items ρ1 F1 H1 J R1 le1 it q1 => ?_
  obtain ⟨Inv, h0, hstep, hend⟩ := q1
  let Pv : Nat → L2.St → Hp → Prop := fun i σ' H' => ∃ ρ2 F2, Inv i ρ2 ∧ Rep X.K W B F0 ρ2 σ' F2 H' ∧ Le F1 F2
  refine ⟨fun i m σ' H' => m = items.length - i ∧ i ≤ items.length ∧ Pv i σ' H', ⟨_, rfl, Nat.zero_le _, ρ1, F1, h0, R1, Le.refl _⟩, ?_⟩
  rintro i m σ2 H2 ⟨rfl, hi2, ρ2, F2, inv, R2, le2⟩
  by_cases hlt : i < items.length
  · refine .inr ⟨it.go i H2 (le2.trans R2.fh) hlt, Pv (i + 1), fun σ' H' p' => ⟨items.length - (i + 1), by omega, rfl, hlt, p'⟩, fun x H3 y => ?_⟩
    obtain ⟨t, et, hx⟩ := it.yld i H2 x H3 (le2.trans R2.fh) hlt y
    obtain ⟨F3, R3, le3, tvx⟩ : ∃ F3, Rep X.K W B F0 ρ2 σ2 F3 H3 ∧ Le F2 F3 ∧ Tv X.K F3 t x := by
      rcases hx with ⟨rfl, tvx⟩ | ⟨p, ys, l, rfl, rfl, tvl, np, rfl⟩
      · exact ⟨F2, R2, Le.refl _, Tv.le le2 _ _ tvx⟩
      · exact R2.newT np (TvL.le le2 _ _ tvl)
    refine h4 B F0 ρ2 σ2 F3 H3 t false x _ _ R3 (VR.fz tvx) (hstep i t ρ2 et inv) fun ρ3 σ3 F4 H4 R4 le4 _ _ q4 => ?_
    have le14 : Le F1 F4 := le2.trans (le3.trans le4)
    refine h6 B F0 ρ3 σ3 F4 H4 _ _ R4 q4 ⟨fun ρ5 σ5 F5 H5 R5 le5 q5 => ⟨ρ5, F5, q5, R5, le14.trans le5⟩, fun τ f v ρ5 σ5 F5 H5 R5 le5 vr q5 => k.rt τ f v ρ5 σ5 F5 H5 R5 (le1.trans (le14.trans le5)) vr q5,
      fun ρ5 σ5 F5 H5 R5 le5 q5 => k.nx ρ5 σ5 F5 H5 R5 (le1.trans (le14.trans le5)) q5, fun ρ5 σ5 F5 H5 R5 le5 q5 => ⟨ρ5, F5, q5, R5, le14.trans le5⟩⟩
  · have e : i = items.length := by omega
    subst e
    exact .inl ⟨it.stop _ H2 (le2.trans R2.fh) (Nat.le_refl _), k.nx ρ2 σ2 F2 H2 R2 (le1.trans le2) (hend ρ2 inv)⟩
def sWhile (pt : PT') (p : PSt) : PSt := fun Δ ρ => ∃ Inv : Nat → PS' → Prop, (∃ m, Inv m ρ) ∧ ∀ m ρ1, Inv m ρ1 → pt ρ1 fun b ρ2 => if b = true then p { Δ with nx := fun ρ3 => ∃ m', m' < m ∧ Inv m' ρ3, ct := fun ρ3 => ∃ m', m' < m ∧ Inv m' ρ3, bk := Δ.nx } ρ2 else Δ.nx ρ2
theorem qs_while (hp : PassesOwn (model X.prog X.w) X.A X.env X.xe) (hc : QT X W c pt) (hb : QSs X W body p) : QS X W (.While c body [] pos) (sWhile pt p) := by
  obtain ⟨u, h3, h4⟩ := hc.ex
  obtain ⟨t, h5, h6⟩ := hb.ex
  refine ⟨_, ps_while hp h3 h5, fun B F0 ρ σ F H Δ D R hpp k => ?_⟩
  obtain ⟨Inv, ⟨m0, i0⟩, hstep⟩ := hpp
  refine ⟨fun m σ' H' => ∃ ρ2 F2, Inv m ρ2 ∧ Rep X.K W B F0 ρ2 σ' F2 H' ∧ Le F F2, ⟨m0, ρ, F, i0, R, Le.refl _⟩, ?_⟩
  rintro m σ2 H2 ⟨ρ2, F2, inv, R2, le2⟩
  refine h4 B F0 ρ2 σ2 F2 H2 _ _ R2 (hstep m ρ2 inv) fun b ρ3 F3 H3 R3 le3 q3 => ?_
  cases b with
  | true =>
    rw [if_pos rfl] at q3 ⊢
    refine ⟨fun σ' H' => ∃ m', m' < m ∧ ∃ ρ2 F2, Inv m' ρ2 ∧ Rep X.K W B F0 ρ2 σ' F2 H' ∧ Le F F2, fun σ' H' ⟨m', hm, z⟩ => ⟨m', hm, z⟩, ?_⟩
    have le13 : Le F F3 := le2.trans le3
    exact h6 B F0 ρ3 σ2 F3 H3 _ _ R3 q3 ⟨fun ρ5 σ5 F5 H5 R5 le5 ⟨m', hm, q5⟩ => ⟨m', hm, ρ5, F5, q5, R5, le13.trans le5⟩, fun τ f v ρ5 σ5 F5 H5 R5 le5 vr q5 => k.rt τ f v ρ5 σ5 F5 H5 R5 (le13.trans le5) vr q5,
      fun ρ5 σ5 F5 H5 R5 le5 q5 => k.nx ρ5 σ5 F5 H5 R5 (le13.trans le5) q5, fun ρ5 σ5 F5 H5 R5 le5 ⟨m', hm, q5⟩ => ⟨m', hm, ρ5, F5, q5, R5, le13.trans le5⟩⟩
  | false =>
    rw [if_neg Bool.false_ne_true] at q3 ⊢
    exact k.nx ρ3 σ2 F3 H3 R3 (le2.trans le3) q3
end
end Y

namespace Y
open PySem PySem.Spec PyProof.Rows L2 RT RZ
/-! ### what a def promises, by data -/
abbrev PSp := List T → (T → Bool → Prop) → Prop
/-- what a call gives: frozen, or a new list -/
def VX (K : PySem.W.Frag) (F' H H' : Hp) (t : T) (f : Bool) (v : V) : Prop :=
  match f with
  | false => Tv K F' t v
  | true => ∃ l a xs, t = .lst l ∧ v = .ref a ∧ H' a = some (.lst xs) ∧ TvL K F' l xs ∧ F' a = none ∧ H a = none
structure After (K : PySem.W.Frag) (W : Wld) (F H F' H' : Hp) : Prop where
  le : Le F F'
  fh : Le F' H'
  fd : ∀ a, F' a ≠ none → F a ≠ none ∨ H a = none
  kp : ∀ a o, H a = some o → ¬ W.D a → H' a = some o
  ok : W.ok H'
def spQ (K : PySem.W.Frag) (W : Wld) (pf : PSp) : Sp := fun vs H Q _ => ∃ ts F Ψ, Le F H ∧ W.ok H ∧ (∀ a, W.D a → F a = none) ∧ TvL K F ts vs ∧ pf ts Ψ ∧
  ∀ τ f v F' H', Ψ τ f → After K W F H F' H' → VX K F' H H' τ f v → Q v H'
/-- a def that can be called by its name -/
def CalQ (P : Program) (w : World) (K : PySem.W.Frag) (mg : Str → Option Value) (base : Heap) (W : Wld) (x : Str) (k : Nat) (ps : List Str) (pf : PSp) : Prop :=
  ∃ f fd, mg x = some (.ref f) ∧ PySem.W.keepIn K (.ref f) = true ∧ Binds K fd ps [] ∧ FnOk P w K mg base CX0 k f fd ps (spQ K W pf)
section
variable {P : Program} {w : World} {K : PySem.W.Frag} {mg : Str → Option Value} {base : Heap} {W : Wld} {x : Str} {j k : Nat} {ps : List Str} {pf pf' : PSp}
theorem CalQ.mono (h : CalQ P w K mg base W x j ps pf) (l : j ≤ k) : CalQ P w K mg base W x k ps pf := by
  obtain ⟨f, fd, h1, h2, h3, h4⟩ := h
  exact ⟨f, fd, h1, h2, h3, h4.mono l⟩
/-- a weaker promise -/
theorem CalQ.imp (h : CalQ P w K mg base W x k ps pf) (l : ∀ ts Φ, pf' ts Φ → ∃ Ψ, pf ts Ψ ∧ ∀ τ f, Ψ τ f → Φ τ f) : CalQ P w K mg base W x k ps pf' := by
  obtain ⟨f, fd, h1, h2, h3, h4⟩ := h
  refine ⟨f, fd, h1, h2, h3, h4.imp fun vs H Q E q => ?_⟩
  obtain ⟨ts, F, Ψ, q2, q3, q4, q5, q6, q7⟩ := q
  obtain ⟨Ψ', r1, r2⟩ := l _ _ q6
  exact ⟨ts, F, Ψ', q2, q3, q4, q5, r1, fun τ f v F' H' z => q7 τ f v F' H' (r2 τ f z)⟩
end
section
variable {K : PySem.W.Frag} {W : Wld} {B F0 F H F' H' : Hp} {ρ : PS'} {σ : L2.St}
theorem Rep.after (R : Rep K W B F0 ρ σ F H) (A : After K W F H F' H') : Rep K W B F0 ρ σ F' H' := by
  refine ⟨A.fh, R.f0.trans A.le, fun a e => ?_, fun a o e => A.kp a o (R.bh _ _ e) (fun z => by rw [R.wb a z] at e; cases e), A.ok, fun a e => ?_, R.wb, R.ln, fun i t e => ?_, fun i l e => ?_, R.ds⟩
  · rcases A.fd a e with z | z
    · exact R.fd a z
    · exact .inr (none_of_le R.bh z)
  · cases z : F' a with
    | none => rfl
    | some o =>
      rcases A.fd a (some_ne z) with y | y
      · exact absurd (R.wf a e) y
      · exact absurd y (W.al H a R.ok (W.sub _ e))
  · obtain ⟨v, e1, e2⟩ := R.fz i t e
    exact ⟨v, e1, Tv.le A.le _ _ e2⟩
  · obtain ⟨a, xs, e1, e2, e3, e4, e5, e6⟩ := R.ow i l e
    refine ⟨a, xs, e1, A.kp a _ e2 (fun z => e6 (W.sub _ z)), TvL.le A.le _ _ e3, ?_, e5, e6⟩
    cases z : F' a with
    | none => rfl
    | some o =>
      rcases A.fd a (some_ne z) with y | y
      · exact absurd e4 y
      · rw [y] at e2
        cases e2
theorem Rep.vx (R : Rep K W B F0 ρ σ F H) {t : T} {f : Bool} {v : V} (h : VX K F' H H' t f v) : VR K W B ρ σ F' H' t f v := by
  cases f with
  | false => exact h
  | true =>
    obtain ⟨l, a, xs, e1, e2, e3, e4, e5, e6⟩ := h
    refine ⟨l, a, xs, e1, e2, e3, e4, e5, none_of_le R.bh e6, fun z => W.al H a R.ok z e6, fun i l' e z => ?_⟩
    obtain ⟨b, ys, z1, z2, _⟩ := R.ow i l' e
    rw [z1] at z
    cases z
    rw [e6] at z2
    cases z2
end
section
variable {X : Cx} {W : Wld} {e : Expr} {es : List Expr} {x : Str} {p pos : Pos} {k : Nat} {ps : List Str} {pf : PSp} {q : PA'}
def pCall (pf : PSp) (q : PA') : PE' := fun ρ Φ => q ρ fun l ρ' => pf l fun τ f => Φ τ f ρ'
theorem sm_call {t : TA} (h2 : SmA X.K W t q) : SmE X.K W (tCall (spQ X.K W pf) [] E0 t) (pCall pf q) := fun B F0 ρ σ F H Φ Q R hp k => by
  refine h2 B F0 ρ σ F H _ _ R hp fun l ρ1 vs F1 H1 R1 le1 tv q1 => ?_
  refine ⟨l, F1, _, R1.fh, R1.ok, R1.wf, by rw [List.append_nil]; exact tv, q1, fun τ f v F' H' hΨ A vx => ?_⟩
  exact k τ f ρ1 v F' H' (R1.after A) (le1.trans A.le) (R1.vx vx) hΨ
theorem qe_call (C : CalQ X.prog X.w X.K X.mg X.base W x k ps pf) (hr : Room k X.A) (hg : Gl X x) (ha : QA X W (e :: es) q) (hdb : (x == ("__debug__" : Str)) = false := by decide) (he : starEach (e :: es) X.env = (false, eval e X.env) :: starEach es X.env := by rfl) (hpl : (backTo pos (starEach es X.env)).any (·.1) = false := by rfl) :
    QE X W (.Call (.Name x p) (e :: es) [] pos) (pCall pf q) := by
  obtain ⟨f, fd, hm, hk, hb, F⟩ := C
  obtain ⟨t, h1, h2⟩ := ha.ex
  exact ⟨_, pe_call F hr hg hm hk hb .nil pass0 h1 hdb he hpl, sm_call h2⟩
theorem qe_call0 (C : CalQ X.prog X.w X.K X.mg X.base W x k ps pf) (hr : Room k X.A) (hg : Gl X x) (hdb : (x == ("__debug__" : Str)) = false := by decide) : QE X W (.Call (.Name x p) [] [] pos) (pCall pf pNil) := by
  obtain ⟨f, fd, hm, hk, hb, F⟩ := C
  exact ⟨_, pe_call0 F hr hg hm hk hb .nil pass0 hdb, sm_call fun B F0 ρ σ F H Φ Q R hp k => k [] ρ [] F H R (Le.refl _) rfl hp⟩
end
/-! ### a def by its body -/
def startP (N : List Str) (ts : List T) : PS' := ts.map Sl.fz ++ List.replicate (N.length - ts.length) Sl.no
/-- a def of the top as the head leaves it -/
def Df (K : PySem.W.Frag) (mg : Str → Option Value) (x : Str) (st : Stmt) : Prop := ∃ f fd, FunD K x x (defArgs st) (defBody st) (defScope st) [] [] f fd ∧ mg x = some (.ref f)
open Classical in
theorem CalQ.mk {P : Program} {w : World} {K : PySem.W.Frag} {mg : Str → Option Value} {base : Heap} {W : Wld} {x : Str} {st : Stmt} {N ps : List Str} {k : Nat} {pf : PSp} (D : Df K mg x st) (S : FnScope N ps (defScope st))
    (hb : ∀ (kV doc pm : Value) (an : Option Addr) (cdv ct : Value) (us : List Value), us.length = ps.length → bindArgs (PySem.W.fnOf x x (defArgs st) (defBody st) (defScope st) .none kV doc pm an cdv ct) ⟨us, []⟩ = pure (ps.zip us))
    (hl : ∀ ts Φ, pf ts Φ → ts.length = ps.length)
    (hbody : ∀ (f : Addr) (cdv : Value) (A : Around) (outer : List Env) (s : Shared) (H : Hp) (E : XK), Room k (A.deeper (envOfC x (defScope st) s.heap.objs.size f cdv)) →
      ∃ p, QSs (cxOf CX0 P w K mg base N x (defScope st) f cdv A outer s H E) W (defBody st) p ∧ ∀ ts Φ, pf ts Φ → p { nx := fun _ => Φ .non false, rt := Φ } (startP N ts)) :
    CalQ P w K mg base W x (k + 1) ps pf := by
  obtain ⟨f, fd, F, g⟩ := D
  refine ⟨f, fd, g, F.kp, F.bindsN hb, ?_⟩
  refine F.ok S (fun vs H Q E h => ?_) (fun cdv A outer s H vs Q E hr h => ?_)
  · obtain ⟨ts, F, Ψ, _, _, _, h2, h3, _⟩ := h
    rw [h2.length]
    exact hl _ _ h3
  · obtain ⟨p, hQ, hp⟩ := hbody f cdv A outer s H E hr
    obtain ⟨t, h1, h2⟩ := hQ.ex
    refine ⟨t, h1, ?_⟩
    obtain ⟨ts, F, Ψ, q2, q3, q4, q5, q6, q7⟩ := h
    have lv := q5.length
    have R : Rep K W (fun a => if W.D a then none else H a) F (startP N ts) (L2.start N vs) F H := by
      refine ⟨q2, Le.refl _, fun a e => .inl e, fun a o e => ?_, q3, q4, fun a e => if_pos e, ?_, fun i t e => ?_, fun i l e => ?_, fun i j l m e => ?_⟩
      · have e : (if W.D a then none else H a) = some o := e
        split at e
        · cases e
        · exact e
      · unfold startP L2.start
        rw [List.length_append, List.length_append, List.length_map, List.length_map, List.length_replicate, List.length_replicate, lv]
      · unfold startP at e
        unfold L2.start
        by_cases hi : i < ts.length
        · rw [List.getElem?_append_left (by simpa using hi), List.getElem?_map, List.getElem?_eq_getElem hi] at e
          have e2 : ts[i] = t := Sl.fz.inj (Option.some.inj e)
          obtain ⟨v, e3, e4⟩ := q5.get (List.getElem?_eq_getElem hi)
          refine ⟨v, ?_, e2 ▸ e4⟩
          rw [List.getElem?_append_left (by rw [List.length_map]; omega), List.getElem?_map, e3]
          rfl
        · rw [List.getElem?_append_right (by simpa using hi), List.getElem?_replicate] at e
          split at e <;> cases e
      · unfold startP at e
        by_cases hi : i < ts.length
        · rw [List.getElem?_append_left (by simpa using hi), List.getElem?_map, List.getElem?_eq_getElem hi] at e
          cases e
        · rw [List.getElem?_append_right (by simpa using hi), List.getElem?_replicate] at e
          split at e <;> cases e
      · unfold startP at e
        by_cases hi : i < ts.length
        · rw [List.getElem?_append_left (by simpa using hi), List.getElem?_map, List.getElem?_eq_getElem hi] at e
          cases e
        · rw [List.getElem?_append_right (by simpa using hi), List.getElem?_replicate] at e
          split at e <;> cases e
    have fin : ∀ {τ : T} {f : Bool} {v : V} {ρ : PS'} {σ : L2.St} {F' H' : Hp}, Rep K W (fun a => if W.D a then none else H a) F ρ σ F' H' → VR K W (fun a => if W.D a then none else H a) ρ σ F' H' τ f v → Ψ τ f → Q v H' := fun {τ f v ρ σ F' H'} R' vr hΨ => by
      have bn : ∀ a, ¬ W.D a → (if W.D a then none else H a) = none → H a = none := fun a hd e => by rwa [if_neg hd] at e
      refine q7 τ f v F' H' hΨ ⟨R'.f0, R'.fh, fun a e => ?_, fun a o e hd => R'.bh a o (by show (if W.D a then none else H a) = some o; rw [if_neg hd]; exact e), R'.ok⟩ ?_
      · rcases R'.fd a e with z | z
        · exact .inl z
        · exact .inr (bn a (fun hd => e (R'.wf a hd)) z)
      · cases f with
        | false => exact vr
        | true =>
          obtain ⟨l, a, xs, e1, e2, e3, e4, e5, e6, e7, _⟩ := vr
          exact ⟨l, a, xs, e1, e2, e3, e4, e5, bn a (fun hd => e7 (W.sub _ hd)) e6⟩
    exact h2 _ F (startP N ts) (start N vs) F H _ _ R (hp ts Ψ q6) ⟨fun ρ σ F' H' R' _ hΨ => fin R' VR.non hΨ, fun τ f v ρ σ F' H' R' _ vr hΨ => fin R' vr hΨ, fun _ _ _ _ _ _ h => h.elim, fun _ _ _ _ _ _ h => h.elim⟩
/-! ### built-ins -/
def rSC (X : Cx) (f : Value) : List V → Hp → VK → Prop := fun xs H Q => ∀ (pins : List (Addr × Obj)) (s : Shared) (σ : L2.St) (us : List Value), Inv X pins σ H s → Vals xs us → wpAny (model X.prog X.w) X.A (call f us) (EP X pins σ Q) X.xe s
theorem callS (X : Cx) (f : Value) : CallR X f (rSC X f) := fun pins s σ H xs us Q I r h => h pins s σ us I r
theorem rSC.of {X : Cx} {f : Value} {r : List V → Hp → VK → Prop} (o : CallR X f r) {xs : List V} {H : Hp} {Q : VK} (h : r xs H Q) : rSC X f xs H Q := fun pins s σ us I rs => o pins s σ H xs us Q I rs h
def CallQ (X : Cx) (W : Wld) (f : Value) (P : PSp) : Prop :=
  ∀ (B F0 : Hp) (ρ : PS') (σ : L2.St) (F H : Hp) (l : List T) (vs : List V) (Φ : T → Bool → Prop) (Q : VK), Rep X.K W B F0 ρ σ F H → TvL X.K F l vs → P l Φ →
    (∀ τ f w F' H', Rep X.K W B F0 ρ σ F' H' → Le F F' → VR X.K W B ρ σ F' H' τ f w → Φ τ f → Q w H') → rSC X f vs H Q
section
variable {X : Cx} {W : Wld} {e : Expr} {es : List Expr} {x : Str} {p pos : Pos} {P : PSp} {q : PA'} {id T' : String} {pa : PE'} {pr : PR'}
theorem sm_cb {f : Value} {t : TA} (hc : CallQ X W f P) (h2 : SmA X.K W t q) : SmE X.K W (tCB (rSC X f) t) (pCall P q) := fun B F0 ρ σ F H Φ Q R hp k => by
  refine h2 B F0 ρ σ F H _ _ R hp fun l ρ1 vs F1 H1 R1 le1 tv q1 => ?_
  exact hc B F0 ρ1 σ F1 H1 l vs _ Q R1 tv q1 fun τ f w F' H' R' le vr z => k τ f ρ1 w F' H' R' (le1.trans le) vr z
theorem qe_callB (hc : CallQ X W (.builtin id) P) (hg : Gl X x) (hm : X.mg x = none) (hv : bootBuiltins x = some (.builtin id)) (ha : QA X W (e :: es) q) (hn : x ≠ "__name__" := by decide) (hdb : (x == ("__debug__" : Str)) = false := by decide)
    (he : starEach (e :: es) X.env = (false, eval e X.env) :: starEach es X.env := by rfl) (hpl : (backTo pos (starEach es X.env)).any (·.1) = false := by rfl) : QE X W (.Call (.Name x p) (e :: es) [] pos) (pCall P q) := by
  obtain ⟨t, h1, h2⟩ := ha.ex
  exact ⟨_, pe_callB (callS X _) hg hm hv h1 hn hdb he hpl, sm_cb hc h2⟩
theorem qe_callTy (hc : CallQ X W (.type T') P) (hg : Gl X x) (hm : X.mg x = none) (hv : bootBuiltins x = some (.type T')) (ha : QA X W (e :: es) q) (hn : x ≠ "__name__" := by decide) (hdb : (x == ("__debug__" : Str)) = false := by decide)
    (he : starEach (e :: es) X.env = (false, eval e X.env) :: starEach es X.env := by rfl) (hpl : (backTo pos (starEach es X.env)).any (·.1) = false := by rfl) : QE X W (.Call (.Name x p) (e :: es) [] pos) (pCall P q) := by
  obtain ⟨t, h1, h2⟩ := ha.ex
  exact ⟨_, pe_callTy (callS X _) hg hm hv h1 hn hdb he hpl, sm_cb hc h2⟩
theorem tvl1 {K : PySem.W.Frag} {F : Hp} {t : T} {vs : List V} (h : TvL K F [t] vs) : ∃ v, vs = [v] ∧ Tv K F t v := by
  obtain ⟨v, r, rfl, h1, h2⟩ := h
  rw [show r = [] from h2]
  exact ⟨v, rfl, h1⟩
theorem tvl2 {K : PySem.W.Frag} {F : Hp} {t u : T} {vs : List V} (h : TvL K F [t, u] vs) : ∃ v w, vs = [v, w] ∧ Tv K F t v ∧ Tv K F u w := by
  obtain ⟨v, r, rfl, h1, h2⟩ := h
  obtain ⟨w, rfl, h3⟩ := tvl1 h2
  exact ⟨v, w, rfl, h1, h3⟩
/-- len, read only -/
def T.len : T → Option Nat
  | .lst l => some l.length
  | .tup l => some l.length
  | .str z => if z.length ≤ 16000000 then some z.length else none
  | _ => none
def pLen (pr : PR') : PE' := fun ρ Φ => pr ρ fun r ρ' => ∃ t n, r.look ρ' = some t ∧ t.len = some n ∧ Φ (.int (n : Nat)) false ρ'
theorem len_v {K : PySem.W.Frag} {F H : Hp} (le : Le F H) {t : T} {v : V} {n : Nat} (h : Rv K F H t v) (e : t.len = some n) : LenV K v H n := by
  have hs := sl16
  cases t with
  | str z =>
    rw [show v = .str z from h]
    have e : (if z.length ≤ 16000000 then some z.length else none) = some n := e
    split at e
    · exact ⟨by omega, (Option.some.inj e).symm⟩
    · cases e
  | tup l =>
    obtain ⟨a, xs, rfl, h1, h2⟩ := h
    exact .inr ⟨xs, sqt_le le h1, by rw [h2.length]; exact (Option.some.inj e).symm⟩
  | lst l =>
    obtain ⟨a, xs, rfl, h1, h2⟩ := h
    exact .inl ⟨xs, .of h1, by rw [h2.length]; exact (Option.some.inj e).symm⟩
  | _ => cases e
theorem qe_len (hg : Gl X "len") (hm : X.mg "len" = none) (h : QR X W e pr) (he : starEach [e] X.env = (false, eval e X.env) :: starEach [] X.env := by rfl) : QE X W (.Call (.Name "len" p) [e] [] pos) (pLen pr) := by
  obtain ⟨t, h1, h2⟩ := h.ex
  refine ⟨_, pe_callB call_len hg hm PySem.boot_len (pa_cons h1 pa_nil he) (by decide) (by decide) he, fun B F0 ρ σ F H Φ Q R hp k => ?_⟩
  refine h2 B F0 ρ σ F H _ _ R hp fun r ρ1 v F1 H1 R1 le1 rd q1 => ?_
  obtain ⟨u, n, e1, e2, q1⟩ := q1
  exact ⟨v, n, rfl, len_v R1.fh (R1.rv rd e1) e2, k _ false ρ1 _ F1 H1 R1 le1 VR.int q1⟩
/-- isinstance(x, a built-in type) -/
def tyN : T → String
  | .non => "NoneType"
  | .bl _ => "bool"
  | .int _ => "int"
  | .str _ => "str"
  | .tup _ => "tuple"
  | .lst _ => "list"
  | .adr _ => ""
def pIsi (pa : PE') (is : String → Bool) : PE' := fun ρ Φ => pa ρ fun t _ ρ' => (∀ a, t ≠ .adr a) ∧ Φ (.bl (is (tyN t))) false ρ'
theorem ty_v {K : PySem.W.Frag} {F H : Hp} (le : Le F H) {t : T} {v : V} (h : Tv K F t v) (n : ∀ a, t ≠ .adr a) : TyX K H v (.type (tyN t)) := by
  cases t with
  | non => rw [show v = .non from h]; exact .base .non
  | bl b => rw [show v = .bl b from h]; exact .base (.bl b)
  | int b => rw [show v = .int b from h]; exact .base (.int b)
  | str b => rw [show v = .str b from h]; exact .base (.str b)
  | adr b => exact absurd rfl (n b)
  | tup l =>
    obtain ⟨a, xs, rfl, h1, _⟩ := h
    rcases sqt_le le h1 with (h1 | ⟨o, h1⟩) | ⟨o, its, n, h1, h2, _⟩
    · exact .base (.tup h1)
    · exact .fTuple h1
    · exact .kTuple h1 h2
  | lst l =>
    obtain ⟨a, xs, rfl, h1, _⟩ := h
    exact .base (.lst (le _ _ h1))
theorem qe_isi {b : Expr} {is : String → Bool} (hg : Gl X "isinstance") (hm : X.mg "isinstance" = none) (ha : QE X W e pa) (hb : PE X b (tC (.ty T')))
    (hk : ∀ n ∈ ["NoneType", "bool", "int", "str", "tuple", "list"], PySem.W.kitOne X.K (.type n) (.type T') = some (is n))
    (he : starEach [e, b] X.env = (false, eval e X.env) :: starEach [b] X.env := by rfl) (hb2 : starEach [b] X.env = (false, eval b X.env) :: starEach [] X.env := by rfl) (hpl : (backTo pos (starEach [b] X.env)).any (·.1) = false := by rfl) :
    QE X W (.Call (.Name "isinstance" p) [e, b] [] pos) (pIsi pa is) := by
  obtain ⟨t, h1, h2⟩ := ha.ex
  refine ⟨_, pe_callB call_isi hg hm PyProof.Rows.boot_isinstance (pa_cons h1 (pa_cons hb pa_nil hb2) he) (by decide) (by decide) he hpl, fun B F0 ρ σ F H Φ Q R hp k => ?_⟩
  refine h2.fz R hp fun τ ρ1 v F1 H1 R1 le1 tv q1 => ?_
  obtain ⟨n, q1⟩ := q1
  refine ⟨v, .ty T', _, _, is (tyN τ), rfl, .ty T', ty_v R1.fh tv n, hk _ ?_, k _ false ρ1 _ F1 H1 R1 le1 VR.bl q1⟩
  cases τ <;> first | exact absurd rfl (n _) | (simp [tyN])
/-! the calls by values -/
theorem cq_abs : CallQ X W (.builtin "abs") (fun l Φ => ∃ i, l = [.int i] ∧ Φ (.int (if i < 0 then -i else i)) false) := by
  intro B F0 ρ σ F H l vs Φ Q R tv hp k
  obtain ⟨i, rfl, hp⟩ := hp
  obtain ⟨v, rfl, h1⟩ := tvl1 tv
  exact rSC.of call_abs ⟨i, by rw [show v = _ from h1], k _ false _ F H R (Le.refl _) VR.int hp⟩
theorem cq_max2 (hc : X.calm = true) : CallQ X W (.builtin "max") (fun l Φ => ∃ i j, l = [.int i, .int j] ∧ Φ (.int (if j > i then j else i)) false) := by
  intro B F0 ρ σ F H l vs Φ Q R tv hp k
  obtain ⟨i, j, rfl, hp⟩ := hp
  obtain ⟨v, w, rfl, h1, h2⟩ := tvl2 tv
  exact rSC.of (call_max2 hc) ⟨i, j, by rw [show v = _ from h1, show w = _ from h2], k _ false _ F H R (Le.refl _) VR.int hp⟩
theorem cq_min2 (hc : X.calm = true) : CallQ X W (.builtin "min") (fun l Φ => ∃ i j, l = [.int i, .int j] ∧ Φ (.int (if j < i then j else i)) false) := by
  intro B F0 ρ σ F H l vs Φ Q R tv hp k
  obtain ⟨i, j, rfl, hp⟩ := hp
  obtain ⟨v, w, rfl, h1, h2⟩ := tvl2 tv
  exact rSC.of (call_min2 hc) ⟨i, j, by rw [show v = _ from h1, show w = _ from h2], k _ false _ F H R (Le.refl _) VR.int hp⟩
theorem cq_int : CallQ X W (.type "int") (fun l Φ => (∃ i, l = [.int i] ∧ Φ (.int i) false) ∨ ∃ b, l = [.bl b] ∧ Φ (.int (if b then 1 else 0)) false) := by
  intro B F0 ρ σ F H l vs Φ Q R tv hp k
  rcases hp with ⟨i, rfl, hp⟩ | ⟨b, rfl, hp⟩
  · obtain ⟨v, rfl, h1⟩ := tvl1 tv
    exact rSC.of call_int1 (.inl ⟨i, by rw [show v = _ from h1], k _ false _ F H R (Le.refl _) VR.int hp⟩)
  · obtain ⟨v, rfl, h1⟩ := tvl1 tv
    exact rSC.of call_int1 (.inr ⟨b, by rw [show v = _ from h1], k _ false _ F H R (Le.refl _) VR.int hp⟩)
theorem cq_str : CallQ X W (.type "str") (fun l Φ => (∃ i : Int, l = [.int i] ∧ i.natAbs.log2 < 1920 ∧ Φ (.str (toString i)) false) ∨ ∃ b, l = [.str b] ∧ Φ (.str b) false) := by
  intro B F0 ρ σ F H l vs Φ Q R tv hp k
  rcases hp with ⟨i, rfl, hz, hp⟩ | ⟨b, rfl, hp⟩
  · obtain ⟨v, rfl, h1⟩ := tvl1 tv
    exact rSC.of call_str_int ⟨i, by rw [show v = _ from h1], hz, k _ false _ F H R (Le.refl _) VR.str hp⟩
  · obtain ⟨v, rfl, h1⟩ := tvl1 tv
    exact rSC.of SkE.call_str_str ⟨b, by rw [show v = _ from h1], k _ false _ F H R (Le.refl _) VR.str hp⟩
theorem cq_tuple : CallQ X W (.type "tuple") (fun l Φ => ∃ t m, l = [t] ∧ t.items = some m ∧ Φ (.tup m) false) := by
  intro B F0 ρ σ F H l vs Φ Q R tv hp k
  obtain ⟨t, m, rfl, e1, hp⟩ := hp
  obtain ⟨v, rfl, h1⟩ := tvl1 tv
  cases t <;> first | cases e1 | skip
  · obtain ⟨a, xs, rfl, h2, h3⟩ := h1
    exact rSC.of call_tuple_of ⟨a, xs, rfl, .inr ⟨sqt_le R.fh h2, k _ false _ F H R (Le.refl _) (VR.fz (t := .tup _) ⟨a, xs, rfl, h2, h3⟩) hp⟩⟩
  · obtain ⟨a, xs, rfl, h2, h3⟩ := h1
    refine rSC.of call_tuple_of ⟨a, xs, rfl, .inl ⟨.of (R.fh _ _ h2), fun z nz => ?_⟩⟩
    obtain ⟨F2, R2, le2, tv2⟩ := R.newT nz h3
    exact k _ false _ F2 _ R2 le2 (VR.fz tv2) hp
theorem cq_list : CallQ X W (.type "list") (fun l Φ => ∃ t m, l = [t] ∧ t.items = some m ∧ Φ (.lst m) true) := by
  intro B F0 ρ σ F H l vs Φ Q R tv hp k
  obtain ⟨t, m, rfl, e1, hp⟩ := hp
  obtain ⟨v, rfl, h1⟩ := tvl1 tv
  obtain ⟨a, xs, rfl, h2, h3⟩ := items_sq R.fh e1 h1
  refine rSC.of call_list_of ⟨a, xs, rfl, h2.symm, fun z nz => ?_⟩
  obtain ⟨R2, vr⟩ := R.newL nz h3
  exact k _ true _ F _ R2 (Le.refl _) vr hp
theorem cq_sum (hc : X.calm = true) : CallQ X W (.builtin "sum") (fun l Φ => ∃ ns : List Int, l = [.lst (ns.map T.int)] ∧ Φ (.int ns.sum) false) := by
  intro B F0 ρ σ F H l vs Φ Q R tv hp k
  obtain ⟨ns, rfl, hp⟩ := hp
  obtain ⟨v, rfl, a, xs, rfl, h2, h3⟩ := tvl1 tv
  rw [TvL.ints ns rfl h3] at h2
  exact rSC.of (cr_sum hc) ⟨a, ns, rfl, .of (R.fh _ _ h2), k _ false _ F H R (Le.refl _) VR.int hp⟩
theorem cq_max (hc : X.calm = true) : CallQ X W (.builtin "max") (fun l Φ => ∃ ns : List Int, l = [.lst (ns.map T.int)] ∧ 0 < ns.length ∧ ∀ m, m ∈ ns → (∀ y, y ∈ ns → y ≤ m) → Φ (.int m) false) := by
  intro B F0 ρ σ F H l vs Φ Q R tv hp k
  obtain ⟨ns, rfl, h0, hp⟩ := hp
  obtain ⟨v, rfl, a, xs, rfl, h2, h3⟩ := tvl1 tv
  rw [TvL.ints ns rfl h3] at h2
  exact rSC.of (cr_max hc) ⟨a, ns, rfl, .of (R.fh _ _ h2), h0, fun m h4 h5 => k _ false _ F H R (Le.refl _) VR.int (hp m h4 h5)⟩
theorem cq_min (hc : X.calm = true) : CallQ X W (.builtin "min") (fun l Φ => ∃ ns : List Int, l = [.lst (ns.map T.int)] ∧ 0 < ns.length ∧ ∀ m, m ∈ ns → (∀ y, y ∈ ns → m ≤ y) → Φ (.int m) false) := by
  intro B F0 ρ σ F H l vs Φ Q R tv hp k
  obtain ⟨ns, rfl, h0, hp⟩ := hp
  obtain ⟨v, rfl, a, xs, rfl, h2, h3⟩ := tvl1 tv
  rw [TvL.ints ns rfl h3] at h2
  exact rSC.of (cr_min hc) ⟨a, ns, rfl, .of (R.fh _ _ h2), h0, fun m h4 h5 => k _ false _ F H R (Le.refl _) VR.int (hp m h4 h5)⟩
theorem cq_sorted : CallQ X W (.builtin "sorted") (fun l Φ => (∃ ns : List Int, l = [.lst (ns.map T.int)] ∧ ns.length < 64 ∧ ∀ ns' : List Int, ns'.Perm ns → ns'.Pairwise (· ≤ ·) → Φ (.lst (ns'.map T.int)) true) ∨
    ∃ ns : List Str, l = [.lst (ns.map T.str)] ∧ ns.length < 64 ∧ ∀ ns' : List Str, ns'.Perm ns → sortedS ns' = true → Φ (.lst (ns'.map T.str)) true) := by
  intro B F0 ρ σ F H l vs Φ Q R tv hp k
  rcases hp with ⟨ns, rfl, h0, hp⟩ | ⟨ns, rfl, h0, hp⟩
  · obtain ⟨v, rfl, a, xs, rfl, h2, h3⟩ := tvl1 tv
    rw [TvL.ints ns rfl h3] at h2
    refine rSC.of cr_sorted ⟨a, ns, rfl, .of (R.fh _ _ h2), h0, fun ns' z h4 h5 nz => ?_⟩
    obtain ⟨R2, vr⟩ := R.newL nz (tvl_ints ns')
    exact k _ true _ F _ R2 (Le.refl _) vr (hp ns' h4 h5)
  · obtain ⟨v, rfl, a, xs, rfl, h2, h3⟩ := tvl1 tv
    rw [TvL.strs ns rfl h3] at h2
    refine rSC.of cr_sortedS ⟨a, ns, rfl, .of (R.fh _ _ h2), h0, fun ns' z h4 h5 nz => ?_⟩
    obtain ⟨R2, vr⟩ := R.newL nz (tvl_strs ns')
    exact k _ true _ F _ R2 (Le.refl _) vr (hp ns' h4 h5)
theorem cq_any (hc : X.calm = true) : CallQ X W (.builtin "any") (fun l Φ => ∃ bs : List Bool, l = [.lst (bs.map T.bl)] ∧ Φ (.bl (bs.any _root_.id)) false) := by
  intro B F0 ρ σ F H l vs Φ Q R tv hp k
  obtain ⟨ns, rfl, hp⟩ := hp
  obtain ⟨v, rfl, a, xs, rfl, h2, h3⟩ := tvl1 tv
  rw [TvL.bls ns rfl h3] at h2
  exact rSC.of (cr_any hc) ⟨a, ns, rfl, .of (R.fh _ _ h2), k _ false _ F H R (Le.refl _) VR.bl hp⟩
theorem cq_all (hc : X.calm = true) : CallQ X W (.builtin "all") (fun l Φ => ∃ bs : List Bool, l = [.lst (bs.map T.bl)] ∧ Φ (.bl (bs.all _root_.id)) false) := by
  intro B F0 ρ σ F H l vs Φ Q R tv hp k
  obtain ⟨ns, rfl, hp⟩ := hp
  obtain ⟨v, rfl, a, xs, rfl, h2, h3⟩ := tvl1 tv
  rw [TvL.bls ns rfl h3] at h2
  exact rSC.of (cr_all hc) ⟨a, ns, rfl, .of (R.fh _ _ h2), k _ false _ F H R (Le.refl _) VR.bl hp⟩
theorem cq_divmod : CallQ X W (.builtin "divmod") (fun l Φ => ∃ i j, l = [.int i, .int j] ∧ (CDiv i j ∨ CDivP i j) ∧ Φ (.tup [.int (i / j), .int (i % j)]) false) := by
  intro B F0 ρ σ F H l vs Φ Q R tv hp k
  obtain ⟨i, j, rfl, hc, hp⟩ := hp
  obtain ⟨v, w, rfl, h1, h2⟩ := tvl2 tv
  have fin : ∀ p, H p = none → Q (.ref p) (upd H p (.tup [.int (i / j), .int (i % j)])) := fun z nz => by
    obtain ⟨F2, R2, le2, tv2⟩ := R.newT (l := [.int (i / j), .int (i % j)]) nz ⟨_, _, rfl, rfl, _, _, rfl, rfl, rfl⟩
    exact k _ false _ F2 _ R2 le2 (VR.fz tv2) hp
  rw [show v = _ from h1, show w = _ from h2]
  rcases hc with hc | hc
  · exact rSC.of call_divmod ⟨i, j, rfl, hc, fin⟩
  · exact rSC.of call_divmodW ⟨i, j, rfl, hc, fin⟩
/-- list(range(..)) -/
def KLR1 (t : T) (Φ : T → Prop) : Prop := match t with
  | .int j => RgOk 0 j ∧ Φ (.lst (rngT 0 (j - 0).toNat))
  | _ => False
def pLRng1 (pa : PE') : PE' := fun ρ Φ => pa ρ fun t _ ρ' => KLR1 t fun u => Φ u true ρ'
theorem tvl_rng {K : PySem.W.Frag} {F : Hp} (a b : Int) : TvL K F (rngT a (b - a).toNat) (rgV a b) := by
  unfold rngT rgV
  generalize (List.range (b - a).toNat) = l
  induction l with
  | nil => rfl
  | cons i l ih => exact ⟨_, _, rfl, rfl, ih⟩
theorem qe_listRg1 {p2 p3 : Pos} (hc : X.calm = true) (hg : Gl X "list") (hm : X.mg "list" = none) (hg2 : Gl X "range") (hm2 : X.mg "range" = none) (h : QE X W e pa)
    (na : starEach [.Call (.Name "range" p2) [e] [] p3] X.env = (false, eval (.Call (.Name "range" p2) [e] [] p3) X.env) :: starEach [] X.env := by rfl) (na2 : starEach [e] X.env = (false, eval e X.env) :: starEach [] X.env := by rfl) :
    QE X W (.Call (.Name "list" p) [.Call (.Name "range" p2) [e] [] p3] [] pos) (pLRng1 pa) := by
  obtain ⟨t, h1, h2⟩ := h.ex
  refine ⟨_, pe_listRg hc hg hm (prg_1 hg2 hm2 h1 na2) na, fun B F0 ρ σ F H Φ Q R hp k => ?_⟩
  refine h2.fz R hp fun τ ρ1 v F1 H1 R1 le1 tv q1 => ?_
  unfold KLR1 at q1
  split at q1
  · refine ⟨_, tv, q1.1, fun z nz => ?_⟩
    obtain ⟨R2, vr⟩ := R1.newL nz (tvl_rng (K := X.K) (F := F1) 0 _)
    exact k _ true ρ1 _ F1 _ R2 le1 vr q1.2
  · exact q1.elim
def KLR2 (t u : T) (Φ : T → Prop) : Prop := match t, u with
  | .int i, .int j => RgOk i j ∧ Φ (.lst (rngT i (j - i).toNat))
  | _, _ => False
def pLRng2 (pa pb : PE') : PE' := fun ρ Φ => pa ρ fun t _ ρ1 => pb ρ1 fun u _ ρ2 => KLR2 t u fun v => Φ v true ρ2
theorem qe_listRg2 {e2 : Expr} {pb : PE'} {p2 p3 : Pos} (hc : X.calm = true) (hg : Gl X "list") (hm : X.mg "list" = none) (hg2 : Gl X "range") (hm2 : X.mg "range" = none) (h : QE X W e pa) (h' : QE X W e2 pb)
    (na : starEach [.Call (.Name "range" p2) [e, e2] [] p3] X.env = (false, eval (.Call (.Name "range" p2) [e, e2] [] p3) X.env) :: starEach [] X.env := by rfl) (na2 : starEach [e, e2] X.env = (false, eval e X.env) :: starEach [e2] X.env := by rfl)
    (nb : starEach [e2] X.env = (false, eval e2 X.env) :: starEach [] X.env := by rfl) (hp' : (backTo p3 (starEach [e2] X.env)).any (·.1) = false := by rfl) : QE X W (.Call (.Name "list" p) [.Call (.Name "range" p2) [e, e2] [] p3] [] pos) (pLRng2 pa pb) := by
  obtain ⟨t, h1, h2⟩ := h.ex
  obtain ⟨u, h3, h4⟩ := h'.ex
  refine ⟨_, pe_listRg hc hg hm (prg_2 hg2 hm2 h1 h3 na2 nb hp') na, fun B F0 ρ σ F H Φ Q R hp k => ?_⟩
  refine h2.fz R hp fun τ ρ1 v F1 H1 R1 le1 tv q1 => ?_
  refine h4.fz R1 q1 fun τ2 ρ2 w F2 H2 R2 le2 tv2 q2 => ?_
  unfold KLR2 at q2
  split at q2
  · refine ⟨_, _, tv, tv2, q2.1, fun z nz => ?_⟩
    obtain ⟨R3, vr⟩ := R2.newL nz (tvl_rng (K := X.K) (F := F2) _ _)
    exact k _ true ρ2 _ F2 _ R3 (le1.trans le2) vr q2.2
  · exact q2.elim
end
/-! ### methods -/
def rSM (X : Cx) (id : String) : V → List V → Hp → VK → Prop := fun x xs H Q => ∀ (pins : List (Addr × Obj)) (s : Shared) (σ : L2.St) (v : Value) (us : List Value), Inv X pins σ H s → RelV x v → Vals xs us → wpAny (model X.prog X.w) X.A (call (.builtin id) (v :: us)) (EP X pins σ Q) X.xe s
theorem mtS (X : Cx) (id : String) : MtR X id (rSM X id) := fun pins s σ H x xs v us Q I r rs h => h pins s σ v us I r rs
theorem rSM.of {X : Cx} {id : String} {r : V → List V → Hp → VK → Prop} (o : MtR X id r) {x : V} {xs : List V} {H : Hp} {Q : VK} (h : r x xs H Q) : rSM X id x xs H Q := fun pins s σ v us I rx rs => o pins s σ H x xs v us Q I rx rs h
/-- a method of a text or a list that changes nothing -/
def MetQ (X : Cx) (W : Wld) (id : String) (P : T → List T → (T → Bool → Prop) → Prop) : Prop :=
  ∀ (B F0 : Hp) (ρ : PS') (σ : L2.St) (F H : Hp) (t : T) (x : V) (l : List T) (vs : List V) (Φ : T → Bool → Prop) (Q : VK), Rep X.K W B F0 ρ σ F H → Rv X.K F H t x → TvL X.K F l vs → P t l Φ →
    (∀ τ f w F' H', Rep X.K W B F0 ρ σ F' H' → Le F F' → VR X.K W B ρ σ F' H' τ f w → Φ τ f → Q w H') → rSM X id x vs H Q
def tyOk (ty : String) : T → Prop
  | .str _ => ty = "str"
  | .lst _ => ty = "list"
  | _ => False
theorem tyV_v {K : PySem.W.Frag} {F H : Hp} {t : T} {x : V} {ty : String} (h : Rv K F H t x) (e : tyOk ty t) : tyV K ty x H := by
  cases t with
  | str z => rw [show x = .str z from h]; exact e
  | lst l =>
    obtain ⟨a, xs, rfl, h1, _⟩ := h
    exact .inl ⟨e, xs, .of h1⟩
  | _ => exact e.elim
section
variable {X : Cx} {W : Wld} {o e : Expr} {es : List Expr} {name x : Str} {apos cpos pos : Pos} {ty id : String} {pr : PR'} {q : PA'} {P : T → List T → (T → Bool → Prop) → Prop} {i : Nat}
def pMet (ty : String) (P : T → List T → (T → Bool → Prop) → Prop) (pr : PR') (q : PA') : PE' := fun ρ Φ => pr ρ fun r ρ1 => (∃ t, r.look ρ1 = some t ∧ tyOk ty t) ∧ q ρ1 fun l ρ2 => ∃ t, r.look ρ2 = some t ∧ P t l fun τ f => Φ τ f ρ2
theorem sm_met {to : TE} {t : TA} (hm : MetQ X W id P) (h1 : SmR X.K W to pr) (h2 : SmA X.K W t q) : SmE X.K W (tBM X.K ty (rSM X id) to t) (pMet ty P pr q) := fun B F0 ρ σ F H Φ Q R hp k => by
  refine h1 B F0 ρ σ F H _ _ R hp fun r ρ1 v F1 H1 R1 le1 rd q1 => ?_
  obtain ⟨⟨t, e1, e2⟩, q1⟩ := q1
  refine ⟨tyV_v (R1.rv rd e1) e2, ?_⟩
  refine h2 B F0 ρ1 σ F1 H1 _ _ R1 q1 fun l ρ2 vs F2 H2 R2 le2 tv q2 => ?_
  obtain ⟨u, e3, q2⟩ := q2
  exact hm B F0 ρ2 σ F2 H2 u v l vs _ Q R2 (R2.rv (rd.le le2) e3) tv q2 fun τ f w F' H' R' le vr z => k τ f ρ2 w F' H' R' (le1.trans (le2.trans le)) vr z
theorem qe_met (pa : PlainAttrs ty) (slot : Slot ty name id) (hty : typeOf (.builtin id) = pure (.type "method_descriptor")) (hm : MetQ X W id P) (ho : QR X W o pr) (ha : QA X W (e :: es) q)
    (hbase : attributeBase o name X.env (eval o X.env) = eval o X.env := by rfl)
    (hfew : ((backTo cpos (starEach (e :: es) X.env)).all (fun x => !x.1) && (backToKw cpos (keywordEach [] X.env)).all (fun x => x.1.isSome)
      && decide ((e :: es).length + ([] : List Keyword).length + (if ([] : List Keyword).isEmpty then 0 else 1) < 30)) = true := by rfl)
    (hline : (apos.endLine == cpos.line) = true := by rfl) (hs : starEach (e :: es) X.env = (false, eval e X.env) :: starEach es X.env := by rfl) (hplain : (backTo cpos (starEach es X.env)).any (·.1) = false := by rfl) :
    QE X W (.Call (.Attribute o name apos) (e :: es) [] cpos) (pMet ty P pr q) := by
  obtain ⟨t, h1, h2⟩ := ho.ex
  obtain ⟨u, h3, h4⟩ := ha.ex
  exact ⟨_, pe_bm pa slot hty (mtS X id) h1 h3 hbase hfew hline hs hplain, sm_met hm h2 h4⟩
def pMet0 (ty : String) (P : T → List T → (T → Bool → Prop) → Prop) (pr : PR') : PE' := fun ρ Φ => pr ρ fun r ρ1 => ∃ t, r.look ρ1 = some t ∧ tyOk ty t ∧ P t [] fun τ f => Φ τ f ρ1
theorem qe_met0 (pa : PlainAttrs ty) (slot : Slot ty name id) (hty : typeOf (.builtin id) = pure (.type "method_descriptor")) (hm : MetQ X W id P) (ho : QR X W o pr)
    (hbase : attributeBase o name X.env (eval o X.env) = eval o X.env := by rfl) (hline : (apos.endLine == cpos.line) = true := by rfl) : QE X W (.Call (.Attribute o name apos) [] [] cpos) (pMet0 ty P pr) := by
  obtain ⟨t, h1, h2⟩ := ho.ex
  refine ⟨_, pe_bm0 pa slot hty (mtS X id) h1 hbase hline, fun B F0 ρ σ F H Φ Q R hp k => ?_⟩
  refine h2 B F0 ρ σ F H _ _ R hp fun r ρ1 v F1 H1 R1 le1 rd q1 => ?_
  obtain ⟨t, e1, e2, q1⟩ := q1
  exact ⟨tyV_v (R1.rv rd e1) e2, hm B F0 ρ1 σ F1 H1 t v [] [] _ Q R1 (R1.rv rd e1) rfl q1 fun τ f w F' H' R' le vr z => k τ f ρ1 w F' H' R' (le1.trans le) vr z⟩
/-! changing a slot's own list -/
def MutQ (X : Cx) (W : Wld) (id : String) (P : List T → List T → (T → List T → Prop) → Prop) : Prop :=
  ∀ (B F0 : Hp) (ρ : PS') (σ : L2.St) (F H : Hp) (i : Nat) (m : List T) (a : Addr) (l : List T) (vs : List V) (Φ : T → List T → Prop) (Q : VK), Rep X.K W B F0 ρ σ F H → ρ[i]? = some (Sl.ow m) → σ[i]? = some (some (V.ref a)) → TvL X.K F l vs → P m l Φ →
    (∀ τ w m' H', Rep X.K W B F0 (ρ.set i (Sl.ow m')) σ F H' → Tv X.K F τ w → Φ τ m' → Q w H') → rSM X id (.ref a) vs H Q
def pMut (i : Nat) (P : List T → List T → (T → List T → Prop) → Prop) (q : PA') : PE' := fun ρ Φ => (∃ m, ρ[i]? = some (Sl.ow m)) ∧ q ρ fun l ρ1 => ∃ m, ρ1[i]? = some (Sl.ow m) ∧ P m l fun τ m' => Φ τ false (ρ1.set i (Sl.ow m'))
variable {Pm : List T → List T → (T → List T → Prop) → Prop}
theorem sm_mut {t : TA} (hm : MutQ X W id Pm) (h2 : SmA X.K W t q) : SmE X.K W (tBM X.K "list" (rSM X id) (tVar i) t) (pMut i Pm q) := fun B F0 ρ σ F H Φ Q R hp k => by
  obtain ⟨⟨m, e1⟩, hp⟩ := hp
  obtain ⟨a, xs, e2, e3, _⟩ := R.ow i m e1
  refine ⟨_, e2, .inl ⟨rfl, xs, .of e3⟩, ?_⟩
  refine h2 B F0 ρ σ F H _ _ R hp fun l ρ1 vs F1 H1 R1 le1 tv q1 => ?_
  obtain ⟨m1, e4, q1⟩ := q1
  exact hm B F0 ρ1 σ F1 H1 i m1 a l vs _ Q R1 e4 e2 tv q1 fun τ w m' H' R' tw z => k τ false _ w F1 H' R' le1 (VR.fz tw) z
theorem qe_mut (slot : Slot "list" name id) (hty : typeOf (.builtin id) = pure (.type "method_descriptor")) (hm : MutQ X W id Pm) (ho : PE X (.Name x pos) (tVar i)) (ha : QA X W (e :: es) q)
    (hbase : attributeBase (.Name x pos) name X.env (eval (.Name x pos) X.env) = eval (.Name x pos) X.env := by rfl)
    (hfew : ((backTo cpos (starEach (e :: es) X.env)).all (fun x => !x.1) && (backToKw cpos (keywordEach [] X.env)).all (fun x => x.1.isSome)
      && decide ((e :: es).length + ([] : List Keyword).length + (if ([] : List Keyword).isEmpty then 0 else 1) < 30)) = true := by rfl)
    (hline : (apos.endLine == cpos.line) = true := by rfl) (hs : starEach (e :: es) X.env = (false, eval e X.env) :: starEach es X.env := by rfl) (hplain : (backTo cpos (starEach es X.env)).any (·.1) = false := by rfl) :
    QE X W (.Call (.Attribute (.Name x pos) name apos) (e :: es) [] cpos) (pMut i Pm q) := by
  obtain ⟨u, h3, h4⟩ := ha.ex
  exact ⟨_, pe_bm PySem.F.plainAttrs_list slot hty (mtS X id) ho h3 hbase hfew hline hs hplain, sm_mut hm h4⟩
theorem qe_mut0 (slot : Slot "list" name id) (hty : typeOf (.builtin id) = pure (.type "method_descriptor")) (hm : MutQ X W id Pm) (ho : PE X (.Name x pos) (tVar i))
    (hbase : attributeBase (.Name x pos) name X.env (eval (.Name x pos) X.env) = eval (.Name x pos) X.env := by rfl) (hline : (apos.endLine == cpos.line) = true := by rfl) : QE X W (.Call (.Attribute (.Name x pos) name apos) [] [] cpos) (pMut i Pm pNil) := by
  refine ⟨_, pe_bm0 PySem.F.plainAttrs_list slot hty (mtS X id) ho hbase hline, fun B F0 ρ σ F H Φ Q R hp k => ?_⟩
  obtain ⟨⟨m, e1⟩, hp⟩ := hp
  obtain ⟨a, xs, e2, e3, _⟩ := R.ow i m e1
  refine ⟨_, e2, .inl ⟨rfl, xs, .of e3⟩, ?_⟩
  obtain ⟨m1, e4, q1⟩ := hp
  exact hm B F0 ρ σ F H i m1 a [] [] _ Q R e4 e2 rfl q1 fun τ w m' H' R' tw z => k τ false _ w F H' R' (Le.refl _) (VR.fz tw) z
theorem own_at {K : PySem.W.Frag} {B F0 F H : Hp} {ρ : PS'} {σ : L2.St} (R : Rep K W B F0 ρ σ F H) {i : Nat} {m : List T} {a : Addr} (e : ρ[i]? = some (Sl.ow m)) (e' : σ[i]? = some (some (V.ref a))) : ∃ xs, H a = some (.lst xs) ∧ TvL K F m xs := by
  obtain ⟨b, xs, e1, e2, e3, _⟩ := R.ow i m e
  rw [e'] at e1
  cases e1
  exact ⟨xs, e2, e3⟩
theorem mq_append : MutQ X W "list.append" (fun m l Φ => ∃ t, l = [t] ∧ m.length < 16000000 ∧ Φ .non (m ++ [t])) := by
  intro B F0 ρ σ F H i m a l vs Φ Q R e1 e2 tv hp k
  obtain ⟨t, rfl, hl, hp⟩ := hp
  obtain ⟨v, rfl, h1⟩ := tvl1 tv
  obtain ⟨xs, h2, h3⟩ := own_at R e1 e2
  have := h3.length
  have := sl16
  exact rSM.of mt_append ⟨a, xs, v, rfl, rfl, h2, by omega, k .non _ _ _ (R.mut e1 e2 (TvL.app h3 (TvL.one h1))) rfl hp⟩
theorem mq_extend : MutQ X W "list.extend" (fun m l Φ => ∃ ts, l = [.lst ts] ∧ m.length + ts.length ≤ 16000000 ∧ Φ .non (m ++ ts)) := by
  intro B F0 ρ σ F H i m a l vs Φ Q R e1 e2 tv hp k
  obtain ⟨ts, rfl, hl, hp⟩ := hp
  obtain ⟨v, rfl, b, ys, rfl, h4, h5⟩ := tvl1 tv
  obtain ⟨xs, h2, h3⟩ := own_at R e1 e2
  have := h3.length
  have := h5.length
  have := sl16
  exact rSM.of mt_extend ⟨a, b, xs, ys, rfl, rfl, h2, R.fh _ _ h4, by omega, k .non _ _ _ (R.mut e1 e2 (TvL.app h3 h5)) rfl hp⟩
theorem mq_pop : MutQ X W "list.pop" (fun m l Φ => (∃ t, l = [] ∧ m[m.length - 1]? = some t ∧ Φ t m.dropLast) ∨ ∃ (j : Int) (k : Nat) (t : T), l = [.int j] ∧ j = (k : Int) ∧ k < 16000000 ∧ m[k]? = some t ∧ Φ t (m.eraseIdx k)) := by
  intro B F0 ρ σ F H i m a l vs Φ Q R e1 e2 tv hp k
  obtain ⟨xs, h2, h3⟩ := own_at R e1 e2
  have ln := h3.length
  rcases hp with ⟨t, rfl, ht, hp⟩ | ⟨j, kk, t, rfl, rfl, hk, ht, hp⟩
  · obtain ⟨v, h4, h5⟩ := h3.get ht
    rw [show vs = [] from tv]
    have e : xs.dropLast = xs.take (xs.length - 1) := List.dropLast_eq_take
    have e' : m.dropLast = m.take (m.length - 1) := List.dropLast_eq_take
    refine rSM.of mt_pop ⟨a, xs, v, rfl, rfl, h2, by rw [ln]; exact h4, k _ _ _ _ (R.mut e1 e2 ?_) h5 hp⟩
    rw [e, e', ln]
    exact h3.take _
  · obtain ⟨v, rfl, h1⟩ := tvl1 tv
    obtain ⟨w, h4, h5⟩ := h3.get ht
    have hlt := (List.getElem?_eq_some_iff.mp h4).1
    refine rSM.of mt_popAt ⟨a, xs, kk, kk, w, rfl, by rw [show v = _ from h1], h2, by omega, by omega, ?_, h4, k _ _ _ _ (R.mut e1 e2 (h3.eraseIdx kk)) h5 hp⟩
    rw [PySem.seqIndex_of (by omega) (by omega), Int.toNat_natCast]
/-! texts -/
theorem me_join : MetQ X W "str.join" (fun t l Φ => ∃ (a : Str) (ys : List Str), t = .str a ∧ (l = [.lst (ys.map T.str)] ∨ l = [.tup (ys.map T.str)]) ∧ (ys.map (·.length)).sum + ys.length * a.length ≤ 16777216 ∧ Φ (.str (Txt.join a ys)) false) := by
  intro B F0 ρ σ F H t x l vs Φ Q R rx tv hp k
  obtain ⟨a, ys, rfl, hl, hz, hp⟩ := hp
  rw [show x = .str a from rx]
  have fin := k _ false _ F H R (Le.refl _) VR.str hp
  rcases hl with rfl | rfl
  · obtain ⟨v, rfl, b, xs, rfl, h2, h3⟩ := tvl1 tv
    rw [TvL.strs ys rfl h3] at h2
    exact rSM.of mt_join ⟨a, b, ys, rfl, rfl, .inl (.of (R.fh _ _ h2)), hz, fin⟩
  · obtain ⟨v, rfl, b, xs, rfl, h2, h3⟩ := tvl1 tv
    rw [TvL.strs ys rfl h3] at h2
    exact rSM.of mt_join ⟨a, b, ys, rfl, rfl, .inr (sqt_le R.fh h2), hz, fin⟩
theorem me_isalnum : MetQ X W "str.isalnum" (fun t l Φ => ∃ a : Str, t = .str a ∧ l = [] ∧ Φ (.bl (Txt.isalnum a)) false) := by
  intro B F0 ρ σ F H t x l vs Φ Q R rx tv hp k
  obtain ⟨a, rfl, rfl, hp⟩ := hp
  rw [show x = .str a from rx, show vs = [] from tv]
  exact rSM.of mt_isalnum ⟨a, rfl, rfl, trivial, k _ false _ F H R (Le.refl _) VR.bl hp⟩
theorem me_count : MetQ X W "str.count" (fun t l Φ => ∃ a b : Str, t = .str a ∧ l = [.str b] ∧ Φ (.int (Txt.count a b)) false) := by
  intro B F0 ρ σ F H t x l vs Φ Q R rx tv hp k
  obtain ⟨a, b, rfl, rfl, hp⟩ := hp
  obtain ⟨v, rfl, h1⟩ := tvl1 tv
  rw [show x = .str a from rx, show v = .str b from h1]
  exact rSM.of mt_count ⟨a, b, rfl, rfl, k _ false _ F H R (Le.refl _) VR.int hp⟩
theorem me_index (hu : X.A.units + 65 < cLine) : MetQ X W "list.index" (fun t l Φ => ∃ (ts : List T) (y z : T) (j : Nat), t = .lst ts ∧ l = [y] ∧ T.cmp (.lst ts) = true ∧ y.cmp = true ∧ ts[j]? = some z ∧ T.eqv z y = true ∧ (∀ (m : Nat) z', m < j → ts[m]? = some z' → T.eqv z' y = false) ∧ Φ (.int (j : Nat)) false) := by
  intro B F0 ρ σ F H t x l vs Φ Q R rx tv hp k
  obtain ⟨ts, y, z, j, rfl, rfl, c1, c2, h1, h2, h3, hp⟩ := hp
  obtain ⟨v, rfl, h4⟩ := tvl1 tv
  obtain ⟨a, xs, rfl, h5, h6⟩ := rx
  obtain ⟨n1, s1⟩ := cmp_parts c1
  obtain ⟨n2, s2⟩ := cmp_parts c2
  have gp : ∀ (ts : List T) (m : Nat), (T.pdL ts)[m]? = ts[m]?.map T.pd := fun ts => by
    induction ts with
    | nil => intro m; rfl
    | cons t ts ih =>
      intro m
      cases m with
      | zero => rfl
      | succ m => exact ih m
  refine rSM.of (mt_indexD hu) ⟨a, v, _, T.pdL ts, j, T.pd z, rfl, rfl, .lst (.of h5) (TvL.dp ts xs n1 (TvL.le R.fh _ _ h6)), Tv.dp y v n2 (Tv.le R.fh _ _ h4), s1, s2, ?_, h2, fun m z' hm hz => ?_, k _ false _ F H R (Le.refl _) VR.int hp⟩
  · rw [gp, h1]
    rfl
  · rw [gp] at hz
    cases w : ts[m]? with
    | none => rw [w] at hz; cases hz
    | some u =>
      rw [w] at hz
      obtain rfl := Option.some.inj hz
      exact h3 m u hm w
end
end Y

namespace Y
open PySem PySem.Spec PyProof.Rows L2 RT RZ
/-! ### words of the reading, for simp -/
section
variable {i j : Int} {a b : Str} {c e : Bool} {l m : List T} {t u : T}
theorem eq_ii : T.eqv (.int i) (.int j) = decide (i = j) := by
  show (i == j) = _
  rw [Bool.eq_iff_iff]; simp
theorem eq_ss : T.eqv (.str a) (.str b) = decide (a = b) := by
  show (a == b) = _
  rw [Bool.eq_iff_iff]; simp
theorem eq_nn : T.eqv .non .non = true := rfl
theorem eq_bb : T.eqv (.bl c) (.bl e) = (c == e) := rfl
theorem eq_st : T.eqv (.str a) (.tup l) = false := rfl
theorem eq_ts : T.eqv (.tup l) (.str a) = false := rfl
theorem eq_si : T.eqv (.str a) (.int i) = false := rfl
theorem eq_is : T.eqv (.int i) (.str a) = false := rfl
theorem eq_it : T.eqv (.int i) (.tup l) = false := rfl
theorem eq_ti : T.eqv (.tup l) (.int i) = false := rfl
theorem cmp_i : T.cmp (.int i) = true := rfl
theorem sc_i : T.sc (.int i) (.int j) = true := rfl
theorem sc_s : T.sc (.str a) (.str b) = true := rfl
theorem sc_b : T.sc (.bl c) (.bl e) = true := rfl
theorem sc_n : T.sc .non .non = true := rfl
theorem cmp_b : T.cmp (.bl c) = true := rfl
theorem cmp_n : T.cmp .non = true := rfl
theorem flat_i : T.flat (.int i) = true := rfl
theorem flat_s : T.flat (.str a) = true := rfl
theorem flat_b : T.flat (.bl c) = true := rfl
theorem flat_n : T.flat .non = true := rfl
theorem tru_n : T.tru .non = some false := rfl
theorem tru_b : T.tru (.bl c) = some c := rfl
theorem tru_i : T.tru (.int i) = some (i != 0) := rfl
theorem tru_t : T.tru (.tup l) = some (!l.isEmpty) := rfl
theorem tru_l : T.tru (.lst l) = some (!l.isEmpty) := rfl
theorem items_t : T.items (.tup l) = some l := rfl
theorem items_l : T.items (.lst l) = some l := rfl
theorem len_t : T.len (.tup l) = some l.length := rfl
theorem len_l : T.len (.lst l) = some l.length := rfl
theorem iter_t : T.iter (.tup l) = some l := rfl
theorem iter_l : T.iter (.lst l) = some l := rfl
theorem isN_n : T.isN .non = true := rfl
theorem isN_i : T.isN (.int i) = false := rfl
theorem isN_s : T.isN (.str a) = false := rfl
theorem isN_t : T.isN (.tup l) = false := rfl
theorem isN_l : T.isN (.lst l) = false := rfl
theorem isN_b : T.isN (.bl c) = false := rfl
theorem at_0 : atI (t :: l) 0 = some t := atI_nat (j := 0) rfl
theorem at_1 : atI (t :: u :: l) 1 = some u := atI_nat (j := 1) rfl
theorem at_2 {v : T} : atI (t :: u :: v :: l) 2 = some v := atI_nat (j := 2) rfl
theorem at_3 {v w : T} : atI (t :: u :: v :: w :: l) 3 = some w := atI_nat (j := 3) rfl
theorem _root_.L2.Room.units65 {k : Nat} {A : Around} (r : Room k A) : A.units + 65 < cLine := by have := r.un; omega
section
variable {a0 a1 a2 a3 a4 a5 a6 a7 a8 a9 a10 a11 a12 a13 : Sl} {r : PS'} {ΦE : T → Bool → PS' → Prop} {ΦR : Rdr → PS' → Prop} {Δ : PEnds}
theorem pV_f0 : pV 0 (Sl.fz t :: r) ΦE = ΦE t false (Sl.fz t :: r) := rfl
theorem pV_o0 : pV 0 (Sl.ow l :: r) ΦE = ΦE (.lst l) false (Sl.fz (.lst l) :: r) := rfl
theorem pRV_f0 : pRV 0 (Sl.fz t :: r) ΦR = ΦR (.fz t) (Sl.fz t :: r) := rfl
theorem pRV_o0 : pRV 0 (Sl.ow l :: r) ΦR = ΦR (.sl 0) (Sl.ow l :: r) := rfl
theorem lk_f0 : Rdr.look (.sl 0) (Sl.fz t :: r) = some t := rfl
theorem lk_o0 : Rdr.look (.sl 0) (Sl.ow l :: r) = some (.lst l) := rfl
theorem sRV_f0 : sRetV 0 Δ (Sl.fz t :: r) = Δ.rt t false := rfl
theorem sRV_o0 : sRetV 0 Δ (Sl.ow l :: r) = Δ.rt (.lst l) true := rfl
theorem pV_f1 : pV 1 (a0 :: Sl.fz t :: r) ΦE = ΦE t false (a0 :: Sl.fz t :: r) := rfl
theorem pV_o1 : pV 1 (a0 :: Sl.ow l :: r) ΦE = ΦE (.lst l) false (a0 :: Sl.fz (.lst l) :: r) := rfl
theorem pRV_f1 : pRV 1 (a0 :: Sl.fz t :: r) ΦR = ΦR (.fz t) (a0 :: Sl.fz t :: r) := rfl
theorem pRV_o1 : pRV 1 (a0 :: Sl.ow l :: r) ΦR = ΦR (.sl 1) (a0 :: Sl.ow l :: r) := rfl
theorem lk_f1 : Rdr.look (.sl 1) (a0 :: Sl.fz t :: r) = some t := rfl
theorem lk_o1 : Rdr.look (.sl 1) (a0 :: Sl.ow l :: r) = some (.lst l) := rfl
theorem sRV_f1 : sRetV 1 Δ (a0 :: Sl.fz t :: r) = Δ.rt t false := rfl
theorem sRV_o1 : sRetV 1 Δ (a0 :: Sl.ow l :: r) = Δ.rt (.lst l) true := rfl
theorem pV_f2 : pV 2 (a0 :: a1 :: Sl.fz t :: r) ΦE = ΦE t false (a0 :: a1 :: Sl.fz t :: r) := rfl
theorem pV_o2 : pV 2 (a0 :: a1 :: Sl.ow l :: r) ΦE = ΦE (.lst l) false (a0 :: a1 :: Sl.fz (.lst l) :: r) := rfl
theorem pRV_f2 : pRV 2 (a0 :: a1 :: Sl.fz t :: r) ΦR = ΦR (.fz t) (a0 :: a1 :: Sl.fz t :: r) := rfl
theorem pRV_o2 : pRV 2 (a0 :: a1 :: Sl.ow l :: r) ΦR = ΦR (.sl 2) (a0 :: a1 :: Sl.ow l :: r) := rfl
theorem lk_f2 : Rdr.look (.sl 2) (a0 :: a1 :: Sl.fz t :: r) = some t := rfl
theorem lk_o2 : Rdr.look (.sl 2) (a0 :: a1 :: Sl.ow l :: r) = some (.lst l) := rfl
theorem sRV_f2 : sRetV 2 Δ (a0 :: a1 :: Sl.fz t :: r) = Δ.rt t false := rfl
theorem sRV_o2 : sRetV 2 Δ (a0 :: a1 :: Sl.ow l :: r) = Δ.rt (.lst l) true := rfl
theorem pV_f3 : pV 3 (a0 :: a1 :: a2 :: Sl.fz t :: r) ΦE = ΦE t false (a0 :: a1 :: a2 :: Sl.fz t :: r) := rfl
theorem pV_o3 : pV 3 (a0 :: a1 :: a2 :: Sl.ow l :: r) ΦE = ΦE (.lst l) false (a0 :: a1 :: a2 :: Sl.fz (.lst l) :: r) := rfl
theorem pRV_f3 : pRV 3 (a0 :: a1 :: a2 :: Sl.fz t :: r) ΦR = ΦR (.fz t) (a0 :: a1 :: a2 :: Sl.fz t :: r) := rfl
theorem pRV_o3 : pRV 3 (a0 :: a1 :: a2 :: Sl.ow l :: r) ΦR = ΦR (.sl 3) (a0 :: a1 :: a2 :: Sl.ow l :: r) := rfl
theorem lk_f3 : Rdr.look (.sl 3) (a0 :: a1 :: a2 :: Sl.fz t :: r) = some t := rfl
theorem lk_o3 : Rdr.look (.sl 3) (a0 :: a1 :: a2 :: Sl.ow l :: r) = some (.lst l) := rfl
theorem sRV_f3 : sRetV 3 Δ (a0 :: a1 :: a2 :: Sl.fz t :: r) = Δ.rt t false := rfl
theorem sRV_o3 : sRetV 3 Δ (a0 :: a1 :: a2 :: Sl.ow l :: r) = Δ.rt (.lst l) true := rfl
theorem pV_f4 : pV 4 (a0 :: a1 :: a2 :: a3 :: Sl.fz t :: r) ΦE = ΦE t false (a0 :: a1 :: a2 :: a3 :: Sl.fz t :: r) := rfl
theorem pV_o4 : pV 4 (a0 :: a1 :: a2 :: a3 :: Sl.ow l :: r) ΦE = ΦE (.lst l) false (a0 :: a1 :: a2 :: a3 :: Sl.fz (.lst l) :: r) := rfl
theorem pRV_f4 : pRV 4 (a0 :: a1 :: a2 :: a3 :: Sl.fz t :: r) ΦR = ΦR (.fz t) (a0 :: a1 :: a2 :: a3 :: Sl.fz t :: r) := rfl
theorem pRV_o4 : pRV 4 (a0 :: a1 :: a2 :: a3 :: Sl.ow l :: r) ΦR = ΦR (.sl 4) (a0 :: a1 :: a2 :: a3 :: Sl.ow l :: r) := rfl
theorem lk_f4 : Rdr.look (.sl 4) (a0 :: a1 :: a2 :: a3 :: Sl.fz t :: r) = some t := rfl
theorem lk_o4 : Rdr.look (.sl 4) (a0 :: a1 :: a2 :: a3 :: Sl.ow l :: r) = some (.lst l) := rfl
theorem sRV_f4 : sRetV 4 Δ (a0 :: a1 :: a2 :: a3 :: Sl.fz t :: r) = Δ.rt t false := rfl
theorem sRV_o4 : sRetV 4 Δ (a0 :: a1 :: a2 :: a3 :: Sl.ow l :: r) = Δ.rt (.lst l) true := rfl
theorem pV_f5 : pV 5 (a0 :: a1 :: a2 :: a3 :: a4 :: Sl.fz t :: r) ΦE = ΦE t false (a0 :: a1 :: a2 :: a3 :: a4 :: Sl.fz t :: r) := rfl
theorem pV_o5 : pV 5 (a0 :: a1 :: a2 :: a3 :: a4 :: Sl.ow l :: r) ΦE = ΦE (.lst l) false (a0 :: a1 :: a2 :: a3 :: a4 :: Sl.fz (.lst l) :: r) := rfl
theorem pRV_f5 : pRV 5 (a0 :: a1 :: a2 :: a3 :: a4 :: Sl.fz t :: r) ΦR = ΦR (.fz t) (a0 :: a1 :: a2 :: a3 :: a4 :: Sl.fz t :: r) := rfl
theorem pRV_o5 : pRV 5 (a0 :: a1 :: a2 :: a3 :: a4 :: Sl.ow l :: r) ΦR = ΦR (.sl 5) (a0 :: a1 :: a2 :: a3 :: a4 :: Sl.ow l :: r) := rfl
theorem lk_f5 : Rdr.look (.sl 5) (a0 :: a1 :: a2 :: a3 :: a4 :: Sl.fz t :: r) = some t := rfl
theorem lk_o5 : Rdr.look (.sl 5) (a0 :: a1 :: a2 :: a3 :: a4 :: Sl.ow l :: r) = some (.lst l) := rfl
theorem sRV_f5 : sRetV 5 Δ (a0 :: a1 :: a2 :: a3 :: a4 :: Sl.fz t :: r) = Δ.rt t false := rfl
theorem sRV_o5 : sRetV 5 Δ (a0 :: a1 :: a2 :: a3 :: a4 :: Sl.ow l :: r) = Δ.rt (.lst l) true := rfl
theorem pV_f6 : pV 6 (a0 :: a1 :: a2 :: a3 :: a4 :: a5 :: Sl.fz t :: r) ΦE = ΦE t false (a0 :: a1 :: a2 :: a3 :: a4 :: a5 :: Sl.fz t :: r) := rfl
theorem pV_o6 : pV 6 (a0 :: a1 :: a2 :: a3 :: a4 :: a5 :: Sl.ow l :: r) ΦE = ΦE (.lst l) false (a0 :: a1 :: a2 :: a3 :: a4 :: a5 :: Sl.fz (.lst l) :: r) := rfl
theorem pRV_f6 : pRV 6 (a0 :: a1 :: a2 :: a3 :: a4 :: a5 :: Sl.fz t :: r) ΦR = ΦR (.fz t) (a0 :: a1 :: a2 :: a3 :: a4 :: a5 :: Sl.fz t :: r) := rfl
theorem pRV_o6 : pRV 6 (a0 :: a1 :: a2 :: a3 :: a4 :: a5 :: Sl.ow l :: r) ΦR = ΦR (.sl 6) (a0 :: a1 :: a2 :: a3 :: a4 :: a5 :: Sl.ow l :: r) := rfl
theorem lk_f6 : Rdr.look (.sl 6) (a0 :: a1 :: a2 :: a3 :: a4 :: a5 :: Sl.fz t :: r) = some t := rfl
theorem lk_o6 : Rdr.look (.sl 6) (a0 :: a1 :: a2 :: a3 :: a4 :: a5 :: Sl.ow l :: r) = some (.lst l) := rfl
theorem sRV_f6 : sRetV 6 Δ (a0 :: a1 :: a2 :: a3 :: a4 :: a5 :: Sl.fz t :: r) = Δ.rt t false := rfl
theorem sRV_o6 : sRetV 6 Δ (a0 :: a1 :: a2 :: a3 :: a4 :: a5 :: Sl.ow l :: r) = Δ.rt (.lst l) true := rfl
theorem pV_f7 : pV 7 (a0 :: a1 :: a2 :: a3 :: a4 :: a5 :: a6 :: Sl.fz t :: r) ΦE = ΦE t false (a0 :: a1 :: a2 :: a3 :: a4 :: a5 :: a6 :: Sl.fz t :: r) := rfl
theorem pV_o7 : pV 7 (a0 :: a1 :: a2 :: a3 :: a4 :: a5 :: a6 :: Sl.ow l :: r) ΦE = ΦE (.lst l) false (a0 :: a1 :: a2 :: a3 :: a4 :: a5 :: a6 :: Sl.fz (.lst l) :: r) := rfl
theorem pRV_f7 : pRV 7 (a0 :: a1 :: a2 :: a3 :: a4 :: a5 :: a6 :: Sl.fz t :: r) ΦR = ΦR (.fz t) (a0 :: a1 :: a2 :: a3 :: a4 :: a5 :: a6 :: Sl.fz t :: r) := rfl
theorem pRV_o7 : pRV 7 (a0 :: a1 :: a2 :: a3 :: a4 :: a5 :: a6 :: Sl.ow l :: r) ΦR = ΦR (.sl 7) (a0 :: a1 :: a2 :: a3 :: a4 :: a5 :: a6 :: Sl.ow l :: r) := rfl
theorem lk_f7 : Rdr.look (.sl 7) (a0 :: a1 :: a2 :: a3 :: a4 :: a5 :: a6 :: Sl.fz t :: r) = some t := rfl
theorem lk_o7 : Rdr.look (.sl 7) (a0 :: a1 :: a2 :: a3 :: a4 :: a5 :: a6 :: Sl.ow l :: r) = some (.lst l) := rfl
theorem sRV_f7 : sRetV 7 Δ (a0 :: a1 :: a2 :: a3 :: a4 :: a5 :: a6 :: Sl.fz t :: r) = Δ.rt t false := rfl
theorem sRV_o7 : sRetV 7 Δ (a0 :: a1 :: a2 :: a3 :: a4 :: a5 :: a6 :: Sl.ow l :: r) = Δ.rt (.lst l) true := rfl
theorem pV_f8 : pV 8 (a0 :: a1 :: a2 :: a3 :: a4 :: a5 :: a6 :: a7 :: Sl.fz t :: r) ΦE = ΦE t false (a0 :: a1 :: a2 :: a3 :: a4 :: a5 :: a6 :: a7 :: Sl.fz t :: r) := rfl
theorem pV_o8 : pV 8 (a0 :: a1 :: a2 :: a3 :: a4 :: a5 :: a6 :: a7 :: Sl.ow l :: r) ΦE = ΦE (.lst l) false (a0 :: a1 :: a2 :: a3 :: a4 :: a5 :: a6 :: a7 :: Sl.fz (.lst l) :: r) := rfl
theorem pRV_f8 : pRV 8 (a0 :: a1 :: a2 :: a3 :: a4 :: a5 :: a6 :: a7 :: Sl.fz t :: r) ΦR = ΦR (.fz t) (a0 :: a1 :: a2 :: a3 :: a4 :: a5 :: a6 :: a7 :: Sl.fz t :: r) := rfl
theorem pRV_o8 : pRV 8 (a0 :: a1 :: a2 :: a3 :: a4 :: a5 :: a6 :: a7 :: Sl.ow l :: r) ΦR = ΦR (.sl 8) (a0 :: a1 :: a2 :: a3 :: a4 :: a5 :: a6 :: a7 :: Sl.ow l :: r) := rfl
theorem lk_f8 : Rdr.look (.sl 8) (a0 :: a1 :: a2 :: a3 :: a4 :: a5 :: a6 :: a7 :: Sl.fz t :: r) = some t := rfl
theorem lk_o8 : Rdr.look (.sl 8) (a0 :: a1 :: a2 :: a3 :: a4 :: a5 :: a6 :: a7 :: Sl.ow l :: r) = some (.lst l) := rfl
theorem sRV_f8 : sRetV 8 Δ (a0 :: a1 :: a2 :: a3 :: a4 :: a5 :: a6 :: a7 :: Sl.fz t :: r) = Δ.rt t false := rfl
theorem sRV_o8 : sRetV 8 Δ (a0 :: a1 :: a2 :: a3 :: a4 :: a5 :: a6 :: a7 :: Sl.ow l :: r) = Δ.rt (.lst l) true := rfl
theorem pV_f9 : pV 9 (a0 :: a1 :: a2 :: a3 :: a4 :: a5 :: a6 :: a7 :: a8 :: Sl.fz t :: r) ΦE = ΦE t false (a0 :: a1 :: a2 :: a3 :: a4 :: a5 :: a6 :: a7 :: a8 :: Sl.fz t :: r) := rfl
theorem pV_o9 : pV 9 (a0 :: a1 :: a2 :: a3 :: a4 :: a5 :: a6 :: a7 :: a8 :: Sl.ow l :: r) ΦE = ΦE (.lst l) false (a0 :: a1 :: a2 :: a3 :: a4 :: a5 :: a6 :: a7 :: a8 :: Sl.fz (.lst l) :: r) := rfl
theorem pRV_f9 : pRV 9 (a0 :: a1 :: a2 :: a3 :: a4 :: a5 :: a6 :: a7 :: a8 :: Sl.fz t :: r) ΦR = ΦR (.fz t) (a0 :: a1 :: a2 :: a3 :: a4 :: a5 :: a6 :: a7 :: a8 :: Sl.fz t :: r) := rfl
theorem pRV_o9 : pRV 9 (a0 :: a1 :: a2 :: a3 :: a4 :: a5 :: a6 :: a7 :: a8 :: Sl.ow l :: r) ΦR = ΦR (.sl 9) (a0 :: a1 :: a2 :: a3 :: a4 :: a5 :: a6 :: a7 :: a8 :: Sl.ow l :: r) := rfl
theorem lk_f9 : Rdr.look (.sl 9) (a0 :: a1 :: a2 :: a3 :: a4 :: a5 :: a6 :: a7 :: a8 :: Sl.fz t :: r) = some t := rfl
theorem lk_o9 : Rdr.look (.sl 9) (a0 :: a1 :: a2 :: a3 :: a4 :: a5 :: a6 :: a7 :: a8 :: Sl.ow l :: r) = some (.lst l) := rfl
theorem sRV_f9 : sRetV 9 Δ (a0 :: a1 :: a2 :: a3 :: a4 :: a5 :: a6 :: a7 :: a8 :: Sl.fz t :: r) = Δ.rt t false := rfl
theorem sRV_o9 : sRetV 9 Δ (a0 :: a1 :: a2 :: a3 :: a4 :: a5 :: a6 :: a7 :: a8 :: Sl.ow l :: r) = Δ.rt (.lst l) true := rfl
theorem pV_f10 : pV 10 (a0 :: a1 :: a2 :: a3 :: a4 :: a5 :: a6 :: a7 :: a8 :: a9 :: Sl.fz t :: r) ΦE = ΦE t false (a0 :: a1 :: a2 :: a3 :: a4 :: a5 :: a6 :: a7 :: a8 :: a9 :: Sl.fz t :: r) := rfl
theorem pV_o10 : pV 10 (a0 :: a1 :: a2 :: a3 :: a4 :: a5 :: a6 :: a7 :: a8 :: a9 :: Sl.ow l :: r) ΦE = ΦE (.lst l) false (a0 :: a1 :: a2 :: a3 :: a4 :: a5 :: a6 :: a7 :: a8 :: a9 :: Sl.fz (.lst l) :: r) := rfl
theorem pRV_f10 : pRV 10 (a0 :: a1 :: a2 :: a3 :: a4 :: a5 :: a6 :: a7 :: a8 :: a9 :: Sl.fz t :: r) ΦR = ΦR (.fz t) (a0 :: a1 :: a2 :: a3 :: a4 :: a5 :: a6 :: a7 :: a8 :: a9 :: Sl.fz t :: r) := rfl
theorem pRV_o10 : pRV 10 (a0 :: a1 :: a2 :: a3 :: a4 :: a5 :: a6 :: a7 :: a8 :: a9 :: Sl.ow l :: r) ΦR = ΦR (.sl 10) (a0 :: a1 :: a2 :: a3 :: a4 :: a5 :: a6 :: a7 :: a8 :: a9 :: Sl.ow l :: r) := rfl
theorem lk_f10 : Rdr.look (.sl 10) (a0 :: a1 :: a2 :: a3 :: a4 :: a5 :: a6 :: a7 :: a8 :: a9 :: Sl.fz t :: r) = some t := rfl
theorem lk_o10 : Rdr.look (.sl 10) (a0 :: a1 :: a2 :: a3 :: a4 :: a5 :: a6 :: a7 :: a8 :: a9 :: Sl.ow l :: r) = some (.lst l) := rfl
theorem sRV_f10 : sRetV 10 Δ (a0 :: a1 :: a2 :: a3 :: a4 :: a5 :: a6 :: a7 :: a8 :: a9 :: Sl.fz t :: r) = Δ.rt t false := rfl
theorem sRV_o10 : sRetV 10 Δ (a0 :: a1 :: a2 :: a3 :: a4 :: a5 :: a6 :: a7 :: a8 :: a9 :: Sl.ow l :: r) = Δ.rt (.lst l) true := rfl
theorem pV_f11 : pV 11 (a0 :: a1 :: a2 :: a3 :: a4 :: a5 :: a6 :: a7 :: a8 :: a9 :: a10 :: Sl.fz t :: r) ΦE = ΦE t false (a0 :: a1 :: a2 :: a3 :: a4 :: a5 :: a6 :: a7 :: a8 :: a9 :: a10 :: Sl.fz t :: r) := rfl
theorem pV_o11 : pV 11 (a0 :: a1 :: a2 :: a3 :: a4 :: a5 :: a6 :: a7 :: a8 :: a9 :: a10 :: Sl.ow l :: r) ΦE = ΦE (.lst l) false (a0 :: a1 :: a2 :: a3 :: a4 :: a5 :: a6 :: a7 :: a8 :: a9 :: a10 :: Sl.fz (.lst l) :: r) := rfl
theorem pRV_f11 : pRV 11 (a0 :: a1 :: a2 :: a3 :: a4 :: a5 :: a6 :: a7 :: a8 :: a9 :: a10 :: Sl.fz t :: r) ΦR = ΦR (.fz t) (a0 :: a1 :: a2 :: a3 :: a4 :: a5 :: a6 :: a7 :: a8 :: a9 :: a10 :: Sl.fz t :: r) := rfl
theorem pRV_o11 : pRV 11 (a0 :: a1 :: a2 :: a3 :: a4 :: a5 :: a6 :: a7 :: a8 :: a9 :: a10 :: Sl.ow l :: r) ΦR = ΦR (.sl 11) (a0 :: a1 :: a2 :: a3 :: a4 :: a5 :: a6 :: a7 :: a8 :: a9 :: a10 :: Sl.ow l :: r) := rfl
theorem lk_f11 : Rdr.look (.sl 11) (a0 :: a1 :: a2 :: a3 :: a4 :: a5 :: a6 :: a7 :: a8 :: a9 :: a10 :: Sl.fz t :: r) = some t := rfl
theorem lk_o11 : Rdr.look (.sl 11) (a0 :: a1 :: a2 :: a3 :: a4 :: a5 :: a6 :: a7 :: a8 :: a9 :: a10 :: Sl.ow l :: r) = some (.lst l) := rfl
theorem sRV_f11 : sRetV 11 Δ (a0 :: a1 :: a2 :: a3 :: a4 :: a5 :: a6 :: a7 :: a8 :: a9 :: a10 :: Sl.fz t :: r) = Δ.rt t false := rfl
theorem sRV_o11 : sRetV 11 Δ (a0 :: a1 :: a2 :: a3 :: a4 :: a5 :: a6 :: a7 :: a8 :: a9 :: a10 :: Sl.ow l :: r) = Δ.rt (.lst l) true := rfl
theorem pV_f12 : pV 12 (a0 :: a1 :: a2 :: a3 :: a4 :: a5 :: a6 :: a7 :: a8 :: a9 :: a10 :: a11 :: Sl.fz t :: r) ΦE = ΦE t false (a0 :: a1 :: a2 :: a3 :: a4 :: a5 :: a6 :: a7 :: a8 :: a9 :: a10 :: a11 :: Sl.fz t :: r) := rfl
theorem pV_o12 : pV 12 (a0 :: a1 :: a2 :: a3 :: a4 :: a5 :: a6 :: a7 :: a8 :: a9 :: a10 :: a11 :: Sl.ow l :: r) ΦE = ΦE (.lst l) false (a0 :: a1 :: a2 :: a3 :: a4 :: a5 :: a6 :: a7 :: a8 :: a9 :: a10 :: a11 :: Sl.fz (.lst l) :: r) := rfl
theorem pRV_f12 : pRV 12 (a0 :: a1 :: a2 :: a3 :: a4 :: a5 :: a6 :: a7 :: a8 :: a9 :: a10 :: a11 :: Sl.fz t :: r) ΦR = ΦR (.fz t) (a0 :: a1 :: a2 :: a3 :: a4 :: a5 :: a6 :: a7 :: a8 :: a9 :: a10 :: a11 :: Sl.fz t :: r) := rfl
theorem pRV_o12 : pRV 12 (a0 :: a1 :: a2 :: a3 :: a4 :: a5 :: a6 :: a7 :: a8 :: a9 :: a10 :: a11 :: Sl.ow l :: r) ΦR = ΦR (.sl 12) (a0 :: a1 :: a2 :: a3 :: a4 :: a5 :: a6 :: a7 :: a8 :: a9 :: a10 :: a11 :: Sl.ow l :: r) := rfl
theorem lk_f12 : Rdr.look (.sl 12) (a0 :: a1 :: a2 :: a3 :: a4 :: a5 :: a6 :: a7 :: a8 :: a9 :: a10 :: a11 :: Sl.fz t :: r) = some t := rfl
theorem lk_o12 : Rdr.look (.sl 12) (a0 :: a1 :: a2 :: a3 :: a4 :: a5 :: a6 :: a7 :: a8 :: a9 :: a10 :: a11 :: Sl.ow l :: r) = some (.lst l) := rfl
theorem sRV_f12 : sRetV 12 Δ (a0 :: a1 :: a2 :: a3 :: a4 :: a5 :: a6 :: a7 :: a8 :: a9 :: a10 :: a11 :: Sl.fz t :: r) = Δ.rt t false := rfl
theorem sRV_o12 : sRetV 12 Δ (a0 :: a1 :: a2 :: a3 :: a4 :: a5 :: a6 :: a7 :: a8 :: a9 :: a10 :: a11 :: Sl.ow l :: r) = Δ.rt (.lst l) true := rfl
theorem pV_f13 : pV 13 (a0 :: a1 :: a2 :: a3 :: a4 :: a5 :: a6 :: a7 :: a8 :: a9 :: a10 :: a11 :: a12 :: Sl.fz t :: r) ΦE = ΦE t false (a0 :: a1 :: a2 :: a3 :: a4 :: a5 :: a6 :: a7 :: a8 :: a9 :: a10 :: a11 :: a12 :: Sl.fz t :: r) := rfl
theorem pV_o13 : pV 13 (a0 :: a1 :: a2 :: a3 :: a4 :: a5 :: a6 :: a7 :: a8 :: a9 :: a10 :: a11 :: a12 :: Sl.ow l :: r) ΦE = ΦE (.lst l) false (a0 :: a1 :: a2 :: a3 :: a4 :: a5 :: a6 :: a7 :: a8 :: a9 :: a10 :: a11 :: a12 :: Sl.fz (.lst l) :: r) := rfl
theorem pRV_f13 : pRV 13 (a0 :: a1 :: a2 :: a3 :: a4 :: a5 :: a6 :: a7 :: a8 :: a9 :: a10 :: a11 :: a12 :: Sl.fz t :: r) ΦR = ΦR (.fz t) (a0 :: a1 :: a2 :: a3 :: a4 :: a5 :: a6 :: a7 :: a8 :: a9 :: a10 :: a11 :: a12 :: Sl.fz t :: r) := rfl
theorem pRV_o13 : pRV 13 (a0 :: a1 :: a2 :: a3 :: a4 :: a5 :: a6 :: a7 :: a8 :: a9 :: a10 :: a11 :: a12 :: Sl.ow l :: r) ΦR = ΦR (.sl 13) (a0 :: a1 :: a2 :: a3 :: a4 :: a5 :: a6 :: a7 :: a8 :: a9 :: a10 :: a11 :: a12 :: Sl.ow l :: r) := rfl
theorem lk_f13 : Rdr.look (.sl 13) (a0 :: a1 :: a2 :: a3 :: a4 :: a5 :: a6 :: a7 :: a8 :: a9 :: a10 :: a11 :: a12 :: Sl.fz t :: r) = some t := rfl
theorem lk_o13 : Rdr.look (.sl 13) (a0 :: a1 :: a2 :: a3 :: a4 :: a5 :: a6 :: a7 :: a8 :: a9 :: a10 :: a11 :: a12 :: Sl.ow l :: r) = some (.lst l) := rfl
theorem sRV_f13 : sRetV 13 Δ (a0 :: a1 :: a2 :: a3 :: a4 :: a5 :: a6 :: a7 :: a8 :: a9 :: a10 :: a11 :: a12 :: Sl.fz t :: r) = Δ.rt t false := rfl
theorem sRV_o13 : sRetV 13 Δ (a0 :: a1 :: a2 :: a3 :: a4 :: a5 :: a6 :: a7 :: a8 :: a9 :: a10 :: a11 :: a12 :: Sl.ow l :: r) = Δ.rt (.lst l) true := rfl
variable {ΦT : T → Prop} {Ψ : T → Bool → Prop} {ΦL : List T → Prop} {ΦO : Option Int → Prop} {ΦS : PS' → Prop} {ρ : PS'} {g : PG'} {gs : PGs'} {lo hi : Option Int} {gc : Int → Int → Bool} {neg f : Bool}
theorem lk_fz : Rdr.look (.fz t) ρ = some t := rfl
theorem of_fn : Sl.of .non f = .fz .non := rfl
theorem of_fb : Sl.of (.bl c) f = .fz (.bl c) := rfl
theorem of_fi : Sl.of (.int i) f = .fz (.int i) := rfl
theorem of_fs : Sl.of (.str a) f = .fz (.str a) := rfl
theorem of_ft : Sl.of (.tup l) f = .fz (.tup l) := rfl
theorem of_fl : Sl.of (.lst l) false = .fz (.lst l) := rfl
theorem of_ol : Sl.of (.lst l) true = .ow l := rfl
theorem of_ff : Sl.of t false = .fz t := by cases t <;> rfl
theorem ad_i : PAdd (.int i) (.int j) Ψ = Ψ (.int (i + j)) false := rfl
theorem ad_s : PAdd (.str a) (.str b) Ψ = (a.length + b.length ≤ 16000000 ∧ Ψ (.str (a ++ b)) false) := rfl
theorem ad_l : PAdd (.lst l) (.lst m) Ψ = (l.length + m.length ≤ 16000000 ∧ Ψ (.lst (l ++ m)) true) := rfl
theorem ad_t : PAdd (.tup l) (.tup m) Ψ = (l.length + m.length ≤ 16000000 ∧ Ψ (.tup (l ++ m)) false) := rfl
theorem su_i : PSub (.int i) (.int j) Ψ = Ψ (.int (i - j)) false := rfl
theorem mu_i : PMul (.int i) (.int j) Ψ = ((CMul i j ∨ CMulX i j) ∧ Ψ (.int (i * j)) false) := rfl
theorem mu_l : PMul (.lst l) (.int j) Ψ = (-(2 ^ 63) ≤ j ∧ j < 2 ^ 63 ∧ l.length * j.toNat ≤ 16000000 ∧ Ψ (.lst (List.replicate j.toNat l).flatten) true) := rfl
theorem mo_i : PMod (.int i) (.int j) Ψ = (0 < j ∧ Ψ (.int (i % j)) false) := rfl
theorem fd_i : PFdiv (.int i) (.int j) Ψ = ((CDiv i j ∨ CDivW i j) ∧ Ψ (.int (i / j)) false) := rfl
theorem pw_i : PPow (.int i) (.int j) Ψ = (CPow i j ∧ Ψ (.int (i ^ j.toNat)) false) := rfl
theorem an_i : PAnd (.int i) (.int j) Ψ = Ψ (.int (Builtin.bitAnd i j)) false := rfl
theorem ci_i : PCmpI gc (.int i) (.int j) Ψ = Ψ (.bl (gc i j)) false := rfl
theorem is_n : PIs t .non Ψ = Ψ (.bl t.isN) false := rfl
theorem is_nn : PIsNot t .non Ψ = Ψ (.bl (!t.isN)) false := rfl
theorem in_t : PIn neg t (.tup l) Ψ = (t.flat = true ∧ l.all T.flat = true ∧ Ψ (.bl (if neg then !(l.any fun z => T.eqv z t) else l.any fun z => T.eqv z t)) false) := rfl
theorem in_l : PIn neg t (.lst l) Ψ = (((t.flat && l.all T.flat) || (t.cmp && T.cmp (.lst l))) = true ∧ Ψ (.bl (if neg then !(l.any fun z => T.eqv z t) else l.any fun z => T.eqv z t)) false) := rfl
theorem in_s : PIn neg t (.str a) Ψ = (∃ c, t = .str ⟨#[c]⟩ ∧ Ψ (.bl (if neg then !(decide (c ∈ a.cps.toList)) else decide (c ∈ a.cps.toList))) false) := rfl
theorem ix_l : PIx (.lst l) (.int i) ΦT = ∃ t, atI l i = some t ∧ ΦT t := rfl
theorem ix_t : PIx (.tup l) (.int i) ΦT = ∃ t, atI l i = some t ∧ ΦT t := rfl
theorem ix_s : PIx (.str a) (.int i) ΦT = (a.length ≤ 16000000 ∧ ∃ c, atI a.cps.toList i = some c ∧ ΦT (.str ⟨#[c]⟩)) := rfl
theorem sl_l : PSl (.lst l) lo hi Ψ = Ψ (.lst (cutT l lo hi)) true := rfl
theorem sl_t : PSl (.tup l) lo hi Ψ = Ψ (.tup (cutT l lo hi)) false := rfl
theorem sl_s : PSl (.str a) lo hi Ψ = (a.length ≤ 16000000 ∧ Ψ (.str (cutS a lo hi)) false) := rfl
theorem kn_i : KNeg (.int i) ΦT = ΦT (.int (-i)) := rfl
theorem kp_i : KPart (.int i) ΦO = ΦO (some i) := rfl
theorem kr1 : KRng1 (.int i) ΦL = (-(2 ^ 62) ≤ i ∧ i < 2 ^ 62 ∧ ΦL (rngT 0 i.toNat)) := rfl
theorem kr2 : KRng2 (.int i) (.int j) ΦL = ((-(2 ^ 62) ≤ i ∧ i < 2 ^ 62 ∧ -(2 ^ 62) ≤ j ∧ j < 2 ^ 62) ∧ ΦL (rngT i (j - i).toNat)) := rfl
theorem ke_l : KEnum (.lst l) ΦL = ΦL (l.mapIdx fun i t => .tup [.int (i : Nat), t]) := rfl
theorem kz_l : KZip (.lst l) (.lst m) ΦL = ΦL (List.zipWith (fun x y => T.tup [x, y]) l m) := rfl
theorem kz_t : KZip (.tup l) (.tup m) ΦL = ΦL (List.zipWith (fun x y => T.tup [x, y]) l m) := rfl
theorem klr1 : KLR1 (.int i) ΦT = (RgOk 0 i ∧ ΦT (.lst (rngT 0 (i - 0).toNat))) := rfl
theorem klr2 : KLR2 (.int i) (.int j) ΦT = (RgOk i j ∧ ΦT (.lst (rngT i (j - i).toNat))) := rfl
theorem gt_e : gTp gs (.tup l) f ρ ΦS = gs l ρ ΦS := propext ⟨fun ⟨_, e, h⟩ => by cases e; exact h, fun h => ⟨l, rfl, h⟩⟩
theorem gs_n : gsNil [] ρ ΦS = ΦS ρ := propext ⟨fun h => h.2, fun h => ⟨rfl, h⟩⟩
theorem gs_c : gsCons g gs (t :: l) ρ ΦS = g t false ρ fun ρ1 => gs l ρ1 ΦS := propext ⟨fun ⟨_, _, e, h⟩ => by cases e; exact h, fun h => ⟨t, l, rfl, h⟩⟩
end
theorem nc_0 : ((0 : Nat) : Int) = 0 := rfl
theorem nc_1 : ((1 : Nat) : Int) = 1 := rfl
theorem nc_2 : ((2 : Nat) : Int) = 2 := rfl
theorem nc_3 : ((3 : Nat) : Int) = 3 := rfl
theorem nc_4 : ((4 : Nat) : Int) = 4 := rfl
theorem nc_5 : ((5 : Nat) : Int) = 5 := rfl
theorem nc_6 : ((6 : Nat) : Int) = 6 := rfl
theorem nc_7 : ((7 : Nat) : Int) = 7 := rfl
theorem nc_8 : ((8 : Nat) : Int) = 8 := rfl
theorem nc_9 : ((9 : Nat) : Int) = 9 := rfl
theorem nc_10 : ((10 : Nat) : Int) = 10 := rfl
theorem nc_11 : ((11 : Nat) : Int) = 11 := rfl
theorem nc_12 : ((12 : Nat) : Int) = 12 := rfl
/-- is a value of a built-in type -/
def isB (ty n : String) : Bool := (kitB n ty).getD false
theorem kitN {K : PySem.W.Frag} {ty : String} (h : (["NoneType", "bool", "int", "str", "tuple", "list"].all fun n => (kitB n ty).isSome) = true) : ∀ n ∈ ["NoneType", "bool", "int", "str", "tuple", "list"], PySem.W.kitOne K (.type n) (.type ty) = some (isB ty n) := fun n hn => by
  have := List.all_eq_true.mp h n hn
  refine kit_ty ?_
  unfold isB
  cases z : kitB n ty with
  | none => rw [z] at this; cases this
  | some r => rfl
theorem ib_tn : isB "tuple" (tyN .non) = false := by decide +kernel
theorem ib_tb : isB "tuple" (tyN (.bl c)) = false := by show isB "tuple" "bool" = _; decide +kernel
theorem ib_ti : isB "tuple" (tyN (.int i)) = false := by show isB "tuple" "int" = _; decide +kernel
theorem ib_ts : isB "tuple" (tyN (.str a)) = false := by show isB "tuple" "str" = _; decide +kernel
theorem ib_tt : isB "tuple" (tyN (.tup l)) = true := by show isB "tuple" "tuple" = _; decide +kernel
theorem ib_tl : isB "tuple" (tyN (.lst l)) = false := by show isB "tuple" "list" = _; decide +kernel
theorem ib_sn : isB "str" (tyN .non) = false := by decide +kernel
theorem ib_sb : isB "str" (tyN (.bl c)) = false := by show isB "str" "bool" = _; decide +kernel
theorem ib_si : isB "str" (tyN (.int i)) = false := by show isB "str" "int" = _; decide +kernel
theorem ib_ss : isB "str" (tyN (.str a)) = true := by show isB "str" "str" = _; decide +kernel
theorem ib_st : isB "str" (tyN (.tup l)) = false := by show isB "str" "tuple" = _; decide +kernel
theorem ib_sl : isB "str" (tyN (.lst l)) = false := by show isB "str" "list" = _; decide +kernel
theorem ib_in : isB "int" (tyN .non) = false := by decide +kernel
theorem ib_ib : isB "int" (tyN (.bl c)) = true := by show isB "int" "bool" = _; decide +kernel
theorem ib_ii : isB "int" (tyN (.int i)) = true := by show isB "int" "int" = _; decide +kernel
theorem ib_is : isB "int" (tyN (.str a)) = false := by show isB "int" "str" = _; decide +kernel
theorem ib_it : isB "int" (tyN (.tup l)) = false := by show isB "int" "tuple" = _; decide +kernel
theorem ib_il : isB "int" (tyN (.lst l)) = false := by show isB "int" "list" = _; decide +kernel
theorem ib_bn : isB "bool" (tyN .non) = false := by decide +kernel
theorem ib_bb : isB "bool" (tyN (.bl c)) = true := by show isB "bool" "bool" = _; decide +kernel
theorem ib_bi : isB "bool" (tyN (.int i)) = false := by show isB "bool" "int" = _; decide +kernel
theorem ib_bs : isB "bool" (tyN (.str a)) = false := by show isB "bool" "str" = _; decide +kernel
theorem ib_bt : isB "bool" (tyN (.tup l)) = false := by show isB "bool" "tuple" = _; decide +kernel
theorem ib_bl : isB "bool" (tyN (.lst l)) = false := by show isB "bool" "list" = _; decide +kernel
theorem noadr {a : Addr} {P : Prop} (h : P) : ((∀ x, t ≠ .adr x) ∧ P) ↔ (∀ x, t ≠ .adr x) := ⟨fun z => z.1, fun z => ⟨z, h⟩⟩
theorem na_n : (∀ x, T.non ≠ .adr x) ↔ True := ⟨fun _ => trivial, fun _ _ h => nomatch h⟩
theorem na_b : (∀ x, T.bl c ≠ .adr x) ↔ True := ⟨fun _ => trivial, fun _ _ h => nomatch h⟩
theorem na_i : (∀ x, T.int i ≠ .adr x) ↔ True := ⟨fun _ => trivial, fun _ _ h => nomatch h⟩
theorem na_s : (∀ x, T.str a ≠ .adr x) ↔ True := ⟨fun _ => trivial, fun _ _ h => nomatch h⟩
theorem na_t : (∀ x, T.tup l ≠ .adr x) ↔ True := ⟨fun _ => trivial, fun _ _ h => nomatch h⟩
theorem na_l : (∀ x, T.lst l ≠ .adr x) ↔ True := ⟨fun _ => trivial, fun _ _ h => nomatch h⟩
/-- what holds between two statements -/
theorem seq1_by {a r : PSt} {Δ : PEnds} {ρ : PS'} (Pv : PS' → Prop) (h1 : ∀ nx' : PS' → Prop, (∀ ρ, Pv ρ → nx' ρ) → a { Δ with nx := nx' } ρ) (h2 : ∀ ρ, Pv ρ → r Δ ρ) : sSeq a r Δ ρ := h1 (r Δ) h2
theorem seq2_by {a b r : PSt} {Δ : PEnds} {ρ : PS'} (Pv : PS' → Prop) (h1 : ∀ nx' : PS' → Prop, (∀ ρ, Pv ρ → nx' ρ) → sSeq a b { Δ with nx := nx' } ρ) (h2 : ∀ ρ, Pv ρ → r Δ ρ) : sSeq a (sSeq b r) Δ ρ := h1 (r Δ) h2
theorem seq3_by {a b c r : PSt} {Δ : PEnds} {ρ : PS'} (Pv : PS' → Prop) (h1 : ∀ nx' : PS' → Prop, (∀ ρ, Pv ρ → nx' ρ) → sSeq a (sSeq b c) { Δ with nx := nx' } ρ) (h2 : ∀ ρ, Pv ρ → r Δ ρ) : sSeq a (sSeq b (sSeq c r)) Δ ρ := h1 (r Δ) h2
theorem seq4_by {a b c e r : PSt} {Δ : PEnds} {ρ : PS'} (Pv : PS' → Prop) (h1 : ∀ nx' : PS' → Prop, (∀ ρ, Pv ρ → nx' ρ) → sSeq a (sSeq b (sSeq c e)) { Δ with nx := nx' } ρ) (h2 : ∀ ρ, Pv ρ → r Δ ρ) : sSeq a (sSeq b (sSeq c (sSeq e r))) Δ ρ := h1 (r Δ) h2
/-- nothing is promised -/
theorem CalQ.rec0 {P : Program} {w : World} {K : PySem.W.Frag} {mg : Str → Option Value} {base : Heap} {W : Wld} {x : Str} {st : Stmt} {ps : List Str} {k : Nat} (D : Df K mg x st)
    (hb : ∀ (kV doc pm : Value) (an : Option Addr) (cdv ct : Value) (us : List Value), us.length = ps.length → bindArgs (PySem.W.fnOf x x (defArgs st) (defBody st) (defScope st) .none kV doc pm an cdv ct) ⟨us, []⟩ = pure (ps.zip us)) :
    CalQ P w K mg base W x k ps (fun _ _ => False) := by
  obtain ⟨f, fd, F, g⟩ := D
  exact ⟨f, fd, g, F.kp, F.bindsN hb, ⟨fun _ _ _ _ h => (let ⟨_, _, _, _, _, _, _, h, _⟩ := h; h.elim), fun _ _ _ _ _ _ _ _ _ _ _ _ _ h => (let ⟨_, _, _, _, _, _, _, h, _⟩ := h; h.elim)⟩⟩
end
end Y

namespace Y
open PySem PySem.Spec PyProof.Rows L2 RT RZ TL
def topS (i : Nat) : Stmt := PySem.Challenge.pw_telltrove_k09_kinds_and_ways_written.main.body.getD i (.Pass ⟨0, 0, 0, 0⟩)
/-! ### the callers' frame -/
/-- a def that can be called by its name, with what it promises -/
def Cal (P : Program) (w : World) (K : PySem.W.Frag) (mg : Str → Option Value) (base : Heap) (x : Str) (k : Nat) (ps : List Str) (sp : Sp) : Prop :=
  ∃ f fd, mg x = some (.ref f) ∧ PySem.W.keepIn K (.ref f) = true ∧ Binds K fd ps [] ∧ FnOk P w K mg base CX0 k f fd ps sp
theorem ixN_k {n j : Nat} (h : j < n) : ixN n (j : Int) = some j := by
  unfold ixN
  rw [if_pos (by omega), if_pos (by omega)]
  rfl
theorem small_le {n : Nat} (h : n ≤ 1000) : n ≤ sizeLine := Nat.le_of_lt (small1000 h)
/-- all but d stands -/
def Chg (d : Addr) (H H' : Hp) : Prop := ∀ b o, b ≠ d → H b = some o → H' b = some o
theorem Chg.refl (d : Addr) (H : Hp) : Chg d H H := fun _ _ _ h => h
theorem Chg.trans {d : Addr} {H H1 H2 : Hp} (a : Chg d H H1) (b : Chg d H1 H2) : Chg d H H2 := fun c o n h => b c o n (a c o n h)
theorem Chg.upd (d : Addr) (H : Hp) (o : HO) : Chg d H (upd H d o) := fun b u n h => by rw [upd_ne n]; exact h
theorem Chg.new {d : Addr} {H : Hp} {p : Addr} {o : HO} (h : H p = none) : Chg d H (L2.upd H p o) := fun b u _ e => by rw [upd_ne (ne_of_none e h)]; exact e
theorem Chg.of_same {d : Addr} {H H' : Hp} (s : Same H H') : Chg d H H' := fun b o _ h => s b o h
theorem same_upd {H : Hp} {p : Addr} {o : HO} (h : H p = none) : Same H (upd H p o) := fun b x e => by
  rw [upd_ne (ne_of_none e h)]
  exact e
/-- the draws' object at d: the list at l, the place, what is left of a great cell, the state, the number of mixes; then what else a law keeps there -/
def Dr (H : Hp) (d l : Addr) (rest : List V) : Prop := ∃ (ns : List Int) (at_ : Nat) (big st n : Int), H d = some (.lst (.ref l :: .int (at_ : Int) :: .int big :: .int st :: .int n :: rest)) ∧ H l = some (.lst (ns.map V.int)) ∧ ns.length ≤ 1000
theorem Dr.same {H H' : Hp} {d l : Addr} {rest : List V} (h : Dr H d l rest) (c : Same H H') : Dr H' d l rest := by
  obtain ⟨ns, a, big, st, m, h1, h2, h3⟩ := h
  exact ⟨ns, a, big, st, m, c _ _ h1, c _ _ h2, h3⟩
theorem Dr.lst {H : Hp} {d l : Addr} {rest : List V} (h : Dr H d l rest) : ∃ ys, H d = some (.lst ys) := let ⟨_, _, _, _, _, h, _⟩ := h; ⟨_, h⟩
theorem Dr.src {H : Hp} {d l : Addr} {rest : List V} (h : Dr H d l rest) : ∃ ys, H l = some (.lst ys) := let ⟨_, _, _, _, _, _, h, _⟩ := h; ⟨_, h⟩
theorem dr_ne {l : Addr} {ns : List Int} {x : V} {a : Addr} {rest : List V} : HO.lst (ns.map V.int) ≠ .lst (.ref a :: x :: rest) := by
  intro z
  cases ns with
  | nil => cases z
  | cons n ns => cases z
theorem Dr.ne {H : Hp} {d l : Addr} {rest : List V} (h : Dr H d l rest) : l ≠ d := by
  obtain ⟨ns, a, big, st, m, h1, h2, h3⟩ := h
  exact ne_of h2 h1 (dr_ne (l := l))
/-- an object that is neither of both is changed -/
theorem Dr.upd {H : Hp} {d l p : Addr} {rest : List V} {o : HO} (h : Dr H d l rest) (n1 : p ≠ d) (n2 : p ≠ l) : Dr (upd H p o) d l rest := by
  obtain ⟨ns, a, big, st, m, h1, h2, h3⟩ := h
  exact ⟨ns, a, big, st, m, by rw [upd_ne n1.symm]; exact h1, by rw [upd_ne n2.symm]; exact h2, h3⟩
def spBegin (K : PySem.W.Frag) : Sp := fun vs H Q _ => ∃ (a : Addr) (ns : List Int), vs = [.ref a] ∧ SqL K H a (ns.map V.int) ∧ ns.length ≤ 1000 ∧ ∀ H' d l, Same H H' → H d = none → Dr H' d l [] → Q (.ref d) H'
def spStart (K : PySem.W.Frag) : Sp := fun vs H Q _ => ∃ (a : Addr) (ns : List Int) (x y : Int), vs = [.ref a, .int x, .int y] ∧ SqL K H a (ns.map V.int) ∧ ns.length ≤ 1000 ∧ ∀ H' d l, Same H H' → H d = none → Dr H' d l [.int x, .int y, .int 0] → Q (.ref d) H'
def spMix : Sp := fun vs H Q _ => ∃ (d : Addr) (x y z : V) (st n k : Int) (rest : List V), vs = [.ref d, .int k] ∧ H d = some (.lst (x :: y :: z :: .int st :: .int n :: rest)) ∧
  ∀ st' n', Q .non (L2.upd H d (.lst (x :: y :: z :: .int st' :: .int n' :: rest)))
def spDraw : Sp := fun vs H Q _ => ∃ (d l : Addr) (k : Int) (rest : List V), vs = [.ref d, .int k] ∧ 0 < k ∧ k < 1073741824 ∧ Dr H d l rest ∧ ∀ r H', 0 ≤ r → r < k → Dr H' d l rest → Chg d H H' → Q (.int r) H'
abbrev s_write_kind : Stmt := topS 1
theorem sc_write_kind : FnScope ["kind"] ["kind"] (defScope s_write_kind) := ⟨rfl, rfl, rfl, by decide +kernel, rfl, by decide +kernel, by decide +kernel⟩
abbrev s_write_way : Stmt := topS 2
theorem sc_write_way : FnScope ["way"] ["way"] (defScope s_write_way) := ⟨rfl, rfl, rfl, by decide +kernel, rfl, by decide +kernel, by decide +kernel⟩
abbrev s_fields_tokens : Stmt := topS 3
theorem sc_fields_tokens : FnScope ["pairs", "tokens", "name", "kind"] ["pairs"] (defScope s_fields_tokens) := ⟨rfl, rfl, rfl, by decide +kernel, rfl, by decide +kernel, by decide +kernel⟩
abbrev s_kind_tokens : Stmt := topS 4
theorem sc_kind_tokens : FnScope ["kind", "word", "name"] ["kind"] (defScope s_kind_tokens) := ⟨rfl, rfl, rfl, by decide +kernel, rfl, by decide +kernel, by decide +kernel⟩
abbrev s_listed : Stmt := topS 5
theorem sc_listed : FnScope ["items", "tokens", "at", "item"] ["items"] (defScope s_listed) := ⟨rfl, rfl, rfl, by decide +kernel, rfl, by decide +kernel, by decide +kernel⟩
abbrev s_way_tokens : Stmt := topS 6
theorem sc_way_tokens : FnScope ["way", "word"] ["way"] (defScope s_way_tokens) := ⟨rfl, rfl, rfl, by decide +kernel, rfl, by decide +kernel, by decide +kernel⟩
abbrev s_trios_tokens : Stmt := topS 7
theorem sc_trios_tokens : FnScope ["trios", "tokens", "first", "second", "way"] ["trios"] (defScope s_trios_tokens) := ⟨rfl, rfl, rfl, by decide +kernel, rfl, by decide +kernel, by decide +kernel⟩
abbrev s_end_token : Stmt := topS 8
theorem sc_end_token : FnScope ["end"] ["end"] (defScope s_end_token) := ⟨rfl, rfl, rfl, by decide +kernel, rfl, by decide +kernel, by decide +kernel⟩
abbrev s_value_tokens : Stmt := topS 9
theorem sc_value_tokens : FnScope ["value", "inner"] ["value"] (defScope s_value_tokens) := ⟨rfl, rfl, rfl, by decide +kernel, rfl, by decide +kernel, by decide +kernel⟩
abbrev s_begin : Stmt := topS 11
theorem sc_begin : FnScope ["_law_script"] ["_law_script"] (defScope s_begin) := ⟨rfl, rfl, rfl, by decide +kernel, rfl, by decide +kernel, by decide +kernel⟩
abbrev s_mix : Stmt := topS 12
theorem sc_mix : FnScope ["_law_d", "_law_number", "_law_word"] ["_law_d", "_law_number"] (defScope s_mix) := ⟨rfl, rfl, rfl, by decide +kernel, rfl, by decide +kernel, by decide +kernel⟩
abbrev s_draw : Stmt := topS 13
theorem sc_draw : FnScope ["_law_d", "_law_many", "_law_cell", "_law_left", "_law_digit"] ["_law_d", "_law_many"] (defScope s_draw) := ⟨rfl, rfl, rfl, by decide +kernel, rfl, by decide +kernel, by decide +kernel⟩
abbrev s_start : Stmt := topS 14
theorem sc_start : FnScope ["_law_script", "_law_room", "_law_fronts"] ["_law_script", "_law_room", "_law_fronts"] (defScope s_start) := ⟨rfl, rfl, rfl, by decide +kernel, rfl, by decide +kernel, by decide +kernel⟩
abbrev s_reserved : Stmt := topS 15
theorem sc_reserved : FnScope ["_law_words"] [] (defScope s_reserved) := ⟨rfl, rfl, rfl, by decide +kernel, rfl, by decide +kernel, by decide +kernel⟩
abbrev s_any_name : Stmt := topS 16
theorem sc_any_name : FnScope ["_law_d", "_law_letters", "_law_shape", "_law_name", "_law_k"] ["_law_d"] (defScope s_any_name) := ⟨rfl, rfl, rfl, by decide +kernel, rfl, by decide +kernel, by decide +kernel⟩
abbrev s_any_int : Stmt := topS 17
theorem sc_any_int : FnScope ["_law_d", "_law_shape"] ["_law_d"] (defScope s_any_int) := ⟨rfl, rfl, rfl, by decide +kernel, rfl, by decide +kernel, by decide +kernel⟩
abbrev s_any_value : Stmt := topS 18
theorem sc_any_value : FnScope ["_law_d", "_law_deep", "_law_shape", "_law_k"] ["_law_d", "_law_deep"] (defScope s_any_value) := ⟨rfl, rfl, rfl, by decide +kernel, rfl, by decide +kernel, by decide +kernel⟩
abbrev s_any_kind : Stmt := topS 19
theorem sc_any_kind : FnScope ["_law_d", "_law_deep", "_law_shape", "_law_low", "_law_inner", "_law_k"] ["_law_d", "_law_deep"] (defScope s_any_kind) := ⟨rfl, rfl, rfl, by decide +kernel, rfl, by decide +kernel, by decide +kernel⟩
abbrev s_any_fields : Stmt := topS 20
theorem sc_any_fields : FnScope ["_law_d", "_law_deep", "_law_size", "_law_k"] ["_law_d", "_law_deep", "_law_size"] (defScope s_any_fields) := ⟨rfl, rfl, rfl, by decide +kernel, rfl, by decide +kernel, by decide +kernel⟩
abbrev s_any_way : Stmt := topS 21
theorem sc_any_way : FnScope ["_law_d", "_law_deep", "_law_shape", "_law_first", "_law_word", "_law_inner", "_law_k"] ["_law_d", "_law_deep"] (defScope s_any_way) := ⟨rfl, rfl, rfl, by decide +kernel, rfl, by decide +kernel, by decide +kernel⟩
abbrev s_any_trio : Stmt := topS 22
theorem sc_any_trio : FnScope ["_law_d", "_law_word", "_law_deep", "_law_ends", "_law_k"] ["_law_d", "_law_word", "_law_deep"] (defScope s_any_trio) := ⟨rfl, rfl, rfl, by decide +kernel, rfl, by decide +kernel, by decide +kernel⟩
abbrev s_any_place : Stmt := topS 23
theorem sc_any_place : FnScope ["_law_d", "_law_shape"] ["_law_d"] (defScope s_any_place) := ⟨rfl, rfl, rfl, by decide +kernel, rfl, by decide +kernel, by decide +kernel⟩
abbrev s_value_text : Stmt := topS 24
theorem sc_value_text : FnScope ["_law_value", "_law_one"] ["_law_value"] (defScope s_value_text) := ⟨rfl, rfl, rfl, by decide +kernel, rfl, by decide +kernel, by decide +kernel⟩
abbrev s_kind_text : Stmt := topS 25
theorem sc_kind_text : FnScope ["_law_kind", "_law_word"] ["_law_kind"] (defScope s_kind_text) := ⟨rfl, rfl, rfl, by decide +kernel, rfl, by decide +kernel, by decide +kernel⟩
abbrev s_fields_text : Stmt := topS 26
theorem sc_fields_text : FnScope ["_law_fields", "_law_field"] ["_law_fields"] (defScope s_fields_text) := ⟨rfl, rfl, rfl, by decide +kernel, rfl, by decide +kernel, by decide +kernel⟩
abbrev s_way_text : Stmt := topS 27
theorem sc_way_text : FnScope ["_law_way", "_law_word", "_law_trio"] ["_law_way"] (defScope s_way_text) := ⟨rfl, rfl, rfl, by decide +kernel, rfl, by decide +kernel, by decide +kernel⟩
abbrev s_trio_text : Stmt := topS 28
theorem sc_trio_text : FnScope ["_law_trio", "_law_ends", "_law_end"] ["_law_trio"] (defScope s_trio_text) := ⟨rfl, rfl, rfl, by decide +kernel, rfl, by decide +kernel, by decide +kernel⟩
abbrev s_exact : Stmt := topS 29
theorem sc_exact : FnScope ["_law_told", "_law_due", "_law_k"] ["_law_told", "_law_due"] (defScope s_exact) := ⟨rfl, rfl, rfl, by decide +kernel, rfl, by decide +kernel, by decide +kernel⟩
abbrev s_deep_kind : Stmt := topS 30
theorem sc_deep_kind : FnScope ["_law_d", "_law_shape", "_law_kind", "_law_k", "_law_fields"] ["_law_d"] (defScope s_deep_kind) := ⟨rfl, rfl, rfl, by decide +kernel, rfl, by decide +kernel, by decide +kernel⟩
abbrev s_deep_way : Stmt := topS 31
theorem sc_deep_way : FnScope ["_law_d", "_law_shape", "_law_way", "_law_k", "_law_word", "_law_trios", "_law_turn"] ["_law_d"] (defScope s_deep_way) := ⟨rfl, rfl, rfl, by decide +kernel, rfl, by decide +kernel, by decide +kernel⟩
abbrev s_law : Stmt := topS 32
theorem sc_law : FnScope ["_law_script", "_law_d", "_law_kind", "_law_way", "_law_other", "_law_more"] ["_law_script"] (defScope s_law) := ⟨rfl, rfl, rfl, by decide +kernel, rfl, by decide +kernel, by decide +kernel⟩
section
variable {P : Program} {w : World} {K : PySem.W.Frag} {mg : Str → Option Value} {base : Heap}
theorem ok_mix (D : Df K mg "_law_mix" s_mix) (m_int : mg "int" = none) : Cal P w K mg base "_law_mix" 1 ["_law_d", "_law_number"] spMix := by
  obtain ⟨f, fd, F, g⟩ := D
  refine ⟨f, fd, g, F.kp, F.bindsN fun _ _ _ _ _ _ us hl => match us, hl with | [_, _], _ => rfl, ?_⟩
  refine F.ok sc_mix (fun vs H Q E h => ?_) (fun cdv A outer s H vs Q E hr h => ?_)
  · obtain ⟨d, x, y, z, st, n, k, rest, rfl, _⟩ := h
    rfl
  · obtain ⟨d, x, y, z, st, n, k, rest, rfl, hd, q⟩ := h
    refine ⟨_, pss_cons (ps_asg (pe_op op_add (pe_ix ix_list (pv 0) pe_int (fun _ _ => rfl)) pe_int) (pg_sub (pv 0) pe_int set_list))
      (pss_cons (ps_set (i := 2) sc_mix.nd rfl (.inl rfl) (pe_op op_mod (pe_callTy call_int1 (by rfl) m_int (by decide +kernel) (pa_cons (pe_op op_add (pe_op op_add (pe_op op_add (pe_op op_mul (pe_ix ix_list (pv 0) pe_int (fun _ _ => rfl)) pe_int) (pe_op op_mul (pv 1) pe_int)) (pe_op op_mul (pe_ix ix_list (pv 0) pe_int (fun _ _ => rfl)) pe_int)) pe_int) pa_nil)) pe_int))
      (pss_cons (ps_set (i := 2) sc_mix.nd rfl (.inl rfl) (pe_op op_mod (pe_callTy call_int1 (by rfl) m_int (by decide +kernel) (pa_cons (pe_op op_add (pe_op op_mul (pe_op op_xor (pv 2) (pe_op op_shr (pv 2) pe_int)) pe_int) (pe_op op_mul (pe_ix ix_list (pv 0) pe_int (fun _ _ => rfl)) pe_int)) pa_nil)) pe_int))
      (pss_cons (ps_set (i := 2) sc_mix.nd rfl (.inl rfl) (pe_op op_mod (pe_callTy call_int1 (by rfl) m_int (by decide +kernel) (pa_cons (pe_op op_add (pe_op op_mul (pe_op op_xor (pv 2) (pe_op op_shr (pv 2) pe_int)) pe_int) pe_int) pa_nil)) pe_int))
      (pss_one (ps_asg (pe_op op_xor (pv 2) (pe_op op_shr (pv 2) pe_int)) (pg_sub (pv 0) pe_int set_list)))))), ?_⟩
    refine ⟨_, rfl, d, _, 4, _, rfl, rfl, SqL.of hd, atI_nat (j := 4) rfl, _, _, rfl, rfl, _, rfl, d, _, 4, 4, rfl, rfl, hd, ixN_k (by simp), ?_⟩
    have h1 : upd H d (.lst (x :: y :: z :: .int st :: .int (n + 1) :: rest)) d = some (.lst (x :: y :: z :: .int st :: .int (n + 1) :: rest)) := upd_same
    refine ⟨_, rfl, d, _, 3, _, rfl, rfl, SqL.of h1, atI_nat (j := 3) rfl, _, _, rfl, rfl, .inr (by decide), _, rfl, _, _, rfl, rfl, .inr (by decide), _, _, rfl, rfl, _, rfl, d, _, 4, _, rfl, rfl, SqL.of h1, atI_nat (j := 4) rfl, _, _, rfl, rfl, .inr (by decide), _, _, rfl, rfl, _, _, rfl, rfl, .inl ⟨_, rfl, _, _, rfl, rfl, (by show (0:Int) < _; decide), ?_⟩⟩
    refine ⟨_, rfl, _, rfl, _, _, rfl, rfl, (by show (0:Int) ≤ _; decide), _, _, rfl, rfl, _, _, rfl, rfl, .inr (by decide), _, rfl, d, _, 4, _, rfl, rfl, SqL.of h1, atI_nat (j := 4) rfl, _, _, rfl, rfl, .inr (by decide), _, _, rfl, rfl, .inl ⟨_, rfl, _, _, rfl, rfl, (by show (0:Int) < _; decide), ?_⟩⟩
    refine ⟨_, rfl, _, rfl, _, _, rfl, rfl, (by show (0:Int) ≤ _; decide), _, _, rfl, rfl, _, _, rfl, rfl, .inr (by decide), _, _, rfl, rfl, .inl ⟨_, rfl, _, _, rfl, rfl, (by show (0:Int) < _; decide), ?_⟩⟩
    refine ⟨_, rfl, _, rfl, _, _, rfl, rfl, (by show (0:Int) ≤ _; decide), _, _, rfl, rfl, _, rfl, d, _, 3, 3, rfl, rfl, h1, ixN_k (by simp), ?_⟩
    show Q .non (upd (upd H d _) d (.lst (x :: y :: z :: .int _ :: .int _ :: rest)))
    rw [upd_upd]
    exact q _ _
theorem seq_by {t u : TS} {D : Ends} {σ : L2.St} {H : Hp} (Pv : L2.St → Hp → Prop) (h1 : ∀ nx' : L2.St → Hp → Prop, (∀ σ H, Pv σ H → nx' σ H) → t { D with nx := nx' } σ H) (h2 : ∀ σ H, Pv σ H → u D σ H) : tSeq t u D σ H := h1 (u D) h2
theorem seq_nx {t u : TS} {D D' : Ends} {σ : L2.St} {H : Hp} (e : D'.nx = tSeq t u D) (Pv : L2.St → Hp → Prop) (h1 : ∀ nx' : L2.St → Hp → Prop, (∀ σ H, Pv σ H → nx' σ H) → t { D with nx := nx' } σ H) (h2 : ∀ σ H, Pv σ H → u D σ H) : D'.nx σ H := by
  rw [e]
  exact h1 (u D) h2
theorem ifCi {c : Bool} {i j : Int} {σ : L2.St} {H : Hp} {Q : VK} (h : ∀ m : Int, m = i ∨ m = j → Q (.int m) H) : if c = true then tC (.int i) σ H Q else tC (.int j) σ H Q := by
  split
  · exact h _ (.inl rfl)
  · exact h _ (.inr rfl)
theorem ok_draw (D : Df K mg "_law_draw" s_draw) (C_mix : Cal P w K mg base "_law_mix" 1 ["_law_d", "_law_number"] spMix) (m_int : mg "int" = none) (m_len : mg "len" = none) (m_abs : mg "abs" = none) (m_divmod : mg "divmod" = none) :
    Cal P w K mg base "_law_draw" 2 ["_law_d", "_law_many"] spDraw := by
  obtain ⟨f, fd, F, g⟩ := D
  obtain ⟨f_mix, fd_mix, g_mix, k_mix, b_mix, G_mix⟩ := C_mix
  refine ⟨f, fd, g, F.kp, F.bindsN fun _ _ _ _ _ _ us hl => match us, hl with | [_, _], _ => rfl, ?_⟩
  refine F.ok sc_draw (fun vs H Q E h => ?_) (fun cdv A outer s H vs Q E hr h => ?_)
  · obtain ⟨d, l, k, rest, rfl, _⟩ := h
    rfl
  · obtain ⟨d, l, k, rest, rfl, k0, k1, ⟨ns, a, big, st, n, hd, hl, hlen⟩, q⟩ := h
    have hne : l ≠ d := ne_of hl hd (dr_ne (l := l))
    refine ⟨_, pss_cons (ps_if (PW.pt (pw_and (pt_cmpR op_eq (pe_ix ix_list (pv 0) pe_int (fun _ _ => rfl)) pe_int (nomark _)) (pw_and1 (pt_cmpR op_lt (pe_ix ix_list (pv 0) pe_int (fun _ _ => rfl)) (pe_callB call_len (by rfl) m_len (by decide +kernel) (pa_cons (pe_ix ix_list (pv 0) pe_int (fun _ _ => rfl)) pa_nil)) (nomark _)))))
      (pss_cons (ps_set (i := 2) sc_draw.nd rfl (.inl rfl) (pe_op op_and (pe_callB call_abs (by rfl) m_abs (by decide +kernel) (pa_cons (pe_ix ix_list (pe_ix ix_list (pv 0) pe_int (fun _ _ => rfl)) (pe_ix ix_list (pv 0) pe_int (fun _ _ => rfl)) (fun _ _ => rfl)) pa_nil)) (pe_op op_sub (pe_op op_shl pe_int pe_int) pe_int)))
        (pss_cons (ps_expr (pe_call G_mix (hr.mono (by decide)) (by rfl) g_mix k_mix b_mix .nil pass0 (pa_cons (pv 0) (pa_cons (pe_op op_add (pe_op op_mul pe_int (pv 2)) (pe_ifExp (pt_cmpR op_lt (pe_ix ix_list (pe_ix ix_list (pv 0) pe_int (fun _ _ => rfl)) (pe_ix ix_list (pv 0) pe_int (fun _ _ => rfl)) (fun _ _ => rfl)) pe_int (nomark _)) pe_int pe_int)) pa_nil))))
        (pss_cons (ps_asg (pe_op op_add (pe_ix ix_list (pv 0) pe_int (fun _ _ => rfl)) pe_int) (pg_sub (pv 0) pe_int set_list))
        (pss_one (ps_asg (pe_ifExp (pt_cmpR op_ge (pv 2) pe_int (nomark _)) (pv 2) pe_int) (pg_sub (pv 0) pe_int set_list))))))
      (pss_nil))
      (pss_cons (ps_if (pt_cmpR op_gt (pe_ix ix_list (pv 0) pe_int (fun _ _ => rfl)) pe_int (nomark _))
      (pss_cons (ps_asg (pe_callB call_divmod (by rfl) m_divmod (by decide +kernel) (pa_cons (pe_ix ix_list (pv 0) pe_int (fun _ _ => rfl)) (pa_cons (pv 1) pa_nil))) (pg_tup (by rfl) (pgs_cons (pg_name (i := 3) sc_draw.nd rfl (.inl rfl)) (pgs_cons (pg_name (i := 4) sc_draw.nd rfl (.inl rfl)) pgs_nil))))
        (pss_cons (ps_asg (pv 3) (pg_sub (pv 0) pe_int set_list))
        (pss_one (ps_ret (pv 4)))))
      (pss_nil))
      (pss_cons (ps_expr (pe_call G_mix (hr.mono (by decide)) (by rfl) g_mix k_mix b_mix .nil pass0 (pa_cons (pv 0) (pa_cons (pv 1) pa_nil))))
      (pss_one (ps_ret (pe_op op_mod (pe_callTy call_int1 (by rfl) m_int (by decide +kernel) (pa_cons (pe_op op_shr (pe_ix ix_list (pv 0) pe_int (fun _ _ => rfl)) pe_int) pa_nil)) (pv 1)))))), ?_⟩
    refine seq_by (fun σ' H' => ∃ y a' big' st' n', σ' = [some (.ref d), some (.int k), y, none, none] ∧ H' d = some (.lst (.ref l :: .int ((a' : Nat) : Int) :: .int big' :: .int st' :: .int n' :: rest)) ∧ Chg d H H') (fun nx hnx => ?_) (fun σ' H' h => ?_)
    · refine ⟨_, rfl, d, _, 2, _, rfl, rfl, SqL.of hd, atI_nat (j := 2) rfl, rfl, _, rfl, ite2 (fun e => ?_) (fun e => iteF (hnx _ _ ⟨none, a, big, st, n, rfl, hd, Chg.refl _ _⟩))⟩
      refine ⟨_, rfl, d, _, 1, _, rfl, rfl, SqL.of hd, atI_nat (j := 1) rfl, _, rfl, d, _, 0, _, rfl, rfl, SqL.of hd, atI_nat (j := 0) rfl, _, _, rfl, .inl ⟨_, SqL.of hl, rfl⟩, _, _, rfl, rfl, _, rfl, ite2 (fun e2 => ?_) (fun e2 => hnx _ _ ⟨none, a, big, st, n, rfl, hd, Chg.refl _ _⟩)⟩
      have e3 := of_decide_eq_true e2
      rw [List.length_map] at e3
      have ha : a < ns.length := by omega
      have hx : (ns.map V.int)[a]? = some (.int ns[a]) := by
        rw [List.getElem?_map, List.getElem?_eq_getElem ha]
        rfl
      refine ⟨_, rfl, d, _, 0, _, rfl, rfl, SqL.of hd, atI_nat (j := 0) rfl, _, rfl, d, _, 1, _, rfl, rfl, SqL.of hd, atI_nat (j := 1) rfl, l, _, _, _, rfl, rfl, SqL.of hl, atI_nat hx, _, rfl, _, _, rfl, rfl, ⟨by decide, by decide, by decide⟩, _, _, rfl, rfl, _, _, rfl, rfl, ?_⟩
      refine ⟨_, rfl, _, rfl, _, _, rfl, rfl, .inl (by decide), _, rfl, d, _, 0, _, rfl, rfl, SqL.of hd, atI_nat (j := 0) rfl, _, rfl, d, _, 1, _, rfl, rfl, SqL.of hd, atI_nat (j := 1) rfl, l, _, _, _, rfl, rfl, SqL.of hl, atI_nat hx, _, _, rfl, rfl, _, rfl, ifCi fun m _ => ?_⟩
      refine ⟨_, _, rfl, rfl, d, _, _, _, _, _, _, rest, rfl, hd, fun st1 n1 => ?_⟩
      have h1 : upd H d (HO.lst (V.ref l :: V.int (a : Int) :: .int big :: .int st1 :: .int n1 :: rest)) d = some (.lst (.ref l :: .int (a : Int) :: .int big :: .int st1 :: .int n1 :: rest)) := upd_same
      refine ⟨_, rfl, d, _, 1, _, rfl, rfl, SqL.of h1, atI_nat (j := 1) rfl, _, _, rfl, rfl, _, rfl, d, _, 1, 1, rfl, rfl, h1, ixN_k (by simp), ?_⟩
      have h2 : upd (upd H d (HO.lst (V.ref l :: V.int (a : Int) :: V.int big :: V.int st1 :: V.int n1 :: rest))) d (HO.lst (V.ref l :: .int ((a : Int) + 1) :: .int big :: .int st1 :: .int n1 :: rest)) d = some (.lst (.ref l :: .int ((a : Int) + 1) :: .int big :: .int st1 :: .int n1 :: rest)) := upd_same
      refine ⟨_, rfl, _, _, rfl, rfl, _, rfl, ite2 (fun e4 => ?_) (fun e4 => ?_)⟩
      · refine ⟨_, rfl, _, rfl, d, _, 2, 2, rfl, rfl, h2, ixN_k (by simp), ?_⟩
        exact hnx _ _ ⟨_, a + 1, _, _, _, rfl, upd_same, ((Chg.upd _ _ _).trans (Chg.upd _ _ _)).trans (Chg.upd _ _ _)⟩
      · refine ⟨_, rfl, d, _, 2, 2, rfl, rfl, h2, ixN_k (by simp), ?_⟩
        exact hnx _ _ ⟨_, a + 1, _, _, _, rfl, upd_same, ((Chg.upd _ _ _).trans (Chg.upd _ _ _)).trans (Chg.upd _ _ _)⟩
    · obtain ⟨y, a1, big1, st1, n1, rfl, hd1, c1⟩ := h
      have hl1 := c1 _ _ hne hl
      refine ⟨_, rfl, d, _, 2, _, rfl, rfl, SqL.of hd1, atI_nat (j := 2) rfl, _, _, rfl, rfl, _, rfl, ite2 (fun e => ?_) (fun e => ?_)⟩
      · refine ⟨_, rfl, d, _, 2, _, rfl, rfl, SqL.of hd1, atI_nat (j := 2) rfl, _, rfl, _, _, rfl, ⟨k0, k1⟩, fun p hp => ?_⟩
        have hpd : d ≠ p := ne_of_none hd1 hp
        have hd2 : upd H' p (.tup [.int (big1 / k), .int (big1 % k)]) d = some (.lst (.ref l :: .int ((a1 : Nat) : Int) :: .int big1 :: .int st1 :: .int n1 :: rest)) := by
          rw [upd_ne hpd]
          exact hd1
        refine ⟨p, _, rfl, SqT.of upd_same, rfl, _, _, rfl, _, _, rfl, rfl, ?_⟩
        refine ⟨_, rfl, _, rfl, d, _, 2, 2, rfl, rfl, hd2, ixN_k (by simp), _, rfl, ?_⟩
        have c2 : Chg d H' (upd H' p (.tup [.int (big1 / k), .int (big1 % k)])) := Chg.new hp
        refine q _ _ (Int.emod_nonneg _ (by omega)) (Int.emod_lt_of_pos _ k0) ⟨ns, a1, _, _, _, upd_same, ?_, hlen⟩ ((c1.trans c2).trans (Chg.upd _ _ _))
        exact ((c1.trans c2).trans (Chg.upd _ _ _)) _ _ hne hl
      · refine ⟨_, rfl, _, rfl, d, _, _, _, _, _, _, rest, rfl, hd1, fun st2 n2 => ?_⟩
        refine ⟨_, rfl, d, _, 3, _, rfl, rfl, SqL.of upd_same, atI_nat (j := 3) rfl, _, _, rfl, rfl, (by show (0:Int) ≤ _; decide), .inl ⟨_, rfl, _, rfl, _, _, rfl, rfl, k0, ?_⟩⟩
        refine q _ _ (Int.emod_nonneg _ (by omega)) (Int.emod_lt_of_pos _ k0) ⟨ns, a1, _, _, _, upd_same, ?_, hlen⟩ (c1.trans (Chg.upd _ _ _))
        exact (c1.trans (Chg.upd _ _ _)) _ _ hne hl
theorem ok_begin (D : Df K mg "_law_begin" s_begin) (m_list : mg "list" = none) : Cal P w K mg base "_law_begin" 1 ["_law_script"] (spBegin K) := by
  obtain ⟨f, fd, F, g⟩ := D
  refine ⟨f, fd, g, F.kp, F.bindsN fun _ _ _ _ _ _ us hl => match us, hl with | [_], _ => rfl, ?_⟩
  refine F.ok sc_begin (fun vs H Q E h => ?_) (fun cdv A outer s H vs Q E hr h => ?_)
  · obtain ⟨a, ns, rfl, _⟩ := h
    rfl
  · obtain ⟨a, ns, rfl, ha, hn, q⟩ := h
    refine ⟨_, pss_one (ps_ret (pe_lst (pa_cons (pe_callTy call_list_of (by rfl) m_list (by decide +kernel) (pa_cons (pv 0) pa_nil)) (pa_cons pe_int (pa_cons pe_int (pa_cons pe_int (pa_cons pe_int pa_nil))))))), ?_⟩
    refine ⟨_, rfl, a, _, rfl, .inl ha, fun l hl => ⟨by show 5 ≤ sizeLine; decide, fun d hd => ?_⟩⟩
    have hld : l ≠ d := ne_of_none upd_same hd
    have hd0 : H d = none := by
      rw [upd_ne hld.symm] at hd
      exact hd
    refine q _ _ l ((same_upd hl).trans (same_upd hd)) hd0 ⟨ns, 0, 0, 271828, 0, upd_same, ?_, hn⟩
    rw [upd_ne hld]
    exact upd_same
theorem ok_start (D : Df K mg "_law_start" s_start) (C_begin : Cal P w K mg base "_law_begin" 1 ["_law_script"] (spBegin K)) : Cal P w K mg base "_law_start" 2 ["_law_script", "_law_room", "_law_fronts"] (spStart K) := by
  obtain ⟨f, fd, F, g⟩ := D
  obtain ⟨f_begin, fd_begin, g_begin, k_begin, b_begin, G_begin⟩ := C_begin
  refine ⟨f, fd, g, F.kp, F.bindsN fun _ _ _ _ _ _ us hl => match us, hl with | [_, _, _], _ => rfl, ?_⟩
  refine F.ok sc_start (fun vs H Q E h => ?_) (fun cdv A outer s H vs Q E hr h => ?_)
  · obtain ⟨a, ns, x, y, rfl, _⟩ := h
    rfl
  · obtain ⟨a, ns, x, y, rfl, ha, hn, q⟩ := h
    refine ⟨_, pss_one (ps_ret (pe_op op_cat (pe_call G_begin (hr.mono (by decide)) (by rfl) g_begin k_begin b_begin .nil pass0 (pa_cons (pv 0) pa_nil)) (pe_lst (pa_cons (pv 1) (pa_cons (pv 2) (pa_cons pe_int pa_nil)))))), ?_⟩
    refine ⟨_, rfl, a, ns, rfl, ha, hn, fun H1 d1 l s1 n1 h1 => ?_⟩
    obtain ⟨ms, at_, big, st, n, h2, h3, h4⟩ := h1
    refine ⟨_, rfl, _, rfl, by show 3 ≤ sizeLine; decide, fun p hp => ?_⟩
    have e1 := same_upd (o := .lst [.int x, .int y, .int 0]) hp _ _ h2
    refine ⟨_, _, _, _, rfl, rfl, e1, upd_same, by show 8 ≤ sizeLine; decide, fun d hd => ?_⟩
    have sd := same_upd (o := .lst (.ref l :: .int (at_ : Int) :: .int big :: .int st :: .int n :: [.int x, .int y, .int 0])) hd
    refine q _ _ l ((s1.trans (same_upd hp)).trans sd) ((s1.trans (same_upd hp)).free hd) ⟨ms, at_, big, st, n, upd_same, ?_, h4⟩
    exact sd _ _ (same_upd hp _ _ h3)
end
/-! ### the draws' world -/
def Dz (H : Hp) (d l : Addr) (m : Nat) : Prop := ∃ rs : List Int, rs.length = m ∧ Dr H d l (rs.map V.int)
def wd (d l : Addr) (m : Nat) : Wld where
  D a := a = d
  A a := a = d ∨ a = l
  ok H := Dz H d l m
  sub a h := .inl h
  stb H H' h ok := by
    obtain ⟨rs, e, ns, a, big, st, n, h1, h2, h3⟩ := ok
    exact ⟨rs, e, ns, a, big, st, n, by rw [h d (.inl rfl)]; exact h1, by rw [h l (.inr rfl)]; exact h2, h3⟩
  al H a ok h := by
    obtain ⟨rs, e, ns, a', big, st, n, h1, h2, h3⟩ := ok
    rcases h with rfl | rfl
    · exact some_ne h1
    · exact some_ne h2
section
variable {X : Cx} {d l : Addr} {m : Nat} {a b : Expr} {pos : Pos} {K : PySem.W.Frag} {B F0 F H : Hp} {ρ : PS'} {σ : L2.St}
theorem Rep.dput (R : Rep K (wd d l m) B F0 ρ σ F H) {o : HO} (ok : Dz (upd H d o) d l m) : Rep K (wd d l m) B F0 ρ σ F (upd H d o) := by
  have nb : ∀ {G : Hp} (s : G d = none) {b : Addr} {u : HO}, G b = some u → b ≠ d := fun {G} s {b u} e z => by
    rw [z, s] at e
    cases e
  refine ⟨fun a u e => ?_, R.f0, R.fd, fun a u e => ?_, ok, R.wf, R.wb, R.ln, R.fz, fun i t e => ?_, R.ds⟩
  · rw [upd_ne (nb (R.wf d rfl) e)]
    exact R.fh _ _ e
  · rw [upd_ne (nb (R.wb d rfl) e)]
    exact R.bh _ _ e
  · obtain ⟨a, xs, e1, e2, e3, e4, e5, e6⟩ := R.ow i t e
    have hn : a ≠ d := fun z => e6 (.inl z)
    exact ⟨a, xs, e1, by rw [upd_ne hn]; exact e2, e3, e4, e5, e6⟩
/-- what the draws' object holds behind its fifth item -/
def pDget (d : Addr) (pa pb : PE') (m : Nat) : PE' := fun ρ Φ => pa ρ fun t _ ρ1 => pb ρ1 fun y _ ρ2 => t = .adr d ∧ ∃ j : Int, y = .int j ∧ 5 ≤ j ∧ j < 5 + (m : Int) ∧ ∀ v : Int, Φ (.int v) false ρ2
theorem dr_at {rs : List Int} {x y z s n : V} {j : Nat} (h5 : 5 ≤ j) (hj : j < 5 + rs.length) : (x :: y :: z :: s :: n :: rs.map V.int)[j]? = some (.int (rs.getD (j - 5) 0)) := by
  obtain ⟨k, rfl⟩ : ∃ k, j = k + 5 := ⟨j - 5, by omega⟩
  show (rs.map V.int)[k]? = _
  have hk : k < rs.length := by omega
  rw [List.getElem?_map, List.getElem?_eq_getElem hk, show k + 5 - 5 = k from rfl, List.getD_eq_getElem?_getD, List.getElem?_eq_getElem hk]
  rfl
theorem qe_dget {pa pb : PE'} (ha : QE X (wd d l m) a pa) (hb : QE X (wd d l m) b pb) (hs : PlainIx b) : QE X (wd d l m) (.Subscript a b pos) (pDget d pa pb m) := by
  obtain ⟨t, h1, h2⟩ := ha.ex
  obtain ⟨u, h3, h4⟩ := hb.ex
  refine ⟨_, pe_ix ix_list h1 h3 hs, fun B F0 ρ σ F H Φ Q R hp k => ?_⟩
  refine h2.fz R hp fun τ ρ1 v F1 H1 R1 le1 tv q1 => ?_
  refine h4.fz R1 q1 fun υ ρ2 w F2 H2 R2 le2 tw q2 => ?_
  obtain ⟨rfl, j', rfl, h5', hj', q2⟩ := q2
  obtain ⟨j, rfl⟩ := Int.eq_ofNat_of_zero_le (show 0 ≤ j' by omega)
  have h5 : 5 ≤ j := by omega
  have hj : j < 5 + m := by omega
  obtain ⟨rs, e, ns, at_, big, st, n, e1, e2, e3⟩ := R2.ok
  exact ⟨d, _, _, _, show v = .ref d from tv, show w = .int (j : Int) from tw, SqL.of e1, atI_nat (dr_at h5 (by omega)), k _ false ρ2 _ F2 H2 R2 (le1.trans le2) VR.int (q2 _)⟩
/-- .. is set -/
def gDset (d : Addr) (m : Nat) (pa pb : PE') : PG' := fun τ _ ρ Φ => ∃ i, τ = .int i ∧ pa ρ fun t _ ρ1 => pb ρ1 fun y _ ρ2 => t = .adr d ∧ ∃ j : Int, y = .int j ∧ 5 ≤ j ∧ j < 5 + (m : Int) ∧ Φ ρ2
theorem dr_put {rs : List Int} {x y z s n : V} {j : Nat} {i : Int} (h5 : 5 ≤ j) : (x :: y :: z :: s :: n :: rs.map V.int).set j (V.int i) = x :: y :: z :: s :: n :: (rs.set (j - 5) i).map V.int := by
  obtain ⟨k, rfl⟩ : ∃ k, j = k + 5 := ⟨j - 5, by omega⟩
  show x :: y :: z :: s :: n :: (rs.map V.int).set k (V.int i) = _
  rw [List.map_set]
  rfl
theorem qg_dset {p2 : Pos} {pa pb : PE'} (ha : QE X (wd d l m) a pa) (hb : QE X (wd d l m) b pb)
    (hs : ∀ v, assign (.Subscript a b p2) X.env v = (do
      let ov ← holding [v] (eval a X.env)
      let iv ← holding [v, ov] (eval b X.env)
      standAt p2
      holding [v, ov, iv] (setItem ov iv v)
      release [v, ov, iv] []) := by intro _; rfl) : QG X (wd d l m) (.Subscript a b p2) [] (gDset d m pa pb) := by
  obtain ⟨t, h1, h2⟩ := ha.ex
  obtain ⟨u, h3, h4⟩ := hb.ex
  refine ⟨_, pg_sub h1 h3 set_list hs, fun B F0 ρ σ F H τ f v Φ Q R vr hg k => ?_⟩
  obtain ⟨i, rfl, hg⟩ := hg
  have hv : v = .int i := by cases f with
    | false => exact vr
    | true => obtain ⟨_, _, _, z, _⟩ := vr; cases z
  refine h2.fz R hg fun τ ρ1 v1 F1 H1 R1 le1 tv q1 => ?_
  refine h4.fz R1 q1 fun υ ρ2 w F2 H2 R2 le2 tw q2 => ?_
  obtain ⟨rfl, j', rfl, h5', hj', q2⟩ := q2
  obtain ⟨j, rfl⟩ := Int.eq_ofNat_of_zero_le (show 0 ≤ j' by omega)
  have h5 : 5 ≤ j := by omega
  have hj : j < 5 + m := by omega
  obtain ⟨rs, e, ns, at_, big, st, n, e1, e2, e3⟩ := R2.ok
  refine ⟨d, _, j, j, show v1 = .ref d from tv, show w = .int (j : Int) from tw, e1, ixN_k (by simp; omega), ?_⟩
  have hne : l ≠ d := ne_of e2 e1 (dr_ne (l := l))
  refine k ρ2 σ F2 _ (R2.dput ⟨rs.set (j - 5) i, by rw [List.length_set]; exact e, ns, at_, big, st, n, by rw [upd_same, hv, dr_put h5], by rw [upd_ne hne]; exact e2, e3⟩) (le1.trans le2) (fun _ _ => rfl) rfl q2
end
def pDraw (d : Addr) : PSp := fun ts Φ => ∃ k : Int, ts = [.adr d, .int k] ∧ 0 < k ∧ k < 1073741824 ∧ ∀ r : Int, 0 ≤ r → r < k → Φ (.int r) false
theorem cq_draw {P : Program} {w : World} {K : PySem.W.Frag} {mg : Str → Option Value} {base : Heap} {x : Str} {k : Nat} {ps : List Str} (d l : Addr) (m : Nat) (C : Cal P w K mg base x k ps spDraw) : CalQ P w K mg base (wd d l m) x k ps (pDraw d) := by
  obtain ⟨f, fd, h1, h2, h3, h4⟩ := C
  refine ⟨f, fd, h1, h2, h3, h4.imp fun vs H Q E q => ?_⟩
  obtain ⟨ts, F, Ψ, q2, q3, q4, q5, q6, q7⟩ := q
  obtain ⟨k, rfl, k0, k1, q6⟩ := q6
  obtain ⟨v, w', rfl, e1, e2⟩ := tvl2 q5
  obtain ⟨rs, e, dr⟩ := q3
  refine ⟨d, l, k, _, by rw [show v = _ from e1, show w' = _ from e2], k0, k1, dr, fun r H' r0 r1 dr' c => ?_⟩
  refine q7 (.int r) false _ F H' (q6 r r0 r1) ⟨Le.refl _, fun a o ea => c a o (fun z => ?_) (q2 _ _ ea), fun a ea => .inl ea, fun a o ea hd => c a o hd ea, rs, e, dr'⟩ rfl
  rw [z, q4 d rfl] at ea
  cases ea
end Y

namespace Y
open PySem PySem.Spec PyProof.Rows L2 RT RZ TL PySem.NumText

/-! ### rules that draws and texts want -/
theorem str_inj (a b : String) : (Str.ofString a = Str.ofString b) = (a = b) := by
  refine propext ⟨fun h => ?_, fun h => by rw [h]⟩
  have h1 : tl (Str.ofString a) = tl (Str.ofString b) := by rw [h]
  rw [tl_ofString, tl_ofString] at h1
  have h2 : a.toList = b.toList := (List.map_inj_right (f := Char.toNat) (fun x y e => Char.toNat_inj.mp e)).mp h1
  have h3 := congrArg String.ofList h2
  rwa [String.ofList_toList, String.ofList_toList] at h3
theorem rng_get {lo : Int} {n i : Nat} {t : T} (e : (rngT lo n)[i]? = some t) : i < n ∧ t = .int (lo + (i : Nat)) := by
  have h := (List.getElem?_eq_some_iff.mp e).1
  rw [rngT, List.length_map, List.length_range] at h
  refine ⟨h, ?_⟩
  rw [rngT, List.getElem?_map, List.getElem?_range h] at e
  exact (Option.some.inj e).symm
theorem rng_len {lo : Int} {n : Nat} : (rngT lo n).length = n := by rw [rngT, List.length_map, List.length_range]
theorem at_pick {α : Type} {l : List α} {r : Int} (h0 : 0 ≤ r) (h1 : r < (l.length : Int)) : ∃ t, atI l r = some t ∧ t ∈ l := by
  obtain ⟨k, rfl⟩ := Int.eq_ofNat_of_zero_le h0
  have hk : k < l.length := by omega
  exact ⟨l[k], atI_nat (List.getElem?_eq_getElem hk), List.getElem_mem hk⟩
theorem at_nat0 {α : Type} {l : List α} {i : Nat} (h : i < l.length) : atI l (0 + (i : Int)) = some l[i] := by
  rw [Int.zero_add]
  exact atI_nat (List.getElem?_eq_getElem h)
theorem at_natI {α : Type} {l : List α} {i : Nat} (h : i < l.length) : atI l (i : Int) = some l[i] := atI_nat (List.getElem?_eq_getElem h)
section
variable {X : Cx} {W : Wld} {o e : Expr} {pa pb : PE'}
def pWords (pa : PE') : PE' := fun ρ Φ => pa ρ fun t _ ρ1 => ∃ a, t = .str a ∧ a.length ≤ 16000000 ∧ Φ (.lst ((Txt.words a).map T.str)) true ρ1
theorem qe_split0 {apos pos : Pos} (ho : QE X W o pa) (hbase : attributeBase o "split" X.env (eval o X.env) = eval o X.env := by rfl) (hline : (apos.endLine == pos.line) = true := by rfl) : QE X W (.Call (.Attribute o "split" apos) [] [] pos) (pWords pa) := by
  have hs := sl16
  obtain ⟨t, h1, h2⟩ := ho.ex
  refine ⟨_, pe_words h1 hbase hline, fun B F0 ρ σ F H Φ Q R hp k => ?_⟩
  refine h2.fz R hp fun τ ρ1 v F1 H1 R1 le1 tv q1 => ?_
  obtain ⟨a, rfl, hl, q1⟩ := q1
  refine ⟨⟨a, tv⟩, a, tv, rfl, by omega, fun p np => ?_⟩
  obtain ⟨R2, vr⟩ := R1.newL np (tvl_strs (K := X.K) (F := F1) (Txt.words a))
  exact k _ true ρ1 _ F1 _ R2 le1 vr q1
def pSplit (pa pb : PE') : PE' := fun ρ Φ => pa ρ fun t _ ρ1 => ∃ a, t = .str a ∧ pb ρ1 fun u _ ρ2 => ∃ b, u = .str b ∧ (b.length == 0) = false ∧ a.length ≤ 16000000 ∧ Φ (.lst ((Txt.split a b).map T.str)) true ρ2
theorem qe_split1 {apos pos : Pos} (ho : QE X W o pa) (he : QE X W e pb) (hs : starEach [e] X.env = [(false, eval e X.env)] := by rfl) (hbase : attributeBase o "split" X.env (eval o X.env) = eval o X.env := by rfl) (hline : (apos.endLine == pos.line) = true := by rfl) : QE X W (.Call (.Attribute o "split" apos) [e] [] pos) (pSplit pa pb) := by
  have hl16 := sl16
  obtain ⟨t, h1, h2⟩ := ho.ex
  obtain ⟨u, h3, h4⟩ := he.ex
  refine ⟨_, pe_split h1 h3 hs hbase hline, fun B F0 ρ σ F H Φ Q R hp k => ?_⟩
  refine h2.fz R hp fun τ ρ1 v F1 H1 R1 le1 tv q1 => ?_
  obtain ⟨a, rfl, q1⟩ := q1
  refine ⟨⟨a, tv⟩, ?_⟩
  refine h4.fz R1 q1 fun τ2 ρ2 v2 F2 H2 R2 le2 tv2 q2 => ?_
  obtain ⟨b, rfl, hb, hl, q2⟩ := q2
  refine ⟨a, b, tv, by rw [show v2 = _ from tv2], hb, by omega, fun p np => ?_⟩
  obtain ⟨R3, vr⟩ := R2.newL np (tvl_strs (K := X.K) (F := F2) (Txt.split a b))
  exact k _ true ρ2 _ F2 _ R3 (le1.trans le2) vr q2
end
/-! ### names, integers, values as tokens -/
open TL
def resS : Str := Str.ofString "open add from retire rule step to by none num pick opt row of one rec same rank clip table apart some must" ++ Str.ofString " each arms parts or and not has tag long"
def RS : List Str := [Str.ofString "open", Str.ofString "add", Str.ofString "from", Str.ofString "retire", Str.ofString "rule", Str.ofString "step", Str.ofString "to", Str.ofString "by", Str.ofString "none", Str.ofString "num", Str.ofString "pick", Str.ofString "opt", Str.ofString "row", Str.ofString "of", Str.ofString "one", Str.ofString "rec", Str.ofString "same", Str.ofString "rank", Str.ofString "clip", Str.ofString "table", Str.ofString "apart", Str.ofString "some", Str.ofString "must", Str.ofString "each", Str.ofString "arms", Str.ofString "parts", Str.ofString "or", Str.ofString "and", Str.ofString "not", Str.ofString "has", Str.ofString "tag", Str.ofString "long"]
theorem res_words : Txt.words resS = RS := by
  rw [KWd.words_scan]
  decide +kernel
theorem res_len : resS.length = 146 := by decide +kernel
def low (c : Nat) : Bool := decide (97 ≤ c) && decide (c ≤ 122)
def dig (c : Nat) : Bool := decide (48 ≤ c) && decide (c ≤ 57)
def nmL : List Nat → Bool
  | [] => false
  | c :: r => low c && r.all fun d => low d || dig d
def isNm (s : Str) : Bool := decide (1 ≤ s.length) && decide (s.length ≤ 8) && !RS.contains s && nmL (tl s)
def letS : Str := Str.ofString "abcdefghijklmnopqrstuvwxyz0123456789"
theorem let_len : letS.length = 36 := by decide +kernel
theorem let_low : ∀ (i : Nat) (h : i < (tl letS).length), (low (tl letS)[i] || dig (tl letS)[i]) = true ∧ (i < 26 → low (tl letS)[i] = true) := by decide +kernel
theorem res_more : ∀ w ∈ RS, ∀ c ∈ tl letS, isNm (w ++ ⟨#[c]⟩) = true := by
  have h : (RS.all fun w => (tl letS).all fun c => isNm (w ++ ⟨#[c]⟩)) = true := by decide +kernel
  intro w hw c hc
  exact List.all_eq_true.mp (List.all_eq_true.mp h w hw) c hc
/-- a name that is not reserved, or is made so -/
theorem nm_of {s : Str} (h1 : 1 ≤ s.length) (h2 : s.length ≤ 8) (h3 : nmL (tl s) = true) (h4 : s ∉ RS) : isNm s = true := by
  unfold isNm
  rw [decide_eq_true h1, decide_eq_true h2, h3]
  have e : RS.contains s = false := by
    cases h : RS.contains s with
    | false => rfl
    | true => exact absurd (List.contains_iff_mem.mp h) h4
  rw [e]
  rfl
theorem low_dig {c : Nat} (h : low c = true) : dig c = false := by
  unfold low at h
  unfold dig
  simp at h ⊢
  omega
/-- the text of an int -/
def istr (i : Int) : Str := Str.ofString (toString i)
def isIntL (l : List Nat) : Bool :=
  let d := if l.take 1 = [45] then l.drop 1 else l
  decide (1 ≤ d.length) && decide (d.length ≤ 4) && !(decide (d.head? = some 48) && decide (l ≠ [48])) && d.all dig
def isIn (s : Str) : Bool := isIntL (tl s)
theorem istr_nat (n : Nat) : tl (istr (n : Int)) = numL n := tl_num n
theorem istr_neg (n : Nat) : tl (istr (-((n + 1 : Nat) : Int))) = 45 :: numL (n + 1) := by
  have e : (-((n + 1 : Nat) : Int)) = Int.negSucc n := rfl
  have e2 : toString (Int.negSucc n) = "-" ++ toString (n + 1) := rfl
  have e3 : toString ((n + 1 : Nat) : Int) = toString (n + 1) := rfl
  have h := tl_num (n + 1)
  rw [e3] at h
  unfold istr
  rw [e, e2, tl_ofString, String.toList_append, List.map_append]
  rw [tl_ofString] at h
  rw [h]
  rfl
theorem numL_head (n : Nat) (h : n ≠ 0) : (numL n).head? ≠ some 48 := by
  induction n using Nat.strongRecOn with
  | _ n ih =>
    by_cases h9 : n < 10
    · rw [numL_lt h9]
      intro z
      have z2 : 48 + n = 48 := Option.some.inj z
      omega
    · rw [numL_step (by omega)]
      have hne := numL_ne (n / 10)
      have ih9 := ih (n / 10) (by omega) (by omega)
      cases e : numL (n / 10) with
      | nil => exact absurd e hne
      | cons c r =>
        rw [e] at ih9
        exact ih9
theorem numL_dig (n : Nat) : (numL n).all dig = true := List.all_eq_true.mpr fun c hc => by
  have := numL_digits n c hc
  unfold dig
  simp
  omega
theorem numL_no45 (n : Nat) : (numL n).take 1 ≠ [45] := by
  cases h : numL n with
  | nil => exact absurd h (numL_ne n)
  | cons c r =>
    intro z
    have z2 : c = 45 := by
      have z3 : [c] = [45] := z
      injection z3
    have := numL_digits n c (by rw [h]; exact List.mem_cons_self)
    omega
theorem isIn_istr {i : Int} (h1 : -9999 ≤ i) (h2 : i ≤ 9999) : isIn (istr i) = true := by
  unfold isIn isIntL
  rcases Int.lt_or_le i 0 with h | h
  · obtain ⟨n, rfl⟩ : ∃ n : Nat, i = -((n + 1 : Nat) : Int) := ⟨(-i).toNat - 1, by omega⟩
    rw [istr_neg]
    have hl := numL_len (n := n + 1) (k := 4) (by decide) (by omega)
    have hne := List.length_pos_iff.mpr (numL_ne (n + 1))
    have hh := numL_head (n + 1) (by omega)
    show (decide (1 ≤ (numL (n + 1)).length) && decide ((numL (n + 1)).length ≤ 4) && !(decide ((numL (n + 1)).head? = some 48) && _) && (numL (n + 1)).all dig) = true
    rw [decide_eq_true (show 1 ≤ (numL (n + 1)).length from hne), decide_eq_true hl, decide_eq_false hh, numL_dig]
    rfl
  · obtain ⟨n, rfl⟩ := Int.eq_ofNat_of_zero_le h
    rw [istr_nat]
    have hl := numL_len (n := n) (k := 4) (by decide) (by omega)
    have hne := List.length_pos_iff.mpr (numL_ne n)
    rw [if_neg (numL_no45 n)]
    show (decide (1 ≤ (numL n).length) && decide ((numL n).length ≤ 4) && !(decide ((numL n).head? = some 48) && decide (numL n ≠ [48])) && (numL n).all dig) = true
    rw [decide_eq_true (show 1 ≤ (numL n).length from hne), decide_eq_true hl, numL_dig]
    by_cases h0 : n = 0
    · subst h0
      rw [numL_lt (by omega)]
      rfl
    · rw [decide_eq_false (numL_head n h0)]
      rfl
theorem int_istr {i : Int} (h1 : -9999 ≤ i) (h2 : i ≤ 9999) : intText? (istr i) = some i := by
  rcases Int.lt_or_le i 0 with h | h
  · obtain ⟨n, rfl⟩ : ∃ n : Nat, i = -((n + 1 : Nat) : Int) := ⟨(-i).toNat - 1, by omega⟩
    have hl := numL_len (n := n + 1) (k := 4) (by decide) (by omega)
    have e := intText_neg (x := istr (-((n + 1 : Nat) : Int))) (cs := numL (n + 1)) (istr_neg n) (numL_digits _) (numL_ne _) (by rw [len_tl, istr_neg, List.length_cons]; omega)
    rw [e, numL_val]
  · obtain ⟨n, rfl⟩ := Int.eq_ofNat_of_zero_le h
    have hl := numL_len (n := n) (k := 4) (by decide) (by omega)
    exact int_num (n := n) (by omega)
theorem istr_len {i : Int} (h1 : -9999 ≤ i) (h2 : i ≤ 9999) : (istr i).length ≤ 5 := by
  rw [len_tl]
  rcases Int.lt_or_le i 0 with h | h
  · obtain ⟨n, rfl⟩ : ∃ n : Nat, i = -((n + 1 : Nat) : Int) := ⟨(-i).toNat - 1, by omega⟩
    have hl := numL_len (n := n + 1) (k := 4) (by decide) (by omega)
    rw [istr_neg, List.length_cons]
    omega
  · obtain ⟨n, rfl⟩ := Int.eq_ofNat_of_zero_le h
    have hl := numL_len (n := n) (k := 4) (by decide) (by omega)
    rw [istr_nat]
    omega
theorem istr_signs (i : Int) : ∀ c ∈ tl (istr i), c = 45 ∨ (48 ≤ c ∧ c ≤ 57) := by
  rcases Int.lt_or_le i 0 with h | h
  · obtain ⟨n, rfl⟩ : ∃ n : Nat, i = -((n + 1 : Nat) : Int) := ⟨(-i).toNat - 1, by omega⟩
    rw [istr_neg]
    intro c hc
    rcases List.mem_cons.mp hc with e | hc
    · exact .inl e
    · exact .inr (numL_digits _ c hc)
  · obtain ⟨n, rfl⟩ := Int.eq_ofNat_of_zero_le h
    rw [istr_nat]
    exact fun c hc => .inr (numL_digits _ c hc)
theorem nm_parts {s : Str} (h : isNm s = true) : 1 ≤ s.length ∧ s.length ≤ 8 ∧ s ∉ RS ∧ nmL (tl s) = true := by
  unfold isNm at h
  simp only [Bool.and_eq_true, decide_eq_true_eq, Bool.not_eq_true'] at h
  obtain ⟨⟨⟨a, b⟩, c⟩, d⟩ := h
  refine ⟨a, b, fun z => ?_, d⟩
  rw [List.contains_iff_mem.mpr z] at c
  cases c
theorem nm_signs {s : Str} (h : isNm s = true) : ∀ c ∈ tl s, (97 ≤ c ∧ c ≤ 122) ∨ (48 ≤ c ∧ c ≤ 57) := by
  obtain ⟨_, _, _, h⟩ := nm_parts h
  cases e : tl s with
  | nil =>
    intro c hc
    cases hc
  | cons d r =>
    rw [e] at h
    simp only [nmL, Bool.and_eq_true, List.all_eq_true, Bool.or_eq_true, low, dig, decide_eq_true_eq] at h
    intro c hc
    rcases List.mem_cons.mp hc with e2 | hc
    · rw [e2]
      exact .inl h.1
    · exact h.2 c hc
theorem nm_notIn {s : Str} (h : isNm s = true) : isIn s = false := by
  obtain ⟨_, _, _, h⟩ := nm_parts h
  unfold isIn isIntL
  cases e : tl s with
  | nil =>
    rw [e] at h
    cases h
  | cons d r =>
    rw [e] at h
    simp only [nmL, Bool.and_eq_true] at h
    have hd := low_dig h.1
    have h45 : ¬ (d :: r).take 1 = [45] := by
      intro z
      have z3 : [d] = [45] := z
      injection z3 with z4 _
      rw [z4] at h
      exact absurd h.1 (by decide)
    rw [if_neg h45]
    show (_ && (dig d && r.all dig)) = false
    rw [hd]
    simp
/-- a value's atoms are right -/
def Aok : Nat → T → Prop
  | _, .non => False
  | _, .int i => -9999 ≤ i ∧ i ≤ 9999
  | _, .str s => isNm s = true
  | 0, .tup _ => False
  | n + 1, .tup l => ∀ t ∈ l, Aok n t
  | _, _ => False
abbrev sO : Str := Str.ofString "["
abbrev sC : Str := Str.ofString "]"
abbrev sK : Str := Str.ofString ","
/-- items with commas between them -/
def listed : List (List Str) → List Str
  | [] => []
  | x :: r => x ++ r.flatMap fun y => sK :: y
theorem listed_snoc (l : List (List Str)) (y : List Str) : listed (l ++ [y]) = if l = [] then y else listed l ++ sK :: y := by
  cases l with
  | nil => simp [listed]
  | cons x r => simp [listed, List.append_assoc]

theorem listed_app (a b : List (List Str)) : listed (a ++ b) = listed a ++ (if a = [] then listed b else b.flatMap fun y => sK :: y) := by
  cases a with
  | nil => rfl
  | cons x r => simp [listed, List.append_assoc]
theorem listed_mem {l : List (List Str)} {y : List Str} (h : y ∈ l) : y.length ≤ (listed l).length := by
  cases l with
  | nil => cases h
  | cons x r =>
    show y.length ≤ (x ++ r.flatMap fun y => sK :: y).length
    rw [List.length_append]
    rcases List.mem_cons.mp h with e | h
    · rw [e]
      omega
    · have h2 : ∀ r : List (List Str), y ∈ r → y.length ≤ (r.flatMap fun y => sK :: y).length := by
        intro r
        induction r with
        | nil =>
          intro h
          cases h
        | cons z r ih =>
          intro h
          rw [List.flatMap_cons, List.length_append, List.length_cons]
          rcases List.mem_cons.mp h with e | h
          · rw [e]
            omega
          · have := ih h
            omega
      have := h2 r h
      omega
theorem listed_num (l : List (List Str)) (h : ∀ y ∈ l, 1 ≤ y.length) : l.length ≤ (listed l).length := by
  cases l with
  | nil => exact Nat.zero_le _
  | cons x r =>
    show r.length + 1 ≤ (x ++ r.flatMap fun y => sK :: y).length
    rw [List.length_append]
    have h1 := h x List.mem_cons_self
    have h2 : ∀ r : List (List Str), r.length ≤ (r.flatMap fun y => sK :: y).length := by
      intro r
      induction r with
      | nil => exact Nat.zero_le _
      | cons z r ih =>
        rw [List.flatMap_cons, List.length_append, List.length_cons, List.length_cons]
        omega
    have := h2 r
    omega
mutual
def vt : T → List Str
  | .non => []
  | .int i => [istr i]
  | .str s => [s]
  | .tup l => sO :: (listed (vtL l) ++ [sC])
  | _ => []
def vtL : List T → List (List Str)
  | [] => []
  | t :: l => vt t :: vtL l
end
theorem vtL_map : ∀ l : List T, vtL l = l.map vt
  | [] => rfl
  | t :: l => by
    show vt t :: vtL l = vt t :: l.map vt
    rw [vtL_map l]
theorem vt_tup (l : List T) : vt (.tup l) = sO :: (listed (l.map vt) ++ [sC]) := by
  show sO :: (listed (vtL l) ++ [sC]) = _
  rw [vtL_map]
theorem listed_len (l : List (List Str)) : (listed l).length + 1 ≤ (l.map fun x => x.length + 1).sum + 1 := by
  cases l with
  | nil => exact Nat.le_refl _
  | cons x r =>
    have h : ∀ r : List (List Str), (r.flatMap fun y => sK :: y).length = (r.map fun x => x.length + 1).sum := by
      intro r
      induction r with
      | nil => rfl
      | cons y r ih =>
        rw [List.flatMap_cons, List.length_append, ih, List.map_cons, List.sum_cons]
        rfl
    show (x ++ r.flatMap fun y => sK :: y).length + 1 ≤ _
    rw [List.length_append, h, List.map_cons, List.sum_cons]
    omega
theorem sum_le {l : List Nat} {b : Nat} (h : ∀ x ∈ l, x ≤ b) : l.sum ≤ l.length * b := by
  induction l with
  | nil => simp
  | cons x l ih =>
    have h1 := h x List.mem_cons_self
    have h2 := ih fun y hy => h y (List.mem_cons_of_mem _ hy)
    rw [List.sum_cons, List.length_cons, Nat.add_mul]
    omega
theorem vt_len {l : List T} {b : Nat} (h : ∀ t ∈ l, (vt t).length ≤ b) : (vt (.tup l)).length ≤ 2 + l.length * (b + 1) := by
  have h1 := listed_len (l.map vt)
  have h2 := sum_le (l := (l.map vt).map fun x => x.length + 1) (b := b + 1) (fun x hx => by
    rw [List.map_map] at hx
    obtain ⟨t, ht, rfl⟩ := List.mem_map.mp hx
    have := h t ht
    show (vt t).length + 1 ≤ b + 1
    omega)
  rw [List.length_map, List.length_map] at h2
  rw [vt_tup, List.length_cons, List.length_append, List.length_singleton]
  omega
theorem vt_pos : ∀ (n : Nat) (t : T), Aok n t → 1 ≤ (vt t).length
  | n, .non, h => by cases n <;> exact h.elim
  | n, .bl _, h => by cases n <;> exact h.elim
  | n, .lst _, h => by cases n <;> exact h.elim
  | n, .adr _, h => by cases n <;> exact h.elim
  | _, .int _, _ => Nat.le_refl _
  | _, .str _, _ => Nat.le_refl _
  | _, .tup l, _ => by
    rw [vt_tup, List.length_cons]
    omega
/-- all tokens of a right value: short, without blanks -/
def tkOk (s : Str) : Prop := s.length ≤ 8 ∧ 32 ∉ tl s
theorem vt_ok : ∀ (n : Nat) (t : T), Aok n t → ∀ s ∈ vt t, tkOk s
  | n, .non, h => by cases n <;> exact h.elim
  | n, .bl _, h => by cases n <;> exact h.elim
  | n, .lst _, h => by cases n <;> exact h.elim
  | n, .adr _, h => by cases n <;> exact h.elim
  | n, .int i, h => fun s hs => by
    have h : -9999 ≤ i ∧ i ≤ 9999 := by cases n <;> exact h
    rw [List.mem_singleton.mp hs]
    have h1 := istr_len h.1 h.2
    refine ⟨by omega, fun z => ?_⟩
    have := istr_signs i 32 z
    omega
  | n, .str x, h => fun s hs => by
    have h : isNm x = true := by cases n <;> exact h
    rw [List.mem_singleton.mp hs]
    refine ⟨(nm_parts h).2.1, fun z => ?_⟩
    have := nm_signs h 32 z
    omega
  | 0, .tup l, h => h.elim
  | n + 1, .tup l, h => fun s hs => by
    have ih : ∀ t ∈ l, ∀ s ∈ vt t, tkOk s := fun t ht => vt_ok n t (h t ht)
    rw [vt_tup] at hs
    have hO : tkOk sO := ⟨by decide +kernel, by decide +kernel⟩
    have hC : tkOk sC := ⟨by decide +kernel, by decide +kernel⟩
    have hK : tkOk sK := ⟨by decide +kernel, by decide +kernel⟩
    rcases List.mem_cons.mp hs with e | hs
    · rw [e]
      exact hO
    rcases List.mem_append.mp hs with hs | hs
    · have key : ∀ (m : List T), (∀ t ∈ m, t ∈ l) → ∀ s ∈ ((m.map vt).flatMap fun y => sK :: y), tkOk s := fun m hm s hs => by
        obtain ⟨y, hy, hs⟩ := List.mem_flatMap.mp hs
        obtain ⟨t, ht, rfl⟩ := List.mem_map.mp hy
        rcases List.mem_cons.mp hs with e | hs
        · rw [e]
          exact hK
        · exact ih t (hm t ht) s hs
      cases l with
      | nil => cases hs
      | cons t l =>
        rcases List.mem_append.mp hs with hs | hs
        · exact ih t List.mem_cons_self s hs
        · exact key l (fun u hu => List.mem_cons_of_mem _ hu) s hs
    · rw [List.mem_singleton.mp hs]
      exact hC

def cb : Nat → Nat
  | 0 => 1
  | n + 1 => 2 + 3 * (cb n + 1)
def Gd (n : Nat) (t : T) : Prop := Aok n t ∧ (vt t).length ≤ cb n
theorem aok_up : ∀ (n : Nat) (t : T), Aok n t → Aok (n + 1) t
  | n, .non, h => by cases n <;> exact h.elim
  | n, .bl _, h => by cases n <;> exact h.elim
  | n, .lst _, h => by cases n <;> exact h.elim
  | n, .adr _, h => by cases n <;> exact h.elim
  | n, .int i, h => by cases n <;> exact h
  | n, .str s, h => by cases n <;> exact h
  | 0, .tup l, h => h.elim
  | n + 1, .tup l, h => fun t ht => aok_up n t (h t ht)
theorem aok_le {n m : Nat} (h : n ≤ m) {t : T} (ha : Aok n t) : Aok m t := by
  obtain ⟨k, rfl⟩ := Nat.exists_eq_add_of_le h
  induction k with
  | zero => exact ha
  | succ k ih => exact aok_up _ _ (ih (by omega))
theorem gd_atom {n : Nat} {t : T} (h : Aok 0 t) (h2 : (vt t).length = 1) : Gd n t := ⟨aok_le (Nat.zero_le _) h, by
  rw [h2]
  cases n with
  | zero => exact Nat.le_refl _
  | succ n =>
    show 1 ≤ 2 + 3 * (cb n + 1)
    omega⟩
theorem gd_up {n : Nat} {l : List T} (h : ∀ t ∈ l, Gd n t) (hl : l.length ≤ 3) : Gd (n + 1) (.tup l) := ⟨fun t ht => (h t ht).1, by
  have h1 := vt_len fun t ht => (h t ht).2
  have h2 : l.length * (cb n + 1) ≤ 3 * (cb n + 1) := Nat.mul_le_mul_right _ hl
  show _ ≤ 2 + 3 * (cb n + 1)
  omega⟩
theorem let_pick {r : Int} {b : Nat} (h0 : 0 ≤ r) (h1 : r < (b : Int)) (hb : b ≤ 36) : ∃ c, atI letS.cps.toList r = some c ∧ (low c || dig c) = true ∧ c ∈ tl letS ∧ (b ≤ 26 → low c = true) := by
  obtain ⟨k, rfl⟩ := Int.eq_ofNat_of_zero_le h0
  have hl : (tl letS).length = 36 := by rw [← len_tl]; exact let_len
  have hk : k < (tl letS).length := by omega
  have h := let_low k hk
  exact ⟨(tl letS)[k], atI_nat (List.getElem?_eq_getElem hk), h.1, List.getElem_mem hk, fun hb => h.2 (by omega)⟩
theorem nmL_snoc {l : List Nat} {c : Nat} (h : nmL l = true) (hc : (low c || dig c) = true) : nmL (l ++ [c]) = true := by
  cases l with
  | nil => cases h
  | cons a r =>
    simp only [nmL, Bool.and_eq_true] at h
    show (low a && (r ++ [c]).all _) = true
    rw [List.all_append, h.1, h.2]
    simp [hc]
end Y

namespace Y
open PySem PySem.Spec PyProof.Rows L2 RT RZ TL PySem.NumText
/-! ### kinds and ways, with their tokens -/
abbrev sp1 : Str := Str.ofString " "
abbrev J (s : List Str) : Str := Txt.join sp1 s
abbrev w_num : Str := Str.ofString "num"
abbrev w_dd : Str := Str.ofString ".."
abbrev w_pick : Str := Str.ofString "pick"
abbrev w_opt : Str := Str.ofString "opt"
abbrev w_row : Str := Str.ofString "row"
abbrev w_of : Str := Str.ofString "of"
abbrev w_one : Str := Str.ofString "one"
abbrev w_rec : Str := Str.ofString "rec"
abbrev bO : Str := Str.ofString "{"
abbrev bC : Str := Str.ofString "}"
abbrev sCo : Str := Str.ofString ":"
abbrev sSe : Str := Str.ofString ";"
abbrev w_to : Str := Str.ofString "to"
abbrev w_by : Str := Str.ofString "by"
abbrev w_none : Str := Str.ofString "none"
def ib (i : Int) : Prop := -9999 ≤ i ∧ i ≤ 9999
/-- a field: its name, its kind, the kind's tokens -/
abbrev Fd : Type := Str × T × List Str
def fpT (p : Fd) : T := .tup [.str p.1, p.2.1]
def fpS (p : Fd) : List Str := p.1 :: sCo :: (p.2.2 ++ [sSe])
/-- a kind of at most n words, and its tokens -/
def Kt : Nat → T → List Str → Prop
  | 0, _, _ => False
  | n + 1, t, s =>
    (∃ i j, t = .tup [.str w_num, .int i, .int j] ∧ ib i ∧ ib j ∧ s = [w_num, istr i, w_dd, istr j]) ∨
    (∃ ns : List Str, t = .tup [.str w_pick, .tup (ns.map .str)] ∧ ns ≠ [] ∧ (∀ x ∈ ns, isNm x = true) ∧ s = w_pick :: bO :: (listed (ns.map fun x => [x]) ++ [bC])) ∨
    (∃ k s', t = .tup [.str w_opt, k] ∧ Kt n k s' ∧ s = w_opt :: s') ∨
    (∃ k i s', t = .tup [.str w_row, k, .int i] ∧ ib i ∧ Kt n k s' ∧ s = w_row :: istr i :: w_of :: s') ∨
    (∃ (w : Str) (l : List Fd), (w = w_one ∨ w = w_rec) ∧ t = .tup [.str w, .tup (l.map fpT)] ∧ (∀ p ∈ l, isNm p.1 = true ∧ Kt n p.2.1 p.2.2) ∧ s = w :: bO :: (l.flatMap fpS ++ [bC]))
/-- an end of a trio, and its token -/
def Ed (t : T) (e : Str) : Prop := (t = .non ∧ e = w_none) ∨ (∃ i, t = .int i ∧ ib i ∧ e = istr i) ∨ (t = .str e ∧ isNm e = true)
abbrev Tr : Type := (T × Str) × (T × Str) × T × List Str
def trT (p : Tr) : T := .tup [p.1.1, p.2.1.1, p.2.2.1]
def trS (p : Tr) : List Str := p.1.2 :: w_to :: p.2.1.2 :: w_by :: (p.2.2.2 ++ [sSe])
abbrev w_same : Str := Str.ofString "same"
abbrev w_rank : Str := Str.ofString "rank"
abbrev w_clip : Str := Str.ofString "clip"
abbrev w_table : Str := Str.ofString "table"
abbrev w_apart : Str := Str.ofString "apart"
abbrev w_some : Str := Str.ofString "some"
abbrev w_must : Str := Str.ofString "must"
abbrev w_each : Str := Str.ofString "each"
abbrev w_arms : Str := Str.ofString "arms"
abbrev w_parts : Str := Str.ofString "parts"
/-- a way of at most n words, and its tokens -/
def Wt : Nat → T → List Str → Prop
  | 0, _, _ => False
  | n + 1, t, s =>
    (∃ w, (w = w_same ∨ w = w_rank ∨ w = w_clip) ∧ t = .tup [.str w] ∧ s = [w]) ∨
    (∃ w u v, (w = w_table ∨ w = w_apart) ∧ t = .tup [.str w, u, v] ∧ Gd 2 u ∧ Gd 2 v ∧ s = w :: (vt u ++ vt v)) ∨
    (∃ w k v s', (w = w_some ∨ w = w_must) ∧ t = .tup [.str w, k, v] ∧ Gd 2 v ∧ Wt n k s' ∧ s = w :: (vt v ++ s')) ∨
    (∃ w k s', (w = w_opt ∨ w = w_each) ∧ t = .tup [.str w, k] ∧ Wt n k s' ∧ s = w :: s') ∨
    (∃ (w : Str) (l : List Tr), (w = w_arms ∨ w = w_parts) ∧ t = .tup [.str w, .tup (l.map trT)] ∧ (∀ p ∈ l, Ed p.1.1 p.1.2 ∧ Ed p.2.1.1 p.2.1.2 ∧ Wt n p.2.2.1 p.2.2.2) ∧ s = w :: bO :: (l.flatMap trS ++ [bC]))
theorem istr_tk {i : Int} (h : ib i) : tkOk (istr i) := by
  have h1 := istr_len h.1 h.2
  refine ⟨by omega, fun z => ?_⟩
  have := istr_signs i 32 z
  omega
theorem nm_tk {x : Str} (h : isNm x = true) : tkOk x := by
  refine ⟨(nm_parts h).2.1, fun z => ?_⟩
  have := nm_signs h 32 z
  omega
theorem words_tk : ∀ w ∈ [w_num, w_dd, w_pick, w_opt, w_row, w_of, w_one, w_rec, bO, bC, sCo, sSe, w_to, w_by, w_none, w_same, w_rank, w_clip, w_table, w_apart, w_some, w_must, w_each, w_arms, w_parts, sK], tkOk w := by
  have h : ([w_num, w_dd, w_pick, w_opt, w_row, w_of, w_one, w_rec, bO, bC, sCo, sSe, w_to, w_by, w_none, w_same, w_rank, w_clip, w_table, w_apart, w_some, w_must, w_each, w_arms, w_parts, sK].all fun w => decide (w.length ≤ 8) && !(tl w).contains 32) = true := by decide +kernel
  intro w hw
  have h2 := List.all_eq_true.mp h w hw
  simp only [Bool.and_eq_true, decide_eq_true_eq, Bool.not_eq_true'] at h2
  refine ⟨h2.1, fun z => ?_⟩
  rw [List.contains_iff_mem.mpr z] at h2
  cases h2.2
theorem kt_ne {n : Nat} {t : T} {s : List Str} (h : Kt n t s) : s ≠ [] := by
  cases n with
  | zero => exact h.elim
  | succ n => rcases h with ⟨_, _, _, _, _, rfl⟩ | ⟨_, _, _, _, rfl⟩ | ⟨_, _, _, _, rfl⟩ | ⟨_, _, _, _, _, _, rfl⟩ | ⟨_, _, _, _, _, rfl⟩ <;> simp
theorem wt_ne {n : Nat} {t : T} {s : List Str} (h : Wt n t s) : s ≠ [] := by
  cases n with
  | zero => exact h.elim
  | succ n => rcases h with ⟨_, _, _, rfl⟩ | ⟨_, _, _, _, _, _, _, rfl⟩ | ⟨_, _, _, _, _, _, _, _, rfl⟩ | ⟨_, _, _, _, _, _, rfl⟩ | ⟨_, _, _, _, _, rfl⟩ <;> simp
theorem listed_mem2 {l : List (List Str)} {x : Str} (h : x ∈ listed l) : x = sK ∨ ∃ y ∈ l, x ∈ y := by
  cases l with
  | nil => cases h
  | cons a r =>
    rcases List.mem_append.mp h with h | h
    · exact .inr ⟨a, List.mem_cons_self, h⟩
    · obtain ⟨y, hy, h⟩ := List.mem_flatMap.mp h
      rcases List.mem_cons.mp h with e | h
      · exact .inl e
      · exact .inr ⟨y, List.mem_cons_of_mem _ hy, h⟩
theorem kt_ok : ∀ (n : Nat) (t : T) (s : List Str), Kt n t s → ∀ x ∈ s, tkOk x
  | 0, _, _, h => h.elim
  | n + 1, t, s, h => by
    have wd := words_tk
    simp only [List.mem_cons, List.not_mem_nil, or_false, forall_eq_or_imp, forall_eq] at wd
    rcases h with ⟨i, j, rfl, hi, hj, rfl⟩ | ⟨ns, rfl, _, hn, rfl⟩ | ⟨k, s', rfl, hk, rfl⟩ | ⟨k, i, s', rfl, hi, hk, rfl⟩ | ⟨w, l, hw, rfl, hl, rfl⟩
    · intro x hx
      simp only [List.mem_cons, List.not_mem_nil, or_false] at hx
      rcases hx with rfl | rfl | rfl | rfl
      · exact wd.1
      · exact istr_tk hi
      · exact wd.2.1
      · exact istr_tk hj
    · intro x hx
      rcases List.mem_cons.mp hx with rfl | hx
      · exact words_tk _ (by simp)
      rcases List.mem_cons.mp hx with rfl | hx
      · exact words_tk _ (by simp)
      rcases List.mem_append.mp hx with hx | hx
      · rcases listed_mem2 hx with rfl | ⟨y, hy, hx⟩
        · exact words_tk _ (by simp)
        · obtain ⟨z, hz, rfl⟩ := List.mem_map.mp hy
          rw [List.mem_singleton.mp hx]
          exact nm_tk (hn z hz)
      · rw [List.mem_singleton.mp hx]
        exact words_tk _ (by simp)
    · intro x hx
      rcases List.mem_cons.mp hx with rfl | hx
      · exact words_tk _ (by simp)
      · exact kt_ok n k s' hk x hx
    · intro x hx
      rcases List.mem_cons.mp hx with rfl | hx
      · exact words_tk _ (by simp)
      rcases List.mem_cons.mp hx with rfl | hx
      · exact istr_tk hi
      rcases List.mem_cons.mp hx with rfl | hx
      · exact words_tk _ (by simp)
      · exact kt_ok n k s' hk x hx
    · intro x hx
      rcases List.mem_cons.mp hx with rfl | hx
      · rcases hw with rfl | rfl <;> exact words_tk _ (by simp)
      rcases List.mem_cons.mp hx with rfl | hx
      · exact words_tk _ (by simp)
      rcases List.mem_append.mp hx with hx | hx
      · obtain ⟨p, hp, hx⟩ := List.mem_flatMap.mp hx
        rcases List.mem_cons.mp hx with rfl | hx
        · exact nm_tk (hl p hp).1
        rcases List.mem_cons.mp hx with rfl | hx
        · exact words_tk _ (by simp)
        rcases List.mem_append.mp hx with hx | hx
        · exact kt_ok n _ _ (hl p hp).2 x hx
        · rw [List.mem_singleton.mp hx]
          exact words_tk _ (by simp)
      · rw [List.mem_singleton.mp hx]
        exact words_tk _ (by simp)
theorem ed_tk {t : T} {e : Str} (h : Ed t e) : tkOk e := by
  rcases h with ⟨_, rfl⟩ | ⟨i, _, hi, rfl⟩ | ⟨_, h⟩
  · exact words_tk _ (by simp)
  · exact istr_tk hi
  · exact nm_tk h
theorem wt_ok : ∀ (n : Nat) (t : T) (s : List Str), Wt n t s → ∀ x ∈ s, tkOk x
  | 0, _, _, h => h.elim
  | n + 1, t, s, h => by
    rcases h with ⟨w, hw, rfl, rfl⟩ | ⟨w, u, v, hw, rfl, hu, hv, rfl⟩ | ⟨w, k, v, s', hw, rfl, hv, hk, rfl⟩ | ⟨w, k, s', hw, rfl, hk, rfl⟩ | ⟨w, l, hw, rfl, hl, rfl⟩
    · intro x hx
      rw [List.mem_singleton.mp hx]
      rcases hw with rfl | rfl | rfl <;> exact words_tk _ (by simp)
    · intro x hx
      rcases List.mem_cons.mp hx with rfl | hx
      · rcases hw with rfl | rfl <;> exact words_tk _ (by simp)
      rcases List.mem_append.mp hx with hx | hx
      · exact vt_ok 2 u hu.1 x hx
      · exact vt_ok 2 v hv.1 x hx
    · intro x hx
      rcases List.mem_cons.mp hx with rfl | hx
      · rcases hw with rfl | rfl <;> exact words_tk _ (by simp)
      rcases List.mem_append.mp hx with hx | hx
      · exact vt_ok 2 v hv.1 x hx
      · exact wt_ok n k s' hk x hx
    · intro x hx
      rcases List.mem_cons.mp hx with rfl | hx
      · rcases hw with rfl | rfl <;> exact words_tk _ (by simp)
      · exact wt_ok n k s' hk x hx
    · intro x hx
      rcases List.mem_cons.mp hx with rfl | hx
      · rcases hw with rfl | rfl <;> exact words_tk _ (by simp)
      rcases List.mem_cons.mp hx with rfl | hx
      · exact words_tk _ (by simp)
      rcases List.mem_append.mp hx with hx | hx
      · obtain ⟨p, hp, hx⟩ := List.mem_flatMap.mp hx
        rcases List.mem_cons.mp hx with rfl | hx
        · exact ed_tk (hl p hp).1
        rcases List.mem_cons.mp hx with rfl | hx
        · exact words_tk _ (by simp)
        rcases List.mem_cons.mp hx with rfl | hx
        · exact ed_tk (hl p hp).2.1
        rcases List.mem_cons.mp hx with rfl | hx
        · exact words_tk _ (by simp)
        rcases List.mem_append.mp hx with hx | hx
        · exact wt_ok n _ _ (hl p hp).2.2 x hx
        · rw [List.mem_singleton.mp hx]
          exact words_tk _ (by simp)
      · rw [List.mem_singleton.mp hx]
        exact words_tk _ (by simp)
/-! texts with blanks between the tokens -/
theorem sapp (a b c : Str) : (a ++ b) ++ c = a ++ (b ++ c) := ext_tl (by rw [tl_append, tl_append, tl_append, tl_append, List.append_assoc])
theorem J_one (a : Str) : J [a] = a := by
  rw [J, join_eq]
  rfl
theorem J_cons (a : Str) {s : List Str} (h : s ≠ []) : J (a :: s) = a ++ (sp1 ++ J s) := by
  cases s with
  | nil => exact absurd rfl h
  | cons b r =>
    rw [J, J, join_eq, join_eq]
    show a ++ sp1 ++ Str.join sp1 (b :: r) = _
    rw [sapp]
theorem J_app {a b : List Str} (ha : a ≠ []) (hb : b ≠ []) : J (a ++ b) = J a ++ (sp1 ++ J b) := by
  induction a with
  | nil => exact absurd rfl ha
  | cons x a ih =>
    cases a with
    | nil =>
      rw [List.singleton_append, J_cons x hb, J_one]
    | cons y a =>
      rw [List.cons_append, J_cons x (by simp), ih (by simp), J_cons x (by simp), sapp, sapp]
theorem join_len (toks : List Str) (h : ∀ s ∈ toks, tkOk s) : (J toks).length ≤ 9 * toks.length := by
  rw [J, join_eq]
  have hs : ∀ s ∈ toks, s.length ≤ 8 := fun s hs => (h s hs).1
  have ssp : tl sp1 = [32] := by decide +kernel
  clear h
  induction toks with
  | nil => exact Nat.zero_le _
  | cons x r ih =>
    have hx := hs x List.mem_cons_self
    have ih := ih fun s h => hs s (List.mem_cons_of_mem _ h)
    rw [len_tl, tl_join] at ih ⊢
    rw [len_tl] at hx
    cases r with
    | nil =>
      show (tl x).length ≤ 9 * 1
      omega
    | cons y r =>
      show (tl x ++ (tl sp1 ++ joinL (tl sp1) ((y :: r).map tl))).length ≤ _
      rw [List.length_append, List.length_append, ssp, List.length_cons]
      rw [ssp] at ih
      rw [List.length_cons] at ih ⊢
      show (tl x).length + (1 + (joinL [32] ((y :: r).map tl)).length) ≤ _
      rw [List.length_cons]
      omega
theorem choose_map {α β : Type} {f : β → α} {P : β → Prop} : ∀ {l : List α}, (∀ t ∈ l, ∃ p, t = f p ∧ P p) → ∃ ps : List β, l = ps.map f ∧ ∀ p ∈ ps, P p
  | [], _ => ⟨[], rfl, fun p h => by cases h⟩
  | t :: l, h => by
    obtain ⟨p, rfl, hp⟩ := h t List.mem_cons_self
    obtain ⟨ps, rfl, hps⟩ := choose_map (l := l) fun u hu => h u (List.mem_cons_of_mem _ hu)
    refine ⟨p :: ps, rfl, fun q hq => ?_⟩
    rcases List.mem_cons.mp hq with e | hq
    · rw [e]
      exact hp
    · exact hps q hq

end Y

namespace Y
open PySem PySem.Spec PyProof.Rows L2 RT RZ TL PySem.NumText
/-- a list of texts, as data -/
abbrev LT (s : List Str) : T := .lst (s.map .str)
def pfListed : PSp := fun ts Φ => ∃ xs : List (List Str), ts = [.lst (xs.map LT)] ∧ (listed xs).length ≤ 10000000 ∧ Φ (LT (listed xs)) true
def pfVT (n : Nat) : PSp := fun ts Φ => ∃ t, ts = [t] ∧ Aok n t ∧ (vt t).length ≤ 10000000 ∧ Φ (LT (vt t)) true
def pfVT0 : Nat → PSp
  | 0 => fun _ _ => False
  | n + 1 => pfVT n
def pfEnd : PSp := fun ts Φ => ∃ t e, ts = [t] ∧ Ed t e ∧ Φ (.str e) false
def pfFT (n : Nat) : PSp := fun ts Φ => ∃ l : List Fd, ts = [.tup (l.map fpT)] ∧ (∀ p ∈ l, isNm p.1 = true ∧ Kt n p.2.1 p.2.2) ∧ (l.flatMap fpS).length ≤ 10000000 ∧ Φ (LT (l.flatMap fpS)) true
def pfKT (n : Nat) : PSp := fun ts Φ => ∃ t s, ts = [t] ∧ Kt n t s ∧ s.length ≤ 10000000 ∧ Φ (LT s) true
def pfTT (n : Nat) : PSp := fun ts Φ => ∃ l : List Tr, ts = [.tup (l.map trT)] ∧ (∀ p ∈ l, Ed p.1.1 p.1.2 ∧ Ed p.2.1.1 p.2.1.2 ∧ Wt n p.2.2.1 p.2.2.2) ∧ (l.flatMap trS).length ≤ 10000000 ∧ Φ (LT (l.flatMap trS)) true
def pfWT (n : Nat) : PSp := fun ts Φ => ∃ t s, ts = [t] ∧ Wt n t s ∧ s.length ≤ 10000000 ∧ Φ (LT s) true
def pfWK (n : Nat) : PSp := fun ts Φ => ∃ t s, ts = [t] ∧ Kt n t s ∧ s.length ≤ 100000 ∧ Φ (.str (J s)) false
def pfWW (n : Nat) : PSp := fun ts Φ => ∃ t s, ts = [t] ∧ Wt n t s ∧ s.length ≤ 100000 ∧ Φ (.str (J s)) false
theorem listed_take (ts : List (List Str)) (i : Nat) : (listed (ts.take i)).length ≤ (listed ts).length := by
  have e : listed ts = listed (ts.take i) ++ (if ts.take i = [] then listed (ts.drop i) else (ts.drop i).flatMap fun y => sK :: y) := by
    have := listed_app (ts.take i) (ts.drop i)
    rwa [List.take_append_drop] at this
  rw [e, List.length_append]
  omega
theorem listed_step (ts : List (List Str)) {i : Nat} (hit : i < ts.length) : listed (ts.take (i + 1)) = (if i = 0 then [] else listed (ts.take i) ++ [sK]) ++ ts[i] := by
  rw [List.take_add_one, List.getElem?_eq_getElem hit]
  show listed (ts.take i ++ [ts[i]]) = _
  rw [listed_snoc]
  by_cases h0 : i = 0
  · subst h0
    rfl
  · rw [if_neg h0, if_neg (fun z => h0 (by
      have z2 := congrArg List.length z
      rw [List.length_take, List.length_nil] at z2
      omega)), List.append_assoc]
    rfl
theorem fm_take {α : Type} (f : α → List Str) (l : List α) (i : Nat) : ((l.take i).flatMap f).length ≤ (l.flatMap f).length := by
  have e := congrArg (fun z => (z.flatMap f).length) (List.take_append_drop i l)
  simp only [List.flatMap_append, List.length_append] at e
  omega
theorem fm_step {α : Type} (f : α → List Str) (l : List α) {i : Nat} (h : i < l.length) : (l.take (i + 1)).flatMap f = (l.take i).flatMap f ++ f l[i] := by
  rw [List.take_add_one, List.getElem?_eq_getElem h, List.flatMap_append]
  show _ ++ [l[i]].flatMap f = _
  rw [List.flatMap_singleton]
theorem map_get {α β : Type} {f : α → β} {l : List α} {i : Nat} {t : β} (e : (l.map f)[i]? = some t) : ∃ h : i < l.length, t = f l[i] := by
  rw [List.getElem?_map] at e
  have h : i < l.length := by
    cases z : l[i]? with
    | none => rw [z] at e; cases e
    | some x => exact (List.getElem?_eq_some_iff.mp z).1
  rw [List.getElem?_eq_getElem h] at e
  exact ⟨h, (Option.some.inj e).symm⟩
theorem log_ib {i : Int} (h : ib i) : i.natAbs.log2 < 1920 := Nat.lt_of_lt_of_le (PySem.Flt.log2_lt_of (n := i.natAbs) (k := 14) (by decide) (by have := h.1; have := h.2; omega)) (by decide)
section
variable {P : Program} {w : World} {K : PySem.W.Frag} {mg : Str → Option Value} {base : Heap}
theorem ok_listed {W : Wld} {k : Nat}  (D : Df K mg "_listed" s_listed) (m_enumerate : mg "enumerate" = none) :
    CalQ P w K mg base (W) "_listed" (k + 1) ["items"] (pfListed) := by
  refine CalQ.mk D sc_listed (fun _ _ _ _ _ _ us h => match us, h with | [_], _ => rfl) (fun ts Φ h => by first | (obtain ⟨rfl, _⟩ := h; rfl) | (obtain ⟨_, rfl, _⟩ := h; rfl) | (obtain ⟨_, _, rfl, _⟩ := h; rfl) | (obtain ⟨_, _, _, rfl, _⟩ := h; rfl) | (obtain ⟨_, _, _, _, rfl, _⟩ := h; rfl)) (fun f cdv A outer s H E hr => ?_)
  refine ⟨_, qss_cons (qs_set (i := 1) sc_listed.nd rfl (.inl rfl) (qe_lst qa_nil))
    (qss_cons (qs_for (passes_of rfl) rfl (qi_enum (by rfl) m_enumerate (qe_name (pv 0))) (qg_tup rfl (qgs_cons (qg_name (pg_name (i := 2) sc_listed.nd rfl (.inl rfl))) (qgs_cons (qg_name (pg_name (i := 3) sc_listed.nd rfl (.inl rfl))) qgs_nil)) (len_cons ex_name (len_cons ex_name len_nil)))
    (qss_cons (qs_if (qt_cmp oq_gt (qe_name (pv 2)) qe_int (nomark _))
      (qss_one (qs_expr (qe_mut PySem.F.slot_list_append PySem.F.type_list_append mq_append (pv 1) (qa_cons qe_str qa_nil))))
      (qss_nil))
      (qss_one (qs_expr (qe_mut PySem.F.slot_list_extend PySem.F.type_list_extend mq_extend (pv 1) (qa_cons (qe_name (pv 3)) qa_nil))))))
    (qss_one (qs_retV (pv 1)))), ?_⟩
  intro ts Φ h
  obtain ⟨xs, rfl, hl, h⟩ := h
  simp only [↓reduceIte, ↓sSeq, ↓sAsg, ↓sIf, ↓sRet, ↓sRetN, ↓sExpr, ↓sNext, ↓sBreak, ↓sCont, ↓sAug, ↓sFor, ↓gN, ↓pIx, ↓pC, ↓pTup, ↓pLst, ↓pCons, ↓pNil, ↓pStar, ↓pOp, ↓pTB, ↓pTru, ↓pTAnd, ↓pTOr, ↓pTNot, ↓pAndV, ↓pOrV, ↓pNotV, ↓pIf, ↓pCall, ↓pLen, ↓pIsi, ↓pDget, ↓gDset, ↓gSubT, ↓PEq, ↓PNe, ↓pChain, ↓pNeg, ↓pSl, ↓pNoPart, ↓pPart, ↓pIter, ↓pRng1, ↓pRng2, ↓pEnum, ↓pRev, ↓pZip, ↓pMet, ↓pMet0, ↓pMut, ↓pLc, ↓pLRng1, ↓pLRng2, ↓pYes, ↓pRE, ↓startP, ↓pWords, ↓pSplit, ↓gLt, ↓gLe, ↓gGt, ↓gGe, ↓pV_f0, ↓pV_o0, ↓pRV_f0, ↓pRV_o0, ↓lk_f0, ↓lk_o0, ↓sRV_f0, ↓sRV_o0, ↓pV_f1, ↓pV_o1, ↓pRV_f1, ↓pRV_o1, ↓lk_f1, ↓lk_o1, ↓sRV_f1, ↓sRV_o1, ↓pV_f2, ↓pV_o2, ↓pRV_f2, ↓pRV_o2, ↓lk_f2, ↓lk_o2, ↓sRV_f2, ↓sRV_o2, ↓pV_f3, ↓pV_o3, ↓pRV_f3, ↓pRV_o3, ↓lk_f3, ↓lk_o3, ↓sRV_f3, ↓sRV_o3, ↓pV_f4, ↓pV_o4, ↓pRV_f4, ↓pRV_o4, ↓lk_f4, ↓lk_o4, ↓sRV_f4, ↓sRV_o4, ↓pV_f5, ↓pV_o5, ↓pRV_f5, ↓pRV_o5, ↓lk_f5, ↓lk_o5, ↓sRV_f5, ↓sRV_o5, ↓pV_f6, ↓pV_o6, ↓pRV_f6, ↓pRV_o6, ↓lk_f6, ↓lk_o6, ↓sRV_f6, ↓sRV_o6, ↓pV_f7, ↓pV_o7, ↓pRV_f7, ↓pRV_o7, ↓lk_f7, ↓lk_o7, ↓sRV_f7, ↓sRV_o7, ↓pV_f8, ↓pV_o8, ↓pRV_f8, ↓pRV_o8, ↓lk_f8, ↓lk_o8, ↓sRV_f8, ↓sRV_o8, ↓pV_f9, ↓pV_o9, ↓pRV_f9, ↓pRV_o9, ↓lk_f9, ↓lk_o9, ↓sRV_f9, ↓sRV_o9, ↓pV_f10, ↓pV_o10, ↓pRV_f10, ↓pRV_o10, ↓lk_f10, ↓lk_o10, ↓sRV_f10, ↓sRV_o10, ↓pV_f11, ↓pV_o11, ↓pRV_f11, ↓pRV_o11, ↓lk_f11, ↓lk_o11, ↓sRV_f11, ↓sRV_o11, ↓pV_f12, ↓pV_o12, ↓pRV_f12, ↓pRV_o12, ↓lk_f12, ↓lk_o12, ↓sRV_f12, ↓sRV_o12, ↓pV_f13, ↓pV_o13, ↓pRV_f13, ↓pRV_o13, ↓lk_f13, ↓lk_o13, ↓sRV_f13, ↓sRV_o13, ↓lk_fz, ↓of_fn, ↓of_fb, ↓of_fi, ↓of_fs, ↓of_ft, ↓of_fl, ↓of_ol, ↓of_ff, ↓ad_i, ↓ad_s, ↓ad_l, ↓ad_t, ↓su_i, ↓mu_i, ↓mu_l, ↓mo_i, ↓fd_i, ↓pw_i, ↓an_i, ↓ci_i, ↓is_n, ↓is_nn, ↓in_t, ↓in_l, ↓in_s, ↓ix_l, ↓ix_t, ↓ix_s, ↓sl_l, ↓sl_t, ↓sl_s, ↓kn_i, ↓kp_i, ↓kr1, ↓kr2, ↓ke_l, ↓kz_l, ↓kz_t, ↓klr1, ↓klr2, ↓gt_e, ↓gs_n, ↓gs_c, nc_0, nc_1, nc_2, nc_3, nc_4, nc_5, nc_6, nc_7, nc_8, nc_9, nc_10, nc_11, nc_12, eq_ii, eq_ss, eq_nn, eq_bb, eq_st, eq_ts, eq_si, eq_is, eq_it, eq_ti, cmp_i, cmp_b, cmp_n, sc_i, sc_s, sc_b, sc_n, flat_i, flat_s, flat_b, flat_n, tru_n, tru_b, tru_i, tru_t, tru_l, items_t, items_l, len_t, len_l, iter_t, iter_l, isN_n, isN_i, isN_s, isN_t, isN_l, isN_b, at_0, at_1, at_2, at_3, ib_tn, ib_tb, ib_ti, ib_ts, ib_tt, ib_tl, ib_sn, ib_sb, ib_si, ib_ss, ib_st, ib_sl, ib_in, ib_ib, ib_ii, ib_is, ib_it, ib_il, ib_bn, ib_bb, ib_bi, ib_bs, ib_bt, ib_bl, na_n, na_b, na_i, na_s, na_t, na_l, List.getElem?_cons_zero, List.getElem?_cons_succ, List.set_cons_zero, List.set_cons_succ, List.map_cons, List.map_nil, List.length_cons, List.length_nil, List.replicate_succ, List.replicate_zero, List.cons_append, List.nil_append, List.append_nil, List.isEmpty_nil, List.isEmpty_cons, List.cons.injEq, Option.some.injEq, T.int.injEq, T.str.injEq, T.bl.injEq, T.tup.injEq, T.lst.injEq, T.adr.injEq, Sl.fz.injEq, Sl.ow.injEq, exists_eq_left, exists_eq_left', exists_eq_right, exists_eq_right', exists_eq, exists_eq', exists_and_left, exists_and_right, exists_const, exists_false, and_true, true_and, and_false, false_and, or_true, true_or, or_false, false_or, not_true_eq_false, not_false_eq_true, if_true, if_false, ite_true, ite_false, Bool.not_true, Bool.not_false, Bool.true_or, Bool.or_true, Bool.false_or, Bool.or_false, Bool.true_and, Bool.and_true, Bool.false_and, Bool.and_false, Bool.false_eq_true, Bool.true_eq_false, eq_self, decide_eq_true_eq, decide_true, decide_false, Bool.decide_eq_true, Bool.not_eq_true, decide_eq_false_iff_not, Bool.and_eq_true, Bool.or_eq_true, Bool.not_eq_true', reduceCtorEq, ne_eq, Nat.le_refl, Nat.reduceAdd, Nat.reduceSub, Nat.reduceLeDiff, Nat.reduceLT, implies_true, forall_const, List.any_cons, List.any_nil, List.all_cons, List.all_nil, wipeP, restore, List.getD_eq_getElem?_getD, Option.getD_some, List.mem_singleton, forall_eq, Int.reduceLT, Int.reduceLE, Int.reduceNeg, Int.reduceSub, Int.reduceAdd, Int.reduceToNat, Int.reduceEq, Int.reduceNe, String.reduceEq, and_self, or_self]
  refine ⟨fun i ρ => ∃ a b, ρ = [.fz (.lst (xs.map LT)), .ow ((listed (xs.take i)).map .str), a, b], ⟨_, _, rfl⟩, ?_, ?_⟩
  · rintro i t ρ2 e ⟨a, b, rfl⟩
    have hi : i < xs.length := by
      have := (List.getElem?_eq_some_iff.mp e).1
      rwa [List.length_mapIdx, List.length_map] at this
    have et : t = .tup [.int (i : Nat), LT xs[i]] := by
      rw [List.getElem?_mapIdx, List.getElem?_map, List.getElem?_eq_getElem hi] at e
      exact (Option.some.inj e).symm
    subst et
    have b1 := listed_take xs (i + 1)
    have st := listed_step xs hi
    rw [st, List.length_append] at b1
    simp only [↓reduceIte, ↓sSeq, ↓sAsg, ↓sIf, ↓sRet, ↓sRetN, ↓sExpr, ↓sNext, ↓sBreak, ↓sCont, ↓sAug, ↓sFor, ↓gN, ↓pIx, ↓pC, ↓pTup, ↓pLst, ↓pCons, ↓pNil, ↓pStar, ↓pOp, ↓pTB, ↓pTru, ↓pTAnd, ↓pTOr, ↓pTNot, ↓pAndV, ↓pOrV, ↓pNotV, ↓pIf, ↓pCall, ↓pLen, ↓pIsi, ↓pDget, ↓gDset, ↓gSubT, ↓PEq, ↓PNe, ↓pChain, ↓pNeg, ↓pSl, ↓pNoPart, ↓pPart, ↓pIter, ↓pRng1, ↓pRng2, ↓pEnum, ↓pRev, ↓pZip, ↓pMet, ↓pMet0, ↓pMut, ↓pLc, ↓pLRng1, ↓pLRng2, ↓pYes, ↓pRE, ↓startP, ↓pWords, ↓pSplit, ↓gLt, ↓gLe, ↓gGt, ↓gGe, ↓pV_f0, ↓pV_o0, ↓pRV_f0, ↓pRV_o0, ↓lk_f0, ↓lk_o0, ↓sRV_f0, ↓sRV_o0, ↓pV_f1, ↓pV_o1, ↓pRV_f1, ↓pRV_o1, ↓lk_f1, ↓lk_o1, ↓sRV_f1, ↓sRV_o1, ↓pV_f2, ↓pV_o2, ↓pRV_f2, ↓pRV_o2, ↓lk_f2, ↓lk_o2, ↓sRV_f2, ↓sRV_o2, ↓pV_f3, ↓pV_o3, ↓pRV_f3, ↓pRV_o3, ↓lk_f3, ↓lk_o3, ↓sRV_f3, ↓sRV_o3, ↓pV_f4, ↓pV_o4, ↓pRV_f4, ↓pRV_o4, ↓lk_f4, ↓lk_o4, ↓sRV_f4, ↓sRV_o4, ↓pV_f5, ↓pV_o5, ↓pRV_f5, ↓pRV_o5, ↓lk_f5, ↓lk_o5, ↓sRV_f5, ↓sRV_o5, ↓pV_f6, ↓pV_o6, ↓pRV_f6, ↓pRV_o6, ↓lk_f6, ↓lk_o6, ↓sRV_f6, ↓sRV_o6, ↓pV_f7, ↓pV_o7, ↓pRV_f7, ↓pRV_o7, ↓lk_f7, ↓lk_o7, ↓sRV_f7, ↓sRV_o7, ↓pV_f8, ↓pV_o8, ↓pRV_f8, ↓pRV_o8, ↓lk_f8, ↓lk_o8, ↓sRV_f8, ↓sRV_o8, ↓pV_f9, ↓pV_o9, ↓pRV_f9, ↓pRV_o9, ↓lk_f9, ↓lk_o9, ↓sRV_f9, ↓sRV_o9, ↓pV_f10, ↓pV_o10, ↓pRV_f10, ↓pRV_o10, ↓lk_f10, ↓lk_o10, ↓sRV_f10, ↓sRV_o10, ↓pV_f11, ↓pV_o11, ↓pRV_f11, ↓pRV_o11, ↓lk_f11, ↓lk_o11, ↓sRV_f11, ↓sRV_o11, ↓pV_f12, ↓pV_o12, ↓pRV_f12, ↓pRV_o12, ↓lk_f12, ↓lk_o12, ↓sRV_f12, ↓sRV_o12, ↓pV_f13, ↓pV_o13, ↓pRV_f13, ↓pRV_o13, ↓lk_f13, ↓lk_o13, ↓sRV_f13, ↓sRV_o13, ↓lk_fz, ↓of_fn, ↓of_fb, ↓of_fi, ↓of_fs, ↓of_ft, ↓of_fl, ↓of_ol, ↓of_ff, ↓ad_i, ↓ad_s, ↓ad_l, ↓ad_t, ↓su_i, ↓mu_i, ↓mu_l, ↓mo_i, ↓fd_i, ↓pw_i, ↓an_i, ↓ci_i, ↓is_n, ↓is_nn, ↓in_t, ↓in_l, ↓in_s, ↓ix_l, ↓ix_t, ↓ix_s, ↓sl_l, ↓sl_t, ↓sl_s, ↓kn_i, ↓kp_i, ↓kr1, ↓kr2, ↓ke_l, ↓kz_l, ↓kz_t, ↓klr1, ↓klr2, ↓gt_e, ↓gs_n, ↓gs_c, nc_0, nc_1, nc_2, nc_3, nc_4, nc_5, nc_6, nc_7, nc_8, nc_9, nc_10, nc_11, nc_12, eq_ii, eq_ss, eq_nn, eq_bb, eq_st, eq_ts, eq_si, eq_is, eq_it, eq_ti, cmp_i, cmp_b, cmp_n, sc_i, sc_s, sc_b, sc_n, flat_i, flat_s, flat_b, flat_n, tru_n, tru_b, tru_i, tru_t, tru_l, items_t, items_l, len_t, len_l, iter_t, iter_l, isN_n, isN_i, isN_s, isN_t, isN_l, isN_b, at_0, at_1, at_2, at_3, ib_tn, ib_tb, ib_ti, ib_ts, ib_tt, ib_tl, ib_sn, ib_sb, ib_si, ib_ss, ib_st, ib_sl, ib_in, ib_ib, ib_ii, ib_is, ib_it, ib_il, ib_bn, ib_bb, ib_bi, ib_bs, ib_bt, ib_bl, na_n, na_b, na_i, na_s, na_t, na_l, List.getElem?_cons_zero, List.getElem?_cons_succ, List.set_cons_zero, List.set_cons_succ, List.map_cons, List.map_nil, List.length_cons, List.length_nil, List.replicate_succ, List.replicate_zero, List.cons_append, List.nil_append, List.append_nil, List.isEmpty_nil, List.isEmpty_cons, List.cons.injEq, Option.some.injEq, T.int.injEq, T.str.injEq, T.bl.injEq, T.tup.injEq, T.lst.injEq, T.adr.injEq, Sl.fz.injEq, Sl.ow.injEq, exists_eq_left, exists_eq_left', exists_eq_right, exists_eq_right', exists_eq, exists_eq', exists_and_left, exists_and_right, exists_const, exists_false, and_true, true_and, and_false, false_and, or_true, true_or, or_false, false_or, not_true_eq_false, not_false_eq_true, if_true, if_false, ite_true, ite_false, Bool.not_true, Bool.not_false, Bool.true_or, Bool.or_true, Bool.false_or, Bool.or_false, Bool.true_and, Bool.and_true, Bool.false_and, Bool.and_false, Bool.false_eq_true, Bool.true_eq_false, eq_self, decide_eq_true_eq, decide_true, decide_false, Bool.decide_eq_true, Bool.not_eq_true, decide_eq_false_iff_not, Bool.and_eq_true, Bool.or_eq_true, Bool.not_eq_true', reduceCtorEq, ne_eq, Nat.le_refl, Nat.reduceAdd, Nat.reduceSub, Nat.reduceLeDiff, Nat.reduceLT, implies_true, forall_const, List.any_cons, List.any_nil, List.all_cons, List.all_nil, wipeP, restore, List.getD_eq_getElem?_getD, Option.getD_some, List.mem_singleton, forall_eq, Int.reduceLT, Int.reduceLE, Int.reduceNeg, Int.reduceSub, Int.reduceAdd, Int.reduceToNat, Int.reduceEq, Int.reduceNe, String.reduceEq, and_self, or_self]
    split
    · rename_i h0
      rw [if_neg (by omega)] at st b1
      rw [List.length_append, List.length_singleton] at b1
      rw [st, List.map_append, List.map_append]
      refine ⟨by rw [List.length_map]; omega, ?_, ?_⟩
      · rw [List.length_append, List.length_map, List.length_map, List.length_singleton]
        omega
      · rfl
    · rename_i h0
      obtain rfl : i = 0 := by omega
      rw [st]
      rw [if_pos rfl] at b1
      refine ⟨by rw [List.take_zero, List.length_map, List.length_map]; show 0 + _ ≤ _; rw [List.length_nil] at b1; omega, ?_⟩
      simp [listed]
  · rintro ρ2 ⟨a, b, rfl⟩
    rw [List.length_mapIdx, List.length_map, List.take_length]
    simp only [↓reduceIte, ↓sSeq, ↓sAsg, ↓sIf, ↓sRet, ↓sRetN, ↓sExpr, ↓sNext, ↓sBreak, ↓sCont, ↓sAug, ↓sFor, ↓gN, ↓pIx, ↓pC, ↓pTup, ↓pLst, ↓pCons, ↓pNil, ↓pStar, ↓pOp, ↓pTB, ↓pTru, ↓pTAnd, ↓pTOr, ↓pTNot, ↓pAndV, ↓pOrV, ↓pNotV, ↓pIf, ↓pCall, ↓pLen, ↓pIsi, ↓pDget, ↓gDset, ↓gSubT, ↓PEq, ↓PNe, ↓pChain, ↓pNeg, ↓pSl, ↓pNoPart, ↓pPart, ↓pIter, ↓pRng1, ↓pRng2, ↓pEnum, ↓pRev, ↓pZip, ↓pMet, ↓pMet0, ↓pMut, ↓pLc, ↓pLRng1, ↓pLRng2, ↓pYes, ↓pRE, ↓startP, ↓pWords, ↓pSplit, ↓gLt, ↓gLe, ↓gGt, ↓gGe, ↓pV_f0, ↓pV_o0, ↓pRV_f0, ↓pRV_o0, ↓lk_f0, ↓lk_o0, ↓sRV_f0, ↓sRV_o0, ↓pV_f1, ↓pV_o1, ↓pRV_f1, ↓pRV_o1, ↓lk_f1, ↓lk_o1, ↓sRV_f1, ↓sRV_o1, ↓pV_f2, ↓pV_o2, ↓pRV_f2, ↓pRV_o2, ↓lk_f2, ↓lk_o2, ↓sRV_f2, ↓sRV_o2, ↓pV_f3, ↓pV_o3, ↓pRV_f3, ↓pRV_o3, ↓lk_f3, ↓lk_o3, ↓sRV_f3, ↓sRV_o3, ↓pV_f4, ↓pV_o4, ↓pRV_f4, ↓pRV_o4, ↓lk_f4, ↓lk_o4, ↓sRV_f4, ↓sRV_o4, ↓pV_f5, ↓pV_o5, ↓pRV_f5, ↓pRV_o5, ↓lk_f5, ↓lk_o5, ↓sRV_f5, ↓sRV_o5, ↓pV_f6, ↓pV_o6, ↓pRV_f6, ↓pRV_o6, ↓lk_f6, ↓lk_o6, ↓sRV_f6, ↓sRV_o6, ↓pV_f7, ↓pV_o7, ↓pRV_f7, ↓pRV_o7, ↓lk_f7, ↓lk_o7, ↓sRV_f7, ↓sRV_o7, ↓pV_f8, ↓pV_o8, ↓pRV_f8, ↓pRV_o8, ↓lk_f8, ↓lk_o8, ↓sRV_f8, ↓sRV_o8, ↓pV_f9, ↓pV_o9, ↓pRV_f9, ↓pRV_o9, ↓lk_f9, ↓lk_o9, ↓sRV_f9, ↓sRV_o9, ↓pV_f10, ↓pV_o10, ↓pRV_f10, ↓pRV_o10, ↓lk_f10, ↓lk_o10, ↓sRV_f10, ↓sRV_o10, ↓pV_f11, ↓pV_o11, ↓pRV_f11, ↓pRV_o11, ↓lk_f11, ↓lk_o11, ↓sRV_f11, ↓sRV_o11, ↓pV_f12, ↓pV_o12, ↓pRV_f12, ↓pRV_o12, ↓lk_f12, ↓lk_o12, ↓sRV_f12, ↓sRV_o12, ↓pV_f13, ↓pV_o13, ↓pRV_f13, ↓pRV_o13, ↓lk_f13, ↓lk_o13, ↓sRV_f13, ↓sRV_o13, ↓lk_fz, ↓of_fn, ↓of_fb, ↓of_fi, ↓of_fs, ↓of_ft, ↓of_fl, ↓of_ol, ↓of_ff, ↓ad_i, ↓ad_s, ↓ad_l, ↓ad_t, ↓su_i, ↓mu_i, ↓mu_l, ↓mo_i, ↓fd_i, ↓pw_i, ↓an_i, ↓ci_i, ↓is_n, ↓is_nn, ↓in_t, ↓in_l, ↓in_s, ↓ix_l, ↓ix_t, ↓ix_s, ↓sl_l, ↓sl_t, ↓sl_s, ↓kn_i, ↓kp_i, ↓kr1, ↓kr2, ↓ke_l, ↓kz_l, ↓kz_t, ↓klr1, ↓klr2, ↓gt_e, ↓gs_n, ↓gs_c, nc_0, nc_1, nc_2, nc_3, nc_4, nc_5, nc_6, nc_7, nc_8, nc_9, nc_10, nc_11, nc_12, eq_ii, eq_ss, eq_nn, eq_bb, eq_st, eq_ts, eq_si, eq_is, eq_it, eq_ti, cmp_i, cmp_b, cmp_n, sc_i, sc_s, sc_b, sc_n, flat_i, flat_s, flat_b, flat_n, tru_n, tru_b, tru_i, tru_t, tru_l, items_t, items_l, len_t, len_l, iter_t, iter_l, isN_n, isN_i, isN_s, isN_t, isN_l, isN_b, at_0, at_1, at_2, at_3, ib_tn, ib_tb, ib_ti, ib_ts, ib_tt, ib_tl, ib_sn, ib_sb, ib_si, ib_ss, ib_st, ib_sl, ib_in, ib_ib, ib_ii, ib_is, ib_it, ib_il, ib_bn, ib_bb, ib_bi, ib_bs, ib_bt, ib_bl, na_n, na_b, na_i, na_s, na_t, na_l, List.getElem?_cons_zero, List.getElem?_cons_succ, List.set_cons_zero, List.set_cons_succ, List.map_cons, List.map_nil, List.length_cons, List.length_nil, List.replicate_succ, List.replicate_zero, List.cons_append, List.nil_append, List.append_nil, List.isEmpty_nil, List.isEmpty_cons, List.cons.injEq, Option.some.injEq, T.int.injEq, T.str.injEq, T.bl.injEq, T.tup.injEq, T.lst.injEq, T.adr.injEq, Sl.fz.injEq, Sl.ow.injEq, exists_eq_left, exists_eq_left', exists_eq_right, exists_eq_right', exists_eq, exists_eq', exists_and_left, exists_and_right, exists_const, exists_false, and_true, true_and, and_false, false_and, or_true, true_or, or_false, false_or, not_true_eq_false, not_false_eq_true, if_true, if_false, ite_true, ite_false, Bool.not_true, Bool.not_false, Bool.true_or, Bool.or_true, Bool.false_or, Bool.or_false, Bool.true_and, Bool.and_true, Bool.false_and, Bool.and_false, Bool.false_eq_true, Bool.true_eq_false, eq_self, decide_eq_true_eq, decide_true, decide_false, Bool.decide_eq_true, Bool.not_eq_true, decide_eq_false_iff_not, Bool.and_eq_true, Bool.or_eq_true, Bool.not_eq_true', reduceCtorEq, ne_eq, Nat.le_refl, Nat.reduceAdd, Nat.reduceSub, Nat.reduceLeDiff, Nat.reduceLT, implies_true, forall_const, List.any_cons, List.any_nil, List.all_cons, List.all_nil, wipeP, restore, List.getD_eq_getElem?_getD, Option.getD_some, List.mem_singleton, forall_eq, Int.reduceLT, Int.reduceLE, Int.reduceNeg, Int.reduceSub, Int.reduceAdd, Int.reduceToNat, Int.reduceEq, Int.reduceNe, String.reduceEq, and_self, or_self]
    exact h
theorem vt_step {W : Wld} {k : Nat} {n : Nat} (D : Df K mg "_value_tokens" s_value_tokens)
    (C_listed : CalQ P w K mg base (W) "_listed" k ["items"] (pfListed))
    (C_value_tokens : CalQ P w K mg base (W) "_value_tokens" k ["value"] (pfVT0 n)) (m_isinstance : mg "isinstance" = none) (m_tuple : mg "tuple" = none) (m_str : mg "str" = none) :
    CalQ P w K mg base (W) "_value_tokens" (k + 1) ["value"] (pfVT n) := by
  refine CalQ.mk D sc_value_tokens (fun _ _ _ _ _ _ us h => match us, h with | [_], _ => rfl) (fun ts Φ h => by first | (obtain ⟨rfl, _⟩ := h; rfl) | (obtain ⟨_, rfl, _⟩ := h; rfl) | (obtain ⟨_, _, rfl, _⟩ := h; rfl) | (obtain ⟨_, _, _, rfl, _⟩ := h; rfl) | (obtain ⟨_, _, _, _, rfl, _⟩ := h; rfl)) (fun f cdv A outer s H E hr => ?_)
  refine ⟨_, qss_cons (qs_if (qt_truth (qr_of (qe_isi (is := isB "tuple") (by rfl) m_isinstance (qe_name (pv 0)) (pe_bltn (v := .ty "tuple") (by rfl) m_tuple (by decide +kernel) rfl) (kitN (by decide +kernel)))) (by intro _; rfl))
    (qss_one (qs_ret (qe_lst (qa_cons qe_str (qa_star (qe_call C_listed (hr.mono (by omega)) (by rfl) (qa_cons (qe_lc rfl (own := [("inner", 1)]) sc_value_tokens.nd (by decide) (qi_val (qe_name (pv 0))) (blkOk_by (N := ["value", "inner"]) (sc := defScope s_value_tokens) (by decide +kernel)) (fun _ _ _ _ _ => (qg_name (pg_name (i := 1) sc_value_tokens.nd rfl (.inl rfl)))) (fun _ _ _ _ _ => qts_nil) (fun _ _ _ _ _ => (qe_call C_value_tokens (hr.mono (by omega)) (by rfl) (qa_cons (qe_name (pv 1)) qa_nil)))) qa_nil)) (qa_cons qe_str qa_nil))))))
    (qss_nil))
    (qss_one (qs_ret (qe_lst (qa_cons (qe_callTy cq_str (by rfl) m_str (by decide +kernel) (qa_cons (qe_name (pv 0)) qa_nil)) qa_nil)))), ?_⟩
  intro ts Φ h
  obtain ⟨t, rfl, ha, hl, h⟩ := h
  have hstr : ∀ i : Int, ib i → i.natAbs.log2 < 1920 := fun i h => log_ib h
  cases t with
  | non => cases n <;> exact ha.elim
  | bl _ => cases n <;> exact ha.elim
  | lst _ => cases n <;> exact ha.elim
  | adr _ => cases n <;> exact ha.elim
  | int i =>
    have ha : ib i := by cases n <;> exact ha
    simp only [↓reduceIte, ↓sSeq, ↓sAsg, ↓sIf, ↓sRet, ↓sRetN, ↓sExpr, ↓sNext, ↓sBreak, ↓sCont, ↓sAug, ↓sFor, ↓gN, ↓pIx, ↓pC, ↓pTup, ↓pLst, ↓pCons, ↓pNil, ↓pStar, ↓pOp, ↓pTB, ↓pTru, ↓pTAnd, ↓pTOr, ↓pTNot, ↓pAndV, ↓pOrV, ↓pNotV, ↓pIf, ↓pCall, ↓pLen, ↓pIsi, ↓pDget, ↓gDset, ↓gSubT, ↓PEq, ↓PNe, ↓pChain, ↓pNeg, ↓pSl, ↓pNoPart, ↓pPart, ↓pIter, ↓pRng1, ↓pRng2, ↓pEnum, ↓pRev, ↓pZip, ↓pMet, ↓pMet0, ↓pMut, ↓pLc, ↓pLRng1, ↓pLRng2, ↓pYes, ↓pRE, ↓startP, ↓pWords, ↓pSplit, ↓gLt, ↓gLe, ↓gGt, ↓gGe, ↓pV_f0, ↓pV_o0, ↓pRV_f0, ↓pRV_o0, ↓lk_f0, ↓lk_o0, ↓sRV_f0, ↓sRV_o0, ↓pV_f1, ↓pV_o1, ↓pRV_f1, ↓pRV_o1, ↓lk_f1, ↓lk_o1, ↓sRV_f1, ↓sRV_o1, ↓pV_f2, ↓pV_o2, ↓pRV_f2, ↓pRV_o2, ↓lk_f2, ↓lk_o2, ↓sRV_f2, ↓sRV_o2, ↓pV_f3, ↓pV_o3, ↓pRV_f3, ↓pRV_o3, ↓lk_f3, ↓lk_o3, ↓sRV_f3, ↓sRV_o3, ↓pV_f4, ↓pV_o4, ↓pRV_f4, ↓pRV_o4, ↓lk_f4, ↓lk_o4, ↓sRV_f4, ↓sRV_o4, ↓pV_f5, ↓pV_o5, ↓pRV_f5, ↓pRV_o5, ↓lk_f5, ↓lk_o5, ↓sRV_f5, ↓sRV_o5, ↓pV_f6, ↓pV_o6, ↓pRV_f6, ↓pRV_o6, ↓lk_f6, ↓lk_o6, ↓sRV_f6, ↓sRV_o6, ↓pV_f7, ↓pV_o7, ↓pRV_f7, ↓pRV_o7, ↓lk_f7, ↓lk_o7, ↓sRV_f7, ↓sRV_o7, ↓pV_f8, ↓pV_o8, ↓pRV_f8, ↓pRV_o8, ↓lk_f8, ↓lk_o8, ↓sRV_f8, ↓sRV_o8, ↓pV_f9, ↓pV_o9, ↓pRV_f9, ↓pRV_o9, ↓lk_f9, ↓lk_o9, ↓sRV_f9, ↓sRV_o9, ↓pV_f10, ↓pV_o10, ↓pRV_f10, ↓pRV_o10, ↓lk_f10, ↓lk_o10, ↓sRV_f10, ↓sRV_o10, ↓pV_f11, ↓pV_o11, ↓pRV_f11, ↓pRV_o11, ↓lk_f11, ↓lk_o11, ↓sRV_f11, ↓sRV_o11, ↓pV_f12, ↓pV_o12, ↓pRV_f12, ↓pRV_o12, ↓lk_f12, ↓lk_o12, ↓sRV_f12, ↓sRV_o12, ↓pV_f13, ↓pV_o13, ↓pRV_f13, ↓pRV_o13, ↓lk_f13, ↓lk_o13, ↓sRV_f13, ↓sRV_o13, ↓lk_fz, ↓of_fn, ↓of_fb, ↓of_fi, ↓of_fs, ↓of_ft, ↓of_fl, ↓of_ol, ↓of_ff, ↓ad_i, ↓ad_s, ↓ad_l, ↓ad_t, ↓su_i, ↓mu_i, ↓mu_l, ↓mo_i, ↓fd_i, ↓pw_i, ↓an_i, ↓ci_i, ↓is_n, ↓is_nn, ↓in_t, ↓in_l, ↓in_s, ↓ix_l, ↓ix_t, ↓ix_s, ↓sl_l, ↓sl_t, ↓sl_s, ↓kn_i, ↓kp_i, ↓kr1, ↓kr2, ↓ke_l, ↓kz_l, ↓kz_t, ↓klr1, ↓klr2, ↓gt_e, ↓gs_n, ↓gs_c, nc_0, nc_1, nc_2, nc_3, nc_4, nc_5, nc_6, nc_7, nc_8, nc_9, nc_10, nc_11, nc_12, eq_ii, eq_ss, eq_nn, eq_bb, eq_st, eq_ts, eq_si, eq_is, eq_it, eq_ti, cmp_i, cmp_b, cmp_n, sc_i, sc_s, sc_b, sc_n, flat_i, flat_s, flat_b, flat_n, tru_n, tru_b, tru_i, tru_t, tru_l, items_t, items_l, len_t, len_l, iter_t, iter_l, isN_n, isN_i, isN_s, isN_t, isN_l, isN_b, at_0, at_1, at_2, at_3, ib_tn, ib_tb, ib_ti, ib_ts, ib_tt, ib_tl, ib_sn, ib_sb, ib_si, ib_ss, ib_st, ib_sl, ib_in, ib_ib, ib_ii, ib_is, ib_it, ib_il, ib_bn, ib_bb, ib_bi, ib_bs, ib_bt, ib_bl, na_n, na_b, na_i, na_s, na_t, na_l, List.getElem?_cons_zero, List.getElem?_cons_succ, List.set_cons_zero, List.set_cons_succ, List.map_cons, List.map_nil, List.length_cons, List.length_nil, List.replicate_succ, List.replicate_zero, List.cons_append, List.nil_append, List.append_nil, List.isEmpty_nil, List.isEmpty_cons, List.cons.injEq, Option.some.injEq, T.int.injEq, T.str.injEq, T.bl.injEq, T.tup.injEq, T.lst.injEq, T.adr.injEq, Sl.fz.injEq, Sl.ow.injEq, exists_eq_left, exists_eq_left', exists_eq_right, exists_eq_right', exists_eq, exists_eq', exists_and_left, exists_and_right, exists_const, exists_false, and_true, true_and, and_false, false_and, or_true, true_or, or_false, false_or, not_true_eq_false, not_false_eq_true, if_true, if_false, ite_true, ite_false, Bool.not_true, Bool.not_false, Bool.true_or, Bool.or_true, Bool.false_or, Bool.or_false, Bool.true_and, Bool.and_true, Bool.false_and, Bool.and_false, Bool.false_eq_true, Bool.true_eq_false, eq_self, decide_eq_true_eq, decide_true, decide_false, Bool.decide_eq_true, Bool.not_eq_true, decide_eq_false_iff_not, Bool.and_eq_true, Bool.or_eq_true, Bool.not_eq_true', reduceCtorEq, ne_eq, Nat.le_refl, Nat.reduceAdd, Nat.reduceSub, Nat.reduceLeDiff, Nat.reduceLT, implies_true, forall_const, List.any_cons, List.any_nil, List.all_cons, List.all_nil, wipeP, restore, List.getD_eq_getElem?_getD, Option.getD_some, List.mem_singleton, forall_eq, Int.reduceLT, Int.reduceLE, Int.reduceNeg, Int.reduceSub, Int.reduceAdd, Int.reduceToNat, Int.reduceEq, Int.reduceNe, String.reduceEq, and_self, or_self]
    exact ⟨log_ib ha, h⟩
  | str x =>
    simp only [↓reduceIte, ↓sSeq, ↓sAsg, ↓sIf, ↓sRet, ↓sRetN, ↓sExpr, ↓sNext, ↓sBreak, ↓sCont, ↓sAug, ↓sFor, ↓gN, ↓pIx, ↓pC, ↓pTup, ↓pLst, ↓pCons, ↓pNil, ↓pStar, ↓pOp, ↓pTB, ↓pTru, ↓pTAnd, ↓pTOr, ↓pTNot, ↓pAndV, ↓pOrV, ↓pNotV, ↓pIf, ↓pCall, ↓pLen, ↓pIsi, ↓pDget, ↓gDset, ↓gSubT, ↓PEq, ↓PNe, ↓pChain, ↓pNeg, ↓pSl, ↓pNoPart, ↓pPart, ↓pIter, ↓pRng1, ↓pRng2, ↓pEnum, ↓pRev, ↓pZip, ↓pMet, ↓pMet0, ↓pMut, ↓pLc, ↓pLRng1, ↓pLRng2, ↓pYes, ↓pRE, ↓startP, ↓pWords, ↓pSplit, ↓gLt, ↓gLe, ↓gGt, ↓gGe, ↓pV_f0, ↓pV_o0, ↓pRV_f0, ↓pRV_o0, ↓lk_f0, ↓lk_o0, ↓sRV_f0, ↓sRV_o0, ↓pV_f1, ↓pV_o1, ↓pRV_f1, ↓pRV_o1, ↓lk_f1, ↓lk_o1, ↓sRV_f1, ↓sRV_o1, ↓pV_f2, ↓pV_o2, ↓pRV_f2, ↓pRV_o2, ↓lk_f2, ↓lk_o2, ↓sRV_f2, ↓sRV_o2, ↓pV_f3, ↓pV_o3, ↓pRV_f3, ↓pRV_o3, ↓lk_f3, ↓lk_o3, ↓sRV_f3, ↓sRV_o3, ↓pV_f4, ↓pV_o4, ↓pRV_f4, ↓pRV_o4, ↓lk_f4, ↓lk_o4, ↓sRV_f4, ↓sRV_o4, ↓pV_f5, ↓pV_o5, ↓pRV_f5, ↓pRV_o5, ↓lk_f5, ↓lk_o5, ↓sRV_f5, ↓sRV_o5, ↓pV_f6, ↓pV_o6, ↓pRV_f6, ↓pRV_o6, ↓lk_f6, ↓lk_o6, ↓sRV_f6, ↓sRV_o6, ↓pV_f7, ↓pV_o7, ↓pRV_f7, ↓pRV_o7, ↓lk_f7, ↓lk_o7, ↓sRV_f7, ↓sRV_o7, ↓pV_f8, ↓pV_o8, ↓pRV_f8, ↓pRV_o8, ↓lk_f8, ↓lk_o8, ↓sRV_f8, ↓sRV_o8, ↓pV_f9, ↓pV_o9, ↓pRV_f9, ↓pRV_o9, ↓lk_f9, ↓lk_o9, ↓sRV_f9, ↓sRV_o9, ↓pV_f10, ↓pV_o10, ↓pRV_f10, ↓pRV_o10, ↓lk_f10, ↓lk_o10, ↓sRV_f10, ↓sRV_o10, ↓pV_f11, ↓pV_o11, ↓pRV_f11, ↓pRV_o11, ↓lk_f11, ↓lk_o11, ↓sRV_f11, ↓sRV_o11, ↓pV_f12, ↓pV_o12, ↓pRV_f12, ↓pRV_o12, ↓lk_f12, ↓lk_o12, ↓sRV_f12, ↓sRV_o12, ↓pV_f13, ↓pV_o13, ↓pRV_f13, ↓pRV_o13, ↓lk_f13, ↓lk_o13, ↓sRV_f13, ↓sRV_o13, ↓lk_fz, ↓of_fn, ↓of_fb, ↓of_fi, ↓of_fs, ↓of_ft, ↓of_fl, ↓of_ol, ↓of_ff, ↓ad_i, ↓ad_s, ↓ad_l, ↓ad_t, ↓su_i, ↓mu_i, ↓mu_l, ↓mo_i, ↓fd_i, ↓pw_i, ↓an_i, ↓ci_i, ↓is_n, ↓is_nn, ↓in_t, ↓in_l, ↓in_s, ↓ix_l, ↓ix_t, ↓ix_s, ↓sl_l, ↓sl_t, ↓sl_s, ↓kn_i, ↓kp_i, ↓kr1, ↓kr2, ↓ke_l, ↓kz_l, ↓kz_t, ↓klr1, ↓klr2, ↓gt_e, ↓gs_n, ↓gs_c, nc_0, nc_1, nc_2, nc_3, nc_4, nc_5, nc_6, nc_7, nc_8, nc_9, nc_10, nc_11, nc_12, eq_ii, eq_ss, eq_nn, eq_bb, eq_st, eq_ts, eq_si, eq_is, eq_it, eq_ti, cmp_i, cmp_b, cmp_n, sc_i, sc_s, sc_b, sc_n, flat_i, flat_s, flat_b, flat_n, tru_n, tru_b, tru_i, tru_t, tru_l, items_t, items_l, len_t, len_l, iter_t, iter_l, isN_n, isN_i, isN_s, isN_t, isN_l, isN_b, at_0, at_1, at_2, at_3, ib_tn, ib_tb, ib_ti, ib_ts, ib_tt, ib_tl, ib_sn, ib_sb, ib_si, ib_ss, ib_st, ib_sl, ib_in, ib_ib, ib_ii, ib_is, ib_it, ib_il, ib_bn, ib_bb, ib_bi, ib_bs, ib_bt, ib_bl, na_n, na_b, na_i, na_s, na_t, na_l, List.getElem?_cons_zero, List.getElem?_cons_succ, List.set_cons_zero, List.set_cons_succ, List.map_cons, List.map_nil, List.length_cons, List.length_nil, List.replicate_succ, List.replicate_zero, List.cons_append, List.nil_append, List.append_nil, List.isEmpty_nil, List.isEmpty_cons, List.cons.injEq, Option.some.injEq, T.int.injEq, T.str.injEq, T.bl.injEq, T.tup.injEq, T.lst.injEq, T.adr.injEq, Sl.fz.injEq, Sl.ow.injEq, exists_eq_left, exists_eq_left', exists_eq_right, exists_eq_right', exists_eq, exists_eq', exists_and_left, exists_and_right, exists_const, exists_false, and_true, true_and, and_false, false_and, or_true, true_or, or_false, false_or, not_true_eq_false, not_false_eq_true, if_true, if_false, ite_true, ite_false, Bool.not_true, Bool.not_false, Bool.true_or, Bool.or_true, Bool.false_or, Bool.or_false, Bool.true_and, Bool.and_true, Bool.false_and, Bool.and_false, Bool.false_eq_true, Bool.true_eq_false, eq_self, decide_eq_true_eq, decide_true, decide_false, Bool.decide_eq_true, Bool.not_eq_true, decide_eq_false_iff_not, Bool.and_eq_true, Bool.or_eq_true, Bool.not_eq_true', reduceCtorEq, ne_eq, Nat.le_refl, Nat.reduceAdd, Nat.reduceSub, Nat.reduceLeDiff, Nat.reduceLT, implies_true, forall_const, List.any_cons, List.any_nil, List.all_cons, List.all_nil, wipeP, restore, List.getD_eq_getElem?_getD, Option.getD_some, List.mem_singleton, forall_eq, Int.reduceLT, Int.reduceLE, Int.reduceNeg, Int.reduceSub, Int.reduceAdd, Int.reduceToNat, Int.reduceEq, Int.reduceNe, String.reduceEq, and_self, or_self]
    exact h
  | tup l =>
    simp only [↓reduceIte, ↓sSeq, ↓sAsg, ↓sIf, ↓sRet, ↓sRetN, ↓sExpr, ↓sNext, ↓sBreak, ↓sCont, ↓sAug, ↓sFor, ↓gN, ↓pIx, ↓pC, ↓pTup, ↓pLst, ↓pCons, ↓pNil, ↓pStar, ↓pOp, ↓pTB, ↓pTru, ↓pTAnd, ↓pTOr, ↓pTNot, ↓pAndV, ↓pOrV, ↓pNotV, ↓pIf, ↓pCall, ↓pLen, ↓pIsi, ↓pDget, ↓gDset, ↓gSubT, ↓PEq, ↓PNe, ↓pChain, ↓pNeg, ↓pSl, ↓pNoPart, ↓pPart, ↓pIter, ↓pRng1, ↓pRng2, ↓pEnum, ↓pRev, ↓pZip, ↓pMet, ↓pMet0, ↓pMut, ↓pLc, ↓pLRng1, ↓pLRng2, ↓pYes, ↓pRE, ↓startP, ↓pWords, ↓pSplit, ↓gLt, ↓gLe, ↓gGt, ↓gGe, ↓pV_f0, ↓pV_o0, ↓pRV_f0, ↓pRV_o0, ↓lk_f0, ↓lk_o0, ↓sRV_f0, ↓sRV_o0, ↓pV_f1, ↓pV_o1, ↓pRV_f1, ↓pRV_o1, ↓lk_f1, ↓lk_o1, ↓sRV_f1, ↓sRV_o1, ↓pV_f2, ↓pV_o2, ↓pRV_f2, ↓pRV_o2, ↓lk_f2, ↓lk_o2, ↓sRV_f2, ↓sRV_o2, ↓pV_f3, ↓pV_o3, ↓pRV_f3, ↓pRV_o3, ↓lk_f3, ↓lk_o3, ↓sRV_f3, ↓sRV_o3, ↓pV_f4, ↓pV_o4, ↓pRV_f4, ↓pRV_o4, ↓lk_f4, ↓lk_o4, ↓sRV_f4, ↓sRV_o4, ↓pV_f5, ↓pV_o5, ↓pRV_f5, ↓pRV_o5, ↓lk_f5, ↓lk_o5, ↓sRV_f5, ↓sRV_o5, ↓pV_f6, ↓pV_o6, ↓pRV_f6, ↓pRV_o6, ↓lk_f6, ↓lk_o6, ↓sRV_f6, ↓sRV_o6, ↓pV_f7, ↓pV_o7, ↓pRV_f7, ↓pRV_o7, ↓lk_f7, ↓lk_o7, ↓sRV_f7, ↓sRV_o7, ↓pV_f8, ↓pV_o8, ↓pRV_f8, ↓pRV_o8, ↓lk_f8, ↓lk_o8, ↓sRV_f8, ↓sRV_o8, ↓pV_f9, ↓pV_o9, ↓pRV_f9, ↓pRV_o9, ↓lk_f9, ↓lk_o9, ↓sRV_f9, ↓sRV_o9, ↓pV_f10, ↓pV_o10, ↓pRV_f10, ↓pRV_o10, ↓lk_f10, ↓lk_o10, ↓sRV_f10, ↓sRV_o10, ↓pV_f11, ↓pV_o11, ↓pRV_f11, ↓pRV_o11, ↓lk_f11, ↓lk_o11, ↓sRV_f11, ↓sRV_o11, ↓pV_f12, ↓pV_o12, ↓pRV_f12, ↓pRV_o12, ↓lk_f12, ↓lk_o12, ↓sRV_f12, ↓sRV_o12, ↓pV_f13, ↓pV_o13, ↓pRV_f13, ↓pRV_o13, ↓lk_f13, ↓lk_o13, ↓sRV_f13, ↓sRV_o13, ↓lk_fz, ↓of_fn, ↓of_fb, ↓of_fi, ↓of_fs, ↓of_ft, ↓of_fl, ↓of_ol, ↓of_ff, ↓ad_i, ↓ad_s, ↓ad_l, ↓ad_t, ↓su_i, ↓mu_i, ↓mu_l, ↓mo_i, ↓fd_i, ↓pw_i, ↓an_i, ↓ci_i, ↓is_n, ↓is_nn, ↓in_t, ↓in_l, ↓in_s, ↓ix_l, ↓ix_t, ↓ix_s, ↓sl_l, ↓sl_t, ↓sl_s, ↓kn_i, ↓kp_i, ↓kr1, ↓kr2, ↓ke_l, ↓kz_l, ↓kz_t, ↓klr1, ↓klr2, ↓gt_e, ↓gs_n, ↓gs_c, nc_0, nc_1, nc_2, nc_3, nc_4, nc_5, nc_6, nc_7, nc_8, nc_9, nc_10, nc_11, nc_12, eq_ii, eq_ss, eq_nn, eq_bb, eq_st, eq_ts, eq_si, eq_is, eq_it, eq_ti, cmp_i, cmp_b, cmp_n, sc_i, sc_s, sc_b, sc_n, flat_i, flat_s, flat_b, flat_n, tru_n, tru_b, tru_i, tru_t, tru_l, items_t, items_l, len_t, len_l, iter_t, iter_l, isN_n, isN_i, isN_s, isN_t, isN_l, isN_b, at_0, at_1, at_2, at_3, ib_tn, ib_tb, ib_ti, ib_ts, ib_tt, ib_tl, ib_sn, ib_sb, ib_si, ib_ss, ib_st, ib_sl, ib_in, ib_ib, ib_ii, ib_is, ib_it, ib_il, ib_bn, ib_bb, ib_bi, ib_bs, ib_bt, ib_bl, na_n, na_b, na_i, na_s, na_t, na_l, List.getElem?_cons_zero, List.getElem?_cons_succ, List.set_cons_zero, List.set_cons_succ, List.map_cons, List.map_nil, List.length_cons, List.length_nil, List.replicate_succ, List.replicate_zero, List.cons_append, List.nil_append, List.append_nil, List.isEmpty_nil, List.isEmpty_cons, List.cons.injEq, Option.some.injEq, T.int.injEq, T.str.injEq, T.bl.injEq, T.tup.injEq, T.lst.injEq, T.adr.injEq, Sl.fz.injEq, Sl.ow.injEq, exists_eq_left, exists_eq_left', exists_eq_right, exists_eq_right', exists_eq, exists_eq', exists_and_left, exists_and_right, exists_const, exists_false, and_true, true_and, and_false, false_and, or_true, true_or, or_false, false_or, not_true_eq_false, not_false_eq_true, if_true, if_false, ite_true, ite_false, Bool.not_true, Bool.not_false, Bool.true_or, Bool.or_true, Bool.false_or, Bool.or_false, Bool.true_and, Bool.and_true, Bool.false_and, Bool.and_false, Bool.false_eq_true, Bool.true_eq_false, eq_self, decide_eq_true_eq, decide_true, decide_false, Bool.decide_eq_true, Bool.not_eq_true, decide_eq_false_iff_not, Bool.and_eq_true, Bool.or_eq_true, Bool.not_eq_true', reduceCtorEq, ne_eq, Nat.le_refl, Nat.reduceAdd, Nat.reduceSub, Nat.reduceLeDiff, Nat.reduceLT, implies_true, forall_const, List.any_cons, List.any_nil, List.all_cons, List.all_nil, wipeP, restore, List.getD_eq_getElem?_getD, Option.getD_some, List.mem_singleton, forall_eq, Int.reduceLT, Int.reduceLE, Int.reduceNeg, Int.reduceSub, Int.reduceAdd, Int.reduceToNat, Int.reduceEq, Int.reduceNe, String.reduceEq, and_self, or_self, pfListed]
    obtain ⟨m, rfl, ha⟩ : ∃ m, n = m + 1 ∧ ∀ t ∈ l, Aok m t := by
      cases n with
      | zero => exact ha.elim
      | succ m => exact ⟨m, rfl, ha⟩
    rw [vt_tup] at hl h
    rw [List.length_cons, List.length_append, List.length_singleton] at hl
    have hn := listed_num (l.map vt) (fun y hy => by
      obtain ⟨t, ht, rfl⟩ := List.mem_map.mp hy
      exact vt_pos m t (ha t ht))
    rw [List.length_map] at hn
    refine ⟨by omega, by simp, fun i acc ρ => ρ = [.fz (.tup l), .no] ∧ acc = (l.take i).map fun t => LT (vt t), ⟨rfl, rfl⟩, ?_, ?_⟩
    · rintro i t acc ρ2 e hacc ⟨rfl, rfl⟩
      obtain ⟨hi, rfl⟩ := List.getElem?_eq_some_iff.mp e
      have hm := List.getElem_mem hi
      have := listed_mem (List.mem_map.mpr ⟨_, hm, rfl⟩ : vt l[i] ∈ l.map vt)
      simp only [↓reduceIte, ↓sSeq, ↓sAsg, ↓sIf, ↓sRet, ↓sRetN, ↓sExpr, ↓sNext, ↓sBreak, ↓sCont, ↓sAug, ↓sFor, ↓gN, ↓pIx, ↓pC, ↓pTup, ↓pLst, ↓pCons, ↓pNil, ↓pStar, ↓pOp, ↓pTB, ↓pTru, ↓pTAnd, ↓pTOr, ↓pTNot, ↓pAndV, ↓pOrV, ↓pNotV, ↓pIf, ↓pCall, ↓pLen, ↓pIsi, ↓pDget, ↓gDset, ↓gSubT, ↓PEq, ↓PNe, ↓pChain, ↓pNeg, ↓pSl, ↓pNoPart, ↓pPart, ↓pIter, ↓pRng1, ↓pRng2, ↓pEnum, ↓pRev, ↓pZip, ↓pMet, ↓pMet0, ↓pMut, ↓pLc, ↓pLRng1, ↓pLRng2, ↓pYes, ↓pRE, ↓startP, ↓pWords, ↓pSplit, ↓gLt, ↓gLe, ↓gGt, ↓gGe, ↓pV_f0, ↓pV_o0, ↓pRV_f0, ↓pRV_o0, ↓lk_f0, ↓lk_o0, ↓sRV_f0, ↓sRV_o0, ↓pV_f1, ↓pV_o1, ↓pRV_f1, ↓pRV_o1, ↓lk_f1, ↓lk_o1, ↓sRV_f1, ↓sRV_o1, ↓pV_f2, ↓pV_o2, ↓pRV_f2, ↓pRV_o2, ↓lk_f2, ↓lk_o2, ↓sRV_f2, ↓sRV_o2, ↓pV_f3, ↓pV_o3, ↓pRV_f3, ↓pRV_o3, ↓lk_f3, ↓lk_o3, ↓sRV_f3, ↓sRV_o3, ↓pV_f4, ↓pV_o4, ↓pRV_f4, ↓pRV_o4, ↓lk_f4, ↓lk_o4, ↓sRV_f4, ↓sRV_o4, ↓pV_f5, ↓pV_o5, ↓pRV_f5, ↓pRV_o5, ↓lk_f5, ↓lk_o5, ↓sRV_f5, ↓sRV_o5, ↓pV_f6, ↓pV_o6, ↓pRV_f6, ↓pRV_o6, ↓lk_f6, ↓lk_o6, ↓sRV_f6, ↓sRV_o6, ↓pV_f7, ↓pV_o7, ↓pRV_f7, ↓pRV_o7, ↓lk_f7, ↓lk_o7, ↓sRV_f7, ↓sRV_o7, ↓pV_f8, ↓pV_o8, ↓pRV_f8, ↓pRV_o8, ↓lk_f8, ↓lk_o8, ↓sRV_f8, ↓sRV_o8, ↓pV_f9, ↓pV_o9, ↓pRV_f9, ↓pRV_o9, ↓lk_f9, ↓lk_o9, ↓sRV_f9, ↓sRV_o9, ↓pV_f10, ↓pV_o10, ↓pRV_f10, ↓pRV_o10, ↓lk_f10, ↓lk_o10, ↓sRV_f10, ↓sRV_o10, ↓pV_f11, ↓pV_o11, ↓pRV_f11, ↓pRV_o11, ↓lk_f11, ↓lk_o11, ↓sRV_f11, ↓sRV_o11, ↓pV_f12, ↓pV_o12, ↓pRV_f12, ↓pRV_o12, ↓lk_f12, ↓lk_o12, ↓sRV_f12, ↓sRV_o12, ↓pV_f13, ↓pV_o13, ↓pRV_f13, ↓pRV_o13, ↓lk_f13, ↓lk_o13, ↓sRV_f13, ↓sRV_o13, ↓lk_fz, ↓of_fn, ↓of_fb, ↓of_fi, ↓of_fs, ↓of_ft, ↓of_fl, ↓of_ol, ↓of_ff, ↓ad_i, ↓ad_s, ↓ad_l, ↓ad_t, ↓su_i, ↓mu_i, ↓mu_l, ↓mo_i, ↓fd_i, ↓pw_i, ↓an_i, ↓ci_i, ↓is_n, ↓is_nn, ↓in_t, ↓in_l, ↓in_s, ↓ix_l, ↓ix_t, ↓ix_s, ↓sl_l, ↓sl_t, ↓sl_s, ↓kn_i, ↓kp_i, ↓kr1, ↓kr2, ↓ke_l, ↓kz_l, ↓kz_t, ↓klr1, ↓klr2, ↓gt_e, ↓gs_n, ↓gs_c, nc_0, nc_1, nc_2, nc_3, nc_4, nc_5, nc_6, nc_7, nc_8, nc_9, nc_10, nc_11, nc_12, eq_ii, eq_ss, eq_nn, eq_bb, eq_st, eq_ts, eq_si, eq_is, eq_it, eq_ti, cmp_i, cmp_b, cmp_n, sc_i, sc_s, sc_b, sc_n, flat_i, flat_s, flat_b, flat_n, tru_n, tru_b, tru_i, tru_t, tru_l, items_t, items_l, len_t, len_l, iter_t, iter_l, isN_n, isN_i, isN_s, isN_t, isN_l, isN_b, at_0, at_1, at_2, at_3, ib_tn, ib_tb, ib_ti, ib_ts, ib_tt, ib_tl, ib_sn, ib_sb, ib_si, ib_ss, ib_st, ib_sl, ib_in, ib_ib, ib_ii, ib_is, ib_it, ib_il, ib_bn, ib_bb, ib_bi, ib_bs, ib_bt, ib_bl, na_n, na_b, na_i, na_s, na_t, na_l, List.getElem?_cons_zero, List.getElem?_cons_succ, List.set_cons_zero, List.set_cons_succ, List.map_cons, List.map_nil, List.length_cons, List.length_nil, List.replicate_succ, List.replicate_zero, List.cons_append, List.nil_append, List.append_nil, List.isEmpty_nil, List.isEmpty_cons, List.cons.injEq, Option.some.injEq, T.int.injEq, T.str.injEq, T.bl.injEq, T.tup.injEq, T.lst.injEq, T.adr.injEq, Sl.fz.injEq, Sl.ow.injEq, exists_eq_left, exists_eq_left', exists_eq_right, exists_eq_right', exists_eq, exists_eq', exists_and_left, exists_and_right, exists_const, exists_false, and_true, true_and, and_false, false_and, or_true, true_or, or_false, false_or, not_true_eq_false, not_false_eq_true, if_true, if_false, ite_true, ite_false, Bool.not_true, Bool.not_false, Bool.true_or, Bool.or_true, Bool.false_or, Bool.or_false, Bool.true_and, Bool.and_true, Bool.false_and, Bool.and_false, Bool.false_eq_true, Bool.true_eq_false, eq_self, decide_eq_true_eq, decide_true, decide_false, Bool.decide_eq_true, Bool.not_eq_true, decide_eq_false_iff_not, Bool.and_eq_true, Bool.or_eq_true, Bool.not_eq_true', reduceCtorEq, ne_eq, Nat.le_refl, Nat.reduceAdd, Nat.reduceSub, Nat.reduceLeDiff, Nat.reduceLT, implies_true, forall_const, List.any_cons, List.any_nil, List.all_cons, List.all_nil, wipeP, restore, List.getD_eq_getElem?_getD, Option.getD_some, List.mem_singleton, forall_eq, Int.reduceLT, Int.reduceLE, Int.reduceNeg, Int.reduceSub, Int.reduceAdd, Int.reduceToNat, Int.reduceEq, Int.reduceNe, String.reduceEq, and_self, or_self, pfVT0, pfVT]
      refine ⟨ha _ hm, by omega, ?_⟩
      rw [List.take_add_one, e, List.map_append]
      rfl
    · rintro acc ρ2 hacc ⟨rfl, rfl⟩
      rw [List.take_length]
      refine ⟨l.map vt, by rw [List.map_map]; rfl, by omega, ?_, ?_⟩
      · rw [List.length_append, List.length_map, List.length_singleton]
        omega
      · simp only [LT, List.map_cons, List.map_append, List.map_nil] at h
        exact h
theorem ok_end_token {W : Wld} {k : Nat}  (D : Df K mg "_end_token" s_end_token) (m_str : mg "str" = none) :
    CalQ P w K mg base (W) "_end_token" (k + 1) ["end"] (pfEnd) := by
  refine CalQ.mk D sc_end_token (fun _ _ _ _ _ _ us h => match us, h with | [_], _ => rfl) (fun ts Φ h => by first | (obtain ⟨rfl, _⟩ := h; rfl) | (obtain ⟨_, rfl, _⟩ := h; rfl) | (obtain ⟨_, _, rfl, _⟩ := h; rfl) | (obtain ⟨_, _, _, rfl, _⟩ := h; rfl) | (obtain ⟨_, _, _, _, rfl, _⟩ := h; rfl)) (fun f cdv A outer s H E hr => ?_)
  refine ⟨_, qss_one (qs_ret (qe_if (qt_cmp oq_is (qe_name (pv 0)) qe_non (nomark _)) qe_str (qe_callTy cq_str (by rfl) m_str (by decide +kernel) (qa_cons (qe_name (pv 0)) qa_nil)))), ?_⟩
  intro ts Φ h
  obtain ⟨t, e, rfl, he, h⟩ := h
  rcases he with ⟨rfl, rfl⟩ | ⟨i, rfl, hi, rfl⟩ | ⟨rfl, hn⟩
  · simp only [↓reduceIte, ↓sSeq, ↓sAsg, ↓sIf, ↓sRet, ↓sRetN, ↓sExpr, ↓sNext, ↓sBreak, ↓sCont, ↓sAug, ↓sFor, ↓gN, ↓pIx, ↓pC, ↓pTup, ↓pLst, ↓pCons, ↓pNil, ↓pStar, ↓pOp, ↓pTB, ↓pTru, ↓pTAnd, ↓pTOr, ↓pTNot, ↓pAndV, ↓pOrV, ↓pNotV, ↓pIf, ↓pCall, ↓pLen, ↓pIsi, ↓pDget, ↓gDset, ↓gSubT, ↓PEq, ↓PNe, ↓pChain, ↓pNeg, ↓pSl, ↓pNoPart, ↓pPart, ↓pIter, ↓pRng1, ↓pRng2, ↓pEnum, ↓pRev, ↓pZip, ↓pMet, ↓pMet0, ↓pMut, ↓pLc, ↓pLRng1, ↓pLRng2, ↓pYes, ↓pRE, ↓startP, ↓pWords, ↓pSplit, ↓gLt, ↓gLe, ↓gGt, ↓gGe, ↓pV_f0, ↓pV_o0, ↓pRV_f0, ↓pRV_o0, ↓lk_f0, ↓lk_o0, ↓sRV_f0, ↓sRV_o0, ↓pV_f1, ↓pV_o1, ↓pRV_f1, ↓pRV_o1, ↓lk_f1, ↓lk_o1, ↓sRV_f1, ↓sRV_o1, ↓pV_f2, ↓pV_o2, ↓pRV_f2, ↓pRV_o2, ↓lk_f2, ↓lk_o2, ↓sRV_f2, ↓sRV_o2, ↓pV_f3, ↓pV_o3, ↓pRV_f3, ↓pRV_o3, ↓lk_f3, ↓lk_o3, ↓sRV_f3, ↓sRV_o3, ↓pV_f4, ↓pV_o4, ↓pRV_f4, ↓pRV_o4, ↓lk_f4, ↓lk_o4, ↓sRV_f4, ↓sRV_o4, ↓pV_f5, ↓pV_o5, ↓pRV_f5, ↓pRV_o5, ↓lk_f5, ↓lk_o5, ↓sRV_f5, ↓sRV_o5, ↓pV_f6, ↓pV_o6, ↓pRV_f6, ↓pRV_o6, ↓lk_f6, ↓lk_o6, ↓sRV_f6, ↓sRV_o6, ↓pV_f7, ↓pV_o7, ↓pRV_f7, ↓pRV_o7, ↓lk_f7, ↓lk_o7, ↓sRV_f7, ↓sRV_o7, ↓pV_f8, ↓pV_o8, ↓pRV_f8, ↓pRV_o8, ↓lk_f8, ↓lk_o8, ↓sRV_f8, ↓sRV_o8, ↓pV_f9, ↓pV_o9, ↓pRV_f9, ↓pRV_o9, ↓lk_f9, ↓lk_o9, ↓sRV_f9, ↓sRV_o9, ↓pV_f10, ↓pV_o10, ↓pRV_f10, ↓pRV_o10, ↓lk_f10, ↓lk_o10, ↓sRV_f10, ↓sRV_o10, ↓pV_f11, ↓pV_o11, ↓pRV_f11, ↓pRV_o11, ↓lk_f11, ↓lk_o11, ↓sRV_f11, ↓sRV_o11, ↓pV_f12, ↓pV_o12, ↓pRV_f12, ↓pRV_o12, ↓lk_f12, ↓lk_o12, ↓sRV_f12, ↓sRV_o12, ↓pV_f13, ↓pV_o13, ↓pRV_f13, ↓pRV_o13, ↓lk_f13, ↓lk_o13, ↓sRV_f13, ↓sRV_o13, ↓lk_fz, ↓of_fn, ↓of_fb, ↓of_fi, ↓of_fs, ↓of_ft, ↓of_fl, ↓of_ol, ↓of_ff, ↓ad_i, ↓ad_s, ↓ad_l, ↓ad_t, ↓su_i, ↓mu_i, ↓mu_l, ↓mo_i, ↓fd_i, ↓pw_i, ↓an_i, ↓ci_i, ↓is_n, ↓is_nn, ↓in_t, ↓in_l, ↓in_s, ↓ix_l, ↓ix_t, ↓ix_s, ↓sl_l, ↓sl_t, ↓sl_s, ↓kn_i, ↓kp_i, ↓kr1, ↓kr2, ↓ke_l, ↓kz_l, ↓kz_t, ↓klr1, ↓klr2, ↓gt_e, ↓gs_n, ↓gs_c, nc_0, nc_1, nc_2, nc_3, nc_4, nc_5, nc_6, nc_7, nc_8, nc_9, nc_10, nc_11, nc_12, eq_ii, eq_ss, eq_nn, eq_bb, eq_st, eq_ts, eq_si, eq_is, eq_it, eq_ti, cmp_i, cmp_b, cmp_n, sc_i, sc_s, sc_b, sc_n, flat_i, flat_s, flat_b, flat_n, tru_n, tru_b, tru_i, tru_t, tru_l, items_t, items_l, len_t, len_l, iter_t, iter_l, isN_n, isN_i, isN_s, isN_t, isN_l, isN_b, at_0, at_1, at_2, at_3, ib_tn, ib_tb, ib_ti, ib_ts, ib_tt, ib_tl, ib_sn, ib_sb, ib_si, ib_ss, ib_st, ib_sl, ib_in, ib_ib, ib_ii, ib_is, ib_it, ib_il, ib_bn, ib_bb, ib_bi, ib_bs, ib_bt, ib_bl, na_n, na_b, na_i, na_s, na_t, na_l, List.getElem?_cons_zero, List.getElem?_cons_succ, List.set_cons_zero, List.set_cons_succ, List.map_cons, List.map_nil, List.length_cons, List.length_nil, List.replicate_succ, List.replicate_zero, List.cons_append, List.nil_append, List.append_nil, List.isEmpty_nil, List.isEmpty_cons, List.cons.injEq, Option.some.injEq, T.int.injEq, T.str.injEq, T.bl.injEq, T.tup.injEq, T.lst.injEq, T.adr.injEq, Sl.fz.injEq, Sl.ow.injEq, exists_eq_left, exists_eq_left', exists_eq_right, exists_eq_right', exists_eq, exists_eq', exists_and_left, exists_and_right, exists_const, exists_false, and_true, true_and, and_false, false_and, or_true, true_or, or_false, false_or, not_true_eq_false, not_false_eq_true, if_true, if_false, ite_true, ite_false, Bool.not_true, Bool.not_false, Bool.true_or, Bool.or_true, Bool.false_or, Bool.or_false, Bool.true_and, Bool.and_true, Bool.false_and, Bool.and_false, Bool.false_eq_true, Bool.true_eq_false, eq_self, decide_eq_true_eq, decide_true, decide_false, Bool.decide_eq_true, Bool.not_eq_true, decide_eq_false_iff_not, Bool.and_eq_true, Bool.or_eq_true, Bool.not_eq_true', reduceCtorEq, ne_eq, Nat.le_refl, Nat.reduceAdd, Nat.reduceSub, Nat.reduceLeDiff, Nat.reduceLT, implies_true, forall_const, List.any_cons, List.any_nil, List.all_cons, List.all_nil, wipeP, restore, List.getD_eq_getElem?_getD, Option.getD_some, List.mem_singleton, forall_eq, Int.reduceLT, Int.reduceLE, Int.reduceNeg, Int.reduceSub, Int.reduceAdd, Int.reduceToNat, Int.reduceEq, Int.reduceNe, String.reduceEq, and_self, or_self]
    exact h
  · simp only [↓reduceIte, ↓sSeq, ↓sAsg, ↓sIf, ↓sRet, ↓sRetN, ↓sExpr, ↓sNext, ↓sBreak, ↓sCont, ↓sAug, ↓sFor, ↓gN, ↓pIx, ↓pC, ↓pTup, ↓pLst, ↓pCons, ↓pNil, ↓pStar, ↓pOp, ↓pTB, ↓pTru, ↓pTAnd, ↓pTOr, ↓pTNot, ↓pAndV, ↓pOrV, ↓pNotV, ↓pIf, ↓pCall, ↓pLen, ↓pIsi, ↓pDget, ↓gDset, ↓gSubT, ↓PEq, ↓PNe, ↓pChain, ↓pNeg, ↓pSl, ↓pNoPart, ↓pPart, ↓pIter, ↓pRng1, ↓pRng2, ↓pEnum, ↓pRev, ↓pZip, ↓pMet, ↓pMet0, ↓pMut, ↓pLc, ↓pLRng1, ↓pLRng2, ↓pYes, ↓pRE, ↓startP, ↓pWords, ↓pSplit, ↓gLt, ↓gLe, ↓gGt, ↓gGe, ↓pV_f0, ↓pV_o0, ↓pRV_f0, ↓pRV_o0, ↓lk_f0, ↓lk_o0, ↓sRV_f0, ↓sRV_o0, ↓pV_f1, ↓pV_o1, ↓pRV_f1, ↓pRV_o1, ↓lk_f1, ↓lk_o1, ↓sRV_f1, ↓sRV_o1, ↓pV_f2, ↓pV_o2, ↓pRV_f2, ↓pRV_o2, ↓lk_f2, ↓lk_o2, ↓sRV_f2, ↓sRV_o2, ↓pV_f3, ↓pV_o3, ↓pRV_f3, ↓pRV_o3, ↓lk_f3, ↓lk_o3, ↓sRV_f3, ↓sRV_o3, ↓pV_f4, ↓pV_o4, ↓pRV_f4, ↓pRV_o4, ↓lk_f4, ↓lk_o4, ↓sRV_f4, ↓sRV_o4, ↓pV_f5, ↓pV_o5, ↓pRV_f5, ↓pRV_o5, ↓lk_f5, ↓lk_o5, ↓sRV_f5, ↓sRV_o5, ↓pV_f6, ↓pV_o6, ↓pRV_f6, ↓pRV_o6, ↓lk_f6, ↓lk_o6, ↓sRV_f6, ↓sRV_o6, ↓pV_f7, ↓pV_o7, ↓pRV_f7, ↓pRV_o7, ↓lk_f7, ↓lk_o7, ↓sRV_f7, ↓sRV_o7, ↓pV_f8, ↓pV_o8, ↓pRV_f8, ↓pRV_o8, ↓lk_f8, ↓lk_o8, ↓sRV_f8, ↓sRV_o8, ↓pV_f9, ↓pV_o9, ↓pRV_f9, ↓pRV_o9, ↓lk_f9, ↓lk_o9, ↓sRV_f9, ↓sRV_o9, ↓pV_f10, ↓pV_o10, ↓pRV_f10, ↓pRV_o10, ↓lk_f10, ↓lk_o10, ↓sRV_f10, ↓sRV_o10, ↓pV_f11, ↓pV_o11, ↓pRV_f11, ↓pRV_o11, ↓lk_f11, ↓lk_o11, ↓sRV_f11, ↓sRV_o11, ↓pV_f12, ↓pV_o12, ↓pRV_f12, ↓pRV_o12, ↓lk_f12, ↓lk_o12, ↓sRV_f12, ↓sRV_o12, ↓pV_f13, ↓pV_o13, ↓pRV_f13, ↓pRV_o13, ↓lk_f13, ↓lk_o13, ↓sRV_f13, ↓sRV_o13, ↓lk_fz, ↓of_fn, ↓of_fb, ↓of_fi, ↓of_fs, ↓of_ft, ↓of_fl, ↓of_ol, ↓of_ff, ↓ad_i, ↓ad_s, ↓ad_l, ↓ad_t, ↓su_i, ↓mu_i, ↓mu_l, ↓mo_i, ↓fd_i, ↓pw_i, ↓an_i, ↓ci_i, ↓is_n, ↓is_nn, ↓in_t, ↓in_l, ↓in_s, ↓ix_l, ↓ix_t, ↓ix_s, ↓sl_l, ↓sl_t, ↓sl_s, ↓kn_i, ↓kp_i, ↓kr1, ↓kr2, ↓ke_l, ↓kz_l, ↓kz_t, ↓klr1, ↓klr2, ↓gt_e, ↓gs_n, ↓gs_c, nc_0, nc_1, nc_2, nc_3, nc_4, nc_5, nc_6, nc_7, nc_8, nc_9, nc_10, nc_11, nc_12, eq_ii, eq_ss, eq_nn, eq_bb, eq_st, eq_ts, eq_si, eq_is, eq_it, eq_ti, cmp_i, cmp_b, cmp_n, sc_i, sc_s, sc_b, sc_n, flat_i, flat_s, flat_b, flat_n, tru_n, tru_b, tru_i, tru_t, tru_l, items_t, items_l, len_t, len_l, iter_t, iter_l, isN_n, isN_i, isN_s, isN_t, isN_l, isN_b, at_0, at_1, at_2, at_3, ib_tn, ib_tb, ib_ti, ib_ts, ib_tt, ib_tl, ib_sn, ib_sb, ib_si, ib_ss, ib_st, ib_sl, ib_in, ib_ib, ib_ii, ib_is, ib_it, ib_il, ib_bn, ib_bb, ib_bi, ib_bs, ib_bt, ib_bl, na_n, na_b, na_i, na_s, na_t, na_l, List.getElem?_cons_zero, List.getElem?_cons_succ, List.set_cons_zero, List.set_cons_succ, List.map_cons, List.map_nil, List.length_cons, List.length_nil, List.replicate_succ, List.replicate_zero, List.cons_append, List.nil_append, List.append_nil, List.isEmpty_nil, List.isEmpty_cons, List.cons.injEq, Option.some.injEq, T.int.injEq, T.str.injEq, T.bl.injEq, T.tup.injEq, T.lst.injEq, T.adr.injEq, Sl.fz.injEq, Sl.ow.injEq, exists_eq_left, exists_eq_left', exists_eq_right, exists_eq_right', exists_eq, exists_eq', exists_and_left, exists_and_right, exists_const, exists_false, and_true, true_and, and_false, false_and, or_true, true_or, or_false, false_or, not_true_eq_false, not_false_eq_true, if_true, if_false, ite_true, ite_false, Bool.not_true, Bool.not_false, Bool.true_or, Bool.or_true, Bool.false_or, Bool.or_false, Bool.true_and, Bool.and_true, Bool.false_and, Bool.and_false, Bool.false_eq_true, Bool.true_eq_false, eq_self, decide_eq_true_eq, decide_true, decide_false, Bool.decide_eq_true, Bool.not_eq_true, decide_eq_false_iff_not, Bool.and_eq_true, Bool.or_eq_true, Bool.not_eq_true', reduceCtorEq, ne_eq, Nat.le_refl, Nat.reduceAdd, Nat.reduceSub, Nat.reduceLeDiff, Nat.reduceLT, implies_true, forall_const, List.any_cons, List.any_nil, List.all_cons, List.all_nil, wipeP, restore, List.getD_eq_getElem?_getD, Option.getD_some, List.mem_singleton, forall_eq, Int.reduceLT, Int.reduceLE, Int.reduceNeg, Int.reduceSub, Int.reduceAdd, Int.reduceToNat, Int.reduceEq, Int.reduceNe, String.reduceEq, and_self, or_self]
    exact ⟨log_ib hi, h⟩
  · simp only [↓reduceIte, ↓sSeq, ↓sAsg, ↓sIf, ↓sRet, ↓sRetN, ↓sExpr, ↓sNext, ↓sBreak, ↓sCont, ↓sAug, ↓sFor, ↓gN, ↓pIx, ↓pC, ↓pTup, ↓pLst, ↓pCons, ↓pNil, ↓pStar, ↓pOp, ↓pTB, ↓pTru, ↓pTAnd, ↓pTOr, ↓pTNot, ↓pAndV, ↓pOrV, ↓pNotV, ↓pIf, ↓pCall, ↓pLen, ↓pIsi, ↓pDget, ↓gDset, ↓gSubT, ↓PEq, ↓PNe, ↓pChain, ↓pNeg, ↓pSl, ↓pNoPart, ↓pPart, ↓pIter, ↓pRng1, ↓pRng2, ↓pEnum, ↓pRev, ↓pZip, ↓pMet, ↓pMet0, ↓pMut, ↓pLc, ↓pLRng1, ↓pLRng2, ↓pYes, ↓pRE, ↓startP, ↓pWords, ↓pSplit, ↓gLt, ↓gLe, ↓gGt, ↓gGe, ↓pV_f0, ↓pV_o0, ↓pRV_f0, ↓pRV_o0, ↓lk_f0, ↓lk_o0, ↓sRV_f0, ↓sRV_o0, ↓pV_f1, ↓pV_o1, ↓pRV_f1, ↓pRV_o1, ↓lk_f1, ↓lk_o1, ↓sRV_f1, ↓sRV_o1, ↓pV_f2, ↓pV_o2, ↓pRV_f2, ↓pRV_o2, ↓lk_f2, ↓lk_o2, ↓sRV_f2, ↓sRV_o2, ↓pV_f3, ↓pV_o3, ↓pRV_f3, ↓pRV_o3, ↓lk_f3, ↓lk_o3, ↓sRV_f3, ↓sRV_o3, ↓pV_f4, ↓pV_o4, ↓pRV_f4, ↓pRV_o4, ↓lk_f4, ↓lk_o4, ↓sRV_f4, ↓sRV_o4, ↓pV_f5, ↓pV_o5, ↓pRV_f5, ↓pRV_o5, ↓lk_f5, ↓lk_o5, ↓sRV_f5, ↓sRV_o5, ↓pV_f6, ↓pV_o6, ↓pRV_f6, ↓pRV_o6, ↓lk_f6, ↓lk_o6, ↓sRV_f6, ↓sRV_o6, ↓pV_f7, ↓pV_o7, ↓pRV_f7, ↓pRV_o7, ↓lk_f7, ↓lk_o7, ↓sRV_f7, ↓sRV_o7, ↓pV_f8, ↓pV_o8, ↓pRV_f8, ↓pRV_o8, ↓lk_f8, ↓lk_o8, ↓sRV_f8, ↓sRV_o8, ↓pV_f9, ↓pV_o9, ↓pRV_f9, ↓pRV_o9, ↓lk_f9, ↓lk_o9, ↓sRV_f9, ↓sRV_o9, ↓pV_f10, ↓pV_o10, ↓pRV_f10, ↓pRV_o10, ↓lk_f10, ↓lk_o10, ↓sRV_f10, ↓sRV_o10, ↓pV_f11, ↓pV_o11, ↓pRV_f11, ↓pRV_o11, ↓lk_f11, ↓lk_o11, ↓sRV_f11, ↓sRV_o11, ↓pV_f12, ↓pV_o12, ↓pRV_f12, ↓pRV_o12, ↓lk_f12, ↓lk_o12, ↓sRV_f12, ↓sRV_o12, ↓pV_f13, ↓pV_o13, ↓pRV_f13, ↓pRV_o13, ↓lk_f13, ↓lk_o13, ↓sRV_f13, ↓sRV_o13, ↓lk_fz, ↓of_fn, ↓of_fb, ↓of_fi, ↓of_fs, ↓of_ft, ↓of_fl, ↓of_ol, ↓of_ff, ↓ad_i, ↓ad_s, ↓ad_l, ↓ad_t, ↓su_i, ↓mu_i, ↓mu_l, ↓mo_i, ↓fd_i, ↓pw_i, ↓an_i, ↓ci_i, ↓is_n, ↓is_nn, ↓in_t, ↓in_l, ↓in_s, ↓ix_l, ↓ix_t, ↓ix_s, ↓sl_l, ↓sl_t, ↓sl_s, ↓kn_i, ↓kp_i, ↓kr1, ↓kr2, ↓ke_l, ↓kz_l, ↓kz_t, ↓klr1, ↓klr2, ↓gt_e, ↓gs_n, ↓gs_c, nc_0, nc_1, nc_2, nc_3, nc_4, nc_5, nc_6, nc_7, nc_8, nc_9, nc_10, nc_11, nc_12, eq_ii, eq_ss, eq_nn, eq_bb, eq_st, eq_ts, eq_si, eq_is, eq_it, eq_ti, cmp_i, cmp_b, cmp_n, sc_i, sc_s, sc_b, sc_n, flat_i, flat_s, flat_b, flat_n, tru_n, tru_b, tru_i, tru_t, tru_l, items_t, items_l, len_t, len_l, iter_t, iter_l, isN_n, isN_i, isN_s, isN_t, isN_l, isN_b, at_0, at_1, at_2, at_3, ib_tn, ib_tb, ib_ti, ib_ts, ib_tt, ib_tl, ib_sn, ib_sb, ib_si, ib_ss, ib_st, ib_sl, ib_in, ib_ib, ib_ii, ib_is, ib_it, ib_il, ib_bn, ib_bb, ib_bi, ib_bs, ib_bt, ib_bl, na_n, na_b, na_i, na_s, na_t, na_l, List.getElem?_cons_zero, List.getElem?_cons_succ, List.set_cons_zero, List.set_cons_succ, List.map_cons, List.map_nil, List.length_cons, List.length_nil, List.replicate_succ, List.replicate_zero, List.cons_append, List.nil_append, List.append_nil, List.isEmpty_nil, List.isEmpty_cons, List.cons.injEq, Option.some.injEq, T.int.injEq, T.str.injEq, T.bl.injEq, T.tup.injEq, T.lst.injEq, T.adr.injEq, Sl.fz.injEq, Sl.ow.injEq, exists_eq_left, exists_eq_left', exists_eq_right, exists_eq_right', exists_eq, exists_eq', exists_and_left, exists_and_right, exists_const, exists_false, and_true, true_and, and_false, false_and, or_true, true_or, or_false, false_or, not_true_eq_false, not_false_eq_true, if_true, if_false, ite_true, ite_false, Bool.not_true, Bool.not_false, Bool.true_or, Bool.or_true, Bool.false_or, Bool.or_false, Bool.true_and, Bool.and_true, Bool.false_and, Bool.and_false, Bool.false_eq_true, Bool.true_eq_false, eq_self, decide_eq_true_eq, decide_true, decide_false, Bool.decide_eq_true, Bool.not_eq_true, decide_eq_false_iff_not, Bool.and_eq_true, Bool.or_eq_true, Bool.not_eq_true', reduceCtorEq, ne_eq, Nat.le_refl, Nat.reduceAdd, Nat.reduceSub, Nat.reduceLeDiff, Nat.reduceLT, implies_true, forall_const, List.any_cons, List.any_nil, List.all_cons, List.all_nil, wipeP, restore, List.getD_eq_getElem?_getD, Option.getD_some, List.mem_singleton, forall_eq, Int.reduceLT, Int.reduceLE, Int.reduceNeg, Int.reduceSub, Int.reduceAdd, Int.reduceToNat, Int.reduceEq, Int.reduceNe, String.reduceEq, and_self, or_self]
    exact h
theorem fps_len (p : Fd) : (fpS p).length = p.2.2.length + 3 := by
  simp [fpS]
theorem trs_len (p : Tr) : (trS p).length = p.2.2.2.length + 5 := by
  simp [trS]
theorem fm_mem {α : Type} {f : α → List Str} {l : List α} {x : α} (h : x ∈ l) : (f x).length ≤ (l.flatMap f).length := by
  induction l with
  | nil => cases h
  | cons y l ih =>
    rw [List.flatMap_cons, List.length_append]
    rcases List.mem_cons.mp h with e | h
    · rw [e]
      omega
    · have := ih h
      omega
theorem fm_num {α : Type} {f : α → List Str} {l : List α} (h : ∀ x ∈ l, 1 ≤ (f x).length) : l.length ≤ (l.flatMap f).length := by
  induction l with
  | nil => exact Nat.zero_le _
  | cons y l ih =>
    rw [List.flatMap_cons, List.length_append, List.length_cons]
    have := h y List.mem_cons_self
    have := ih fun x hx => h x (List.mem_cons_of_mem _ hx)
    omega
theorem ok_fields_tokens {W : Wld} {k : Nat} {n : Nat} (D : Df K mg "_fields_tokens" s_fields_tokens)
    (C_kind_tokens : CalQ P w K mg base (W) "_kind_tokens" k ["kind"] (pfKT n)) :
    CalQ P w K mg base (W) "_fields_tokens" (k + 1) ["pairs"] (pfFT n) := by
  refine CalQ.mk D sc_fields_tokens (fun _ _ _ _ _ _ us h => match us, h with | [_], _ => rfl) (fun ts Φ h => by first | (obtain ⟨rfl, _⟩ := h; rfl) | (obtain ⟨_, rfl, _⟩ := h; rfl) | (obtain ⟨_, _, rfl, _⟩ := h; rfl) | (obtain ⟨_, _, _, rfl, _⟩ := h; rfl) | (obtain ⟨_, _, _, _, rfl, _⟩ := h; rfl)) (fun f cdv A outer s H E hr => ?_)
  refine ⟨_, qss_cons (qs_set (i := 1) sc_fields_tokens.nd rfl (.inl rfl) (qe_lst qa_nil))
    (qss_cons (qs_for (passes_of rfl) rfl (qi_val (qe_name (pv 0))) (qg_tup rfl (qgs_cons (qg_name (pg_name (i := 2) sc_fields_tokens.nd rfl (.inl rfl))) (qgs_cons (qg_name (pg_name (i := 3) sc_fields_tokens.nd rfl (.inl rfl))) qgs_nil)) (len_cons ex_name (len_cons ex_name len_nil)))
    (qss_one (qs_expr (qe_mut PySem.F.slot_list_extend PySem.F.type_list_extend mq_extend (pv 1) (qa_cons (qe_lst (qa_cons (qe_name (pv 2)) (qa_cons qe_str (qa_star (qe_call C_kind_tokens (hr.mono (by omega)) (by rfl) (qa_cons (qe_name (pv 3)) qa_nil)) (qa_cons qe_str qa_nil))))) qa_nil)))))
    (qss_one (qs_retV (pv 1)))), ?_⟩
  intro ts Φ h
  obtain ⟨l, rfl, hl, hn, h⟩ := h
  simp only [↓reduceIte, ↓sSeq, ↓sAsg, ↓sIf, ↓sRet, ↓sRetN, ↓sExpr, ↓sNext, ↓sBreak, ↓sCont, ↓sAug, ↓sFor, ↓gN, ↓pIx, ↓pC, ↓pTup, ↓pLst, ↓pCons, ↓pNil, ↓pStar, ↓pOp, ↓pTB, ↓pTru, ↓pTAnd, ↓pTOr, ↓pTNot, ↓pAndV, ↓pOrV, ↓pNotV, ↓pIf, ↓pCall, ↓pLen, ↓pIsi, ↓pDget, ↓gDset, ↓gSubT, ↓PEq, ↓PNe, ↓pChain, ↓pNeg, ↓pSl, ↓pNoPart, ↓pPart, ↓pIter, ↓pRng1, ↓pRng2, ↓pEnum, ↓pRev, ↓pZip, ↓pMet, ↓pMet0, ↓pMut, ↓pLc, ↓pLRng1, ↓pLRng2, ↓pYes, ↓pRE, ↓startP, ↓pWords, ↓pSplit, ↓gLt, ↓gLe, ↓gGt, ↓gGe, ↓pV_f0, ↓pV_o0, ↓pRV_f0, ↓pRV_o0, ↓lk_f0, ↓lk_o0, ↓sRV_f0, ↓sRV_o0, ↓pV_f1, ↓pV_o1, ↓pRV_f1, ↓pRV_o1, ↓lk_f1, ↓lk_o1, ↓sRV_f1, ↓sRV_o1, ↓pV_f2, ↓pV_o2, ↓pRV_f2, ↓pRV_o2, ↓lk_f2, ↓lk_o2, ↓sRV_f2, ↓sRV_o2, ↓pV_f3, ↓pV_o3, ↓pRV_f3, ↓pRV_o3, ↓lk_f3, ↓lk_o3, ↓sRV_f3, ↓sRV_o3, ↓pV_f4, ↓pV_o4, ↓pRV_f4, ↓pRV_o4, ↓lk_f4, ↓lk_o4, ↓sRV_f4, ↓sRV_o4, ↓pV_f5, ↓pV_o5, ↓pRV_f5, ↓pRV_o5, ↓lk_f5, ↓lk_o5, ↓sRV_f5, ↓sRV_o5, ↓pV_f6, ↓pV_o6, ↓pRV_f6, ↓pRV_o6, ↓lk_f6, ↓lk_o6, ↓sRV_f6, ↓sRV_o6, ↓pV_f7, ↓pV_o7, ↓pRV_f7, ↓pRV_o7, ↓lk_f7, ↓lk_o7, ↓sRV_f7, ↓sRV_o7, ↓pV_f8, ↓pV_o8, ↓pRV_f8, ↓pRV_o8, ↓lk_f8, ↓lk_o8, ↓sRV_f8, ↓sRV_o8, ↓pV_f9, ↓pV_o9, ↓pRV_f9, ↓pRV_o9, ↓lk_f9, ↓lk_o9, ↓sRV_f9, ↓sRV_o9, ↓pV_f10, ↓pV_o10, ↓pRV_f10, ↓pRV_o10, ↓lk_f10, ↓lk_o10, ↓sRV_f10, ↓sRV_o10, ↓pV_f11, ↓pV_o11, ↓pRV_f11, ↓pRV_o11, ↓lk_f11, ↓lk_o11, ↓sRV_f11, ↓sRV_o11, ↓pV_f12, ↓pV_o12, ↓pRV_f12, ↓pRV_o12, ↓lk_f12, ↓lk_o12, ↓sRV_f12, ↓sRV_o12, ↓pV_f13, ↓pV_o13, ↓pRV_f13, ↓pRV_o13, ↓lk_f13, ↓lk_o13, ↓sRV_f13, ↓sRV_o13, ↓lk_fz, ↓of_fn, ↓of_fb, ↓of_fi, ↓of_fs, ↓of_ft, ↓of_fl, ↓of_ol, ↓of_ff, ↓ad_i, ↓ad_s, ↓ad_l, ↓ad_t, ↓su_i, ↓mu_i, ↓mu_l, ↓mo_i, ↓fd_i, ↓pw_i, ↓an_i, ↓ci_i, ↓is_n, ↓is_nn, ↓in_t, ↓in_l, ↓in_s, ↓ix_l, ↓ix_t, ↓ix_s, ↓sl_l, ↓sl_t, ↓sl_s, ↓kn_i, ↓kp_i, ↓kr1, ↓kr2, ↓ke_l, ↓kz_l, ↓kz_t, ↓klr1, ↓klr2, ↓gt_e, ↓gs_n, ↓gs_c, nc_0, nc_1, nc_2, nc_3, nc_4, nc_5, nc_6, nc_7, nc_8, nc_9, nc_10, nc_11, nc_12, eq_ii, eq_ss, eq_nn, eq_bb, eq_st, eq_ts, eq_si, eq_is, eq_it, eq_ti, cmp_i, cmp_b, cmp_n, sc_i, sc_s, sc_b, sc_n, flat_i, flat_s, flat_b, flat_n, tru_n, tru_b, tru_i, tru_t, tru_l, items_t, items_l, len_t, len_l, iter_t, iter_l, isN_n, isN_i, isN_s, isN_t, isN_l, isN_b, at_0, at_1, at_2, at_3, ib_tn, ib_tb, ib_ti, ib_ts, ib_tt, ib_tl, ib_sn, ib_sb, ib_si, ib_ss, ib_st, ib_sl, ib_in, ib_ib, ib_ii, ib_is, ib_it, ib_il, ib_bn, ib_bb, ib_bi, ib_bs, ib_bt, ib_bl, na_n, na_b, na_i, na_s, na_t, na_l, List.getElem?_cons_zero, List.getElem?_cons_succ, List.set_cons_zero, List.set_cons_succ, List.map_cons, List.map_nil, List.length_cons, List.length_nil, List.replicate_succ, List.replicate_zero, List.cons_append, List.nil_append, List.append_nil, List.isEmpty_nil, List.isEmpty_cons, List.cons.injEq, Option.some.injEq, T.int.injEq, T.str.injEq, T.bl.injEq, T.tup.injEq, T.lst.injEq, T.adr.injEq, Sl.fz.injEq, Sl.ow.injEq, exists_eq_left, exists_eq_left', exists_eq_right, exists_eq_right', exists_eq, exists_eq', exists_and_left, exists_and_right, exists_const, exists_false, and_true, true_and, and_false, false_and, or_true, true_or, or_false, false_or, not_true_eq_false, not_false_eq_true, if_true, if_false, ite_true, ite_false, Bool.not_true, Bool.not_false, Bool.true_or, Bool.or_true, Bool.false_or, Bool.or_false, Bool.true_and, Bool.and_true, Bool.false_and, Bool.and_false, Bool.false_eq_true, Bool.true_eq_false, eq_self, decide_eq_true_eq, decide_true, decide_false, Bool.decide_eq_true, Bool.not_eq_true, decide_eq_false_iff_not, Bool.and_eq_true, Bool.or_eq_true, Bool.not_eq_true', reduceCtorEq, ne_eq, Nat.le_refl, Nat.reduceAdd, Nat.reduceSub, Nat.reduceLeDiff, Nat.reduceLT, implies_true, forall_const, List.any_cons, List.any_nil, List.all_cons, List.all_nil, wipeP, restore, List.getD_eq_getElem?_getD, Option.getD_some, List.mem_singleton, forall_eq, Int.reduceLT, Int.reduceLE, Int.reduceNeg, Int.reduceSub, Int.reduceAdd, Int.reduceToNat, Int.reduceEq, Int.reduceNe, String.reduceEq, and_self, or_self]
  refine ⟨fun i ρ => ∃ a b, ρ = [.fz (.tup (l.map fpT)), .ow (((l.take i).flatMap fpS).map .str), a, b], ⟨_, _, rfl⟩, ?_, ?_⟩
  · rintro i t ρ2 e ⟨a, b, rfl⟩
    obtain ⟨hi, rfl⟩ := map_get e
    have b1 := fm_take fpS l (i + 1)
    have st := fm_step fpS l hi
    have hm := hl _ (List.getElem_mem hi)
    rw [st, List.length_append, fps_len] at b1
    simp only [↓reduceIte, ↓sSeq, ↓sAsg, ↓sIf, ↓sRet, ↓sRetN, ↓sExpr, ↓sNext, ↓sBreak, ↓sCont, ↓sAug, ↓sFor, ↓gN, ↓pIx, ↓pC, ↓pTup, ↓pLst, ↓pCons, ↓pNil, ↓pStar, ↓pOp, ↓pTB, ↓pTru, ↓pTAnd, ↓pTOr, ↓pTNot, ↓pAndV, ↓pOrV, ↓pNotV, ↓pIf, ↓pCall, ↓pLen, ↓pIsi, ↓pDget, ↓gDset, ↓gSubT, ↓PEq, ↓PNe, ↓pChain, ↓pNeg, ↓pSl, ↓pNoPart, ↓pPart, ↓pIter, ↓pRng1, ↓pRng2, ↓pEnum, ↓pRev, ↓pZip, ↓pMet, ↓pMet0, ↓pMut, ↓pLc, ↓pLRng1, ↓pLRng2, ↓pYes, ↓pRE, ↓startP, ↓pWords, ↓pSplit, ↓gLt, ↓gLe, ↓gGt, ↓gGe, ↓pV_f0, ↓pV_o0, ↓pRV_f0, ↓pRV_o0, ↓lk_f0, ↓lk_o0, ↓sRV_f0, ↓sRV_o0, ↓pV_f1, ↓pV_o1, ↓pRV_f1, ↓pRV_o1, ↓lk_f1, ↓lk_o1, ↓sRV_f1, ↓sRV_o1, ↓pV_f2, ↓pV_o2, ↓pRV_f2, ↓pRV_o2, ↓lk_f2, ↓lk_o2, ↓sRV_f2, ↓sRV_o2, ↓pV_f3, ↓pV_o3, ↓pRV_f3, ↓pRV_o3, ↓lk_f3, ↓lk_o3, ↓sRV_f3, ↓sRV_o3, ↓pV_f4, ↓pV_o4, ↓pRV_f4, ↓pRV_o4, ↓lk_f4, ↓lk_o4, ↓sRV_f4, ↓sRV_o4, ↓pV_f5, ↓pV_o5, ↓pRV_f5, ↓pRV_o5, ↓lk_f5, ↓lk_o5, ↓sRV_f5, ↓sRV_o5, ↓pV_f6, ↓pV_o6, ↓pRV_f6, ↓pRV_o6, ↓lk_f6, ↓lk_o6, ↓sRV_f6, ↓sRV_o6, ↓pV_f7, ↓pV_o7, ↓pRV_f7, ↓pRV_o7, ↓lk_f7, ↓lk_o7, ↓sRV_f7, ↓sRV_o7, ↓pV_f8, ↓pV_o8, ↓pRV_f8, ↓pRV_o8, ↓lk_f8, ↓lk_o8, ↓sRV_f8, ↓sRV_o8, ↓pV_f9, ↓pV_o9, ↓pRV_f9, ↓pRV_o9, ↓lk_f9, ↓lk_o9, ↓sRV_f9, ↓sRV_o9, ↓pV_f10, ↓pV_o10, ↓pRV_f10, ↓pRV_o10, ↓lk_f10, ↓lk_o10, ↓sRV_f10, ↓sRV_o10, ↓pV_f11, ↓pV_o11, ↓pRV_f11, ↓pRV_o11, ↓lk_f11, ↓lk_o11, ↓sRV_f11, ↓sRV_o11, ↓pV_f12, ↓pV_o12, ↓pRV_f12, ↓pRV_o12, ↓lk_f12, ↓lk_o12, ↓sRV_f12, ↓sRV_o12, ↓pV_f13, ↓pV_o13, ↓pRV_f13, ↓pRV_o13, ↓lk_f13, ↓lk_o13, ↓sRV_f13, ↓sRV_o13, ↓lk_fz, ↓of_fn, ↓of_fb, ↓of_fi, ↓of_fs, ↓of_ft, ↓of_fl, ↓of_ol, ↓of_ff, ↓ad_i, ↓ad_s, ↓ad_l, ↓ad_t, ↓su_i, ↓mu_i, ↓mu_l, ↓mo_i, ↓fd_i, ↓pw_i, ↓an_i, ↓ci_i, ↓is_n, ↓is_nn, ↓in_t, ↓in_l, ↓in_s, ↓ix_l, ↓ix_t, ↓ix_s, ↓sl_l, ↓sl_t, ↓sl_s, ↓kn_i, ↓kp_i, ↓kr1, ↓kr2, ↓ke_l, ↓kz_l, ↓kz_t, ↓klr1, ↓klr2, ↓gt_e, ↓gs_n, ↓gs_c, nc_0, nc_1, nc_2, nc_3, nc_4, nc_5, nc_6, nc_7, nc_8, nc_9, nc_10, nc_11, nc_12, eq_ii, eq_ss, eq_nn, eq_bb, eq_st, eq_ts, eq_si, eq_is, eq_it, eq_ti, cmp_i, cmp_b, cmp_n, sc_i, sc_s, sc_b, sc_n, flat_i, flat_s, flat_b, flat_n, tru_n, tru_b, tru_i, tru_t, tru_l, items_t, items_l, len_t, len_l, iter_t, iter_l, isN_n, isN_i, isN_s, isN_t, isN_l, isN_b, at_0, at_1, at_2, at_3, ib_tn, ib_tb, ib_ti, ib_ts, ib_tt, ib_tl, ib_sn, ib_sb, ib_si, ib_ss, ib_st, ib_sl, ib_in, ib_ib, ib_ii, ib_is, ib_it, ib_il, ib_bn, ib_bb, ib_bi, ib_bs, ib_bt, ib_bl, na_n, na_b, na_i, na_s, na_t, na_l, List.getElem?_cons_zero, List.getElem?_cons_succ, List.set_cons_zero, List.set_cons_succ, List.map_cons, List.map_nil, List.length_cons, List.length_nil, List.replicate_succ, List.replicate_zero, List.cons_append, List.nil_append, List.append_nil, List.isEmpty_nil, List.isEmpty_cons, List.cons.injEq, Option.some.injEq, T.int.injEq, T.str.injEq, T.bl.injEq, T.tup.injEq, T.lst.injEq, T.adr.injEq, Sl.fz.injEq, Sl.ow.injEq, exists_eq_left, exists_eq_left', exists_eq_right, exists_eq_right', exists_eq, exists_eq', exists_and_left, exists_and_right, exists_const, exists_false, and_true, true_and, and_false, false_and, or_true, true_or, or_false, false_or, not_true_eq_false, not_false_eq_true, if_true, if_false, ite_true, ite_false, Bool.not_true, Bool.not_false, Bool.true_or, Bool.or_true, Bool.false_or, Bool.or_false, Bool.true_and, Bool.and_true, Bool.false_and, Bool.and_false, Bool.false_eq_true, Bool.true_eq_false, eq_self, decide_eq_true_eq, decide_true, decide_false, Bool.decide_eq_true, Bool.not_eq_true, decide_eq_false_iff_not, Bool.and_eq_true, Bool.or_eq_true, Bool.not_eq_true', reduceCtorEq, ne_eq, Nat.le_refl, Nat.reduceAdd, Nat.reduceSub, Nat.reduceLeDiff, Nat.reduceLT, implies_true, forall_const, List.any_cons, List.any_nil, List.all_cons, List.all_nil, wipeP, restore, List.getD_eq_getElem?_getD, Option.getD_some, List.mem_singleton, forall_eq, Int.reduceLT, Int.reduceLE, Int.reduceNeg, Int.reduceSub, Int.reduceAdd, Int.reduceToNat, Int.reduceEq, Int.reduceNe, String.reduceEq, and_self, or_self, fpT, pfKT]
    refine ⟨_, hm.2, by omega, ?_⟩
    have g2 := List.length_map (f := T.str) (as := (l.take i).flatMap fpS)
    have g3 := List.length_map (f := T.str) (as := l[i].2.2)
    rw [st]
    refine ⟨?_, ?_, ?_⟩ <;> first | (simp only [List.length_append, List.length_cons, List.length_nil, List.length_map] at *; omega) | skip
    simp [fpS]
  · rintro ρ2 ⟨a, b, rfl⟩
    rw [List.length_map, List.take_length]
    simp only [↓reduceIte, ↓sSeq, ↓sAsg, ↓sIf, ↓sRet, ↓sRetN, ↓sExpr, ↓sNext, ↓sBreak, ↓sCont, ↓sAug, ↓sFor, ↓gN, ↓pIx, ↓pC, ↓pTup, ↓pLst, ↓pCons, ↓pNil, ↓pStar, ↓pOp, ↓pTB, ↓pTru, ↓pTAnd, ↓pTOr, ↓pTNot, ↓pAndV, ↓pOrV, ↓pNotV, ↓pIf, ↓pCall, ↓pLen, ↓pIsi, ↓pDget, ↓gDset, ↓gSubT, ↓PEq, ↓PNe, ↓pChain, ↓pNeg, ↓pSl, ↓pNoPart, ↓pPart, ↓pIter, ↓pRng1, ↓pRng2, ↓pEnum, ↓pRev, ↓pZip, ↓pMet, ↓pMet0, ↓pMut, ↓pLc, ↓pLRng1, ↓pLRng2, ↓pYes, ↓pRE, ↓startP, ↓pWords, ↓pSplit, ↓gLt, ↓gLe, ↓gGt, ↓gGe, ↓pV_f0, ↓pV_o0, ↓pRV_f0, ↓pRV_o0, ↓lk_f0, ↓lk_o0, ↓sRV_f0, ↓sRV_o0, ↓pV_f1, ↓pV_o1, ↓pRV_f1, ↓pRV_o1, ↓lk_f1, ↓lk_o1, ↓sRV_f1, ↓sRV_o1, ↓pV_f2, ↓pV_o2, ↓pRV_f2, ↓pRV_o2, ↓lk_f2, ↓lk_o2, ↓sRV_f2, ↓sRV_o2, ↓pV_f3, ↓pV_o3, ↓pRV_f3, ↓pRV_o3, ↓lk_f3, ↓lk_o3, ↓sRV_f3, ↓sRV_o3, ↓pV_f4, ↓pV_o4, ↓pRV_f4, ↓pRV_o4, ↓lk_f4, ↓lk_o4, ↓sRV_f4, ↓sRV_o4, ↓pV_f5, ↓pV_o5, ↓pRV_f5, ↓pRV_o5, ↓lk_f5, ↓lk_o5, ↓sRV_f5, ↓sRV_o5, ↓pV_f6, ↓pV_o6, ↓pRV_f6, ↓pRV_o6, ↓lk_f6, ↓lk_o6, ↓sRV_f6, ↓sRV_o6, ↓pV_f7, ↓pV_o7, ↓pRV_f7, ↓pRV_o7, ↓lk_f7, ↓lk_o7, ↓sRV_f7, ↓sRV_o7, ↓pV_f8, ↓pV_o8, ↓pRV_f8, ↓pRV_o8, ↓lk_f8, ↓lk_o8, ↓sRV_f8, ↓sRV_o8, ↓pV_f9, ↓pV_o9, ↓pRV_f9, ↓pRV_o9, ↓lk_f9, ↓lk_o9, ↓sRV_f9, ↓sRV_o9, ↓pV_f10, ↓pV_o10, ↓pRV_f10, ↓pRV_o10, ↓lk_f10, ↓lk_o10, ↓sRV_f10, ↓sRV_o10, ↓pV_f11, ↓pV_o11, ↓pRV_f11, ↓pRV_o11, ↓lk_f11, ↓lk_o11, ↓sRV_f11, ↓sRV_o11, ↓pV_f12, ↓pV_o12, ↓pRV_f12, ↓pRV_o12, ↓lk_f12, ↓lk_o12, ↓sRV_f12, ↓sRV_o12, ↓pV_f13, ↓pV_o13, ↓pRV_f13, ↓pRV_o13, ↓lk_f13, ↓lk_o13, ↓sRV_f13, ↓sRV_o13, ↓lk_fz, ↓of_fn, ↓of_fb, ↓of_fi, ↓of_fs, ↓of_ft, ↓of_fl, ↓of_ol, ↓of_ff, ↓ad_i, ↓ad_s, ↓ad_l, ↓ad_t, ↓su_i, ↓mu_i, ↓mu_l, ↓mo_i, ↓fd_i, ↓pw_i, ↓an_i, ↓ci_i, ↓is_n, ↓is_nn, ↓in_t, ↓in_l, ↓in_s, ↓ix_l, ↓ix_t, ↓ix_s, ↓sl_l, ↓sl_t, ↓sl_s, ↓kn_i, ↓kp_i, ↓kr1, ↓kr2, ↓ke_l, ↓kz_l, ↓kz_t, ↓klr1, ↓klr2, ↓gt_e, ↓gs_n, ↓gs_c, nc_0, nc_1, nc_2, nc_3, nc_4, nc_5, nc_6, nc_7, nc_8, nc_9, nc_10, nc_11, nc_12, eq_ii, eq_ss, eq_nn, eq_bb, eq_st, eq_ts, eq_si, eq_is, eq_it, eq_ti, cmp_i, cmp_b, cmp_n, sc_i, sc_s, sc_b, sc_n, flat_i, flat_s, flat_b, flat_n, tru_n, tru_b, tru_i, tru_t, tru_l, items_t, items_l, len_t, len_l, iter_t, iter_l, isN_n, isN_i, isN_s, isN_t, isN_l, isN_b, at_0, at_1, at_2, at_3, ib_tn, ib_tb, ib_ti, ib_ts, ib_tt, ib_tl, ib_sn, ib_sb, ib_si, ib_ss, ib_st, ib_sl, ib_in, ib_ib, ib_ii, ib_is, ib_it, ib_il, ib_bn, ib_bb, ib_bi, ib_bs, ib_bt, ib_bl, na_n, na_b, na_i, na_s, na_t, na_l, List.getElem?_cons_zero, List.getElem?_cons_succ, List.set_cons_zero, List.set_cons_succ, List.map_cons, List.map_nil, List.length_cons, List.length_nil, List.replicate_succ, List.replicate_zero, List.cons_append, List.nil_append, List.append_nil, List.isEmpty_nil, List.isEmpty_cons, List.cons.injEq, Option.some.injEq, T.int.injEq, T.str.injEq, T.bl.injEq, T.tup.injEq, T.lst.injEq, T.adr.injEq, Sl.fz.injEq, Sl.ow.injEq, exists_eq_left, exists_eq_left', exists_eq_right, exists_eq_right', exists_eq, exists_eq', exists_and_left, exists_and_right, exists_const, exists_false, and_true, true_and, and_false, false_and, or_true, true_or, or_false, false_or, not_true_eq_false, not_false_eq_true, if_true, if_false, ite_true, ite_false, Bool.not_true, Bool.not_false, Bool.true_or, Bool.or_true, Bool.false_or, Bool.or_false, Bool.true_and, Bool.and_true, Bool.false_and, Bool.and_false, Bool.false_eq_true, Bool.true_eq_false, eq_self, decide_eq_true_eq, decide_true, decide_false, Bool.decide_eq_true, Bool.not_eq_true, decide_eq_false_iff_not, Bool.and_eq_true, Bool.or_eq_true, Bool.not_eq_true', reduceCtorEq, ne_eq, Nat.le_refl, Nat.reduceAdd, Nat.reduceSub, Nat.reduceLeDiff, Nat.reduceLT, implies_true, forall_const, List.any_cons, List.any_nil, List.all_cons, List.all_nil, wipeP, restore, List.getD_eq_getElem?_getD, Option.getD_some, List.mem_singleton, forall_eq, Int.reduceLT, Int.reduceLE, Int.reduceNeg, Int.reduceSub, Int.reduceAdd, Int.reduceToNat, Int.reduceEq, Int.reduceNe, String.reduceEq, and_self, or_self]
    exact h
theorem ok_kind_tokens {W : Wld} {k : Nat} {n : Nat} (D : Df K mg "_kind_tokens" s_kind_tokens)
    (C_listed : CalQ P w K mg base (W) "_listed" k ["items"] (pfListed))
    (C_kind_tokens : CalQ P w K mg base (W) "_kind_tokens" k ["kind"] (pfKT n))
    (C_fields_tokens : CalQ P w K mg base (W) "_fields_tokens" k ["pairs"] (pfFT n)) (m_str : mg "str" = none) :
    CalQ P w K mg base (W) "_kind_tokens" (k + 1) ["kind"] (pfKT (n + 1)) := by
  refine CalQ.mk D sc_kind_tokens (fun _ _ _ _ _ _ us h => match us, h with | [_], _ => rfl) (fun ts Φ h => by first | (obtain ⟨rfl, _⟩ := h; rfl) | (obtain ⟨_, rfl, _⟩ := h; rfl) | (obtain ⟨_, _, rfl, _⟩ := h; rfl) | (obtain ⟨_, _, _, rfl, _⟩ := h; rfl) | (obtain ⟨_, _, _, _, rfl, _⟩ := h; rfl)) (fun f cdv A outer s H E hr => ?_)
  refine ⟨_, qss_cons (qs_set (i := 1) sc_kind_tokens.nd rfl (.inl rfl) (qe_ix (qr_name (pv 0)) qe_int (fun _ _ => rfl)))
    (qss_cons (qs_if (qt_cmp (oq_eq hr.units) (qe_name (pv 1)) qe_str (nomark _))
    (qss_one (qs_ret (qe_lst (qa_cons qe_str (qa_cons (qe_callTy cq_str (by rfl) m_str (by decide +kernel) (qa_cons (qe_ix (qr_name (pv 0)) qe_int (fun _ _ => rfl)) qa_nil)) (qa_cons qe_str (qa_cons (qe_callTy cq_str (by rfl) m_str (by decide +kernel) (qa_cons (qe_ix (qr_name (pv 0)) qe_int (fun _ _ => rfl)) qa_nil)) qa_nil)))))))
    (qss_nil))
    (qss_cons (qs_if (qt_cmp (oq_eq hr.units) (qe_name (pv 1)) qe_str (nomark _))
    (qss_one (qs_ret (qe_lst (qa_cons qe_str (qa_cons qe_str (qa_star (qe_call C_listed (hr.mono (by omega)) (by rfl) (qa_cons (qe_lc rfl (own := [("name", 2)]) sc_kind_tokens.nd (by decide) (qi_val (qe_ix (qr_name (pv 0)) qe_int (fun _ _ => rfl))) (blkOk_by (N := ["kind", "word", "name"]) (sc := defScope s_kind_tokens) (by decide +kernel)) (fun _ _ _ _ _ => (qg_name (pg_name (i := 2) sc_kind_tokens.nd rfl (.inl rfl)))) (fun _ _ _ _ _ => qts_nil) (fun _ _ _ _ _ => (qe_lst (qa_cons (qe_name (pv 2)) qa_nil)))) qa_nil)) (qa_cons qe_str qa_nil)))))))
    (qss_nil))
    (qss_cons (qs_if (qt_cmp (oq_eq hr.units) (qe_name (pv 1)) qe_str (nomark _))
    (qss_one (qs_ret (qe_lst (qa_cons qe_str (qa_star (qe_call C_kind_tokens (hr.mono (by omega)) (by rfl) (qa_cons (qe_ix (qr_name (pv 0)) qe_int (fun _ _ => rfl)) qa_nil)) qa_nil)))))
    (qss_nil))
    (qss_cons (qs_if (qt_cmp (oq_eq hr.units) (qe_name (pv 1)) qe_str (nomark _))
    (qss_one (qs_ret (qe_lst (qa_cons qe_str (qa_cons (qe_callTy cq_str (by rfl) m_str (by decide +kernel) (qa_cons (qe_ix (qr_name (pv 0)) qe_int (fun _ _ => rfl)) qa_nil)) (qa_cons qe_str (qa_star (qe_call C_kind_tokens (hr.mono (by omega)) (by rfl) (qa_cons (qe_ix (qr_name (pv 0)) qe_int (fun _ _ => rfl)) qa_nil)) qa_nil)))))))
    (qss_nil))
    (qss_one (qs_ret (qe_lst (qa_cons (qe_name (pv 1)) (qa_cons qe_str (qa_star (qe_call C_fields_tokens (hr.mono (by omega)) (by rfl) (qa_cons (qe_ix (qr_name (pv 0)) qe_int (fun _ _ => rfl)) qa_nil)) (qa_cons qe_str qa_nil))))))))))), ?_⟩
  intro ts Φ h
  obtain ⟨t, s, rfl, hk, hn, h⟩ := h
  rcases hk with ⟨i, j, rfl, hi, hj, rfl⟩ | ⟨ns, rfl, hne, hns, rfl⟩ | ⟨k, s', rfl, hk, rfl⟩ | ⟨k, i, s', rfl, hi, hk, rfl⟩ | ⟨w, l, hw, rfl, hl, rfl⟩
  · simp only [↓reduceIte, ↓sSeq, ↓sAsg, ↓sIf, ↓sRet, ↓sRetN, ↓sExpr, ↓sNext, ↓sBreak, ↓sCont, ↓sAug, ↓sFor, ↓gN, ↓pIx, ↓pC, ↓pTup, ↓pLst, ↓pCons, ↓pNil, ↓pStar, ↓pOp, ↓pTB, ↓pTru, ↓pTAnd, ↓pTOr, ↓pTNot, ↓pAndV, ↓pOrV, ↓pNotV, ↓pIf, ↓pCall, ↓pLen, ↓pIsi, ↓pDget, ↓gDset, ↓gSubT, ↓PEq, ↓PNe, ↓pChain, ↓pNeg, ↓pSl, ↓pNoPart, ↓pPart, ↓pIter, ↓pRng1, ↓pRng2, ↓pEnum, ↓pRev, ↓pZip, ↓pMet, ↓pMet0, ↓pMut, ↓pLc, ↓pLRng1, ↓pLRng2, ↓pYes, ↓pRE, ↓startP, ↓pWords, ↓pSplit, ↓gLt, ↓gLe, ↓gGt, ↓gGe, ↓pV_f0, ↓pV_o0, ↓pRV_f0, ↓pRV_o0, ↓lk_f0, ↓lk_o0, ↓sRV_f0, ↓sRV_o0, ↓pV_f1, ↓pV_o1, ↓pRV_f1, ↓pRV_o1, ↓lk_f1, ↓lk_o1, ↓sRV_f1, ↓sRV_o1, ↓pV_f2, ↓pV_o2, ↓pRV_f2, ↓pRV_o2, ↓lk_f2, ↓lk_o2, ↓sRV_f2, ↓sRV_o2, ↓pV_f3, ↓pV_o3, ↓pRV_f3, ↓pRV_o3, ↓lk_f3, ↓lk_o3, ↓sRV_f3, ↓sRV_o3, ↓pV_f4, ↓pV_o4, ↓pRV_f4, ↓pRV_o4, ↓lk_f4, ↓lk_o4, ↓sRV_f4, ↓sRV_o4, ↓pV_f5, ↓pV_o5, ↓pRV_f5, ↓pRV_o5, ↓lk_f5, ↓lk_o5, ↓sRV_f5, ↓sRV_o5, ↓pV_f6, ↓pV_o6, ↓pRV_f6, ↓pRV_o6, ↓lk_f6, ↓lk_o6, ↓sRV_f6, ↓sRV_o6, ↓pV_f7, ↓pV_o7, ↓pRV_f7, ↓pRV_o7, ↓lk_f7, ↓lk_o7, ↓sRV_f7, ↓sRV_o7, ↓pV_f8, ↓pV_o8, ↓pRV_f8, ↓pRV_o8, ↓lk_f8, ↓lk_o8, ↓sRV_f8, ↓sRV_o8, ↓pV_f9, ↓pV_o9, ↓pRV_f9, ↓pRV_o9, ↓lk_f9, ↓lk_o9, ↓sRV_f9, ↓sRV_o9, ↓pV_f10, ↓pV_o10, ↓pRV_f10, ↓pRV_o10, ↓lk_f10, ↓lk_o10, ↓sRV_f10, ↓sRV_o10, ↓pV_f11, ↓pV_o11, ↓pRV_f11, ↓pRV_o11, ↓lk_f11, ↓lk_o11, ↓sRV_f11, ↓sRV_o11, ↓pV_f12, ↓pV_o12, ↓pRV_f12, ↓pRV_o12, ↓lk_f12, ↓lk_o12, ↓sRV_f12, ↓sRV_o12, ↓pV_f13, ↓pV_o13, ↓pRV_f13, ↓pRV_o13, ↓lk_f13, ↓lk_o13, ↓sRV_f13, ↓sRV_o13, ↓lk_fz, ↓of_fn, ↓of_fb, ↓of_fi, ↓of_fs, ↓of_ft, ↓of_fl, ↓of_ol, ↓of_ff, ↓ad_i, ↓ad_s, ↓ad_l, ↓ad_t, ↓su_i, ↓mu_i, ↓mu_l, ↓mo_i, ↓fd_i, ↓pw_i, ↓an_i, ↓ci_i, ↓is_n, ↓is_nn, ↓in_t, ↓in_l, ↓in_s, ↓ix_l, ↓ix_t, ↓ix_s, ↓sl_l, ↓sl_t, ↓sl_s, ↓kn_i, ↓kp_i, ↓kr1, ↓kr2, ↓ke_l, ↓kz_l, ↓kz_t, ↓klr1, ↓klr2, ↓gt_e, ↓gs_n, ↓gs_c, nc_0, nc_1, nc_2, nc_3, nc_4, nc_5, nc_6, nc_7, nc_8, nc_9, nc_10, nc_11, nc_12, eq_ii, eq_ss, eq_nn, eq_bb, eq_st, eq_ts, eq_si, eq_is, eq_it, eq_ti, cmp_i, cmp_b, cmp_n, sc_i, sc_s, sc_b, sc_n, flat_i, flat_s, flat_b, flat_n, tru_n, tru_b, tru_i, tru_t, tru_l, items_t, items_l, len_t, len_l, iter_t, iter_l, isN_n, isN_i, isN_s, isN_t, isN_l, isN_b, at_0, at_1, at_2, at_3, ib_tn, ib_tb, ib_ti, ib_ts, ib_tt, ib_tl, ib_sn, ib_sb, ib_si, ib_ss, ib_st, ib_sl, ib_in, ib_ib, ib_ii, ib_is, ib_it, ib_il, ib_bn, ib_bb, ib_bi, ib_bs, ib_bt, ib_bl, na_n, na_b, na_i, na_s, na_t, na_l, List.getElem?_cons_zero, List.getElem?_cons_succ, List.set_cons_zero, List.set_cons_succ, List.map_cons, List.map_nil, List.length_cons, List.length_nil, List.replicate_succ, List.replicate_zero, List.cons_append, List.nil_append, List.append_nil, List.isEmpty_nil, List.isEmpty_cons, List.cons.injEq, Option.some.injEq, T.int.injEq, T.str.injEq, T.bl.injEq, T.tup.injEq, T.lst.injEq, T.adr.injEq, Sl.fz.injEq, Sl.ow.injEq, exists_eq_left, exists_eq_left', exists_eq_right, exists_eq_right', exists_eq, exists_eq', exists_and_left, exists_and_right, exists_const, exists_false, and_true, true_and, and_false, false_and, or_true, true_or, or_false, false_or, not_true_eq_false, not_false_eq_true, if_true, if_false, ite_true, ite_false, Bool.not_true, Bool.not_false, Bool.true_or, Bool.or_true, Bool.false_or, Bool.or_false, Bool.true_and, Bool.and_true, Bool.false_and, Bool.and_false, Bool.false_eq_true, Bool.true_eq_false, eq_self, decide_eq_true_eq, decide_true, decide_false, Bool.decide_eq_true, Bool.not_eq_true, decide_eq_false_iff_not, Bool.and_eq_true, Bool.or_eq_true, Bool.not_eq_true', reduceCtorEq, ne_eq, Nat.le_refl, Nat.reduceAdd, Nat.reduceSub, Nat.reduceLeDiff, Nat.reduceLT, implies_true, forall_const, List.any_cons, List.any_nil, List.all_cons, List.all_nil, wipeP, restore, List.getD_eq_getElem?_getD, Option.getD_some, List.mem_singleton, forall_eq, Int.reduceLT, Int.reduceLE, Int.reduceNeg, Int.reduceSub, Int.reduceAdd, Int.reduceToNat, Int.reduceEq, Int.reduceNe, String.reduceEq, and_self, or_self, w_num, str_inj]
    exact ⟨log_ib hi, log_ib hj, h⟩
  · rw [List.length_cons, List.length_cons, List.length_append, List.length_singleton] at hn
    have hn2 := listed_num (ns.map fun x => [x]) (fun y hy => by
      obtain ⟨x, _, rfl⟩ := List.mem_map.mp hy
      exact Nat.le_refl 1)
    rw [List.length_map] at hn2
    simp only [↓reduceIte, ↓sSeq, ↓sAsg, ↓sIf, ↓sRet, ↓sRetN, ↓sExpr, ↓sNext, ↓sBreak, ↓sCont, ↓sAug, ↓sFor, ↓gN, ↓pIx, ↓pC, ↓pTup, ↓pLst, ↓pCons, ↓pNil, ↓pStar, ↓pOp, ↓pTB, ↓pTru, ↓pTAnd, ↓pTOr, ↓pTNot, ↓pAndV, ↓pOrV, ↓pNotV, ↓pIf, ↓pCall, ↓pLen, ↓pIsi, ↓pDget, ↓gDset, ↓gSubT, ↓PEq, ↓PNe, ↓pChain, ↓pNeg, ↓pSl, ↓pNoPart, ↓pPart, ↓pIter, ↓pRng1, ↓pRng2, ↓pEnum, ↓pRev, ↓pZip, ↓pMet, ↓pMet0, ↓pMut, ↓pLc, ↓pLRng1, ↓pLRng2, ↓pYes, ↓pRE, ↓startP, ↓pWords, ↓pSplit, ↓gLt, ↓gLe, ↓gGt, ↓gGe, ↓pV_f0, ↓pV_o0, ↓pRV_f0, ↓pRV_o0, ↓lk_f0, ↓lk_o0, ↓sRV_f0, ↓sRV_o0, ↓pV_f1, ↓pV_o1, ↓pRV_f1, ↓pRV_o1, ↓lk_f1, ↓lk_o1, ↓sRV_f1, ↓sRV_o1, ↓pV_f2, ↓pV_o2, ↓pRV_f2, ↓pRV_o2, ↓lk_f2, ↓lk_o2, ↓sRV_f2, ↓sRV_o2, ↓pV_f3, ↓pV_o3, ↓pRV_f3, ↓pRV_o3, ↓lk_f3, ↓lk_o3, ↓sRV_f3, ↓sRV_o3, ↓pV_f4, ↓pV_o4, ↓pRV_f4, ↓pRV_o4, ↓lk_f4, ↓lk_o4, ↓sRV_f4, ↓sRV_o4, ↓pV_f5, ↓pV_o5, ↓pRV_f5, ↓pRV_o5, ↓lk_f5, ↓lk_o5, ↓sRV_f5, ↓sRV_o5, ↓pV_f6, ↓pV_o6, ↓pRV_f6, ↓pRV_o6, ↓lk_f6, ↓lk_o6, ↓sRV_f6, ↓sRV_o6, ↓pV_f7, ↓pV_o7, ↓pRV_f7, ↓pRV_o7, ↓lk_f7, ↓lk_o7, ↓sRV_f7, ↓sRV_o7, ↓pV_f8, ↓pV_o8, ↓pRV_f8, ↓pRV_o8, ↓lk_f8, ↓lk_o8, ↓sRV_f8, ↓sRV_o8, ↓pV_f9, ↓pV_o9, ↓pRV_f9, ↓pRV_o9, ↓lk_f9, ↓lk_o9, ↓sRV_f9, ↓sRV_o9, ↓pV_f10, ↓pV_o10, ↓pRV_f10, ↓pRV_o10, ↓lk_f10, ↓lk_o10, ↓sRV_f10, ↓sRV_o10, ↓pV_f11, ↓pV_o11, ↓pRV_f11, ↓pRV_o11, ↓lk_f11, ↓lk_o11, ↓sRV_f11, ↓sRV_o11, ↓pV_f12, ↓pV_o12, ↓pRV_f12, ↓pRV_o12, ↓lk_f12, ↓lk_o12, ↓sRV_f12, ↓sRV_o12, ↓pV_f13, ↓pV_o13, ↓pRV_f13, ↓pRV_o13, ↓lk_f13, ↓lk_o13, ↓sRV_f13, ↓sRV_o13, ↓lk_fz, ↓of_fn, ↓of_fb, ↓of_fi, ↓of_fs, ↓of_ft, ↓of_fl, ↓of_ol, ↓of_ff, ↓ad_i, ↓ad_s, ↓ad_l, ↓ad_t, ↓su_i, ↓mu_i, ↓mu_l, ↓mo_i, ↓fd_i, ↓pw_i, ↓an_i, ↓ci_i, ↓is_n, ↓is_nn, ↓in_t, ↓in_l, ↓in_s, ↓ix_l, ↓ix_t, ↓ix_s, ↓sl_l, ↓sl_t, ↓sl_s, ↓kn_i, ↓kp_i, ↓kr1, ↓kr2, ↓ke_l, ↓kz_l, ↓kz_t, ↓klr1, ↓klr2, ↓gt_e, ↓gs_n, ↓gs_c, nc_0, nc_1, nc_2, nc_3, nc_4, nc_5, nc_6, nc_7, nc_8, nc_9, nc_10, nc_11, nc_12, eq_ii, eq_ss, eq_nn, eq_bb, eq_st, eq_ts, eq_si, eq_is, eq_it, eq_ti, cmp_i, cmp_b, cmp_n, sc_i, sc_s, sc_b, sc_n, flat_i, flat_s, flat_b, flat_n, tru_n, tru_b, tru_i, tru_t, tru_l, items_t, items_l, len_t, len_l, iter_t, iter_l, isN_n, isN_i, isN_s, isN_t, isN_l, isN_b, at_0, at_1, at_2, at_3, ib_tn, ib_tb, ib_ti, ib_ts, ib_tt, ib_tl, ib_sn, ib_sb, ib_si, ib_ss, ib_st, ib_sl, ib_in, ib_ib, ib_ii, ib_is, ib_it, ib_il, ib_bn, ib_bb, ib_bi, ib_bs, ib_bt, ib_bl, na_n, na_b, na_i, na_s, na_t, na_l, List.getElem?_cons_zero, List.getElem?_cons_succ, List.set_cons_zero, List.set_cons_succ, List.map_cons, List.map_nil, List.length_cons, List.length_nil, List.replicate_succ, List.replicate_zero, List.cons_append, List.nil_append, List.append_nil, List.isEmpty_nil, List.isEmpty_cons, List.cons.injEq, Option.some.injEq, T.int.injEq, T.str.injEq, T.bl.injEq, T.tup.injEq, T.lst.injEq, T.adr.injEq, Sl.fz.injEq, Sl.ow.injEq, exists_eq_left, exists_eq_left', exists_eq_right, exists_eq_right', exists_eq, exists_eq', exists_and_left, exists_and_right, exists_const, exists_false, and_true, true_and, and_false, false_and, or_true, true_or, or_false, false_or, not_true_eq_false, not_false_eq_true, if_true, if_false, ite_true, ite_false, Bool.not_true, Bool.not_false, Bool.true_or, Bool.or_true, Bool.false_or, Bool.or_false, Bool.true_and, Bool.and_true, Bool.false_and, Bool.and_false, Bool.false_eq_true, Bool.true_eq_false, eq_self, decide_eq_true_eq, decide_true, decide_false, Bool.decide_eq_true, Bool.not_eq_true, decide_eq_false_iff_not, Bool.and_eq_true, Bool.or_eq_true, Bool.not_eq_true', reduceCtorEq, ne_eq, Nat.le_refl, Nat.reduceAdd, Nat.reduceSub, Nat.reduceLeDiff, Nat.reduceLT, implies_true, forall_const, List.any_cons, List.any_nil, List.all_cons, List.all_nil, wipeP, restore, List.getD_eq_getElem?_getD, Option.getD_some, List.mem_singleton, forall_eq, Int.reduceLT, Int.reduceLE, Int.reduceNeg, Int.reduceSub, Int.reduceAdd, Int.reduceToNat, Int.reduceEq, Int.reduceNe, String.reduceEq, and_self, or_self, w_pick, str_inj, pfListed]
    refine ⟨by rw [List.length_map]; omega, by simp, fun i acc ρ => ρ = [Sl.fz (T.tup [T.str (Str.ofString "pick"), T.tup (List.map T.str ns)]), Sl.fz (T.str (Str.ofString "pick")), Sl.no] ∧ acc = (ns.take i).map fun x => LT [x], ⟨rfl, rfl⟩, ?_, ?_⟩
    · rintro i t acc ρ2 e hacc ⟨rfl, rfl⟩
      obtain ⟨hi, rfl⟩ := map_get e
      simp only [↓reduceIte, ↓sSeq, ↓sAsg, ↓sIf, ↓sRet, ↓sRetN, ↓sExpr, ↓sNext, ↓sBreak, ↓sCont, ↓sAug, ↓sFor, ↓gN, ↓pIx, ↓pC, ↓pTup, ↓pLst, ↓pCons, ↓pNil, ↓pStar, ↓pOp, ↓pTB, ↓pTru, ↓pTAnd, ↓pTOr, ↓pTNot, ↓pAndV, ↓pOrV, ↓pNotV, ↓pIf, ↓pCall, ↓pLen, ↓pIsi, ↓pDget, ↓gDset, ↓gSubT, ↓PEq, ↓PNe, ↓pChain, ↓pNeg, ↓pSl, ↓pNoPart, ↓pPart, ↓pIter, ↓pRng1, ↓pRng2, ↓pEnum, ↓pRev, ↓pZip, ↓pMet, ↓pMet0, ↓pMut, ↓pLc, ↓pLRng1, ↓pLRng2, ↓pYes, ↓pRE, ↓startP, ↓pWords, ↓pSplit, ↓gLt, ↓gLe, ↓gGt, ↓gGe, ↓pV_f0, ↓pV_o0, ↓pRV_f0, ↓pRV_o0, ↓lk_f0, ↓lk_o0, ↓sRV_f0, ↓sRV_o0, ↓pV_f1, ↓pV_o1, ↓pRV_f1, ↓pRV_o1, ↓lk_f1, ↓lk_o1, ↓sRV_f1, ↓sRV_o1, ↓pV_f2, ↓pV_o2, ↓pRV_f2, ↓pRV_o2, ↓lk_f2, ↓lk_o2, ↓sRV_f2, ↓sRV_o2, ↓pV_f3, ↓pV_o3, ↓pRV_f3, ↓pRV_o3, ↓lk_f3, ↓lk_o3, ↓sRV_f3, ↓sRV_o3, ↓pV_f4, ↓pV_o4, ↓pRV_f4, ↓pRV_o4, ↓lk_f4, ↓lk_o4, ↓sRV_f4, ↓sRV_o4, ↓pV_f5, ↓pV_o5, ↓pRV_f5, ↓pRV_o5, ↓lk_f5, ↓lk_o5, ↓sRV_f5, ↓sRV_o5, ↓pV_f6, ↓pV_o6, ↓pRV_f6, ↓pRV_o6, ↓lk_f6, ↓lk_o6, ↓sRV_f6, ↓sRV_o6, ↓pV_f7, ↓pV_o7, ↓pRV_f7, ↓pRV_o7, ↓lk_f7, ↓lk_o7, ↓sRV_f7, ↓sRV_o7, ↓pV_f8, ↓pV_o8, ↓pRV_f8, ↓pRV_o8, ↓lk_f8, ↓lk_o8, ↓sRV_f8, ↓sRV_o8, ↓pV_f9, ↓pV_o9, ↓pRV_f9, ↓pRV_o9, ↓lk_f9, ↓lk_o9, ↓sRV_f9, ↓sRV_o9, ↓pV_f10, ↓pV_o10, ↓pRV_f10, ↓pRV_o10, ↓lk_f10, ↓lk_o10, ↓sRV_f10, ↓sRV_o10, ↓pV_f11, ↓pV_o11, ↓pRV_f11, ↓pRV_o11, ↓lk_f11, ↓lk_o11, ↓sRV_f11, ↓sRV_o11, ↓pV_f12, ↓pV_o12, ↓pRV_f12, ↓pRV_o12, ↓lk_f12, ↓lk_o12, ↓sRV_f12, ↓sRV_o12, ↓pV_f13, ↓pV_o13, ↓pRV_f13, ↓pRV_o13, ↓lk_f13, ↓lk_o13, ↓sRV_f13, ↓sRV_o13, ↓lk_fz, ↓of_fn, ↓of_fb, ↓of_fi, ↓of_fs, ↓of_ft, ↓of_fl, ↓of_ol, ↓of_ff, ↓ad_i, ↓ad_s, ↓ad_l, ↓ad_t, ↓su_i, ↓mu_i, ↓mu_l, ↓mo_i, ↓fd_i, ↓pw_i, ↓an_i, ↓ci_i, ↓is_n, ↓is_nn, ↓in_t, ↓in_l, ↓in_s, ↓ix_l, ↓ix_t, ↓ix_s, ↓sl_l, ↓sl_t, ↓sl_s, ↓kn_i, ↓kp_i, ↓kr1, ↓kr2, ↓ke_l, ↓kz_l, ↓kz_t, ↓klr1, ↓klr2, ↓gt_e, ↓gs_n, ↓gs_c, nc_0, nc_1, nc_2, nc_3, nc_4, nc_5, nc_6, nc_7, nc_8, nc_9, nc_10, nc_11, nc_12, eq_ii, eq_ss, eq_nn, eq_bb, eq_st, eq_ts, eq_si, eq_is, eq_it, eq_ti, cmp_i, cmp_b, cmp_n, sc_i, sc_s, sc_b, sc_n, flat_i, flat_s, flat_b, flat_n, tru_n, tru_b, tru_i, tru_t, tru_l, items_t, items_l, len_t, len_l, iter_t, iter_l, isN_n, isN_i, isN_s, isN_t, isN_l, isN_b, at_0, at_1, at_2, at_3, ib_tn, ib_tb, ib_ti, ib_ts, ib_tt, ib_tl, ib_sn, ib_sb, ib_si, ib_ss, ib_st, ib_sl, ib_in, ib_ib, ib_ii, ib_is, ib_it, ib_il, ib_bn, ib_bb, ib_bi, ib_bs, ib_bt, ib_bl, na_n, na_b, na_i, na_s, na_t, na_l, List.getElem?_cons_zero, List.getElem?_cons_succ, List.set_cons_zero, List.set_cons_succ, List.map_cons, List.map_nil, List.length_cons, List.length_nil, List.replicate_succ, List.replicate_zero, List.cons_append, List.nil_append, List.append_nil, List.isEmpty_nil, List.isEmpty_cons, List.cons.injEq, Option.some.injEq, T.int.injEq, T.str.injEq, T.bl.injEq, T.tup.injEq, T.lst.injEq, T.adr.injEq, Sl.fz.injEq, Sl.ow.injEq, exists_eq_left, exists_eq_left', exists_eq_right, exists_eq_right', exists_eq, exists_eq', exists_and_left, exists_and_right, exists_const, exists_false, and_true, true_and, and_false, false_and, or_true, true_or, or_false, false_or, not_true_eq_false, not_false_eq_true, if_true, if_false, ite_true, ite_false, Bool.not_true, Bool.not_false, Bool.true_or, Bool.or_true, Bool.false_or, Bool.or_false, Bool.true_and, Bool.and_true, Bool.false_and, Bool.and_false, Bool.false_eq_true, Bool.true_eq_false, eq_self, decide_eq_true_eq, decide_true, decide_false, Bool.decide_eq_true, Bool.not_eq_true, decide_eq_false_iff_not, Bool.and_eq_true, Bool.or_eq_true, Bool.not_eq_true', reduceCtorEq, ne_eq, Nat.le_refl, Nat.reduceAdd, Nat.reduceSub, Nat.reduceLeDiff, Nat.reduceLT, implies_true, forall_const, List.any_cons, List.any_nil, List.all_cons, List.all_nil, wipeP, restore, List.getD_eq_getElem?_getD, Option.getD_some, List.mem_singleton, forall_eq, Int.reduceLT, Int.reduceLE, Int.reduceNeg, Int.reduceSub, Int.reduceAdd, Int.reduceToNat, Int.reduceEq, Int.reduceNe, String.reduceEq, and_self, or_self]
      rw [List.take_add_one, List.getElem?_eq_getElem hi, List.map_append]
      rfl
    · rintro acc ρ2 hacc ⟨rfl, rfl⟩
      rw [List.length_map, List.take_length]
      refine ⟨ns.map fun x => [x], by rw [List.map_map]; rfl, by omega, ?_, ?_⟩
      · rw [List.length_append, List.length_map, List.length_singleton]
        omega
      · simp only [LT, List.map_cons, List.map_append, List.map_nil] at h
        exact h
  · rw [List.length_cons] at hn
    simp only [↓reduceIte, ↓sSeq, ↓sAsg, ↓sIf, ↓sRet, ↓sRetN, ↓sExpr, ↓sNext, ↓sBreak, ↓sCont, ↓sAug, ↓sFor, ↓gN, ↓pIx, ↓pC, ↓pTup, ↓pLst, ↓pCons, ↓pNil, ↓pStar, ↓pOp, ↓pTB, ↓pTru, ↓pTAnd, ↓pTOr, ↓pTNot, ↓pAndV, ↓pOrV, ↓pNotV, ↓pIf, ↓pCall, ↓pLen, ↓pIsi, ↓pDget, ↓gDset, ↓gSubT, ↓PEq, ↓PNe, ↓pChain, ↓pNeg, ↓pSl, ↓pNoPart, ↓pPart, ↓pIter, ↓pRng1, ↓pRng2, ↓pEnum, ↓pRev, ↓pZip, ↓pMet, ↓pMet0, ↓pMut, ↓pLc, ↓pLRng1, ↓pLRng2, ↓pYes, ↓pRE, ↓startP, ↓pWords, ↓pSplit, ↓gLt, ↓gLe, ↓gGt, ↓gGe, ↓pV_f0, ↓pV_o0, ↓pRV_f0, ↓pRV_o0, ↓lk_f0, ↓lk_o0, ↓sRV_f0, ↓sRV_o0, ↓pV_f1, ↓pV_o1, ↓pRV_f1, ↓pRV_o1, ↓lk_f1, ↓lk_o1, ↓sRV_f1, ↓sRV_o1, ↓pV_f2, ↓pV_o2, ↓pRV_f2, ↓pRV_o2, ↓lk_f2, ↓lk_o2, ↓sRV_f2, ↓sRV_o2, ↓pV_f3, ↓pV_o3, ↓pRV_f3, ↓pRV_o3, ↓lk_f3, ↓lk_o3, ↓sRV_f3, ↓sRV_o3, ↓pV_f4, ↓pV_o4, ↓pRV_f4, ↓pRV_o4, ↓lk_f4, ↓lk_o4, ↓sRV_f4, ↓sRV_o4, ↓pV_f5, ↓pV_o5, ↓pRV_f5, ↓pRV_o5, ↓lk_f5, ↓lk_o5, ↓sRV_f5, ↓sRV_o5, ↓pV_f6, ↓pV_o6, ↓pRV_f6, ↓pRV_o6, ↓lk_f6, ↓lk_o6, ↓sRV_f6, ↓sRV_o6, ↓pV_f7, ↓pV_o7, ↓pRV_f7, ↓pRV_o7, ↓lk_f7, ↓lk_o7, ↓sRV_f7, ↓sRV_o7, ↓pV_f8, ↓pV_o8, ↓pRV_f8, ↓pRV_o8, ↓lk_f8, ↓lk_o8, ↓sRV_f8, ↓sRV_o8, ↓pV_f9, ↓pV_o9, ↓pRV_f9, ↓pRV_o9, ↓lk_f9, ↓lk_o9, ↓sRV_f9, ↓sRV_o9, ↓pV_f10, ↓pV_o10, ↓pRV_f10, ↓pRV_o10, ↓lk_f10, ↓lk_o10, ↓sRV_f10, ↓sRV_o10, ↓pV_f11, ↓pV_o11, ↓pRV_f11, ↓pRV_o11, ↓lk_f11, ↓lk_o11, ↓sRV_f11, ↓sRV_o11, ↓pV_f12, ↓pV_o12, ↓pRV_f12, ↓pRV_o12, ↓lk_f12, ↓lk_o12, ↓sRV_f12, ↓sRV_o12, ↓pV_f13, ↓pV_o13, ↓pRV_f13, ↓pRV_o13, ↓lk_f13, ↓lk_o13, ↓sRV_f13, ↓sRV_o13, ↓lk_fz, ↓of_fn, ↓of_fb, ↓of_fi, ↓of_fs, ↓of_ft, ↓of_fl, ↓of_ol, ↓of_ff, ↓ad_i, ↓ad_s, ↓ad_l, ↓ad_t, ↓su_i, ↓mu_i, ↓mu_l, ↓mo_i, ↓fd_i, ↓pw_i, ↓an_i, ↓ci_i, ↓is_n, ↓is_nn, ↓in_t, ↓in_l, ↓in_s, ↓ix_l, ↓ix_t, ↓ix_s, ↓sl_l, ↓sl_t, ↓sl_s, ↓kn_i, ↓kp_i, ↓kr1, ↓kr2, ↓ke_l, ↓kz_l, ↓kz_t, ↓klr1, ↓klr2, ↓gt_e, ↓gs_n, ↓gs_c, nc_0, nc_1, nc_2, nc_3, nc_4, nc_5, nc_6, nc_7, nc_8, nc_9, nc_10, nc_11, nc_12, eq_ii, eq_ss, eq_nn, eq_bb, eq_st, eq_ts, eq_si, eq_is, eq_it, eq_ti, cmp_i, cmp_b, cmp_n, sc_i, sc_s, sc_b, sc_n, flat_i, flat_s, flat_b, flat_n, tru_n, tru_b, tru_i, tru_t, tru_l, items_t, items_l, len_t, len_l, iter_t, iter_l, isN_n, isN_i, isN_s, isN_t, isN_l, isN_b, at_0, at_1, at_2, at_3, ib_tn, ib_tb, ib_ti, ib_ts, ib_tt, ib_tl, ib_sn, ib_sb, ib_si, ib_ss, ib_st, ib_sl, ib_in, ib_ib, ib_ii, ib_is, ib_it, ib_il, ib_bn, ib_bb, ib_bi, ib_bs, ib_bt, ib_bl, na_n, na_b, na_i, na_s, na_t, na_l, List.getElem?_cons_zero, List.getElem?_cons_succ, List.set_cons_zero, List.set_cons_succ, List.map_cons, List.map_nil, List.length_cons, List.length_nil, List.replicate_succ, List.replicate_zero, List.cons_append, List.nil_append, List.append_nil, List.isEmpty_nil, List.isEmpty_cons, List.cons.injEq, Option.some.injEq, T.int.injEq, T.str.injEq, T.bl.injEq, T.tup.injEq, T.lst.injEq, T.adr.injEq, Sl.fz.injEq, Sl.ow.injEq, exists_eq_left, exists_eq_left', exists_eq_right, exists_eq_right', exists_eq, exists_eq', exists_and_left, exists_and_right, exists_const, exists_false, and_true, true_and, and_false, false_and, or_true, true_or, or_false, false_or, not_true_eq_false, not_false_eq_true, if_true, if_false, ite_true, ite_false, Bool.not_true, Bool.not_false, Bool.true_or, Bool.or_true, Bool.false_or, Bool.or_false, Bool.true_and, Bool.and_true, Bool.false_and, Bool.and_false, Bool.false_eq_true, Bool.true_eq_false, eq_self, decide_eq_true_eq, decide_true, decide_false, Bool.decide_eq_true, Bool.not_eq_true, decide_eq_false_iff_not, Bool.and_eq_true, Bool.or_eq_true, Bool.not_eq_true', reduceCtorEq, ne_eq, Nat.le_refl, Nat.reduceAdd, Nat.reduceSub, Nat.reduceLeDiff, Nat.reduceLT, implies_true, forall_const, List.any_cons, List.any_nil, List.all_cons, List.all_nil, wipeP, restore, List.getD_eq_getElem?_getD, Option.getD_some, List.mem_singleton, forall_eq, Int.reduceLT, Int.reduceLE, Int.reduceNeg, Int.reduceSub, Int.reduceAdd, Int.reduceToNat, Int.reduceEq, Int.reduceNe, String.reduceEq, and_self, or_self, w_opt, str_inj, pfKT]
    refine ⟨_, hk, by omega, by rw [List.length_map]; omega, h⟩
  · rw [List.length_cons, List.length_cons, List.length_cons] at hn
    simp only [↓reduceIte, ↓sSeq, ↓sAsg, ↓sIf, ↓sRet, ↓sRetN, ↓sExpr, ↓sNext, ↓sBreak, ↓sCont, ↓sAug, ↓sFor, ↓gN, ↓pIx, ↓pC, ↓pTup, ↓pLst, ↓pCons, ↓pNil, ↓pStar, ↓pOp, ↓pTB, ↓pTru, ↓pTAnd, ↓pTOr, ↓pTNot, ↓pAndV, ↓pOrV, ↓pNotV, ↓pIf, ↓pCall, ↓pLen, ↓pIsi, ↓pDget, ↓gDset, ↓gSubT, ↓PEq, ↓PNe, ↓pChain, ↓pNeg, ↓pSl, ↓pNoPart, ↓pPart, ↓pIter, ↓pRng1, ↓pRng2, ↓pEnum, ↓pRev, ↓pZip, ↓pMet, ↓pMet0, ↓pMut, ↓pLc, ↓pLRng1, ↓pLRng2, ↓pYes, ↓pRE, ↓startP, ↓pWords, ↓pSplit, ↓gLt, ↓gLe, ↓gGt, ↓gGe, ↓pV_f0, ↓pV_o0, ↓pRV_f0, ↓pRV_o0, ↓lk_f0, ↓lk_o0, ↓sRV_f0, ↓sRV_o0, ↓pV_f1, ↓pV_o1, ↓pRV_f1, ↓pRV_o1, ↓lk_f1, ↓lk_o1, ↓sRV_f1, ↓sRV_o1, ↓pV_f2, ↓pV_o2, ↓pRV_f2, ↓pRV_o2, ↓lk_f2, ↓lk_o2, ↓sRV_f2, ↓sRV_o2, ↓pV_f3, ↓pV_o3, ↓pRV_f3, ↓pRV_o3, ↓lk_f3, ↓lk_o3, ↓sRV_f3, ↓sRV_o3, ↓pV_f4, ↓pV_o4, ↓pRV_f4, ↓pRV_o4, ↓lk_f4, ↓lk_o4, ↓sRV_f4, ↓sRV_o4, ↓pV_f5, ↓pV_o5, ↓pRV_f5, ↓pRV_o5, ↓lk_f5, ↓lk_o5, ↓sRV_f5, ↓sRV_o5, ↓pV_f6, ↓pV_o6, ↓pRV_f6, ↓pRV_o6, ↓lk_f6, ↓lk_o6, ↓sRV_f6, ↓sRV_o6, ↓pV_f7, ↓pV_o7, ↓pRV_f7, ↓pRV_o7, ↓lk_f7, ↓lk_o7, ↓sRV_f7, ↓sRV_o7, ↓pV_f8, ↓pV_o8, ↓pRV_f8, ↓pRV_o8, ↓lk_f8, ↓lk_o8, ↓sRV_f8, ↓sRV_o8, ↓pV_f9, ↓pV_o9, ↓pRV_f9, ↓pRV_o9, ↓lk_f9, ↓lk_o9, ↓sRV_f9, ↓sRV_o9, ↓pV_f10, ↓pV_o10, ↓pRV_f10, ↓pRV_o10, ↓lk_f10, ↓lk_o10, ↓sRV_f10, ↓sRV_o10, ↓pV_f11, ↓pV_o11, ↓pRV_f11, ↓pRV_o11, ↓lk_f11, ↓lk_o11, ↓sRV_f11, ↓sRV_o11, ↓pV_f12, ↓pV_o12, ↓pRV_f12, ↓pRV_o12, ↓lk_f12, ↓lk_o12, ↓sRV_f12, ↓sRV_o12, ↓pV_f13, ↓pV_o13, ↓pRV_f13, ↓pRV_o13, ↓lk_f13, ↓lk_o13, ↓sRV_f13, ↓sRV_o13, ↓lk_fz, ↓of_fn, ↓of_fb, ↓of_fi, ↓of_fs, ↓of_ft, ↓of_fl, ↓of_ol, ↓of_ff, ↓ad_i, ↓ad_s, ↓ad_l, ↓ad_t, ↓su_i, ↓mu_i, ↓mu_l, ↓mo_i, ↓fd_i, ↓pw_i, ↓an_i, ↓ci_i, ↓is_n, ↓is_nn, ↓in_t, ↓in_l, ↓in_s, ↓ix_l, ↓ix_t, ↓ix_s, ↓sl_l, ↓sl_t, ↓sl_s, ↓kn_i, ↓kp_i, ↓kr1, ↓kr2, ↓ke_l, ↓kz_l, ↓kz_t, ↓klr1, ↓klr2, ↓gt_e, ↓gs_n, ↓gs_c, nc_0, nc_1, nc_2, nc_3, nc_4, nc_5, nc_6, nc_7, nc_8, nc_9, nc_10, nc_11, nc_12, eq_ii, eq_ss, eq_nn, eq_bb, eq_st, eq_ts, eq_si, eq_is, eq_it, eq_ti, cmp_i, cmp_b, cmp_n, sc_i, sc_s, sc_b, sc_n, flat_i, flat_s, flat_b, flat_n, tru_n, tru_b, tru_i, tru_t, tru_l, items_t, items_l, len_t, len_l, iter_t, iter_l, isN_n, isN_i, isN_s, isN_t, isN_l, isN_b, at_0, at_1, at_2, at_3, ib_tn, ib_tb, ib_ti, ib_ts, ib_tt, ib_tl, ib_sn, ib_sb, ib_si, ib_ss, ib_st, ib_sl, ib_in, ib_ib, ib_ii, ib_is, ib_it, ib_il, ib_bn, ib_bb, ib_bi, ib_bs, ib_bt, ib_bl, na_n, na_b, na_i, na_s, na_t, na_l, List.getElem?_cons_zero, List.getElem?_cons_succ, List.set_cons_zero, List.set_cons_succ, List.map_cons, List.map_nil, List.length_cons, List.length_nil, List.replicate_succ, List.replicate_zero, List.cons_append, List.nil_append, List.append_nil, List.isEmpty_nil, List.isEmpty_cons, List.cons.injEq, Option.some.injEq, T.int.injEq, T.str.injEq, T.bl.injEq, T.tup.injEq, T.lst.injEq, T.adr.injEq, Sl.fz.injEq, Sl.ow.injEq, exists_eq_left, exists_eq_left', exists_eq_right, exists_eq_right', exists_eq, exists_eq', exists_and_left, exists_and_right, exists_const, exists_false, and_true, true_and, and_false, false_and, or_true, true_or, or_false, false_or, not_true_eq_false, not_false_eq_true, if_true, if_false, ite_true, ite_false, Bool.not_true, Bool.not_false, Bool.true_or, Bool.or_true, Bool.false_or, Bool.or_false, Bool.true_and, Bool.and_true, Bool.false_and, Bool.and_false, Bool.false_eq_true, Bool.true_eq_false, eq_self, decide_eq_true_eq, decide_true, decide_false, Bool.decide_eq_true, Bool.not_eq_true, decide_eq_false_iff_not, Bool.and_eq_true, Bool.or_eq_true, Bool.not_eq_true', reduceCtorEq, ne_eq, Nat.le_refl, Nat.reduceAdd, Nat.reduceSub, Nat.reduceLeDiff, Nat.reduceLT, implies_true, forall_const, List.any_cons, List.any_nil, List.all_cons, List.all_nil, wipeP, restore, List.getD_eq_getElem?_getD, Option.getD_some, List.mem_singleton, forall_eq, Int.reduceLT, Int.reduceLE, Int.reduceNeg, Int.reduceSub, Int.reduceAdd, Int.reduceToNat, Int.reduceEq, Int.reduceNe, String.reduceEq, and_self, or_self, w_row, str_inj, pfKT]
    exact ⟨log_ib hi, _, hk, by omega, by rw [List.length_map]; omega, h⟩
  · rw [List.length_cons, List.length_cons, List.length_append, List.length_singleton] at hn
    have h2 : Φ (T.lst (T.str w :: T.str bO :: (List.map T.str (List.flatMap fpS l) ++ [T.str bC]))) true := by
      simp only [LT, List.map_cons, List.map_append, List.map_nil] at h
      exact h
    rcases hw with rfl | rfl
    · simp only [↓reduceIte, ↓sSeq, ↓sAsg, ↓sIf, ↓sRet, ↓sRetN, ↓sExpr, ↓sNext, ↓sBreak, ↓sCont, ↓sAug, ↓sFor, ↓gN, ↓pIx, ↓pC, ↓pTup, ↓pLst, ↓pCons, ↓pNil, ↓pStar, ↓pOp, ↓pTB, ↓pTru, ↓pTAnd, ↓pTOr, ↓pTNot, ↓pAndV, ↓pOrV, ↓pNotV, ↓pIf, ↓pCall, ↓pLen, ↓pIsi, ↓pDget, ↓gDset, ↓gSubT, ↓PEq, ↓PNe, ↓pChain, ↓pNeg, ↓pSl, ↓pNoPart, ↓pPart, ↓pIter, ↓pRng1, ↓pRng2, ↓pEnum, ↓pRev, ↓pZip, ↓pMet, ↓pMet0, ↓pMut, ↓pLc, ↓pLRng1, ↓pLRng2, ↓pYes, ↓pRE, ↓startP, ↓pWords, ↓pSplit, ↓gLt, ↓gLe, ↓gGt, ↓gGe, ↓pV_f0, ↓pV_o0, ↓pRV_f0, ↓pRV_o0, ↓lk_f0, ↓lk_o0, ↓sRV_f0, ↓sRV_o0, ↓pV_f1, ↓pV_o1, ↓pRV_f1, ↓pRV_o1, ↓lk_f1, ↓lk_o1, ↓sRV_f1, ↓sRV_o1, ↓pV_f2, ↓pV_o2, ↓pRV_f2, ↓pRV_o2, ↓lk_f2, ↓lk_o2, ↓sRV_f2, ↓sRV_o2, ↓pV_f3, ↓pV_o3, ↓pRV_f3, ↓pRV_o3, ↓lk_f3, ↓lk_o3, ↓sRV_f3, ↓sRV_o3, ↓pV_f4, ↓pV_o4, ↓pRV_f4, ↓pRV_o4, ↓lk_f4, ↓lk_o4, ↓sRV_f4, ↓sRV_o4, ↓pV_f5, ↓pV_o5, ↓pRV_f5, ↓pRV_o5, ↓lk_f5, ↓lk_o5, ↓sRV_f5, ↓sRV_o5, ↓pV_f6, ↓pV_o6, ↓pRV_f6, ↓pRV_o6, ↓lk_f6, ↓lk_o6, ↓sRV_f6, ↓sRV_o6, ↓pV_f7, ↓pV_o7, ↓pRV_f7, ↓pRV_o7, ↓lk_f7, ↓lk_o7, ↓sRV_f7, ↓sRV_o7, ↓pV_f8, ↓pV_o8, ↓pRV_f8, ↓pRV_o8, ↓lk_f8, ↓lk_o8, ↓sRV_f8, ↓sRV_o8, ↓pV_f9, ↓pV_o9, ↓pRV_f9, ↓pRV_o9, ↓lk_f9, ↓lk_o9, ↓sRV_f9, ↓sRV_o9, ↓pV_f10, ↓pV_o10, ↓pRV_f10, ↓pRV_o10, ↓lk_f10, ↓lk_o10, ↓sRV_f10, ↓sRV_o10, ↓pV_f11, ↓pV_o11, ↓pRV_f11, ↓pRV_o11, ↓lk_f11, ↓lk_o11, ↓sRV_f11, ↓sRV_o11, ↓pV_f12, ↓pV_o12, ↓pRV_f12, ↓pRV_o12, ↓lk_f12, ↓lk_o12, ↓sRV_f12, ↓sRV_o12, ↓pV_f13, ↓pV_o13, ↓pRV_f13, ↓pRV_o13, ↓lk_f13, ↓lk_o13, ↓sRV_f13, ↓sRV_o13, ↓lk_fz, ↓of_fn, ↓of_fb, ↓of_fi, ↓of_fs, ↓of_ft, ↓of_fl, ↓of_ol, ↓of_ff, ↓ad_i, ↓ad_s, ↓ad_l, ↓ad_t, ↓su_i, ↓mu_i, ↓mu_l, ↓mo_i, ↓fd_i, ↓pw_i, ↓an_i, ↓ci_i, ↓is_n, ↓is_nn, ↓in_t, ↓in_l, ↓in_s, ↓ix_l, ↓ix_t, ↓ix_s, ↓sl_l, ↓sl_t, ↓sl_s, ↓kn_i, ↓kp_i, ↓kr1, ↓kr2, ↓ke_l, ↓kz_l, ↓kz_t, ↓klr1, ↓klr2, ↓gt_e, ↓gs_n, ↓gs_c, nc_0, nc_1, nc_2, nc_3, nc_4, nc_5, nc_6, nc_7, nc_8, nc_9, nc_10, nc_11, nc_12, eq_ii, eq_ss, eq_nn, eq_bb, eq_st, eq_ts, eq_si, eq_is, eq_it, eq_ti, cmp_i, cmp_b, cmp_n, sc_i, sc_s, sc_b, sc_n, flat_i, flat_s, flat_b, flat_n, tru_n, tru_b, tru_i, tru_t, tru_l, items_t, items_l, len_t, len_l, iter_t, iter_l, isN_n, isN_i, isN_s, isN_t, isN_l, isN_b, at_0, at_1, at_2, at_3, ib_tn, ib_tb, ib_ti, ib_ts, ib_tt, ib_tl, ib_sn, ib_sb, ib_si, ib_ss, ib_st, ib_sl, ib_in, ib_ib, ib_ii, ib_is, ib_it, ib_il, ib_bn, ib_bb, ib_bi, ib_bs, ib_bt, ib_bl, na_n, na_b, na_i, na_s, na_t, na_l, List.getElem?_cons_zero, List.getElem?_cons_succ, List.set_cons_zero, List.set_cons_succ, List.map_cons, List.map_nil, List.length_cons, List.length_nil, List.replicate_succ, List.replicate_zero, List.cons_append, List.nil_append, List.append_nil, List.isEmpty_nil, List.isEmpty_cons, List.cons.injEq, Option.some.injEq, T.int.injEq, T.str.injEq, T.bl.injEq, T.tup.injEq, T.lst.injEq, T.adr.injEq, Sl.fz.injEq, Sl.ow.injEq, exists_eq_left, exists_eq_left', exists_eq_right, exists_eq_right', exists_eq, exists_eq', exists_and_left, exists_and_right, exists_const, exists_false, and_true, true_and, and_false, false_and, or_true, true_or, or_false, false_or, not_true_eq_false, not_false_eq_true, if_true, if_false, ite_true, ite_false, Bool.not_true, Bool.not_false, Bool.true_or, Bool.or_true, Bool.false_or, Bool.or_false, Bool.true_and, Bool.and_true, Bool.false_and, Bool.and_false, Bool.false_eq_true, Bool.true_eq_false, eq_self, decide_eq_true_eq, decide_true, decide_false, Bool.decide_eq_true, Bool.not_eq_true, decide_eq_false_iff_not, Bool.and_eq_true, Bool.or_eq_true, Bool.not_eq_true', reduceCtorEq, ne_eq, Nat.le_refl, Nat.reduceAdd, Nat.reduceSub, Nat.reduceLeDiff, Nat.reduceLT, implies_true, forall_const, List.any_cons, List.any_nil, List.all_cons, List.all_nil, wipeP, restore, List.getD_eq_getElem?_getD, Option.getD_some, List.mem_singleton, forall_eq, Int.reduceLT, Int.reduceLE, Int.reduceNeg, Int.reduceSub, Int.reduceAdd, Int.reduceToNat, Int.reduceEq, Int.reduceNe, String.reduceEq, and_self, or_self, w_one, str_inj, pfFT]
      refine ⟨_, rfl, hl, by omega, ?_, h2⟩
      rw [List.length_append, List.length_map, List.length_singleton]
      omega
    · simp only [↓reduceIte, ↓sSeq, ↓sAsg, ↓sIf, ↓sRet, ↓sRetN, ↓sExpr, ↓sNext, ↓sBreak, ↓sCont, ↓sAug, ↓sFor, ↓gN, ↓pIx, ↓pC, ↓pTup, ↓pLst, ↓pCons, ↓pNil, ↓pStar, ↓pOp, ↓pTB, ↓pTru, ↓pTAnd, ↓pTOr, ↓pTNot, ↓pAndV, ↓pOrV, ↓pNotV, ↓pIf, ↓pCall, ↓pLen, ↓pIsi, ↓pDget, ↓gDset, ↓gSubT, ↓PEq, ↓PNe, ↓pChain, ↓pNeg, ↓pSl, ↓pNoPart, ↓pPart, ↓pIter, ↓pRng1, ↓pRng2, ↓pEnum, ↓pRev, ↓pZip, ↓pMet, ↓pMet0, ↓pMut, ↓pLc, ↓pLRng1, ↓pLRng2, ↓pYes, ↓pRE, ↓startP, ↓pWords, ↓pSplit, ↓gLt, ↓gLe, ↓gGt, ↓gGe, ↓pV_f0, ↓pV_o0, ↓pRV_f0, ↓pRV_o0, ↓lk_f0, ↓lk_o0, ↓sRV_f0, ↓sRV_o0, ↓pV_f1, ↓pV_o1, ↓pRV_f1, ↓pRV_o1, ↓lk_f1, ↓lk_o1, ↓sRV_f1, ↓sRV_o1, ↓pV_f2, ↓pV_o2, ↓pRV_f2, ↓pRV_o2, ↓lk_f2, ↓lk_o2, ↓sRV_f2, ↓sRV_o2, ↓pV_f3, ↓pV_o3, ↓pRV_f3, ↓pRV_o3, ↓lk_f3, ↓lk_o3, ↓sRV_f3, ↓sRV_o3, ↓pV_f4, ↓pV_o4, ↓pRV_f4, ↓pRV_o4, ↓lk_f4, ↓lk_o4, ↓sRV_f4, ↓sRV_o4, ↓pV_f5, ↓pV_o5, ↓pRV_f5, ↓pRV_o5, ↓lk_f5, ↓lk_o5, ↓sRV_f5, ↓sRV_o5, ↓pV_f6, ↓pV_o6, ↓pRV_f6, ↓pRV_o6, ↓lk_f6, ↓lk_o6, ↓sRV_f6, ↓sRV_o6, ↓pV_f7, ↓pV_o7, ↓pRV_f7, ↓pRV_o7, ↓lk_f7, ↓lk_o7, ↓sRV_f7, ↓sRV_o7, ↓pV_f8, ↓pV_o8, ↓pRV_f8, ↓pRV_o8, ↓lk_f8, ↓lk_o8, ↓sRV_f8, ↓sRV_o8, ↓pV_f9, ↓pV_o9, ↓pRV_f9, ↓pRV_o9, ↓lk_f9, ↓lk_o9, ↓sRV_f9, ↓sRV_o9, ↓pV_f10, ↓pV_o10, ↓pRV_f10, ↓pRV_o10, ↓lk_f10, ↓lk_o10, ↓sRV_f10, ↓sRV_o10, ↓pV_f11, ↓pV_o11, ↓pRV_f11, ↓pRV_o11, ↓lk_f11, ↓lk_o11, ↓sRV_f11, ↓sRV_o11, ↓pV_f12, ↓pV_o12, ↓pRV_f12, ↓pRV_o12, ↓lk_f12, ↓lk_o12, ↓sRV_f12, ↓sRV_o12, ↓pV_f13, ↓pV_o13, ↓pRV_f13, ↓pRV_o13, ↓lk_f13, ↓lk_o13, ↓sRV_f13, ↓sRV_o13, ↓lk_fz, ↓of_fn, ↓of_fb, ↓of_fi, ↓of_fs, ↓of_ft, ↓of_fl, ↓of_ol, ↓of_ff, ↓ad_i, ↓ad_s, ↓ad_l, ↓ad_t, ↓su_i, ↓mu_i, ↓mu_l, ↓mo_i, ↓fd_i, ↓pw_i, ↓an_i, ↓ci_i, ↓is_n, ↓is_nn, ↓in_t, ↓in_l, ↓in_s, ↓ix_l, ↓ix_t, ↓ix_s, ↓sl_l, ↓sl_t, ↓sl_s, ↓kn_i, ↓kp_i, ↓kr1, ↓kr2, ↓ke_l, ↓kz_l, ↓kz_t, ↓klr1, ↓klr2, ↓gt_e, ↓gs_n, ↓gs_c, nc_0, nc_1, nc_2, nc_3, nc_4, nc_5, nc_6, nc_7, nc_8, nc_9, nc_10, nc_11, nc_12, eq_ii, eq_ss, eq_nn, eq_bb, eq_st, eq_ts, eq_si, eq_is, eq_it, eq_ti, cmp_i, cmp_b, cmp_n, sc_i, sc_s, sc_b, sc_n, flat_i, flat_s, flat_b, flat_n, tru_n, tru_b, tru_i, tru_t, tru_l, items_t, items_l, len_t, len_l, iter_t, iter_l, isN_n, isN_i, isN_s, isN_t, isN_l, isN_b, at_0, at_1, at_2, at_3, ib_tn, ib_tb, ib_ti, ib_ts, ib_tt, ib_tl, ib_sn, ib_sb, ib_si, ib_ss, ib_st, ib_sl, ib_in, ib_ib, ib_ii, ib_is, ib_it, ib_il, ib_bn, ib_bb, ib_bi, ib_bs, ib_bt, ib_bl, na_n, na_b, na_i, na_s, na_t, na_l, List.getElem?_cons_zero, List.getElem?_cons_succ, List.set_cons_zero, List.set_cons_succ, List.map_cons, List.map_nil, List.length_cons, List.length_nil, List.replicate_succ, List.replicate_zero, List.cons_append, List.nil_append, List.append_nil, List.isEmpty_nil, List.isEmpty_cons, List.cons.injEq, Option.some.injEq, T.int.injEq, T.str.injEq, T.bl.injEq, T.tup.injEq, T.lst.injEq, T.adr.injEq, Sl.fz.injEq, Sl.ow.injEq, exists_eq_left, exists_eq_left', exists_eq_right, exists_eq_right', exists_eq, exists_eq', exists_and_left, exists_and_right, exists_const, exists_false, and_true, true_and, and_false, false_and, or_true, true_or, or_false, false_or, not_true_eq_false, not_false_eq_true, if_true, if_false, ite_true, ite_false, Bool.not_true, Bool.not_false, Bool.true_or, Bool.or_true, Bool.false_or, Bool.or_false, Bool.true_and, Bool.and_true, Bool.false_and, Bool.and_false, Bool.false_eq_true, Bool.true_eq_false, eq_self, decide_eq_true_eq, decide_true, decide_false, Bool.decide_eq_true, Bool.not_eq_true, decide_eq_false_iff_not, Bool.and_eq_true, Bool.or_eq_true, Bool.not_eq_true', reduceCtorEq, ne_eq, Nat.le_refl, Nat.reduceAdd, Nat.reduceSub, Nat.reduceLeDiff, Nat.reduceLT, implies_true, forall_const, List.any_cons, List.any_nil, List.all_cons, List.all_nil, wipeP, restore, List.getD_eq_getElem?_getD, Option.getD_some, List.mem_singleton, forall_eq, Int.reduceLT, Int.reduceLE, Int.reduceNeg, Int.reduceSub, Int.reduceAdd, Int.reduceToNat, Int.reduceEq, Int.reduceNe, String.reduceEq, and_self, or_self, w_rec, str_inj, pfFT]
      refine ⟨_, rfl, hl, by omega, ?_, h2⟩
      rw [List.length_append, List.length_map, List.length_singleton]
      omega
theorem ok_trios_tokens {W : Wld} {k : Nat} {n : Nat} (D : Df K mg "_trios_tokens" s_trios_tokens)
    (C_way_tokens : CalQ P w K mg base (W) "_way_tokens" k ["way"] (pfWT n))
    (C_end_token : CalQ P w K mg base (W) "_end_token" k ["end"] (pfEnd)) :
    CalQ P w K mg base (W) "_trios_tokens" (k + 1) ["trios"] (pfTT n) := by
  refine CalQ.mk D sc_trios_tokens (fun _ _ _ _ _ _ us h => match us, h with | [_], _ => rfl) (fun ts Φ h => by first | (obtain ⟨rfl, _⟩ := h; rfl) | (obtain ⟨_, rfl, _⟩ := h; rfl) | (obtain ⟨_, _, rfl, _⟩ := h; rfl) | (obtain ⟨_, _, _, rfl, _⟩ := h; rfl) | (obtain ⟨_, _, _, _, rfl, _⟩ := h; rfl)) (fun f cdv A outer s H E hr => ?_)
  refine ⟨_, qss_cons (qs_set (i := 1) sc_trios_tokens.nd rfl (.inl rfl) (qe_lst qa_nil))
    (qss_cons (qs_for (passes_of rfl) rfl (qi_val (qe_name (pv 0))) (qg_tup rfl (qgs_cons (qg_name (pg_name (i := 2) sc_trios_tokens.nd rfl (.inl rfl))) (qgs_cons (qg_name (pg_name (i := 3) sc_trios_tokens.nd rfl (.inl rfl))) (qgs_cons (qg_name (pg_name (i := 4) sc_trios_tokens.nd rfl (.inl rfl))) qgs_nil))) (len_cons ex_name (len_cons ex_name (len_cons ex_name len_nil))))
    (qss_one (qs_expr (qe_mut PySem.F.slot_list_extend PySem.F.type_list_extend mq_extend (pv 1) (qa_cons (qe_lst (qa_cons (qe_call C_end_token (hr.mono (by omega)) (by rfl) (qa_cons (qe_name (pv 2)) qa_nil)) (qa_cons qe_str (qa_cons (qe_call C_end_token (hr.mono (by omega)) (by rfl) (qa_cons (qe_name (pv 3)) qa_nil)) (qa_cons qe_str (qa_star (qe_call C_way_tokens (hr.mono (by omega)) (by rfl) (qa_cons (qe_name (pv 4)) qa_nil)) (qa_cons qe_str qa_nil))))))) qa_nil)))))
    (qss_one (qs_retV (pv 1)))), ?_⟩
  intro ts Φ h
  obtain ⟨l, rfl, hl, hn, h⟩ := h
  simp only [↓reduceIte, ↓sSeq, ↓sAsg, ↓sIf, ↓sRet, ↓sRetN, ↓sExpr, ↓sNext, ↓sBreak, ↓sCont, ↓sAug, ↓sFor, ↓gN, ↓pIx, ↓pC, ↓pTup, ↓pLst, ↓pCons, ↓pNil, ↓pStar, ↓pOp, ↓pTB, ↓pTru, ↓pTAnd, ↓pTOr, ↓pTNot, ↓pAndV, ↓pOrV, ↓pNotV, ↓pIf, ↓pCall, ↓pLen, ↓pIsi, ↓pDget, ↓gDset, ↓gSubT, ↓PEq, ↓PNe, ↓pChain, ↓pNeg, ↓pSl, ↓pNoPart, ↓pPart, ↓pIter, ↓pRng1, ↓pRng2, ↓pEnum, ↓pRev, ↓pZip, ↓pMet, ↓pMet0, ↓pMut, ↓pLc, ↓pLRng1, ↓pLRng2, ↓pYes, ↓pRE, ↓startP, ↓pWords, ↓pSplit, ↓gLt, ↓gLe, ↓gGt, ↓gGe, ↓pV_f0, ↓pV_o0, ↓pRV_f0, ↓pRV_o0, ↓lk_f0, ↓lk_o0, ↓sRV_f0, ↓sRV_o0, ↓pV_f1, ↓pV_o1, ↓pRV_f1, ↓pRV_o1, ↓lk_f1, ↓lk_o1, ↓sRV_f1, ↓sRV_o1, ↓pV_f2, ↓pV_o2, ↓pRV_f2, ↓pRV_o2, ↓lk_f2, ↓lk_o2, ↓sRV_f2, ↓sRV_o2, ↓pV_f3, ↓pV_o3, ↓pRV_f3, ↓pRV_o3, ↓lk_f3, ↓lk_o3, ↓sRV_f3, ↓sRV_o3, ↓pV_f4, ↓pV_o4, ↓pRV_f4, ↓pRV_o4, ↓lk_f4, ↓lk_o4, ↓sRV_f4, ↓sRV_o4, ↓pV_f5, ↓pV_o5, ↓pRV_f5, ↓pRV_o5, ↓lk_f5, ↓lk_o5, ↓sRV_f5, ↓sRV_o5, ↓pV_f6, ↓pV_o6, ↓pRV_f6, ↓pRV_o6, ↓lk_f6, ↓lk_o6, ↓sRV_f6, ↓sRV_o6, ↓pV_f7, ↓pV_o7, ↓pRV_f7, ↓pRV_o7, ↓lk_f7, ↓lk_o7, ↓sRV_f7, ↓sRV_o7, ↓pV_f8, ↓pV_o8, ↓pRV_f8, ↓pRV_o8, ↓lk_f8, ↓lk_o8, ↓sRV_f8, ↓sRV_o8, ↓pV_f9, ↓pV_o9, ↓pRV_f9, ↓pRV_o9, ↓lk_f9, ↓lk_o9, ↓sRV_f9, ↓sRV_o9, ↓pV_f10, ↓pV_o10, ↓pRV_f10, ↓pRV_o10, ↓lk_f10, ↓lk_o10, ↓sRV_f10, ↓sRV_o10, ↓pV_f11, ↓pV_o11, ↓pRV_f11, ↓pRV_o11, ↓lk_f11, ↓lk_o11, ↓sRV_f11, ↓sRV_o11, ↓pV_f12, ↓pV_o12, ↓pRV_f12, ↓pRV_o12, ↓lk_f12, ↓lk_o12, ↓sRV_f12, ↓sRV_o12, ↓pV_f13, ↓pV_o13, ↓pRV_f13, ↓pRV_o13, ↓lk_f13, ↓lk_o13, ↓sRV_f13, ↓sRV_o13, ↓lk_fz, ↓of_fn, ↓of_fb, ↓of_fi, ↓of_fs, ↓of_ft, ↓of_fl, ↓of_ol, ↓of_ff, ↓ad_i, ↓ad_s, ↓ad_l, ↓ad_t, ↓su_i, ↓mu_i, ↓mu_l, ↓mo_i, ↓fd_i, ↓pw_i, ↓an_i, ↓ci_i, ↓is_n, ↓is_nn, ↓in_t, ↓in_l, ↓in_s, ↓ix_l, ↓ix_t, ↓ix_s, ↓sl_l, ↓sl_t, ↓sl_s, ↓kn_i, ↓kp_i, ↓kr1, ↓kr2, ↓ke_l, ↓kz_l, ↓kz_t, ↓klr1, ↓klr2, ↓gt_e, ↓gs_n, ↓gs_c, nc_0, nc_1, nc_2, nc_3, nc_4, nc_5, nc_6, nc_7, nc_8, nc_9, nc_10, nc_11, nc_12, eq_ii, eq_ss, eq_nn, eq_bb, eq_st, eq_ts, eq_si, eq_is, eq_it, eq_ti, cmp_i, cmp_b, cmp_n, sc_i, sc_s, sc_b, sc_n, flat_i, flat_s, flat_b, flat_n, tru_n, tru_b, tru_i, tru_t, tru_l, items_t, items_l, len_t, len_l, iter_t, iter_l, isN_n, isN_i, isN_s, isN_t, isN_l, isN_b, at_0, at_1, at_2, at_3, ib_tn, ib_tb, ib_ti, ib_ts, ib_tt, ib_tl, ib_sn, ib_sb, ib_si, ib_ss, ib_st, ib_sl, ib_in, ib_ib, ib_ii, ib_is, ib_it, ib_il, ib_bn, ib_bb, ib_bi, ib_bs, ib_bt, ib_bl, na_n, na_b, na_i, na_s, na_t, na_l, List.getElem?_cons_zero, List.getElem?_cons_succ, List.set_cons_zero, List.set_cons_succ, List.map_cons, List.map_nil, List.length_cons, List.length_nil, List.replicate_succ, List.replicate_zero, List.cons_append, List.nil_append, List.append_nil, List.isEmpty_nil, List.isEmpty_cons, List.cons.injEq, Option.some.injEq, T.int.injEq, T.str.injEq, T.bl.injEq, T.tup.injEq, T.lst.injEq, T.adr.injEq, Sl.fz.injEq, Sl.ow.injEq, exists_eq_left, exists_eq_left', exists_eq_right, exists_eq_right', exists_eq, exists_eq', exists_and_left, exists_and_right, exists_const, exists_false, and_true, true_and, and_false, false_and, or_true, true_or, or_false, false_or, not_true_eq_false, not_false_eq_true, if_true, if_false, ite_true, ite_false, Bool.not_true, Bool.not_false, Bool.true_or, Bool.or_true, Bool.false_or, Bool.or_false, Bool.true_and, Bool.and_true, Bool.false_and, Bool.and_false, Bool.false_eq_true, Bool.true_eq_false, eq_self, decide_eq_true_eq, decide_true, decide_false, Bool.decide_eq_true, Bool.not_eq_true, decide_eq_false_iff_not, Bool.and_eq_true, Bool.or_eq_true, Bool.not_eq_true', reduceCtorEq, ne_eq, Nat.le_refl, Nat.reduceAdd, Nat.reduceSub, Nat.reduceLeDiff, Nat.reduceLT, implies_true, forall_const, List.any_cons, List.any_nil, List.all_cons, List.all_nil, wipeP, restore, List.getD_eq_getElem?_getD, Option.getD_some, List.mem_singleton, forall_eq, Int.reduceLT, Int.reduceLE, Int.reduceNeg, Int.reduceSub, Int.reduceAdd, Int.reduceToNat, Int.reduceEq, Int.reduceNe, String.reduceEq, and_self, or_self]
  refine ⟨fun i ρ => ∃ a b c, ρ = [.fz (.tup (l.map trT)), .ow (((l.take i).flatMap trS).map .str), a, b, c], ⟨_, _, _, rfl⟩, ?_, ?_⟩
  · rintro i t ρ2 e ⟨a, b, c, rfl⟩
    obtain ⟨hi, rfl⟩ := map_get e
    have b1 := fm_take trS l (i + 1)
    have st := fm_step trS l hi
    obtain ⟨m1, m2, m3⟩ := hl _ (List.getElem_mem hi)
    rw [st, List.length_append, trs_len] at b1
    simp only [↓reduceIte, ↓sSeq, ↓sAsg, ↓sIf, ↓sRet, ↓sRetN, ↓sExpr, ↓sNext, ↓sBreak, ↓sCont, ↓sAug, ↓sFor, ↓gN, ↓pIx, ↓pC, ↓pTup, ↓pLst, ↓pCons, ↓pNil, ↓pStar, ↓pOp, ↓pTB, ↓pTru, ↓pTAnd, ↓pTOr, ↓pTNot, ↓pAndV, ↓pOrV, ↓pNotV, ↓pIf, ↓pCall, ↓pLen, ↓pIsi, ↓pDget, ↓gDset, ↓gSubT, ↓PEq, ↓PNe, ↓pChain, ↓pNeg, ↓pSl, ↓pNoPart, ↓pPart, ↓pIter, ↓pRng1, ↓pRng2, ↓pEnum, ↓pRev, ↓pZip, ↓pMet, ↓pMet0, ↓pMut, ↓pLc, ↓pLRng1, ↓pLRng2, ↓pYes, ↓pRE, ↓startP, ↓pWords, ↓pSplit, ↓gLt, ↓gLe, ↓gGt, ↓gGe, ↓pV_f0, ↓pV_o0, ↓pRV_f0, ↓pRV_o0, ↓lk_f0, ↓lk_o0, ↓sRV_f0, ↓sRV_o0, ↓pV_f1, ↓pV_o1, ↓pRV_f1, ↓pRV_o1, ↓lk_f1, ↓lk_o1, ↓sRV_f1, ↓sRV_o1, ↓pV_f2, ↓pV_o2, ↓pRV_f2, ↓pRV_o2, ↓lk_f2, ↓lk_o2, ↓sRV_f2, ↓sRV_o2, ↓pV_f3, ↓pV_o3, ↓pRV_f3, ↓pRV_o3, ↓lk_f3, ↓lk_o3, ↓sRV_f3, ↓sRV_o3, ↓pV_f4, ↓pV_o4, ↓pRV_f4, ↓pRV_o4, ↓lk_f4, ↓lk_o4, ↓sRV_f4, ↓sRV_o4, ↓pV_f5, ↓pV_o5, ↓pRV_f5, ↓pRV_o5, ↓lk_f5, ↓lk_o5, ↓sRV_f5, ↓sRV_o5, ↓pV_f6, ↓pV_o6, ↓pRV_f6, ↓pRV_o6, ↓lk_f6, ↓lk_o6, ↓sRV_f6, ↓sRV_o6, ↓pV_f7, ↓pV_o7, ↓pRV_f7, ↓pRV_o7, ↓lk_f7, ↓lk_o7, ↓sRV_f7, ↓sRV_o7, ↓pV_f8, ↓pV_o8, ↓pRV_f8, ↓pRV_o8, ↓lk_f8, ↓lk_o8, ↓sRV_f8, ↓sRV_o8, ↓pV_f9, ↓pV_o9, ↓pRV_f9, ↓pRV_o9, ↓lk_f9, ↓lk_o9, ↓sRV_f9, ↓sRV_o9, ↓pV_f10, ↓pV_o10, ↓pRV_f10, ↓pRV_o10, ↓lk_f10, ↓lk_o10, ↓sRV_f10, ↓sRV_o10, ↓pV_f11, ↓pV_o11, ↓pRV_f11, ↓pRV_o11, ↓lk_f11, ↓lk_o11, ↓sRV_f11, ↓sRV_o11, ↓pV_f12, ↓pV_o12, ↓pRV_f12, ↓pRV_o12, ↓lk_f12, ↓lk_o12, ↓sRV_f12, ↓sRV_o12, ↓pV_f13, ↓pV_o13, ↓pRV_f13, ↓pRV_o13, ↓lk_f13, ↓lk_o13, ↓sRV_f13, ↓sRV_o13, ↓lk_fz, ↓of_fn, ↓of_fb, ↓of_fi, ↓of_fs, ↓of_ft, ↓of_fl, ↓of_ol, ↓of_ff, ↓ad_i, ↓ad_s, ↓ad_l, ↓ad_t, ↓su_i, ↓mu_i, ↓mu_l, ↓mo_i, ↓fd_i, ↓pw_i, ↓an_i, ↓ci_i, ↓is_n, ↓is_nn, ↓in_t, ↓in_l, ↓in_s, ↓ix_l, ↓ix_t, ↓ix_s, ↓sl_l, ↓sl_t, ↓sl_s, ↓kn_i, ↓kp_i, ↓kr1, ↓kr2, ↓ke_l, ↓kz_l, ↓kz_t, ↓klr1, ↓klr2, ↓gt_e, ↓gs_n, ↓gs_c, nc_0, nc_1, nc_2, nc_3, nc_4, nc_5, nc_6, nc_7, nc_8, nc_9, nc_10, nc_11, nc_12, eq_ii, eq_ss, eq_nn, eq_bb, eq_st, eq_ts, eq_si, eq_is, eq_it, eq_ti, cmp_i, cmp_b, cmp_n, sc_i, sc_s, sc_b, sc_n, flat_i, flat_s, flat_b, flat_n, tru_n, tru_b, tru_i, tru_t, tru_l, items_t, items_l, len_t, len_l, iter_t, iter_l, isN_n, isN_i, isN_s, isN_t, isN_l, isN_b, at_0, at_1, at_2, at_3, ib_tn, ib_tb, ib_ti, ib_ts, ib_tt, ib_tl, ib_sn, ib_sb, ib_si, ib_ss, ib_st, ib_sl, ib_in, ib_ib, ib_ii, ib_is, ib_it, ib_il, ib_bn, ib_bb, ib_bi, ib_bs, ib_bt, ib_bl, na_n, na_b, na_i, na_s, na_t, na_l, List.getElem?_cons_zero, List.getElem?_cons_succ, List.set_cons_zero, List.set_cons_succ, List.map_cons, List.map_nil, List.length_cons, List.length_nil, List.replicate_succ, List.replicate_zero, List.cons_append, List.nil_append, List.append_nil, List.isEmpty_nil, List.isEmpty_cons, List.cons.injEq, Option.some.injEq, T.int.injEq, T.str.injEq, T.bl.injEq, T.tup.injEq, T.lst.injEq, T.adr.injEq, Sl.fz.injEq, Sl.ow.injEq, exists_eq_left, exists_eq_left', exists_eq_right, exists_eq_right', exists_eq, exists_eq', exists_and_left, exists_and_right, exists_const, exists_false, and_true, true_and, and_false, false_and, or_true, true_or, or_false, false_or, not_true_eq_false, not_false_eq_true, if_true, if_false, ite_true, ite_false, Bool.not_true, Bool.not_false, Bool.true_or, Bool.or_true, Bool.false_or, Bool.or_false, Bool.true_and, Bool.and_true, Bool.false_and, Bool.and_false, Bool.false_eq_true, Bool.true_eq_false, eq_self, decide_eq_true_eq, decide_true, decide_false, Bool.decide_eq_true, Bool.not_eq_true, decide_eq_false_iff_not, Bool.and_eq_true, Bool.or_eq_true, Bool.not_eq_true', reduceCtorEq, ne_eq, Nat.le_refl, Nat.reduceAdd, Nat.reduceSub, Nat.reduceLeDiff, Nat.reduceLT, implies_true, forall_const, List.any_cons, List.any_nil, List.all_cons, List.all_nil, wipeP, restore, List.getD_eq_getElem?_getD, Option.getD_some, List.mem_singleton, forall_eq, Int.reduceLT, Int.reduceLE, Int.reduceNeg, Int.reduceSub, Int.reduceAdd, Int.reduceToNat, Int.reduceEq, Int.reduceNe, String.reduceEq, and_self, or_self, trT, pfWT, pfEnd]
    refine ⟨_, m1, _, m2, _, m3, by omega, ?_⟩
    rw [st]
    refine ⟨?_, ?_, ?_⟩ <;> first | (simp only [List.length_append, List.length_cons, List.length_nil, List.length_map] at *; omega) | skip
    simp [trS]
  · rintro ρ2 ⟨a, b, c, rfl⟩
    rw [List.length_map, List.take_length]
    simp only [↓reduceIte, ↓sSeq, ↓sAsg, ↓sIf, ↓sRet, ↓sRetN, ↓sExpr, ↓sNext, ↓sBreak, ↓sCont, ↓sAug, ↓sFor, ↓gN, ↓pIx, ↓pC, ↓pTup, ↓pLst, ↓pCons, ↓pNil, ↓pStar, ↓pOp, ↓pTB, ↓pTru, ↓pTAnd, ↓pTOr, ↓pTNot, ↓pAndV, ↓pOrV, ↓pNotV, ↓pIf, ↓pCall, ↓pLen, ↓pIsi, ↓pDget, ↓gDset, ↓gSubT, ↓PEq, ↓PNe, ↓pChain, ↓pNeg, ↓pSl, ↓pNoPart, ↓pPart, ↓pIter, ↓pRng1, ↓pRng2, ↓pEnum, ↓pRev, ↓pZip, ↓pMet, ↓pMet0, ↓pMut, ↓pLc, ↓pLRng1, ↓pLRng2, ↓pYes, ↓pRE, ↓startP, ↓pWords, ↓pSplit, ↓gLt, ↓gLe, ↓gGt, ↓gGe, ↓pV_f0, ↓pV_o0, ↓pRV_f0, ↓pRV_o0, ↓lk_f0, ↓lk_o0, ↓sRV_f0, ↓sRV_o0, ↓pV_f1, ↓pV_o1, ↓pRV_f1, ↓pRV_o1, ↓lk_f1, ↓lk_o1, ↓sRV_f1, ↓sRV_o1, ↓pV_f2, ↓pV_o2, ↓pRV_f2, ↓pRV_o2, ↓lk_f2, ↓lk_o2, ↓sRV_f2, ↓sRV_o2, ↓pV_f3, ↓pV_o3, ↓pRV_f3, ↓pRV_o3, ↓lk_f3, ↓lk_o3, ↓sRV_f3, ↓sRV_o3, ↓pV_f4, ↓pV_o4, ↓pRV_f4, ↓pRV_o4, ↓lk_f4, ↓lk_o4, ↓sRV_f4, ↓sRV_o4, ↓pV_f5, ↓pV_o5, ↓pRV_f5, ↓pRV_o5, ↓lk_f5, ↓lk_o5, ↓sRV_f5, ↓sRV_o5, ↓pV_f6, ↓pV_o6, ↓pRV_f6, ↓pRV_o6, ↓lk_f6, ↓lk_o6, ↓sRV_f6, ↓sRV_o6, ↓pV_f7, ↓pV_o7, ↓pRV_f7, ↓pRV_o7, ↓lk_f7, ↓lk_o7, ↓sRV_f7, ↓sRV_o7, ↓pV_f8, ↓pV_o8, ↓pRV_f8, ↓pRV_o8, ↓lk_f8, ↓lk_o8, ↓sRV_f8, ↓sRV_o8, ↓pV_f9, ↓pV_o9, ↓pRV_f9, ↓pRV_o9, ↓lk_f9, ↓lk_o9, ↓sRV_f9, ↓sRV_o9, ↓pV_f10, ↓pV_o10, ↓pRV_f10, ↓pRV_o10, ↓lk_f10, ↓lk_o10, ↓sRV_f10, ↓sRV_o10, ↓pV_f11, ↓pV_o11, ↓pRV_f11, ↓pRV_o11, ↓lk_f11, ↓lk_o11, ↓sRV_f11, ↓sRV_o11, ↓pV_f12, ↓pV_o12, ↓pRV_f12, ↓pRV_o12, ↓lk_f12, ↓lk_o12, ↓sRV_f12, ↓sRV_o12, ↓pV_f13, ↓pV_o13, ↓pRV_f13, ↓pRV_o13, ↓lk_f13, ↓lk_o13, ↓sRV_f13, ↓sRV_o13, ↓lk_fz, ↓of_fn, ↓of_fb, ↓of_fi, ↓of_fs, ↓of_ft, ↓of_fl, ↓of_ol, ↓of_ff, ↓ad_i, ↓ad_s, ↓ad_l, ↓ad_t, ↓su_i, ↓mu_i, ↓mu_l, ↓mo_i, ↓fd_i, ↓pw_i, ↓an_i, ↓ci_i, ↓is_n, ↓is_nn, ↓in_t, ↓in_l, ↓in_s, ↓ix_l, ↓ix_t, ↓ix_s, ↓sl_l, ↓sl_t, ↓sl_s, ↓kn_i, ↓kp_i, ↓kr1, ↓kr2, ↓ke_l, ↓kz_l, ↓kz_t, ↓klr1, ↓klr2, ↓gt_e, ↓gs_n, ↓gs_c, nc_0, nc_1, nc_2, nc_3, nc_4, nc_5, nc_6, nc_7, nc_8, nc_9, nc_10, nc_11, nc_12, eq_ii, eq_ss, eq_nn, eq_bb, eq_st, eq_ts, eq_si, eq_is, eq_it, eq_ti, cmp_i, cmp_b, cmp_n, sc_i, sc_s, sc_b, sc_n, flat_i, flat_s, flat_b, flat_n, tru_n, tru_b, tru_i, tru_t, tru_l, items_t, items_l, len_t, len_l, iter_t, iter_l, isN_n, isN_i, isN_s, isN_t, isN_l, isN_b, at_0, at_1, at_2, at_3, ib_tn, ib_tb, ib_ti, ib_ts, ib_tt, ib_tl, ib_sn, ib_sb, ib_si, ib_ss, ib_st, ib_sl, ib_in, ib_ib, ib_ii, ib_is, ib_it, ib_il, ib_bn, ib_bb, ib_bi, ib_bs, ib_bt, ib_bl, na_n, na_b, na_i, na_s, na_t, na_l, List.getElem?_cons_zero, List.getElem?_cons_succ, List.set_cons_zero, List.set_cons_succ, List.map_cons, List.map_nil, List.length_cons, List.length_nil, List.replicate_succ, List.replicate_zero, List.cons_append, List.nil_append, List.append_nil, List.isEmpty_nil, List.isEmpty_cons, List.cons.injEq, Option.some.injEq, T.int.injEq, T.str.injEq, T.bl.injEq, T.tup.injEq, T.lst.injEq, T.adr.injEq, Sl.fz.injEq, Sl.ow.injEq, exists_eq_left, exists_eq_left', exists_eq_right, exists_eq_right', exists_eq, exists_eq', exists_and_left, exists_and_right, exists_const, exists_false, and_true, true_and, and_false, false_and, or_true, true_or, or_false, false_or, not_true_eq_false, not_false_eq_true, if_true, if_false, ite_true, ite_false, Bool.not_true, Bool.not_false, Bool.true_or, Bool.or_true, Bool.false_or, Bool.or_false, Bool.true_and, Bool.and_true, Bool.false_and, Bool.and_false, Bool.false_eq_true, Bool.true_eq_false, eq_self, decide_eq_true_eq, decide_true, decide_false, Bool.decide_eq_true, Bool.not_eq_true, decide_eq_false_iff_not, Bool.and_eq_true, Bool.or_eq_true, Bool.not_eq_true', reduceCtorEq, ne_eq, Nat.le_refl, Nat.reduceAdd, Nat.reduceSub, Nat.reduceLeDiff, Nat.reduceLT, implies_true, forall_const, List.any_cons, List.any_nil, List.all_cons, List.all_nil, wipeP, restore, List.getD_eq_getElem?_getD, Option.getD_some, List.mem_singleton, forall_eq, Int.reduceLT, Int.reduceLE, Int.reduceNeg, Int.reduceSub, Int.reduceAdd, Int.reduceToNat, Int.reduceEq, Int.reduceNe, String.reduceEq, and_self, or_self]
    exact h
theorem ok_way_tokens {W : Wld} {k : Nat} {n : Nat} (D : Df K mg "_way_tokens" s_way_tokens)
    (C_value_tokens : CalQ P w K mg base (W) "_value_tokens" k ["value"] (pfVT 2))
    (C_way_tokens : CalQ P w K mg base (W) "_way_tokens" k ["way"] (pfWT n))
    (C_trios_tokens : CalQ P w K mg base (W) "_trios_tokens" k ["trios"] (pfTT n)) :
    CalQ P w K mg base (W) "_way_tokens" (k + 1) ["way"] (pfWT (n + 1)) := by
  refine CalQ.mk D sc_way_tokens (fun _ _ _ _ _ _ us h => match us, h with | [_], _ => rfl) (fun ts Φ h => by first | (obtain ⟨rfl, _⟩ := h; rfl) | (obtain ⟨_, rfl, _⟩ := h; rfl) | (obtain ⟨_, _, rfl, _⟩ := h; rfl) | (obtain ⟨_, _, _, rfl, _⟩ := h; rfl) | (obtain ⟨_, _, _, _, rfl, _⟩ := h; rfl)) (fun f cdv A outer s H E hr => ?_)
  refine ⟨_, qss_cons (qs_set (i := 1) sc_way_tokens.nd rfl (.inl rfl) (qe_ix (qr_name (pv 0)) qe_int (fun _ _ => rfl)))
    (qss_cons (qs_if (qt_cmp (oq_in hr.units65) (qe_name (pv 1)) (qe_tup (qa_cons qe_str (qa_cons qe_str qa_nil))) rfl)
    (qss_one (qs_ret (qe_lst (qa_cons (qe_name (pv 1)) (qa_star (qe_call C_value_tokens (hr.mono (by omega)) (by rfl) (qa_cons (qe_ix (qr_name (pv 0)) qe_int (fun _ _ => rfl)) qa_nil)) (qa_star (qe_call C_value_tokens (hr.mono (by omega)) (by rfl) (qa_cons (qe_ix (qr_name (pv 0)) qe_int (fun _ _ => rfl)) qa_nil)) qa_nil))))))
    (qss_nil))
    (qss_cons (qs_if (qt_cmp (oq_in hr.units65) (qe_name (pv 1)) (qe_tup (qa_cons qe_str (qa_cons qe_str qa_nil))) rfl)
    (qss_one (qs_ret (qe_lst (qa_cons (qe_name (pv 1)) (qa_star (qe_call C_value_tokens (hr.mono (by omega)) (by rfl) (qa_cons (qe_ix (qr_name (pv 0)) qe_int (fun _ _ => rfl)) qa_nil)) (qa_star (qe_call C_way_tokens (hr.mono (by omega)) (by rfl) (qa_cons (qe_ix (qr_name (pv 0)) qe_int (fun _ _ => rfl)) qa_nil)) qa_nil))))))
    (qss_nil))
    (qss_cons (qs_if (qt_cmp (oq_in hr.units65) (qe_name (pv 1)) (qe_tup (qa_cons qe_str (qa_cons qe_str qa_nil))) rfl)
    (qss_one (qs_ret (qe_lst (qa_cons (qe_name (pv 1)) (qa_star (qe_call C_way_tokens (hr.mono (by omega)) (by rfl) (qa_cons (qe_ix (qr_name (pv 0)) qe_int (fun _ _ => rfl)) qa_nil)) qa_nil)))))
    (qss_nil))
    (qss_cons (qs_if (qt_cmp (oq_in hr.units65) (qe_name (pv 1)) (qe_tup (qa_cons qe_str (qa_cons qe_str qa_nil))) rfl)
    (qss_one (qs_ret (qe_lst (qa_cons (qe_name (pv 1)) (qa_cons qe_str (qa_star (qe_call C_trios_tokens (hr.mono (by omega)) (by rfl) (qa_cons (qe_ix (qr_name (pv 0)) qe_int (fun _ _ => rfl)) qa_nil)) (qa_cons qe_str qa_nil)))))))
    (qss_nil))
    (qss_one (qs_ret (qe_lst (qa_cons (qe_name (pv 1)) qa_nil)))))))), ?_⟩
  intro ts Φ h
  obtain ⟨t, s, rfl, hk, hn, h⟩ := h
  rcases hk with ⟨w, hw, rfl, rfl⟩ | ⟨w, u, v, hw, rfl, hu, hv, rfl⟩ | ⟨w, k, v, s', hw, rfl, hv, hk, rfl⟩ | ⟨w, k, s', hw, rfl, hk, rfl⟩ | ⟨w, l, hw, rfl, hl, rfl⟩
  · rcases hw with rfl | rfl | rfl
    · simp only [↓reduceIte, ↓sSeq, ↓sAsg, ↓sIf, ↓sRet, ↓sRetN, ↓sExpr, ↓sNext, ↓sBreak, ↓sCont, ↓sAug, ↓sFor, ↓gN, ↓pIx, ↓pC, ↓pTup, ↓pLst, ↓pCons, ↓pNil, ↓pStar, ↓pOp, ↓pTB, ↓pTru, ↓pTAnd, ↓pTOr, ↓pTNot, ↓pAndV, ↓pOrV, ↓pNotV, ↓pIf, ↓pCall, ↓pLen, ↓pIsi, ↓pDget, ↓gDset, ↓gSubT, ↓PEq, ↓PNe, ↓pChain, ↓pNeg, ↓pSl, ↓pNoPart, ↓pPart, ↓pIter, ↓pRng1, ↓pRng2, ↓pEnum, ↓pRev, ↓pZip, ↓pMet, ↓pMet0, ↓pMut, ↓pLc, ↓pLRng1, ↓pLRng2, ↓pYes, ↓pRE, ↓startP, ↓pWords, ↓pSplit, ↓gLt, ↓gLe, ↓gGt, ↓gGe, ↓pV_f0, ↓pV_o0, ↓pRV_f0, ↓pRV_o0, ↓lk_f0, ↓lk_o0, ↓sRV_f0, ↓sRV_o0, ↓pV_f1, ↓pV_o1, ↓pRV_f1, ↓pRV_o1, ↓lk_f1, ↓lk_o1, ↓sRV_f1, ↓sRV_o1, ↓pV_f2, ↓pV_o2, ↓pRV_f2, ↓pRV_o2, ↓lk_f2, ↓lk_o2, ↓sRV_f2, ↓sRV_o2, ↓pV_f3, ↓pV_o3, ↓pRV_f3, ↓pRV_o3, ↓lk_f3, ↓lk_o3, ↓sRV_f3, ↓sRV_o3, ↓pV_f4, ↓pV_o4, ↓pRV_f4, ↓pRV_o4, ↓lk_f4, ↓lk_o4, ↓sRV_f4, ↓sRV_o4, ↓pV_f5, ↓pV_o5, ↓pRV_f5, ↓pRV_o5, ↓lk_f5, ↓lk_o5, ↓sRV_f5, ↓sRV_o5, ↓pV_f6, ↓pV_o6, ↓pRV_f6, ↓pRV_o6, ↓lk_f6, ↓lk_o6, ↓sRV_f6, ↓sRV_o6, ↓pV_f7, ↓pV_o7, ↓pRV_f7, ↓pRV_o7, ↓lk_f7, ↓lk_o7, ↓sRV_f7, ↓sRV_o7, ↓pV_f8, ↓pV_o8, ↓pRV_f8, ↓pRV_o8, ↓lk_f8, ↓lk_o8, ↓sRV_f8, ↓sRV_o8, ↓pV_f9, ↓pV_o9, ↓pRV_f9, ↓pRV_o9, ↓lk_f9, ↓lk_o9, ↓sRV_f9, ↓sRV_o9, ↓pV_f10, ↓pV_o10, ↓pRV_f10, ↓pRV_o10, ↓lk_f10, ↓lk_o10, ↓sRV_f10, ↓sRV_o10, ↓pV_f11, ↓pV_o11, ↓pRV_f11, ↓pRV_o11, ↓lk_f11, ↓lk_o11, ↓sRV_f11, ↓sRV_o11, ↓pV_f12, ↓pV_o12, ↓pRV_f12, ↓pRV_o12, ↓lk_f12, ↓lk_o12, ↓sRV_f12, ↓sRV_o12, ↓pV_f13, ↓pV_o13, ↓pRV_f13, ↓pRV_o13, ↓lk_f13, ↓lk_o13, ↓sRV_f13, ↓sRV_o13, ↓lk_fz, ↓of_fn, ↓of_fb, ↓of_fi, ↓of_fs, ↓of_ft, ↓of_fl, ↓of_ol, ↓of_ff, ↓ad_i, ↓ad_s, ↓ad_l, ↓ad_t, ↓su_i, ↓mu_i, ↓mu_l, ↓mo_i, ↓fd_i, ↓pw_i, ↓an_i, ↓ci_i, ↓is_n, ↓is_nn, ↓in_t, ↓in_l, ↓in_s, ↓ix_l, ↓ix_t, ↓ix_s, ↓sl_l, ↓sl_t, ↓sl_s, ↓kn_i, ↓kp_i, ↓kr1, ↓kr2, ↓ke_l, ↓kz_l, ↓kz_t, ↓klr1, ↓klr2, ↓gt_e, ↓gs_n, ↓gs_c, nc_0, nc_1, nc_2, nc_3, nc_4, nc_5, nc_6, nc_7, nc_8, nc_9, nc_10, nc_11, nc_12, eq_ii, eq_ss, eq_nn, eq_bb, eq_st, eq_ts, eq_si, eq_is, eq_it, eq_ti, cmp_i, cmp_b, cmp_n, sc_i, sc_s, sc_b, sc_n, flat_i, flat_s, flat_b, flat_n, tru_n, tru_b, tru_i, tru_t, tru_l, items_t, items_l, len_t, len_l, iter_t, iter_l, isN_n, isN_i, isN_s, isN_t, isN_l, isN_b, at_0, at_1, at_2, at_3, ib_tn, ib_tb, ib_ti, ib_ts, ib_tt, ib_tl, ib_sn, ib_sb, ib_si, ib_ss, ib_st, ib_sl, ib_in, ib_ib, ib_ii, ib_is, ib_it, ib_il, ib_bn, ib_bb, ib_bi, ib_bs, ib_bt, ib_bl, na_n, na_b, na_i, na_s, na_t, na_l, List.getElem?_cons_zero, List.getElem?_cons_succ, List.set_cons_zero, List.set_cons_succ, List.map_cons, List.map_nil, List.length_cons, List.length_nil, List.replicate_succ, List.replicate_zero, List.cons_append, List.nil_append, List.append_nil, List.isEmpty_nil, List.isEmpty_cons, List.cons.injEq, Option.some.injEq, T.int.injEq, T.str.injEq, T.bl.injEq, T.tup.injEq, T.lst.injEq, T.adr.injEq, Sl.fz.injEq, Sl.ow.injEq, exists_eq_left, exists_eq_left', exists_eq_right, exists_eq_right', exists_eq, exists_eq', exists_and_left, exists_and_right, exists_const, exists_false, and_true, true_and, and_false, false_and, or_true, true_or, or_false, false_or, not_true_eq_false, not_false_eq_true, if_true, if_false, ite_true, ite_false, Bool.not_true, Bool.not_false, Bool.true_or, Bool.or_true, Bool.false_or, Bool.or_false, Bool.true_and, Bool.and_true, Bool.false_and, Bool.and_false, Bool.false_eq_true, Bool.true_eq_false, eq_self, decide_eq_true_eq, decide_true, decide_false, Bool.decide_eq_true, Bool.not_eq_true, decide_eq_false_iff_not, Bool.and_eq_true, Bool.or_eq_true, Bool.not_eq_true', reduceCtorEq, ne_eq, Nat.le_refl, Nat.reduceAdd, Nat.reduceSub, Nat.reduceLeDiff, Nat.reduceLT, implies_true, forall_const, List.any_cons, List.any_nil, List.all_cons, List.all_nil, wipeP, restore, List.getD_eq_getElem?_getD, Option.getD_some, List.mem_singleton, forall_eq, Int.reduceLT, Int.reduceLE, Int.reduceNeg, Int.reduceSub, Int.reduceAdd, Int.reduceToNat, Int.reduceEq, Int.reduceNe, String.reduceEq, and_self, or_self, w_same, str_inj]
      exact h
    · simp only [↓reduceIte, ↓sSeq, ↓sAsg, ↓sIf, ↓sRet, ↓sRetN, ↓sExpr, ↓sNext, ↓sBreak, ↓sCont, ↓sAug, ↓sFor, ↓gN, ↓pIx, ↓pC, ↓pTup, ↓pLst, ↓pCons, ↓pNil, ↓pStar, ↓pOp, ↓pTB, ↓pTru, ↓pTAnd, ↓pTOr, ↓pTNot, ↓pAndV, ↓pOrV, ↓pNotV, ↓pIf, ↓pCall, ↓pLen, ↓pIsi, ↓pDget, ↓gDset, ↓gSubT, ↓PEq, ↓PNe, ↓pChain, ↓pNeg, ↓pSl, ↓pNoPart, ↓pPart, ↓pIter, ↓pRng1, ↓pRng2, ↓pEnum, ↓pRev, ↓pZip, ↓pMet, ↓pMet0, ↓pMut, ↓pLc, ↓pLRng1, ↓pLRng2, ↓pYes, ↓pRE, ↓startP, ↓pWords, ↓pSplit, ↓gLt, ↓gLe, ↓gGt, ↓gGe, ↓pV_f0, ↓pV_o0, ↓pRV_f0, ↓pRV_o0, ↓lk_f0, ↓lk_o0, ↓sRV_f0, ↓sRV_o0, ↓pV_f1, ↓pV_o1, ↓pRV_f1, ↓pRV_o1, ↓lk_f1, ↓lk_o1, ↓sRV_f1, ↓sRV_o1, ↓pV_f2, ↓pV_o2, ↓pRV_f2, ↓pRV_o2, ↓lk_f2, ↓lk_o2, ↓sRV_f2, ↓sRV_o2, ↓pV_f3, ↓pV_o3, ↓pRV_f3, ↓pRV_o3, ↓lk_f3, ↓lk_o3, ↓sRV_f3, ↓sRV_o3, ↓pV_f4, ↓pV_o4, ↓pRV_f4, ↓pRV_o4, ↓lk_f4, ↓lk_o4, ↓sRV_f4, ↓sRV_o4, ↓pV_f5, ↓pV_o5, ↓pRV_f5, ↓pRV_o5, ↓lk_f5, ↓lk_o5, ↓sRV_f5, ↓sRV_o5, ↓pV_f6, ↓pV_o6, ↓pRV_f6, ↓pRV_o6, ↓lk_f6, ↓lk_o6, ↓sRV_f6, ↓sRV_o6, ↓pV_f7, ↓pV_o7, ↓pRV_f7, ↓pRV_o7, ↓lk_f7, ↓lk_o7, ↓sRV_f7, ↓sRV_o7, ↓pV_f8, ↓pV_o8, ↓pRV_f8, ↓pRV_o8, ↓lk_f8, ↓lk_o8, ↓sRV_f8, ↓sRV_o8, ↓pV_f9, ↓pV_o9, ↓pRV_f9, ↓pRV_o9, ↓lk_f9, ↓lk_o9, ↓sRV_f9, ↓sRV_o9, ↓pV_f10, ↓pV_o10, ↓pRV_f10, ↓pRV_o10, ↓lk_f10, ↓lk_o10, ↓sRV_f10, ↓sRV_o10, ↓pV_f11, ↓pV_o11, ↓pRV_f11, ↓pRV_o11, ↓lk_f11, ↓lk_o11, ↓sRV_f11, ↓sRV_o11, ↓pV_f12, ↓pV_o12, ↓pRV_f12, ↓pRV_o12, ↓lk_f12, ↓lk_o12, ↓sRV_f12, ↓sRV_o12, ↓pV_f13, ↓pV_o13, ↓pRV_f13, ↓pRV_o13, ↓lk_f13, ↓lk_o13, ↓sRV_f13, ↓sRV_o13, ↓lk_fz, ↓of_fn, ↓of_fb, ↓of_fi, ↓of_fs, ↓of_ft, ↓of_fl, ↓of_ol, ↓of_ff, ↓ad_i, ↓ad_s, ↓ad_l, ↓ad_t, ↓su_i, ↓mu_i, ↓mu_l, ↓mo_i, ↓fd_i, ↓pw_i, ↓an_i, ↓ci_i, ↓is_n, ↓is_nn, ↓in_t, ↓in_l, ↓in_s, ↓ix_l, ↓ix_t, ↓ix_s, ↓sl_l, ↓sl_t, ↓sl_s, ↓kn_i, ↓kp_i, ↓kr1, ↓kr2, ↓ke_l, ↓kz_l, ↓kz_t, ↓klr1, ↓klr2, ↓gt_e, ↓gs_n, ↓gs_c, nc_0, nc_1, nc_2, nc_3, nc_4, nc_5, nc_6, nc_7, nc_8, nc_9, nc_10, nc_11, nc_12, eq_ii, eq_ss, eq_nn, eq_bb, eq_st, eq_ts, eq_si, eq_is, eq_it, eq_ti, cmp_i, cmp_b, cmp_n, sc_i, sc_s, sc_b, sc_n, flat_i, flat_s, flat_b, flat_n, tru_n, tru_b, tru_i, tru_t, tru_l, items_t, items_l, len_t, len_l, iter_t, iter_l, isN_n, isN_i, isN_s, isN_t, isN_l, isN_b, at_0, at_1, at_2, at_3, ib_tn, ib_tb, ib_ti, ib_ts, ib_tt, ib_tl, ib_sn, ib_sb, ib_si, ib_ss, ib_st, ib_sl, ib_in, ib_ib, ib_ii, ib_is, ib_it, ib_il, ib_bn, ib_bb, ib_bi, ib_bs, ib_bt, ib_bl, na_n, na_b, na_i, na_s, na_t, na_l, List.getElem?_cons_zero, List.getElem?_cons_succ, List.set_cons_zero, List.set_cons_succ, List.map_cons, List.map_nil, List.length_cons, List.length_nil, List.replicate_succ, List.replicate_zero, List.cons_append, List.nil_append, List.append_nil, List.isEmpty_nil, List.isEmpty_cons, List.cons.injEq, Option.some.injEq, T.int.injEq, T.str.injEq, T.bl.injEq, T.tup.injEq, T.lst.injEq, T.adr.injEq, Sl.fz.injEq, Sl.ow.injEq, exists_eq_left, exists_eq_left', exists_eq_right, exists_eq_right', exists_eq, exists_eq', exists_and_left, exists_and_right, exists_const, exists_false, and_true, true_and, and_false, false_and, or_true, true_or, or_false, false_or, not_true_eq_false, not_false_eq_true, if_true, if_false, ite_true, ite_false, Bool.not_true, Bool.not_false, Bool.true_or, Bool.or_true, Bool.false_or, Bool.or_false, Bool.true_and, Bool.and_true, Bool.false_and, Bool.and_false, Bool.false_eq_true, Bool.true_eq_false, eq_self, decide_eq_true_eq, decide_true, decide_false, Bool.decide_eq_true, Bool.not_eq_true, decide_eq_false_iff_not, Bool.and_eq_true, Bool.or_eq_true, Bool.not_eq_true', reduceCtorEq, ne_eq, Nat.le_refl, Nat.reduceAdd, Nat.reduceSub, Nat.reduceLeDiff, Nat.reduceLT, implies_true, forall_const, List.any_cons, List.any_nil, List.all_cons, List.all_nil, wipeP, restore, List.getD_eq_getElem?_getD, Option.getD_some, List.mem_singleton, forall_eq, Int.reduceLT, Int.reduceLE, Int.reduceNeg, Int.reduceSub, Int.reduceAdd, Int.reduceToNat, Int.reduceEq, Int.reduceNe, String.reduceEq, and_self, or_self, w_rank, str_inj]
      exact h
    · simp only [↓reduceIte, ↓sSeq, ↓sAsg, ↓sIf, ↓sRet, ↓sRetN, ↓sExpr, ↓sNext, ↓sBreak, ↓sCont, ↓sAug, ↓sFor, ↓gN, ↓pIx, ↓pC, ↓pTup, ↓pLst, ↓pCons, ↓pNil, ↓pStar, ↓pOp, ↓pTB, ↓pTru, ↓pTAnd, ↓pTOr, ↓pTNot, ↓pAndV, ↓pOrV, ↓pNotV, ↓pIf, ↓pCall, ↓pLen, ↓pIsi, ↓pDget, ↓gDset, ↓gSubT, ↓PEq, ↓PNe, ↓pChain, ↓pNeg, ↓pSl, ↓pNoPart, ↓pPart, ↓pIter, ↓pRng1, ↓pRng2, ↓pEnum, ↓pRev, ↓pZip, ↓pMet, ↓pMet0, ↓pMut, ↓pLc, ↓pLRng1, ↓pLRng2, ↓pYes, ↓pRE, ↓startP, ↓pWords, ↓pSplit, ↓gLt, ↓gLe, ↓gGt, ↓gGe, ↓pV_f0, ↓pV_o0, ↓pRV_f0, ↓pRV_o0, ↓lk_f0, ↓lk_o0, ↓sRV_f0, ↓sRV_o0, ↓pV_f1, ↓pV_o1, ↓pRV_f1, ↓pRV_o1, ↓lk_f1, ↓lk_o1, ↓sRV_f1, ↓sRV_o1, ↓pV_f2, ↓pV_o2, ↓pRV_f2, ↓pRV_o2, ↓lk_f2, ↓lk_o2, ↓sRV_f2, ↓sRV_o2, ↓pV_f3, ↓pV_o3, ↓pRV_f3, ↓pRV_o3, ↓lk_f3, ↓lk_o3, ↓sRV_f3, ↓sRV_o3, ↓pV_f4, ↓pV_o4, ↓pRV_f4, ↓pRV_o4, ↓lk_f4, ↓lk_o4, ↓sRV_f4, ↓sRV_o4, ↓pV_f5, ↓pV_o5, ↓pRV_f5, ↓pRV_o5, ↓lk_f5, ↓lk_o5, ↓sRV_f5, ↓sRV_o5, ↓pV_f6, ↓pV_o6, ↓pRV_f6, ↓pRV_o6, ↓lk_f6, ↓lk_o6, ↓sRV_f6, ↓sRV_o6, ↓pV_f7, ↓pV_o7, ↓pRV_f7, ↓pRV_o7, ↓lk_f7, ↓lk_o7, ↓sRV_f7, ↓sRV_o7, ↓pV_f8, ↓pV_o8, ↓pRV_f8, ↓pRV_o8, ↓lk_f8, ↓lk_o8, ↓sRV_f8, ↓sRV_o8, ↓pV_f9, ↓pV_o9, ↓pRV_f9, ↓pRV_o9, ↓lk_f9, ↓lk_o9, ↓sRV_f9, ↓sRV_o9, ↓pV_f10, ↓pV_o10, ↓pRV_f10, ↓pRV_o10, ↓lk_f10, ↓lk_o10, ↓sRV_f10, ↓sRV_o10, ↓pV_f11, ↓pV_o11, ↓pRV_f11, ↓pRV_o11, ↓lk_f11, ↓lk_o11, ↓sRV_f11, ↓sRV_o11, ↓pV_f12, ↓pV_o12, ↓pRV_f12, ↓pRV_o12, ↓lk_f12, ↓lk_o12, ↓sRV_f12, ↓sRV_o12, ↓pV_f13, ↓pV_o13, ↓pRV_f13, ↓pRV_o13, ↓lk_f13, ↓lk_o13, ↓sRV_f13, ↓sRV_o13, ↓lk_fz, ↓of_fn, ↓of_fb, ↓of_fi, ↓of_fs, ↓of_ft, ↓of_fl, ↓of_ol, ↓of_ff, ↓ad_i, ↓ad_s, ↓ad_l, ↓ad_t, ↓su_i, ↓mu_i, ↓mu_l, ↓mo_i, ↓fd_i, ↓pw_i, ↓an_i, ↓ci_i, ↓is_n, ↓is_nn, ↓in_t, ↓in_l, ↓in_s, ↓ix_l, ↓ix_t, ↓ix_s, ↓sl_l, ↓sl_t, ↓sl_s, ↓kn_i, ↓kp_i, ↓kr1, ↓kr2, ↓ke_l, ↓kz_l, ↓kz_t, ↓klr1, ↓klr2, ↓gt_e, ↓gs_n, ↓gs_c, nc_0, nc_1, nc_2, nc_3, nc_4, nc_5, nc_6, nc_7, nc_8, nc_9, nc_10, nc_11, nc_12, eq_ii, eq_ss, eq_nn, eq_bb, eq_st, eq_ts, eq_si, eq_is, eq_it, eq_ti, cmp_i, cmp_b, cmp_n, sc_i, sc_s, sc_b, sc_n, flat_i, flat_s, flat_b, flat_n, tru_n, tru_b, tru_i, tru_t, tru_l, items_t, items_l, len_t, len_l, iter_t, iter_l, isN_n, isN_i, isN_s, isN_t, isN_l, isN_b, at_0, at_1, at_2, at_3, ib_tn, ib_tb, ib_ti, ib_ts, ib_tt, ib_tl, ib_sn, ib_sb, ib_si, ib_ss, ib_st, ib_sl, ib_in, ib_ib, ib_ii, ib_is, ib_it, ib_il, ib_bn, ib_bb, ib_bi, ib_bs, ib_bt, ib_bl, na_n, na_b, na_i, na_s, na_t, na_l, List.getElem?_cons_zero, List.getElem?_cons_succ, List.set_cons_zero, List.set_cons_succ, List.map_cons, List.map_nil, List.length_cons, List.length_nil, List.replicate_succ, List.replicate_zero, List.cons_append, List.nil_append, List.append_nil, List.isEmpty_nil, List.isEmpty_cons, List.cons.injEq, Option.some.injEq, T.int.injEq, T.str.injEq, T.bl.injEq, T.tup.injEq, T.lst.injEq, T.adr.injEq, Sl.fz.injEq, Sl.ow.injEq, exists_eq_left, exists_eq_left', exists_eq_right, exists_eq_right', exists_eq, exists_eq', exists_and_left, exists_and_right, exists_const, exists_false, and_true, true_and, and_false, false_and, or_true, true_or, or_false, false_or, not_true_eq_false, not_false_eq_true, if_true, if_false, ite_true, ite_false, Bool.not_true, Bool.not_false, Bool.true_or, Bool.or_true, Bool.false_or, Bool.or_false, Bool.true_and, Bool.and_true, Bool.false_and, Bool.and_false, Bool.false_eq_true, Bool.true_eq_false, eq_self, decide_eq_true_eq, decide_true, decide_false, Bool.decide_eq_true, Bool.not_eq_true, decide_eq_false_iff_not, Bool.and_eq_true, Bool.or_eq_true, Bool.not_eq_true', reduceCtorEq, ne_eq, Nat.le_refl, Nat.reduceAdd, Nat.reduceSub, Nat.reduceLeDiff, Nat.reduceLT, implies_true, forall_const, List.any_cons, List.any_nil, List.all_cons, List.all_nil, wipeP, restore, List.getD_eq_getElem?_getD, Option.getD_some, List.mem_singleton, forall_eq, Int.reduceLT, Int.reduceLE, Int.reduceNeg, Int.reduceSub, Int.reduceAdd, Int.reduceToNat, Int.reduceEq, Int.reduceNe, String.reduceEq, and_self, or_self, w_clip, str_inj]
      exact h
  · simp only [LT, List.map_cons, List.map_append, List.map_nil, List.length_cons, List.length_append] at h hn
    rcases hw with rfl | rfl
    · simp only [↓reduceIte, ↓sSeq, ↓sAsg, ↓sIf, ↓sRet, ↓sRetN, ↓sExpr, ↓sNext, ↓sBreak, ↓sCont, ↓sAug, ↓sFor, ↓gN, ↓pIx, ↓pC, ↓pTup, ↓pLst, ↓pCons, ↓pNil, ↓pStar, ↓pOp, ↓pTB, ↓pTru, ↓pTAnd, ↓pTOr, ↓pTNot, ↓pAndV, ↓pOrV, ↓pNotV, ↓pIf, ↓pCall, ↓pLen, ↓pIsi, ↓pDget, ↓gDset, ↓gSubT, ↓PEq, ↓PNe, ↓pChain, ↓pNeg, ↓pSl, ↓pNoPart, ↓pPart, ↓pIter, ↓pRng1, ↓pRng2, ↓pEnum, ↓pRev, ↓pZip, ↓pMet, ↓pMet0, ↓pMut, ↓pLc, ↓pLRng1, ↓pLRng2, ↓pYes, ↓pRE, ↓startP, ↓pWords, ↓pSplit, ↓gLt, ↓gLe, ↓gGt, ↓gGe, ↓pV_f0, ↓pV_o0, ↓pRV_f0, ↓pRV_o0, ↓lk_f0, ↓lk_o0, ↓sRV_f0, ↓sRV_o0, ↓pV_f1, ↓pV_o1, ↓pRV_f1, ↓pRV_o1, ↓lk_f1, ↓lk_o1, ↓sRV_f1, ↓sRV_o1, ↓pV_f2, ↓pV_o2, ↓pRV_f2, ↓pRV_o2, ↓lk_f2, ↓lk_o2, ↓sRV_f2, ↓sRV_o2, ↓pV_f3, ↓pV_o3, ↓pRV_f3, ↓pRV_o3, ↓lk_f3, ↓lk_o3, ↓sRV_f3, ↓sRV_o3, ↓pV_f4, ↓pV_o4, ↓pRV_f4, ↓pRV_o4, ↓lk_f4, ↓lk_o4, ↓sRV_f4, ↓sRV_o4, ↓pV_f5, ↓pV_o5, ↓pRV_f5, ↓pRV_o5, ↓lk_f5, ↓lk_o5, ↓sRV_f5, ↓sRV_o5, ↓pV_f6, ↓pV_o6, ↓pRV_f6, ↓pRV_o6, ↓lk_f6, ↓lk_o6, ↓sRV_f6, ↓sRV_o6, ↓pV_f7, ↓pV_o7, ↓pRV_f7, ↓pRV_o7, ↓lk_f7, ↓lk_o7, ↓sRV_f7, ↓sRV_o7, ↓pV_f8, ↓pV_o8, ↓pRV_f8, ↓pRV_o8, ↓lk_f8, ↓lk_o8, ↓sRV_f8, ↓sRV_o8, ↓pV_f9, ↓pV_o9, ↓pRV_f9, ↓pRV_o9, ↓lk_f9, ↓lk_o9, ↓sRV_f9, ↓sRV_o9, ↓pV_f10, ↓pV_o10, ↓pRV_f10, ↓pRV_o10, ↓lk_f10, ↓lk_o10, ↓sRV_f10, ↓sRV_o10, ↓pV_f11, ↓pV_o11, ↓pRV_f11, ↓pRV_o11, ↓lk_f11, ↓lk_o11, ↓sRV_f11, ↓sRV_o11, ↓pV_f12, ↓pV_o12, ↓pRV_f12, ↓pRV_o12, ↓lk_f12, ↓lk_o12, ↓sRV_f12, ↓sRV_o12, ↓pV_f13, ↓pV_o13, ↓pRV_f13, ↓pRV_o13, ↓lk_f13, ↓lk_o13, ↓sRV_f13, ↓sRV_o13, ↓lk_fz, ↓of_fn, ↓of_fb, ↓of_fi, ↓of_fs, ↓of_ft, ↓of_fl, ↓of_ol, ↓of_ff, ↓ad_i, ↓ad_s, ↓ad_l, ↓ad_t, ↓su_i, ↓mu_i, ↓mu_l, ↓mo_i, ↓fd_i, ↓pw_i, ↓an_i, ↓ci_i, ↓is_n, ↓is_nn, ↓in_t, ↓in_l, ↓in_s, ↓ix_l, ↓ix_t, ↓ix_s, ↓sl_l, ↓sl_t, ↓sl_s, ↓kn_i, ↓kp_i, ↓kr1, ↓kr2, ↓ke_l, ↓kz_l, ↓kz_t, ↓klr1, ↓klr2, ↓gt_e, ↓gs_n, ↓gs_c, nc_0, nc_1, nc_2, nc_3, nc_4, nc_5, nc_6, nc_7, nc_8, nc_9, nc_10, nc_11, nc_12, eq_ii, eq_ss, eq_nn, eq_bb, eq_st, eq_ts, eq_si, eq_is, eq_it, eq_ti, cmp_i, cmp_b, cmp_n, sc_i, sc_s, sc_b, sc_n, flat_i, flat_s, flat_b, flat_n, tru_n, tru_b, tru_i, tru_t, tru_l, items_t, items_l, len_t, len_l, iter_t, iter_l, isN_n, isN_i, isN_s, isN_t, isN_l, isN_b, at_0, at_1, at_2, at_3, ib_tn, ib_tb, ib_ti, ib_ts, ib_tt, ib_tl, ib_sn, ib_sb, ib_si, ib_ss, ib_st, ib_sl, ib_in, ib_ib, ib_ii, ib_is, ib_it, ib_il, ib_bn, ib_bb, ib_bi, ib_bs, ib_bt, ib_bl, na_n, na_b, na_i, na_s, na_t, na_l, List.getElem?_cons_zero, List.getElem?_cons_succ, List.set_cons_zero, List.set_cons_succ, List.map_cons, List.map_nil, List.length_cons, List.length_nil, List.replicate_succ, List.replicate_zero, List.cons_append, List.nil_append, List.append_nil, List.isEmpty_nil, List.isEmpty_cons, List.cons.injEq, Option.some.injEq, T.int.injEq, T.str.injEq, T.bl.injEq, T.tup.injEq, T.lst.injEq, T.adr.injEq, Sl.fz.injEq, Sl.ow.injEq, exists_eq_left, exists_eq_left', exists_eq_right, exists_eq_right', exists_eq, exists_eq', exists_and_left, exists_and_right, exists_const, exists_false, and_true, true_and, and_false, false_and, or_true, true_or, or_false, false_or, not_true_eq_false, not_false_eq_true, if_true, if_false, ite_true, ite_false, Bool.not_true, Bool.not_false, Bool.true_or, Bool.or_true, Bool.false_or, Bool.or_false, Bool.true_and, Bool.and_true, Bool.false_and, Bool.and_false, Bool.false_eq_true, Bool.true_eq_false, eq_self, decide_eq_true_eq, decide_true, decide_false, Bool.decide_eq_true, Bool.not_eq_true, decide_eq_false_iff_not, Bool.and_eq_true, Bool.or_eq_true, Bool.not_eq_true', reduceCtorEq, ne_eq, Nat.le_refl, Nat.reduceAdd, Nat.reduceSub, Nat.reduceLeDiff, Nat.reduceLT, implies_true, forall_const, List.any_cons, List.any_nil, List.all_cons, List.all_nil, wipeP, restore, List.getD_eq_getElem?_getD, Option.getD_some, List.mem_singleton, forall_eq, Int.reduceLT, Int.reduceLE, Int.reduceNeg, Int.reduceSub, Int.reduceAdd, Int.reduceToNat, Int.reduceEq, Int.reduceNe, String.reduceEq, and_self, or_self, w_table, str_inj, pfVT]
      refine ⟨hu.1, by omega, hv.1, by omega, ?_, h⟩
      simp only [List.length_append, List.length_map]
      omega
    · simp only [↓reduceIte, ↓sSeq, ↓sAsg, ↓sIf, ↓sRet, ↓sRetN, ↓sExpr, ↓sNext, ↓sBreak, ↓sCont, ↓sAug, ↓sFor, ↓gN, ↓pIx, ↓pC, ↓pTup, ↓pLst, ↓pCons, ↓pNil, ↓pStar, ↓pOp, ↓pTB, ↓pTru, ↓pTAnd, ↓pTOr, ↓pTNot, ↓pAndV, ↓pOrV, ↓pNotV, ↓pIf, ↓pCall, ↓pLen, ↓pIsi, ↓pDget, ↓gDset, ↓gSubT, ↓PEq, ↓PNe, ↓pChain, ↓pNeg, ↓pSl, ↓pNoPart, ↓pPart, ↓pIter, ↓pRng1, ↓pRng2, ↓pEnum, ↓pRev, ↓pZip, ↓pMet, ↓pMet0, ↓pMut, ↓pLc, ↓pLRng1, ↓pLRng2, ↓pYes, ↓pRE, ↓startP, ↓pWords, ↓pSplit, ↓gLt, ↓gLe, ↓gGt, ↓gGe, ↓pV_f0, ↓pV_o0, ↓pRV_f0, ↓pRV_o0, ↓lk_f0, ↓lk_o0, ↓sRV_f0, ↓sRV_o0, ↓pV_f1, ↓pV_o1, ↓pRV_f1, ↓pRV_o1, ↓lk_f1, ↓lk_o1, ↓sRV_f1, ↓sRV_o1, ↓pV_f2, ↓pV_o2, ↓pRV_f2, ↓pRV_o2, ↓lk_f2, ↓lk_o2, ↓sRV_f2, ↓sRV_o2, ↓pV_f3, ↓pV_o3, ↓pRV_f3, ↓pRV_o3, ↓lk_f3, ↓lk_o3, ↓sRV_f3, ↓sRV_o3, ↓pV_f4, ↓pV_o4, ↓pRV_f4, ↓pRV_o4, ↓lk_f4, ↓lk_o4, ↓sRV_f4, ↓sRV_o4, ↓pV_f5, ↓pV_o5, ↓pRV_f5, ↓pRV_o5, ↓lk_f5, ↓lk_o5, ↓sRV_f5, ↓sRV_o5, ↓pV_f6, ↓pV_o6, ↓pRV_f6, ↓pRV_o6, ↓lk_f6, ↓lk_o6, ↓sRV_f6, ↓sRV_o6, ↓pV_f7, ↓pV_o7, ↓pRV_f7, ↓pRV_o7, ↓lk_f7, ↓lk_o7, ↓sRV_f7, ↓sRV_o7, ↓pV_f8, ↓pV_o8, ↓pRV_f8, ↓pRV_o8, ↓lk_f8, ↓lk_o8, ↓sRV_f8, ↓sRV_o8, ↓pV_f9, ↓pV_o9, ↓pRV_f9, ↓pRV_o9, ↓lk_f9, ↓lk_o9, ↓sRV_f9, ↓sRV_o9, ↓pV_f10, ↓pV_o10, ↓pRV_f10, ↓pRV_o10, ↓lk_f10, ↓lk_o10, ↓sRV_f10, ↓sRV_o10, ↓pV_f11, ↓pV_o11, ↓pRV_f11, ↓pRV_o11, ↓lk_f11, ↓lk_o11, ↓sRV_f11, ↓sRV_o11, ↓pV_f12, ↓pV_o12, ↓pRV_f12, ↓pRV_o12, ↓lk_f12, ↓lk_o12, ↓sRV_f12, ↓sRV_o12, ↓pV_f13, ↓pV_o13, ↓pRV_f13, ↓pRV_o13, ↓lk_f13, ↓lk_o13, ↓sRV_f13, ↓sRV_o13, ↓lk_fz, ↓of_fn, ↓of_fb, ↓of_fi, ↓of_fs, ↓of_ft, ↓of_fl, ↓of_ol, ↓of_ff, ↓ad_i, ↓ad_s, ↓ad_l, ↓ad_t, ↓su_i, ↓mu_i, ↓mu_l, ↓mo_i, ↓fd_i, ↓pw_i, ↓an_i, ↓ci_i, ↓is_n, ↓is_nn, ↓in_t, ↓in_l, ↓in_s, ↓ix_l, ↓ix_t, ↓ix_s, ↓sl_l, ↓sl_t, ↓sl_s, ↓kn_i, ↓kp_i, ↓kr1, ↓kr2, ↓ke_l, ↓kz_l, ↓kz_t, ↓klr1, ↓klr2, ↓gt_e, ↓gs_n, ↓gs_c, nc_0, nc_1, nc_2, nc_3, nc_4, nc_5, nc_6, nc_7, nc_8, nc_9, nc_10, nc_11, nc_12, eq_ii, eq_ss, eq_nn, eq_bb, eq_st, eq_ts, eq_si, eq_is, eq_it, eq_ti, cmp_i, cmp_b, cmp_n, sc_i, sc_s, sc_b, sc_n, flat_i, flat_s, flat_b, flat_n, tru_n, tru_b, tru_i, tru_t, tru_l, items_t, items_l, len_t, len_l, iter_t, iter_l, isN_n, isN_i, isN_s, isN_t, isN_l, isN_b, at_0, at_1, at_2, at_3, ib_tn, ib_tb, ib_ti, ib_ts, ib_tt, ib_tl, ib_sn, ib_sb, ib_si, ib_ss, ib_st, ib_sl, ib_in, ib_ib, ib_ii, ib_is, ib_it, ib_il, ib_bn, ib_bb, ib_bi, ib_bs, ib_bt, ib_bl, na_n, na_b, na_i, na_s, na_t, na_l, List.getElem?_cons_zero, List.getElem?_cons_succ, List.set_cons_zero, List.set_cons_succ, List.map_cons, List.map_nil, List.length_cons, List.length_nil, List.replicate_succ, List.replicate_zero, List.cons_append, List.nil_append, List.append_nil, List.isEmpty_nil, List.isEmpty_cons, List.cons.injEq, Option.some.injEq, T.int.injEq, T.str.injEq, T.bl.injEq, T.tup.injEq, T.lst.injEq, T.adr.injEq, Sl.fz.injEq, Sl.ow.injEq, exists_eq_left, exists_eq_left', exists_eq_right, exists_eq_right', exists_eq, exists_eq', exists_and_left, exists_and_right, exists_const, exists_false, and_true, true_and, and_false, false_and, or_true, true_or, or_false, false_or, not_true_eq_false, not_false_eq_true, if_true, if_false, ite_true, ite_false, Bool.not_true, Bool.not_false, Bool.true_or, Bool.or_true, Bool.false_or, Bool.or_false, Bool.true_and, Bool.and_true, Bool.false_and, Bool.and_false, Bool.false_eq_true, Bool.true_eq_false, eq_self, decide_eq_true_eq, decide_true, decide_false, Bool.decide_eq_true, Bool.not_eq_true, decide_eq_false_iff_not, Bool.and_eq_true, Bool.or_eq_true, Bool.not_eq_true', reduceCtorEq, ne_eq, Nat.le_refl, Nat.reduceAdd, Nat.reduceSub, Nat.reduceLeDiff, Nat.reduceLT, implies_true, forall_const, List.any_cons, List.any_nil, List.all_cons, List.all_nil, wipeP, restore, List.getD_eq_getElem?_getD, Option.getD_some, List.mem_singleton, forall_eq, Int.reduceLT, Int.reduceLE, Int.reduceNeg, Int.reduceSub, Int.reduceAdd, Int.reduceToNat, Int.reduceEq, Int.reduceNe, String.reduceEq, and_self, or_self, w_apart, str_inj, pfVT]
      refine ⟨hu.1, by omega, hv.1, by omega, ?_, h⟩
      simp only [List.length_append, List.length_map]
      omega
  · simp only [LT, List.map_cons, List.map_append, List.map_nil, List.length_cons, List.length_append] at h hn
    rcases hw with rfl | rfl
    · simp only [↓reduceIte, ↓sSeq, ↓sAsg, ↓sIf, ↓sRet, ↓sRetN, ↓sExpr, ↓sNext, ↓sBreak, ↓sCont, ↓sAug, ↓sFor, ↓gN, ↓pIx, ↓pC, ↓pTup, ↓pLst, ↓pCons, ↓pNil, ↓pStar, ↓pOp, ↓pTB, ↓pTru, ↓pTAnd, ↓pTOr, ↓pTNot, ↓pAndV, ↓pOrV, ↓pNotV, ↓pIf, ↓pCall, ↓pLen, ↓pIsi, ↓pDget, ↓gDset, ↓gSubT, ↓PEq, ↓PNe, ↓pChain, ↓pNeg, ↓pSl, ↓pNoPart, ↓pPart, ↓pIter, ↓pRng1, ↓pRng2, ↓pEnum, ↓pRev, ↓pZip, ↓pMet, ↓pMet0, ↓pMut, ↓pLc, ↓pLRng1, ↓pLRng2, ↓pYes, ↓pRE, ↓startP, ↓pWords, ↓pSplit, ↓gLt, ↓gLe, ↓gGt, ↓gGe, ↓pV_f0, ↓pV_o0, ↓pRV_f0, ↓pRV_o0, ↓lk_f0, ↓lk_o0, ↓sRV_f0, ↓sRV_o0, ↓pV_f1, ↓pV_o1, ↓pRV_f1, ↓pRV_o1, ↓lk_f1, ↓lk_o1, ↓sRV_f1, ↓sRV_o1, ↓pV_f2, ↓pV_o2, ↓pRV_f2, ↓pRV_o2, ↓lk_f2, ↓lk_o2, ↓sRV_f2, ↓sRV_o2, ↓pV_f3, ↓pV_o3, ↓pRV_f3, ↓pRV_o3, ↓lk_f3, ↓lk_o3, ↓sRV_f3, ↓sRV_o3, ↓pV_f4, ↓pV_o4, ↓pRV_f4, ↓pRV_o4, ↓lk_f4, ↓lk_o4, ↓sRV_f4, ↓sRV_o4, ↓pV_f5, ↓pV_o5, ↓pRV_f5, ↓pRV_o5, ↓lk_f5, ↓lk_o5, ↓sRV_f5, ↓sRV_o5, ↓pV_f6, ↓pV_o6, ↓pRV_f6, ↓pRV_o6, ↓lk_f6, ↓lk_o6, ↓sRV_f6, ↓sRV_o6, ↓pV_f7, ↓pV_o7, ↓pRV_f7, ↓pRV_o7, ↓lk_f7, ↓lk_o7, ↓sRV_f7, ↓sRV_o7, ↓pV_f8, ↓pV_o8, ↓pRV_f8, ↓pRV_o8, ↓lk_f8, ↓lk_o8, ↓sRV_f8, ↓sRV_o8, ↓pV_f9, ↓pV_o9, ↓pRV_f9, ↓pRV_o9, ↓lk_f9, ↓lk_o9, ↓sRV_f9, ↓sRV_o9, ↓pV_f10, ↓pV_o10, ↓pRV_f10, ↓pRV_o10, ↓lk_f10, ↓lk_o10, ↓sRV_f10, ↓sRV_o10, ↓pV_f11, ↓pV_o11, ↓pRV_f11, ↓pRV_o11, ↓lk_f11, ↓lk_o11, ↓sRV_f11, ↓sRV_o11, ↓pV_f12, ↓pV_o12, ↓pRV_f12, ↓pRV_o12, ↓lk_f12, ↓lk_o12, ↓sRV_f12, ↓sRV_o12, ↓pV_f13, ↓pV_o13, ↓pRV_f13, ↓pRV_o13, ↓lk_f13, ↓lk_o13, ↓sRV_f13, ↓sRV_o13, ↓lk_fz, ↓of_fn, ↓of_fb, ↓of_fi, ↓of_fs, ↓of_ft, ↓of_fl, ↓of_ol, ↓of_ff, ↓ad_i, ↓ad_s, ↓ad_l, ↓ad_t, ↓su_i, ↓mu_i, ↓mu_l, ↓mo_i, ↓fd_i, ↓pw_i, ↓an_i, ↓ci_i, ↓is_n, ↓is_nn, ↓in_t, ↓in_l, ↓in_s, ↓ix_l, ↓ix_t, ↓ix_s, ↓sl_l, ↓sl_t, ↓sl_s, ↓kn_i, ↓kp_i, ↓kr1, ↓kr2, ↓ke_l, ↓kz_l, ↓kz_t, ↓klr1, ↓klr2, ↓gt_e, ↓gs_n, ↓gs_c, nc_0, nc_1, nc_2, nc_3, nc_4, nc_5, nc_6, nc_7, nc_8, nc_9, nc_10, nc_11, nc_12, eq_ii, eq_ss, eq_nn, eq_bb, eq_st, eq_ts, eq_si, eq_is, eq_it, eq_ti, cmp_i, cmp_b, cmp_n, sc_i, sc_s, sc_b, sc_n, flat_i, flat_s, flat_b, flat_n, tru_n, tru_b, tru_i, tru_t, tru_l, items_t, items_l, len_t, len_l, iter_t, iter_l, isN_n, isN_i, isN_s, isN_t, isN_l, isN_b, at_0, at_1, at_2, at_3, ib_tn, ib_tb, ib_ti, ib_ts, ib_tt, ib_tl, ib_sn, ib_sb, ib_si, ib_ss, ib_st, ib_sl, ib_in, ib_ib, ib_ii, ib_is, ib_it, ib_il, ib_bn, ib_bb, ib_bi, ib_bs, ib_bt, ib_bl, na_n, na_b, na_i, na_s, na_t, na_l, List.getElem?_cons_zero, List.getElem?_cons_succ, List.set_cons_zero, List.set_cons_succ, List.map_cons, List.map_nil, List.length_cons, List.length_nil, List.replicate_succ, List.replicate_zero, List.cons_append, List.nil_append, List.append_nil, List.isEmpty_nil, List.isEmpty_cons, List.cons.injEq, Option.some.injEq, T.int.injEq, T.str.injEq, T.bl.injEq, T.tup.injEq, T.lst.injEq, T.adr.injEq, Sl.fz.injEq, Sl.ow.injEq, exists_eq_left, exists_eq_left', exists_eq_right, exists_eq_right', exists_eq, exists_eq', exists_and_left, exists_and_right, exists_const, exists_false, and_true, true_and, and_false, false_and, or_true, true_or, or_false, false_or, not_true_eq_false, not_false_eq_true, if_true, if_false, ite_true, ite_false, Bool.not_true, Bool.not_false, Bool.true_or, Bool.or_true, Bool.false_or, Bool.or_false, Bool.true_and, Bool.and_true, Bool.false_and, Bool.and_false, Bool.false_eq_true, Bool.true_eq_false, eq_self, decide_eq_true_eq, decide_true, decide_false, Bool.decide_eq_true, Bool.not_eq_true, decide_eq_false_iff_not, Bool.and_eq_true, Bool.or_eq_true, Bool.not_eq_true', reduceCtorEq, ne_eq, Nat.le_refl, Nat.reduceAdd, Nat.reduceSub, Nat.reduceLeDiff, Nat.reduceLT, implies_true, forall_const, List.any_cons, List.any_nil, List.all_cons, List.all_nil, wipeP, restore, List.getD_eq_getElem?_getD, Option.getD_some, List.mem_singleton, forall_eq, Int.reduceLT, Int.reduceLE, Int.reduceNeg, Int.reduceSub, Int.reduceAdd, Int.reduceToNat, Int.reduceEq, Int.reduceNe, String.reduceEq, and_self, or_self, w_some, str_inj, pfVT, pfWT]
      refine ⟨hv.1, by omega, _, hk, by omega, ?_, h⟩
      simp only [List.length_append, List.length_map]
      omega
    · simp only [↓reduceIte, ↓sSeq, ↓sAsg, ↓sIf, ↓sRet, ↓sRetN, ↓sExpr, ↓sNext, ↓sBreak, ↓sCont, ↓sAug, ↓sFor, ↓gN, ↓pIx, ↓pC, ↓pTup, ↓pLst, ↓pCons, ↓pNil, ↓pStar, ↓pOp, ↓pTB, ↓pTru, ↓pTAnd, ↓pTOr, ↓pTNot, ↓pAndV, ↓pOrV, ↓pNotV, ↓pIf, ↓pCall, ↓pLen, ↓pIsi, ↓pDget, ↓gDset, ↓gSubT, ↓PEq, ↓PNe, ↓pChain, ↓pNeg, ↓pSl, ↓pNoPart, ↓pPart, ↓pIter, ↓pRng1, ↓pRng2, ↓pEnum, ↓pRev, ↓pZip, ↓pMet, ↓pMet0, ↓pMut, ↓pLc, ↓pLRng1, ↓pLRng2, ↓pYes, ↓pRE, ↓startP, ↓pWords, ↓pSplit, ↓gLt, ↓gLe, ↓gGt, ↓gGe, ↓pV_f0, ↓pV_o0, ↓pRV_f0, ↓pRV_o0, ↓lk_f0, ↓lk_o0, ↓sRV_f0, ↓sRV_o0, ↓pV_f1, ↓pV_o1, ↓pRV_f1, ↓pRV_o1, ↓lk_f1, ↓lk_o1, ↓sRV_f1, ↓sRV_o1, ↓pV_f2, ↓pV_o2, ↓pRV_f2, ↓pRV_o2, ↓lk_f2, ↓lk_o2, ↓sRV_f2, ↓sRV_o2, ↓pV_f3, ↓pV_o3, ↓pRV_f3, ↓pRV_o3, ↓lk_f3, ↓lk_o3, ↓sRV_f3, ↓sRV_o3, ↓pV_f4, ↓pV_o4, ↓pRV_f4, ↓pRV_o4, ↓lk_f4, ↓lk_o4, ↓sRV_f4, ↓sRV_o4, ↓pV_f5, ↓pV_o5, ↓pRV_f5, ↓pRV_o5, ↓lk_f5, ↓lk_o5, ↓sRV_f5, ↓sRV_o5, ↓pV_f6, ↓pV_o6, ↓pRV_f6, ↓pRV_o6, ↓lk_f6, ↓lk_o6, ↓sRV_f6, ↓sRV_o6, ↓pV_f7, ↓pV_o7, ↓pRV_f7, ↓pRV_o7, ↓lk_f7, ↓lk_o7, ↓sRV_f7, ↓sRV_o7, ↓pV_f8, ↓pV_o8, ↓pRV_f8, ↓pRV_o8, ↓lk_f8, ↓lk_o8, ↓sRV_f8, ↓sRV_o8, ↓pV_f9, ↓pV_o9, ↓pRV_f9, ↓pRV_o9, ↓lk_f9, ↓lk_o9, ↓sRV_f9, ↓sRV_o9, ↓pV_f10, ↓pV_o10, ↓pRV_f10, ↓pRV_o10, ↓lk_f10, ↓lk_o10, ↓sRV_f10, ↓sRV_o10, ↓pV_f11, ↓pV_o11, ↓pRV_f11, ↓pRV_o11, ↓lk_f11, ↓lk_o11, ↓sRV_f11, ↓sRV_o11, ↓pV_f12, ↓pV_o12, ↓pRV_f12, ↓pRV_o12, ↓lk_f12, ↓lk_o12, ↓sRV_f12, ↓sRV_o12, ↓pV_f13, ↓pV_o13, ↓pRV_f13, ↓pRV_o13, ↓lk_f13, ↓lk_o13, ↓sRV_f13, ↓sRV_o13, ↓lk_fz, ↓of_fn, ↓of_fb, ↓of_fi, ↓of_fs, ↓of_ft, ↓of_fl, ↓of_ol, ↓of_ff, ↓ad_i, ↓ad_s, ↓ad_l, ↓ad_t, ↓su_i, ↓mu_i, ↓mu_l, ↓mo_i, ↓fd_i, ↓pw_i, ↓an_i, ↓ci_i, ↓is_n, ↓is_nn, ↓in_t, ↓in_l, ↓in_s, ↓ix_l, ↓ix_t, ↓ix_s, ↓sl_l, ↓sl_t, ↓sl_s, ↓kn_i, ↓kp_i, ↓kr1, ↓kr2, ↓ke_l, ↓kz_l, ↓kz_t, ↓klr1, ↓klr2, ↓gt_e, ↓gs_n, ↓gs_c, nc_0, nc_1, nc_2, nc_3, nc_4, nc_5, nc_6, nc_7, nc_8, nc_9, nc_10, nc_11, nc_12, eq_ii, eq_ss, eq_nn, eq_bb, eq_st, eq_ts, eq_si, eq_is, eq_it, eq_ti, cmp_i, cmp_b, cmp_n, sc_i, sc_s, sc_b, sc_n, flat_i, flat_s, flat_b, flat_n, tru_n, tru_b, tru_i, tru_t, tru_l, items_t, items_l, len_t, len_l, iter_t, iter_l, isN_n, isN_i, isN_s, isN_t, isN_l, isN_b, at_0, at_1, at_2, at_3, ib_tn, ib_tb, ib_ti, ib_ts, ib_tt, ib_tl, ib_sn, ib_sb, ib_si, ib_ss, ib_st, ib_sl, ib_in, ib_ib, ib_ii, ib_is, ib_it, ib_il, ib_bn, ib_bb, ib_bi, ib_bs, ib_bt, ib_bl, na_n, na_b, na_i, na_s, na_t, na_l, List.getElem?_cons_zero, List.getElem?_cons_succ, List.set_cons_zero, List.set_cons_succ, List.map_cons, List.map_nil, List.length_cons, List.length_nil, List.replicate_succ, List.replicate_zero, List.cons_append, List.nil_append, List.append_nil, List.isEmpty_nil, List.isEmpty_cons, List.cons.injEq, Option.some.injEq, T.int.injEq, T.str.injEq, T.bl.injEq, T.tup.injEq, T.lst.injEq, T.adr.injEq, Sl.fz.injEq, Sl.ow.injEq, exists_eq_left, exists_eq_left', exists_eq_right, exists_eq_right', exists_eq, exists_eq', exists_and_left, exists_and_right, exists_const, exists_false, and_true, true_and, and_false, false_and, or_true, true_or, or_false, false_or, not_true_eq_false, not_false_eq_true, if_true, if_false, ite_true, ite_false, Bool.not_true, Bool.not_false, Bool.true_or, Bool.or_true, Bool.false_or, Bool.or_false, Bool.true_and, Bool.and_true, Bool.false_and, Bool.and_false, Bool.false_eq_true, Bool.true_eq_false, eq_self, decide_eq_true_eq, decide_true, decide_false, Bool.decide_eq_true, Bool.not_eq_true, decide_eq_false_iff_not, Bool.and_eq_true, Bool.or_eq_true, Bool.not_eq_true', reduceCtorEq, ne_eq, Nat.le_refl, Nat.reduceAdd, Nat.reduceSub, Nat.reduceLeDiff, Nat.reduceLT, implies_true, forall_const, List.any_cons, List.any_nil, List.all_cons, List.all_nil, wipeP, restore, List.getD_eq_getElem?_getD, Option.getD_some, List.mem_singleton, forall_eq, Int.reduceLT, Int.reduceLE, Int.reduceNeg, Int.reduceSub, Int.reduceAdd, Int.reduceToNat, Int.reduceEq, Int.reduceNe, String.reduceEq, and_self, or_self, w_must, str_inj, pfVT, pfWT]
      refine ⟨hv.1, by omega, _, hk, by omega, ?_, h⟩
      simp only [List.length_append, List.length_map]
      omega
  · rw [List.length_cons] at hn
    rcases hw with rfl | rfl
    · simp only [↓reduceIte, ↓sSeq, ↓sAsg, ↓sIf, ↓sRet, ↓sRetN, ↓sExpr, ↓sNext, ↓sBreak, ↓sCont, ↓sAug, ↓sFor, ↓gN, ↓pIx, ↓pC, ↓pTup, ↓pLst, ↓pCons, ↓pNil, ↓pStar, ↓pOp, ↓pTB, ↓pTru, ↓pTAnd, ↓pTOr, ↓pTNot, ↓pAndV, ↓pOrV, ↓pNotV, ↓pIf, ↓pCall, ↓pLen, ↓pIsi, ↓pDget, ↓gDset, ↓gSubT, ↓PEq, ↓PNe, ↓pChain, ↓pNeg, ↓pSl, ↓pNoPart, ↓pPart, ↓pIter, ↓pRng1, ↓pRng2, ↓pEnum, ↓pRev, ↓pZip, ↓pMet, ↓pMet0, ↓pMut, ↓pLc, ↓pLRng1, ↓pLRng2, ↓pYes, ↓pRE, ↓startP, ↓pWords, ↓pSplit, ↓gLt, ↓gLe, ↓gGt, ↓gGe, ↓pV_f0, ↓pV_o0, ↓pRV_f0, ↓pRV_o0, ↓lk_f0, ↓lk_o0, ↓sRV_f0, ↓sRV_o0, ↓pV_f1, ↓pV_o1, ↓pRV_f1, ↓pRV_o1, ↓lk_f1, ↓lk_o1, ↓sRV_f1, ↓sRV_o1, ↓pV_f2, ↓pV_o2, ↓pRV_f2, ↓pRV_o2, ↓lk_f2, ↓lk_o2, ↓sRV_f2, ↓sRV_o2, ↓pV_f3, ↓pV_o3, ↓pRV_f3, ↓pRV_o3, ↓lk_f3, ↓lk_o3, ↓sRV_f3, ↓sRV_o3, ↓pV_f4, ↓pV_o4, ↓pRV_f4, ↓pRV_o4, ↓lk_f4, ↓lk_o4, ↓sRV_f4, ↓sRV_o4, ↓pV_f5, ↓pV_o5, ↓pRV_f5, ↓pRV_o5, ↓lk_f5, ↓lk_o5, ↓sRV_f5, ↓sRV_o5, ↓pV_f6, ↓pV_o6, ↓pRV_f6, ↓pRV_o6, ↓lk_f6, ↓lk_o6, ↓sRV_f6, ↓sRV_o6, ↓pV_f7, ↓pV_o7, ↓pRV_f7, ↓pRV_o7, ↓lk_f7, ↓lk_o7, ↓sRV_f7, ↓sRV_o7, ↓pV_f8, ↓pV_o8, ↓pRV_f8, ↓pRV_o8, ↓lk_f8, ↓lk_o8, ↓sRV_f8, ↓sRV_o8, ↓pV_f9, ↓pV_o9, ↓pRV_f9, ↓pRV_o9, ↓lk_f9, ↓lk_o9, ↓sRV_f9, ↓sRV_o9, ↓pV_f10, ↓pV_o10, ↓pRV_f10, ↓pRV_o10, ↓lk_f10, ↓lk_o10, ↓sRV_f10, ↓sRV_o10, ↓pV_f11, ↓pV_o11, ↓pRV_f11, ↓pRV_o11, ↓lk_f11, ↓lk_o11, ↓sRV_f11, ↓sRV_o11, ↓pV_f12, ↓pV_o12, ↓pRV_f12, ↓pRV_o12, ↓lk_f12, ↓lk_o12, ↓sRV_f12, ↓sRV_o12, ↓pV_f13, ↓pV_o13, ↓pRV_f13, ↓pRV_o13, ↓lk_f13, ↓lk_o13, ↓sRV_f13, ↓sRV_o13, ↓lk_fz, ↓of_fn, ↓of_fb, ↓of_fi, ↓of_fs, ↓of_ft, ↓of_fl, ↓of_ol, ↓of_ff, ↓ad_i, ↓ad_s, ↓ad_l, ↓ad_t, ↓su_i, ↓mu_i, ↓mu_l, ↓mo_i, ↓fd_i, ↓pw_i, ↓an_i, ↓ci_i, ↓is_n, ↓is_nn, ↓in_t, ↓in_l, ↓in_s, ↓ix_l, ↓ix_t, ↓ix_s, ↓sl_l, ↓sl_t, ↓sl_s, ↓kn_i, ↓kp_i, ↓kr1, ↓kr2, ↓ke_l, ↓kz_l, ↓kz_t, ↓klr1, ↓klr2, ↓gt_e, ↓gs_n, ↓gs_c, nc_0, nc_1, nc_2, nc_3, nc_4, nc_5, nc_6, nc_7, nc_8, nc_9, nc_10, nc_11, nc_12, eq_ii, eq_ss, eq_nn, eq_bb, eq_st, eq_ts, eq_si, eq_is, eq_it, eq_ti, cmp_i, cmp_b, cmp_n, sc_i, sc_s, sc_b, sc_n, flat_i, flat_s, flat_b, flat_n, tru_n, tru_b, tru_i, tru_t, tru_l, items_t, items_l, len_t, len_l, iter_t, iter_l, isN_n, isN_i, isN_s, isN_t, isN_l, isN_b, at_0, at_1, at_2, at_3, ib_tn, ib_tb, ib_ti, ib_ts, ib_tt, ib_tl, ib_sn, ib_sb, ib_si, ib_ss, ib_st, ib_sl, ib_in, ib_ib, ib_ii, ib_is, ib_it, ib_il, ib_bn, ib_bb, ib_bi, ib_bs, ib_bt, ib_bl, na_n, na_b, na_i, na_s, na_t, na_l, List.getElem?_cons_zero, List.getElem?_cons_succ, List.set_cons_zero, List.set_cons_succ, List.map_cons, List.map_nil, List.length_cons, List.length_nil, List.replicate_succ, List.replicate_zero, List.cons_append, List.nil_append, List.append_nil, List.isEmpty_nil, List.isEmpty_cons, List.cons.injEq, Option.some.injEq, T.int.injEq, T.str.injEq, T.bl.injEq, T.tup.injEq, T.lst.injEq, T.adr.injEq, Sl.fz.injEq, Sl.ow.injEq, exists_eq_left, exists_eq_left', exists_eq_right, exists_eq_right', exists_eq, exists_eq', exists_and_left, exists_and_right, exists_const, exists_false, and_true, true_and, and_false, false_and, or_true, true_or, or_false, false_or, not_true_eq_false, not_false_eq_true, if_true, if_false, ite_true, ite_false, Bool.not_true, Bool.not_false, Bool.true_or, Bool.or_true, Bool.false_or, Bool.or_false, Bool.true_and, Bool.and_true, Bool.false_and, Bool.and_false, Bool.false_eq_true, Bool.true_eq_false, eq_self, decide_eq_true_eq, decide_true, decide_false, Bool.decide_eq_true, Bool.not_eq_true, decide_eq_false_iff_not, Bool.and_eq_true, Bool.or_eq_true, Bool.not_eq_true', reduceCtorEq, ne_eq, Nat.le_refl, Nat.reduceAdd, Nat.reduceSub, Nat.reduceLeDiff, Nat.reduceLT, implies_true, forall_const, List.any_cons, List.any_nil, List.all_cons, List.all_nil, wipeP, restore, List.getD_eq_getElem?_getD, Option.getD_some, List.mem_singleton, forall_eq, Int.reduceLT, Int.reduceLE, Int.reduceNeg, Int.reduceSub, Int.reduceAdd, Int.reduceToNat, Int.reduceEq, Int.reduceNe, String.reduceEq, and_self, or_self, w_opt, str_inj, pfWT]
      exact ⟨_, hk, by omega, by rw [List.length_map]; omega, h⟩
    · simp only [↓reduceIte, ↓sSeq, ↓sAsg, ↓sIf, ↓sRet, ↓sRetN, ↓sExpr, ↓sNext, ↓sBreak, ↓sCont, ↓sAug, ↓sFor, ↓gN, ↓pIx, ↓pC, ↓pTup, ↓pLst, ↓pCons, ↓pNil, ↓pStar, ↓pOp, ↓pTB, ↓pTru, ↓pTAnd, ↓pTOr, ↓pTNot, ↓pAndV, ↓pOrV, ↓pNotV, ↓pIf, ↓pCall, ↓pLen, ↓pIsi, ↓pDget, ↓gDset, ↓gSubT, ↓PEq, ↓PNe, ↓pChain, ↓pNeg, ↓pSl, ↓pNoPart, ↓pPart, ↓pIter, ↓pRng1, ↓pRng2, ↓pEnum, ↓pRev, ↓pZip, ↓pMet, ↓pMet0, ↓pMut, ↓pLc, ↓pLRng1, ↓pLRng2, ↓pYes, ↓pRE, ↓startP, ↓pWords, ↓pSplit, ↓gLt, ↓gLe, ↓gGt, ↓gGe, ↓pV_f0, ↓pV_o0, ↓pRV_f0, ↓pRV_o0, ↓lk_f0, ↓lk_o0, ↓sRV_f0, ↓sRV_o0, ↓pV_f1, ↓pV_o1, ↓pRV_f1, ↓pRV_o1, ↓lk_f1, ↓lk_o1, ↓sRV_f1, ↓sRV_o1, ↓pV_f2, ↓pV_o2, ↓pRV_f2, ↓pRV_o2, ↓lk_f2, ↓lk_o2, ↓sRV_f2, ↓sRV_o2, ↓pV_f3, ↓pV_o3, ↓pRV_f3, ↓pRV_o3, ↓lk_f3, ↓lk_o3, ↓sRV_f3, ↓sRV_o3, ↓pV_f4, ↓pV_o4, ↓pRV_f4, ↓pRV_o4, ↓lk_f4, ↓lk_o4, ↓sRV_f4, ↓sRV_o4, ↓pV_f5, ↓pV_o5, ↓pRV_f5, ↓pRV_o5, ↓lk_f5, ↓lk_o5, ↓sRV_f5, ↓sRV_o5, ↓pV_f6, ↓pV_o6, ↓pRV_f6, ↓pRV_o6, ↓lk_f6, ↓lk_o6, ↓sRV_f6, ↓sRV_o6, ↓pV_f7, ↓pV_o7, ↓pRV_f7, ↓pRV_o7, ↓lk_f7, ↓lk_o7, ↓sRV_f7, ↓sRV_o7, ↓pV_f8, ↓pV_o8, ↓pRV_f8, ↓pRV_o8, ↓lk_f8, ↓lk_o8, ↓sRV_f8, ↓sRV_o8, ↓pV_f9, ↓pV_o9, ↓pRV_f9, ↓pRV_o9, ↓lk_f9, ↓lk_o9, ↓sRV_f9, ↓sRV_o9, ↓pV_f10, ↓pV_o10, ↓pRV_f10, ↓pRV_o10, ↓lk_f10, ↓lk_o10, ↓sRV_f10, ↓sRV_o10, ↓pV_f11, ↓pV_o11, ↓pRV_f11, ↓pRV_o11, ↓lk_f11, ↓lk_o11, ↓sRV_f11, ↓sRV_o11, ↓pV_f12, ↓pV_o12, ↓pRV_f12, ↓pRV_o12, ↓lk_f12, ↓lk_o12, ↓sRV_f12, ↓sRV_o12, ↓pV_f13, ↓pV_o13, ↓pRV_f13, ↓pRV_o13, ↓lk_f13, ↓lk_o13, ↓sRV_f13, ↓sRV_o13, ↓lk_fz, ↓of_fn, ↓of_fb, ↓of_fi, ↓of_fs, ↓of_ft, ↓of_fl, ↓of_ol, ↓of_ff, ↓ad_i, ↓ad_s, ↓ad_l, ↓ad_t, ↓su_i, ↓mu_i, ↓mu_l, ↓mo_i, ↓fd_i, ↓pw_i, ↓an_i, ↓ci_i, ↓is_n, ↓is_nn, ↓in_t, ↓in_l, ↓in_s, ↓ix_l, ↓ix_t, ↓ix_s, ↓sl_l, ↓sl_t, ↓sl_s, ↓kn_i, ↓kp_i, ↓kr1, ↓kr2, ↓ke_l, ↓kz_l, ↓kz_t, ↓klr1, ↓klr2, ↓gt_e, ↓gs_n, ↓gs_c, nc_0, nc_1, nc_2, nc_3, nc_4, nc_5, nc_6, nc_7, nc_8, nc_9, nc_10, nc_11, nc_12, eq_ii, eq_ss, eq_nn, eq_bb, eq_st, eq_ts, eq_si, eq_is, eq_it, eq_ti, cmp_i, cmp_b, cmp_n, sc_i, sc_s, sc_b, sc_n, flat_i, flat_s, flat_b, flat_n, tru_n, tru_b, tru_i, tru_t, tru_l, items_t, items_l, len_t, len_l, iter_t, iter_l, isN_n, isN_i, isN_s, isN_t, isN_l, isN_b, at_0, at_1, at_2, at_3, ib_tn, ib_tb, ib_ti, ib_ts, ib_tt, ib_tl, ib_sn, ib_sb, ib_si, ib_ss, ib_st, ib_sl, ib_in, ib_ib, ib_ii, ib_is, ib_it, ib_il, ib_bn, ib_bb, ib_bi, ib_bs, ib_bt, ib_bl, na_n, na_b, na_i, na_s, na_t, na_l, List.getElem?_cons_zero, List.getElem?_cons_succ, List.set_cons_zero, List.set_cons_succ, List.map_cons, List.map_nil, List.length_cons, List.length_nil, List.replicate_succ, List.replicate_zero, List.cons_append, List.nil_append, List.append_nil, List.isEmpty_nil, List.isEmpty_cons, List.cons.injEq, Option.some.injEq, T.int.injEq, T.str.injEq, T.bl.injEq, T.tup.injEq, T.lst.injEq, T.adr.injEq, Sl.fz.injEq, Sl.ow.injEq, exists_eq_left, exists_eq_left', exists_eq_right, exists_eq_right', exists_eq, exists_eq', exists_and_left, exists_and_right, exists_const, exists_false, and_true, true_and, and_false, false_and, or_true, true_or, or_false, false_or, not_true_eq_false, not_false_eq_true, if_true, if_false, ite_true, ite_false, Bool.not_true, Bool.not_false, Bool.true_or, Bool.or_true, Bool.false_or, Bool.or_false, Bool.true_and, Bool.and_true, Bool.false_and, Bool.and_false, Bool.false_eq_true, Bool.true_eq_false, eq_self, decide_eq_true_eq, decide_true, decide_false, Bool.decide_eq_true, Bool.not_eq_true, decide_eq_false_iff_not, Bool.and_eq_true, Bool.or_eq_true, Bool.not_eq_true', reduceCtorEq, ne_eq, Nat.le_refl, Nat.reduceAdd, Nat.reduceSub, Nat.reduceLeDiff, Nat.reduceLT, implies_true, forall_const, List.any_cons, List.any_nil, List.all_cons, List.all_nil, wipeP, restore, List.getD_eq_getElem?_getD, Option.getD_some, List.mem_singleton, forall_eq, Int.reduceLT, Int.reduceLE, Int.reduceNeg, Int.reduceSub, Int.reduceAdd, Int.reduceToNat, Int.reduceEq, Int.reduceNe, String.reduceEq, and_self, or_self, w_each, str_inj, pfWT]
      exact ⟨_, hk, by omega, by rw [List.length_map]; omega, h⟩
  · rw [List.length_cons, List.length_cons, List.length_append, List.length_singleton] at hn
    simp only [LT, List.map_cons, List.map_append, List.map_nil] at h
    rcases hw with rfl | rfl
    · simp only [↓reduceIte, ↓sSeq, ↓sAsg, ↓sIf, ↓sRet, ↓sRetN, ↓sExpr, ↓sNext, ↓sBreak, ↓sCont, ↓sAug, ↓sFor, ↓gN, ↓pIx, ↓pC, ↓pTup, ↓pLst, ↓pCons, ↓pNil, ↓pStar, ↓pOp, ↓pTB, ↓pTru, ↓pTAnd, ↓pTOr, ↓pTNot, ↓pAndV, ↓pOrV, ↓pNotV, ↓pIf, ↓pCall, ↓pLen, ↓pIsi, ↓pDget, ↓gDset, ↓gSubT, ↓PEq, ↓PNe, ↓pChain, ↓pNeg, ↓pSl, ↓pNoPart, ↓pPart, ↓pIter, ↓pRng1, ↓pRng2, ↓pEnum, ↓pRev, ↓pZip, ↓pMet, ↓pMet0, ↓pMut, ↓pLc, ↓pLRng1, ↓pLRng2, ↓pYes, ↓pRE, ↓startP, ↓pWords, ↓pSplit, ↓gLt, ↓gLe, ↓gGt, ↓gGe, ↓pV_f0, ↓pV_o0, ↓pRV_f0, ↓pRV_o0, ↓lk_f0, ↓lk_o0, ↓sRV_f0, ↓sRV_o0, ↓pV_f1, ↓pV_o1, ↓pRV_f1, ↓pRV_o1, ↓lk_f1, ↓lk_o1, ↓sRV_f1, ↓sRV_o1, ↓pV_f2, ↓pV_o2, ↓pRV_f2, ↓pRV_o2, ↓lk_f2, ↓lk_o2, ↓sRV_f2, ↓sRV_o2, ↓pV_f3, ↓pV_o3, ↓pRV_f3, ↓pRV_o3, ↓lk_f3, ↓lk_o3, ↓sRV_f3, ↓sRV_o3, ↓pV_f4, ↓pV_o4, ↓pRV_f4, ↓pRV_o4, ↓lk_f4, ↓lk_o4, ↓sRV_f4, ↓sRV_o4, ↓pV_f5, ↓pV_o5, ↓pRV_f5, ↓pRV_o5, ↓lk_f5, ↓lk_o5, ↓sRV_f5, ↓sRV_o5, ↓pV_f6, ↓pV_o6, ↓pRV_f6, ↓pRV_o6, ↓lk_f6, ↓lk_o6, ↓sRV_f6, ↓sRV_o6, ↓pV_f7, ↓pV_o7, ↓pRV_f7, ↓pRV_o7, ↓lk_f7, ↓lk_o7, ↓sRV_f7, ↓sRV_o7, ↓pV_f8, ↓pV_o8, ↓pRV_f8, ↓pRV_o8, ↓lk_f8, ↓lk_o8, ↓sRV_f8, ↓sRV_o8, ↓pV_f9, ↓pV_o9, ↓pRV_f9, ↓pRV_o9, ↓lk_f9, ↓lk_o9, ↓sRV_f9, ↓sRV_o9, ↓pV_f10, ↓pV_o10, ↓pRV_f10, ↓pRV_o10, ↓lk_f10, ↓lk_o10, ↓sRV_f10, ↓sRV_o10, ↓pV_f11, ↓pV_o11, ↓pRV_f11, ↓pRV_o11, ↓lk_f11, ↓lk_o11, ↓sRV_f11, ↓sRV_o11, ↓pV_f12, ↓pV_o12, ↓pRV_f12, ↓pRV_o12, ↓lk_f12, ↓lk_o12, ↓sRV_f12, ↓sRV_o12, ↓pV_f13, ↓pV_o13, ↓pRV_f13, ↓pRV_o13, ↓lk_f13, ↓lk_o13, ↓sRV_f13, ↓sRV_o13, ↓lk_fz, ↓of_fn, ↓of_fb, ↓of_fi, ↓of_fs, ↓of_ft, ↓of_fl, ↓of_ol, ↓of_ff, ↓ad_i, ↓ad_s, ↓ad_l, ↓ad_t, ↓su_i, ↓mu_i, ↓mu_l, ↓mo_i, ↓fd_i, ↓pw_i, ↓an_i, ↓ci_i, ↓is_n, ↓is_nn, ↓in_t, ↓in_l, ↓in_s, ↓ix_l, ↓ix_t, ↓ix_s, ↓sl_l, ↓sl_t, ↓sl_s, ↓kn_i, ↓kp_i, ↓kr1, ↓kr2, ↓ke_l, ↓kz_l, ↓kz_t, ↓klr1, ↓klr2, ↓gt_e, ↓gs_n, ↓gs_c, nc_0, nc_1, nc_2, nc_3, nc_4, nc_5, nc_6, nc_7, nc_8, nc_9, nc_10, nc_11, nc_12, eq_ii, eq_ss, eq_nn, eq_bb, eq_st, eq_ts, eq_si, eq_is, eq_it, eq_ti, cmp_i, cmp_b, cmp_n, sc_i, sc_s, sc_b, sc_n, flat_i, flat_s, flat_b, flat_n, tru_n, tru_b, tru_i, tru_t, tru_l, items_t, items_l, len_t, len_l, iter_t, iter_l, isN_n, isN_i, isN_s, isN_t, isN_l, isN_b, at_0, at_1, at_2, at_3, ib_tn, ib_tb, ib_ti, ib_ts, ib_tt, ib_tl, ib_sn, ib_sb, ib_si, ib_ss, ib_st, ib_sl, ib_in, ib_ib, ib_ii, ib_is, ib_it, ib_il, ib_bn, ib_bb, ib_bi, ib_bs, ib_bt, ib_bl, na_n, na_b, na_i, na_s, na_t, na_l, List.getElem?_cons_zero, List.getElem?_cons_succ, List.set_cons_zero, List.set_cons_succ, List.map_cons, List.map_nil, List.length_cons, List.length_nil, List.replicate_succ, List.replicate_zero, List.cons_append, List.nil_append, List.append_nil, List.isEmpty_nil, List.isEmpty_cons, List.cons.injEq, Option.some.injEq, T.int.injEq, T.str.injEq, T.bl.injEq, T.tup.injEq, T.lst.injEq, T.adr.injEq, Sl.fz.injEq, Sl.ow.injEq, exists_eq_left, exists_eq_left', exists_eq_right, exists_eq_right', exists_eq, exists_eq', exists_and_left, exists_and_right, exists_const, exists_false, and_true, true_and, and_false, false_and, or_true, true_or, or_false, false_or, not_true_eq_false, not_false_eq_true, if_true, if_false, ite_true, ite_false, Bool.not_true, Bool.not_false, Bool.true_or, Bool.or_true, Bool.false_or, Bool.or_false, Bool.true_and, Bool.and_true, Bool.false_and, Bool.and_false, Bool.false_eq_true, Bool.true_eq_false, eq_self, decide_eq_true_eq, decide_true, decide_false, Bool.decide_eq_true, Bool.not_eq_true, decide_eq_false_iff_not, Bool.and_eq_true, Bool.or_eq_true, Bool.not_eq_true', reduceCtorEq, ne_eq, Nat.le_refl, Nat.reduceAdd, Nat.reduceSub, Nat.reduceLeDiff, Nat.reduceLT, implies_true, forall_const, List.any_cons, List.any_nil, List.all_cons, List.all_nil, wipeP, restore, List.getD_eq_getElem?_getD, Option.getD_some, List.mem_singleton, forall_eq, Int.reduceLT, Int.reduceLE, Int.reduceNeg, Int.reduceSub, Int.reduceAdd, Int.reduceToNat, Int.reduceEq, Int.reduceNe, String.reduceEq, and_self, or_self, w_arms, str_inj, pfTT]
      refine ⟨_, rfl, hl, by omega, ?_, h⟩
      rw [List.length_append, List.length_map, List.length_singleton]
      omega
    · simp only [↓reduceIte, ↓sSeq, ↓sAsg, ↓sIf, ↓sRet, ↓sRetN, ↓sExpr, ↓sNext, ↓sBreak, ↓sCont, ↓sAug, ↓sFor, ↓gN, ↓pIx, ↓pC, ↓pTup, ↓pLst, ↓pCons, ↓pNil, ↓pStar, ↓pOp, ↓pTB, ↓pTru, ↓pTAnd, ↓pTOr, ↓pTNot, ↓pAndV, ↓pOrV, ↓pNotV, ↓pIf, ↓pCall, ↓pLen, ↓pIsi, ↓pDget, ↓gDset, ↓gSubT, ↓PEq, ↓PNe, ↓pChain, ↓pNeg, ↓pSl, ↓pNoPart, ↓pPart, ↓pIter, ↓pRng1, ↓pRng2, ↓pEnum, ↓pRev, ↓pZip, ↓pMet, ↓pMet0, ↓pMut, ↓pLc, ↓pLRng1, ↓pLRng2, ↓pYes, ↓pRE, ↓startP, ↓pWords, ↓pSplit, ↓gLt, ↓gLe, ↓gGt, ↓gGe, ↓pV_f0, ↓pV_o0, ↓pRV_f0, ↓pRV_o0, ↓lk_f0, ↓lk_o0, ↓sRV_f0, ↓sRV_o0, ↓pV_f1, ↓pV_o1, ↓pRV_f1, ↓pRV_o1, ↓lk_f1, ↓lk_o1, ↓sRV_f1, ↓sRV_o1, ↓pV_f2, ↓pV_o2, ↓pRV_f2, ↓pRV_o2, ↓lk_f2, ↓lk_o2, ↓sRV_f2, ↓sRV_o2, ↓pV_f3, ↓pV_o3, ↓pRV_f3, ↓pRV_o3, ↓lk_f3, ↓lk_o3, ↓sRV_f3, ↓sRV_o3, ↓pV_f4, ↓pV_o4, ↓pRV_f4, ↓pRV_o4, ↓lk_f4, ↓lk_o4, ↓sRV_f4, ↓sRV_o4, ↓pV_f5, ↓pV_o5, ↓pRV_f5, ↓pRV_o5, ↓lk_f5, ↓lk_o5, ↓sRV_f5, ↓sRV_o5, ↓pV_f6, ↓pV_o6, ↓pRV_f6, ↓pRV_o6, ↓lk_f6, ↓lk_o6, ↓sRV_f6, ↓sRV_o6, ↓pV_f7, ↓pV_o7, ↓pRV_f7, ↓pRV_o7, ↓lk_f7, ↓lk_o7, ↓sRV_f7, ↓sRV_o7, ↓pV_f8, ↓pV_o8, ↓pRV_f8, ↓pRV_o8, ↓lk_f8, ↓lk_o8, ↓sRV_f8, ↓sRV_o8, ↓pV_f9, ↓pV_o9, ↓pRV_f9, ↓pRV_o9, ↓lk_f9, ↓lk_o9, ↓sRV_f9, ↓sRV_o9, ↓pV_f10, ↓pV_o10, ↓pRV_f10, ↓pRV_o10, ↓lk_f10, ↓lk_o10, ↓sRV_f10, ↓sRV_o10, ↓pV_f11, ↓pV_o11, ↓pRV_f11, ↓pRV_o11, ↓lk_f11, ↓lk_o11, ↓sRV_f11, ↓sRV_o11, ↓pV_f12, ↓pV_o12, ↓pRV_f12, ↓pRV_o12, ↓lk_f12, ↓lk_o12, ↓sRV_f12, ↓sRV_o12, ↓pV_f13, ↓pV_o13, ↓pRV_f13, ↓pRV_o13, ↓lk_f13, ↓lk_o13, ↓sRV_f13, ↓sRV_o13, ↓lk_fz, ↓of_fn, ↓of_fb, ↓of_fi, ↓of_fs, ↓of_ft, ↓of_fl, ↓of_ol, ↓of_ff, ↓ad_i, ↓ad_s, ↓ad_l, ↓ad_t, ↓su_i, ↓mu_i, ↓mu_l, ↓mo_i, ↓fd_i, ↓pw_i, ↓an_i, ↓ci_i, ↓is_n, ↓is_nn, ↓in_t, ↓in_l, ↓in_s, ↓ix_l, ↓ix_t, ↓ix_s, ↓sl_l, ↓sl_t, ↓sl_s, ↓kn_i, ↓kp_i, ↓kr1, ↓kr2, ↓ke_l, ↓kz_l, ↓kz_t, ↓klr1, ↓klr2, ↓gt_e, ↓gs_n, ↓gs_c, nc_0, nc_1, nc_2, nc_3, nc_4, nc_5, nc_6, nc_7, nc_8, nc_9, nc_10, nc_11, nc_12, eq_ii, eq_ss, eq_nn, eq_bb, eq_st, eq_ts, eq_si, eq_is, eq_it, eq_ti, cmp_i, cmp_b, cmp_n, sc_i, sc_s, sc_b, sc_n, flat_i, flat_s, flat_b, flat_n, tru_n, tru_b, tru_i, tru_t, tru_l, items_t, items_l, len_t, len_l, iter_t, iter_l, isN_n, isN_i, isN_s, isN_t, isN_l, isN_b, at_0, at_1, at_2, at_3, ib_tn, ib_tb, ib_ti, ib_ts, ib_tt, ib_tl, ib_sn, ib_sb, ib_si, ib_ss, ib_st, ib_sl, ib_in, ib_ib, ib_ii, ib_is, ib_it, ib_il, ib_bn, ib_bb, ib_bi, ib_bs, ib_bt, ib_bl, na_n, na_b, na_i, na_s, na_t, na_l, List.getElem?_cons_zero, List.getElem?_cons_succ, List.set_cons_zero, List.set_cons_succ, List.map_cons, List.map_nil, List.length_cons, List.length_nil, List.replicate_succ, List.replicate_zero, List.cons_append, List.nil_append, List.append_nil, List.isEmpty_nil, List.isEmpty_cons, List.cons.injEq, Option.some.injEq, T.int.injEq, T.str.injEq, T.bl.injEq, T.tup.injEq, T.lst.injEq, T.adr.injEq, Sl.fz.injEq, Sl.ow.injEq, exists_eq_left, exists_eq_left', exists_eq_right, exists_eq_right', exists_eq, exists_eq', exists_and_left, exists_and_right, exists_const, exists_false, and_true, true_and, and_false, false_and, or_true, true_or, or_false, false_or, not_true_eq_false, not_false_eq_true, if_true, if_false, ite_true, ite_false, Bool.not_true, Bool.not_false, Bool.true_or, Bool.or_true, Bool.false_or, Bool.or_false, Bool.true_and, Bool.and_true, Bool.false_and, Bool.and_false, Bool.false_eq_true, Bool.true_eq_false, eq_self, decide_eq_true_eq, decide_true, decide_false, Bool.decide_eq_true, Bool.not_eq_true, decide_eq_false_iff_not, Bool.and_eq_true, Bool.or_eq_true, Bool.not_eq_true', reduceCtorEq, ne_eq, Nat.le_refl, Nat.reduceAdd, Nat.reduceSub, Nat.reduceLeDiff, Nat.reduceLT, implies_true, forall_const, List.any_cons, List.any_nil, List.all_cons, List.all_nil, wipeP, restore, List.getD_eq_getElem?_getD, Option.getD_some, List.mem_singleton, forall_eq, Int.reduceLT, Int.reduceLE, Int.reduceNeg, Int.reduceSub, Int.reduceAdd, Int.reduceToNat, Int.reduceEq, Int.reduceNe, String.reduceEq, and_self, or_self, w_parts, str_inj, pfTT]
      refine ⟨_, rfl, hl, by omega, ?_, h⟩
      rw [List.length_append, List.length_map, List.length_singleton]
      omega
theorem tok_sum {l : List Str} (h : ∀ x ∈ l, tkOk x) : (l.map (·.length)).sum + l.length * sp1.length ≤ 9 * l.length := by
  have h1 : sp1.length = 1 := by decide +kernel
  have h2 := sum_le (l := l.map (·.length)) (b := 8) (fun x hx => by
    obtain ⟨y, hy, rfl⟩ := List.mem_map.mp hx
    exact (h y hy).1)
  rw [List.length_map] at h2
  rw [h1]
  omega
theorem ok_write_kind {W : Wld} {k : Nat} {n : Nat} (D : Df K mg "write_kind" s_write_kind)
    (C_kind_tokens : CalQ P w K mg base (W) "_kind_tokens" k ["kind"] (pfKT n)) :
    CalQ P w K mg base (W) "write_kind" (k + 1) ["kind"] (pfWK n) := by
  refine CalQ.mk D sc_write_kind (fun _ _ _ _ _ _ us h => match us, h with | [_], _ => rfl) (fun ts Φ h => by first | (obtain ⟨rfl, _⟩ := h; rfl) | (obtain ⟨_, rfl, _⟩ := h; rfl) | (obtain ⟨_, _, rfl, _⟩ := h; rfl) | (obtain ⟨_, _, _, rfl, _⟩ := h; rfl) | (obtain ⟨_, _, _, _, rfl, _⟩ := h; rfl)) (fun f cdv A outer s H E hr => ?_)
  refine ⟨_, qss_one (qs_ret (qe_met PySem.F.plainAttrs_str PySem.F.slot_str_join PySem.F.type_str_join me_join (qr_of qe_str) (qa_cons (qe_call C_kind_tokens (hr.mono (by omega)) (by rfl) (qa_cons (qe_name (pv 0)) qa_nil)) qa_nil))), ?_⟩
  intro ts Φ h
  obtain ⟨t, s, rfl, hk, hn, h⟩ := h
  simp only [↓reduceIte, ↓sSeq, ↓sAsg, ↓sIf, ↓sRet, ↓sRetN, ↓sExpr, ↓sNext, ↓sBreak, ↓sCont, ↓sAug, ↓sFor, ↓gN, ↓pIx, ↓pC, ↓pTup, ↓pLst, ↓pCons, ↓pNil, ↓pStar, ↓pOp, ↓pTB, ↓pTru, ↓pTAnd, ↓pTOr, ↓pTNot, ↓pAndV, ↓pOrV, ↓pNotV, ↓pIf, ↓pCall, ↓pLen, ↓pIsi, ↓pDget, ↓gDset, ↓gSubT, ↓PEq, ↓PNe, ↓pChain, ↓pNeg, ↓pSl, ↓pNoPart, ↓pPart, ↓pIter, ↓pRng1, ↓pRng2, ↓pEnum, ↓pRev, ↓pZip, ↓pMet, ↓pMet0, ↓pMut, ↓pLc, ↓pLRng1, ↓pLRng2, ↓pYes, ↓pRE, ↓startP, ↓pWords, ↓pSplit, ↓gLt, ↓gLe, ↓gGt, ↓gGe, ↓pV_f0, ↓pV_o0, ↓pRV_f0, ↓pRV_o0, ↓lk_f0, ↓lk_o0, ↓sRV_f0, ↓sRV_o0, ↓pV_f1, ↓pV_o1, ↓pRV_f1, ↓pRV_o1, ↓lk_f1, ↓lk_o1, ↓sRV_f1, ↓sRV_o1, ↓pV_f2, ↓pV_o2, ↓pRV_f2, ↓pRV_o2, ↓lk_f2, ↓lk_o2, ↓sRV_f2, ↓sRV_o2, ↓pV_f3, ↓pV_o3, ↓pRV_f3, ↓pRV_o3, ↓lk_f3, ↓lk_o3, ↓sRV_f3, ↓sRV_o3, ↓pV_f4, ↓pV_o4, ↓pRV_f4, ↓pRV_o4, ↓lk_f4, ↓lk_o4, ↓sRV_f4, ↓sRV_o4, ↓pV_f5, ↓pV_o5, ↓pRV_f5, ↓pRV_o5, ↓lk_f5, ↓lk_o5, ↓sRV_f5, ↓sRV_o5, ↓pV_f6, ↓pV_o6, ↓pRV_f6, ↓pRV_o6, ↓lk_f6, ↓lk_o6, ↓sRV_f6, ↓sRV_o6, ↓pV_f7, ↓pV_o7, ↓pRV_f7, ↓pRV_o7, ↓lk_f7, ↓lk_o7, ↓sRV_f7, ↓sRV_o7, ↓pV_f8, ↓pV_o8, ↓pRV_f8, ↓pRV_o8, ↓lk_f8, ↓lk_o8, ↓sRV_f8, ↓sRV_o8, ↓pV_f9, ↓pV_o9, ↓pRV_f9, ↓pRV_o9, ↓lk_f9, ↓lk_o9, ↓sRV_f9, ↓sRV_o9, ↓pV_f10, ↓pV_o10, ↓pRV_f10, ↓pRV_o10, ↓lk_f10, ↓lk_o10, ↓sRV_f10, ↓sRV_o10, ↓pV_f11, ↓pV_o11, ↓pRV_f11, ↓pRV_o11, ↓lk_f11, ↓lk_o11, ↓sRV_f11, ↓sRV_o11, ↓pV_f12, ↓pV_o12, ↓pRV_f12, ↓pRV_o12, ↓lk_f12, ↓lk_o12, ↓sRV_f12, ↓sRV_o12, ↓pV_f13, ↓pV_o13, ↓pRV_f13, ↓pRV_o13, ↓lk_f13, ↓lk_o13, ↓sRV_f13, ↓sRV_o13, ↓lk_fz, ↓of_fn, ↓of_fb, ↓of_fi, ↓of_fs, ↓of_ft, ↓of_fl, ↓of_ol, ↓of_ff, ↓ad_i, ↓ad_s, ↓ad_l, ↓ad_t, ↓su_i, ↓mu_i, ↓mu_l, ↓mo_i, ↓fd_i, ↓pw_i, ↓an_i, ↓ci_i, ↓is_n, ↓is_nn, ↓in_t, ↓in_l, ↓in_s, ↓ix_l, ↓ix_t, ↓ix_s, ↓sl_l, ↓sl_t, ↓sl_s, ↓kn_i, ↓kp_i, ↓kr1, ↓kr2, ↓ke_l, ↓kz_l, ↓kz_t, ↓klr1, ↓klr2, ↓gt_e, ↓gs_n, ↓gs_c, nc_0, nc_1, nc_2, nc_3, nc_4, nc_5, nc_6, nc_7, nc_8, nc_9, nc_10, nc_11, nc_12, eq_ii, eq_ss, eq_nn, eq_bb, eq_st, eq_ts, eq_si, eq_is, eq_it, eq_ti, cmp_i, cmp_b, cmp_n, sc_i, sc_s, sc_b, sc_n, flat_i, flat_s, flat_b, flat_n, tru_n, tru_b, tru_i, tru_t, tru_l, items_t, items_l, len_t, len_l, iter_t, iter_l, isN_n, isN_i, isN_s, isN_t, isN_l, isN_b, at_0, at_1, at_2, at_3, ib_tn, ib_tb, ib_ti, ib_ts, ib_tt, ib_tl, ib_sn, ib_sb, ib_si, ib_ss, ib_st, ib_sl, ib_in, ib_ib, ib_ii, ib_is, ib_it, ib_il, ib_bn, ib_bb, ib_bi, ib_bs, ib_bt, ib_bl, na_n, na_b, na_i, na_s, na_t, na_l, List.getElem?_cons_zero, List.getElem?_cons_succ, List.set_cons_zero, List.set_cons_succ, List.map_cons, List.map_nil, List.length_cons, List.length_nil, List.replicate_succ, List.replicate_zero, List.cons_append, List.nil_append, List.append_nil, List.isEmpty_nil, List.isEmpty_cons, List.cons.injEq, Option.some.injEq, T.int.injEq, T.str.injEq, T.bl.injEq, T.tup.injEq, T.lst.injEq, T.adr.injEq, Sl.fz.injEq, Sl.ow.injEq, exists_eq_left, exists_eq_left', exists_eq_right, exists_eq_right', exists_eq, exists_eq', exists_and_left, exists_and_right, exists_const, exists_false, and_true, true_and, and_false, false_and, or_true, true_or, or_false, false_or, not_true_eq_false, not_false_eq_true, if_true, if_false, ite_true, ite_false, Bool.not_true, Bool.not_false, Bool.true_or, Bool.or_true, Bool.false_or, Bool.or_false, Bool.true_and, Bool.and_true, Bool.false_and, Bool.and_false, Bool.false_eq_true, Bool.true_eq_false, eq_self, decide_eq_true_eq, decide_true, decide_false, Bool.decide_eq_true, Bool.not_eq_true, decide_eq_false_iff_not, Bool.and_eq_true, Bool.or_eq_true, Bool.not_eq_true', reduceCtorEq, ne_eq, Nat.le_refl, Nat.reduceAdd, Nat.reduceSub, Nat.reduceLeDiff, Nat.reduceLT, implies_true, forall_const, List.any_cons, List.any_nil, List.all_cons, List.all_nil, wipeP, restore, List.getD_eq_getElem?_getD, Option.getD_some, List.mem_singleton, forall_eq, Int.reduceLT, Int.reduceLE, Int.reduceNeg, Int.reduceSub, Int.reduceAdd, Int.reduceToNat, Int.reduceEq, Int.reduceNe, String.reduceEq, and_self, or_self, pfKT, tyOk]
  have := tok_sum (kt_ok n t s hk)
  have e : (Str.ofString " ").length = sp1.length := rfl
  exact ⟨s, hk, by omega, s, rfl, by rw [e]; omega, h⟩
theorem ok_write_way {W : Wld} {k : Nat} {n : Nat} (D : Df K mg "write_way" s_write_way)
    (C_way_tokens : CalQ P w K mg base (W) "_way_tokens" k ["way"] (pfWT n)) :
    CalQ P w K mg base (W) "write_way" (k + 1) ["way"] (pfWW n) := by
  refine CalQ.mk D sc_write_way (fun _ _ _ _ _ _ us h => match us, h with | [_], _ => rfl) (fun ts Φ h => by first | (obtain ⟨rfl, _⟩ := h; rfl) | (obtain ⟨_, rfl, _⟩ := h; rfl) | (obtain ⟨_, _, rfl, _⟩ := h; rfl) | (obtain ⟨_, _, _, rfl, _⟩ := h; rfl) | (obtain ⟨_, _, _, _, rfl, _⟩ := h; rfl)) (fun f cdv A outer s H E hr => ?_)
  refine ⟨_, qss_one (qs_ret (qe_met PySem.F.plainAttrs_str PySem.F.slot_str_join PySem.F.type_str_join me_join (qr_of qe_str) (qa_cons (qe_call C_way_tokens (hr.mono (by omega)) (by rfl) (qa_cons (qe_name (pv 0)) qa_nil)) qa_nil))), ?_⟩
  intro ts Φ h
  obtain ⟨t, s, rfl, hk, hn, h⟩ := h
  simp only [↓reduceIte, ↓sSeq, ↓sAsg, ↓sIf, ↓sRet, ↓sRetN, ↓sExpr, ↓sNext, ↓sBreak, ↓sCont, ↓sAug, ↓sFor, ↓gN, ↓pIx, ↓pC, ↓pTup, ↓pLst, ↓pCons, ↓pNil, ↓pStar, ↓pOp, ↓pTB, ↓pTru, ↓pTAnd, ↓pTOr, ↓pTNot, ↓pAndV, ↓pOrV, ↓pNotV, ↓pIf, ↓pCall, ↓pLen, ↓pIsi, ↓pDget, ↓gDset, ↓gSubT, ↓PEq, ↓PNe, ↓pChain, ↓pNeg, ↓pSl, ↓pNoPart, ↓pPart, ↓pIter, ↓pRng1, ↓pRng2, ↓pEnum, ↓pRev, ↓pZip, ↓pMet, ↓pMet0, ↓pMut, ↓pLc, ↓pLRng1, ↓pLRng2, ↓pYes, ↓pRE, ↓startP, ↓pWords, ↓pSplit, ↓gLt, ↓gLe, ↓gGt, ↓gGe, ↓pV_f0, ↓pV_o0, ↓pRV_f0, ↓pRV_o0, ↓lk_f0, ↓lk_o0, ↓sRV_f0, ↓sRV_o0, ↓pV_f1, ↓pV_o1, ↓pRV_f1, ↓pRV_o1, ↓lk_f1, ↓lk_o1, ↓sRV_f1, ↓sRV_o1, ↓pV_f2, ↓pV_o2, ↓pRV_f2, ↓pRV_o2, ↓lk_f2, ↓lk_o2, ↓sRV_f2, ↓sRV_o2, ↓pV_f3, ↓pV_o3, ↓pRV_f3, ↓pRV_o3, ↓lk_f3, ↓lk_o3, ↓sRV_f3, ↓sRV_o3, ↓pV_f4, ↓pV_o4, ↓pRV_f4, ↓pRV_o4, ↓lk_f4, ↓lk_o4, ↓sRV_f4, ↓sRV_o4, ↓pV_f5, ↓pV_o5, ↓pRV_f5, ↓pRV_o5, ↓lk_f5, ↓lk_o5, ↓sRV_f5, ↓sRV_o5, ↓pV_f6, ↓pV_o6, ↓pRV_f6, ↓pRV_o6, ↓lk_f6, ↓lk_o6, ↓sRV_f6, ↓sRV_o6, ↓pV_f7, ↓pV_o7, ↓pRV_f7, ↓pRV_o7, ↓lk_f7, ↓lk_o7, ↓sRV_f7, ↓sRV_o7, ↓pV_f8, ↓pV_o8, ↓pRV_f8, ↓pRV_o8, ↓lk_f8, ↓lk_o8, ↓sRV_f8, ↓sRV_o8, ↓pV_f9, ↓pV_o9, ↓pRV_f9, ↓pRV_o9, ↓lk_f9, ↓lk_o9, ↓sRV_f9, ↓sRV_o9, ↓pV_f10, ↓pV_o10, ↓pRV_f10, ↓pRV_o10, ↓lk_f10, ↓lk_o10, ↓sRV_f10, ↓sRV_o10, ↓pV_f11, ↓pV_o11, ↓pRV_f11, ↓pRV_o11, ↓lk_f11, ↓lk_o11, ↓sRV_f11, ↓sRV_o11, ↓pV_f12, ↓pV_o12, ↓pRV_f12, ↓pRV_o12, ↓lk_f12, ↓lk_o12, ↓sRV_f12, ↓sRV_o12, ↓pV_f13, ↓pV_o13, ↓pRV_f13, ↓pRV_o13, ↓lk_f13, ↓lk_o13, ↓sRV_f13, ↓sRV_o13, ↓lk_fz, ↓of_fn, ↓of_fb, ↓of_fi, ↓of_fs, ↓of_ft, ↓of_fl, ↓of_ol, ↓of_ff, ↓ad_i, ↓ad_s, ↓ad_l, ↓ad_t, ↓su_i, ↓mu_i, ↓mu_l, ↓mo_i, ↓fd_i, ↓pw_i, ↓an_i, ↓ci_i, ↓is_n, ↓is_nn, ↓in_t, ↓in_l, ↓in_s, ↓ix_l, ↓ix_t, ↓ix_s, ↓sl_l, ↓sl_t, ↓sl_s, ↓kn_i, ↓kp_i, ↓kr1, ↓kr2, ↓ke_l, ↓kz_l, ↓kz_t, ↓klr1, ↓klr2, ↓gt_e, ↓gs_n, ↓gs_c, nc_0, nc_1, nc_2, nc_3, nc_4, nc_5, nc_6, nc_7, nc_8, nc_9, nc_10, nc_11, nc_12, eq_ii, eq_ss, eq_nn, eq_bb, eq_st, eq_ts, eq_si, eq_is, eq_it, eq_ti, cmp_i, cmp_b, cmp_n, sc_i, sc_s, sc_b, sc_n, flat_i, flat_s, flat_b, flat_n, tru_n, tru_b, tru_i, tru_t, tru_l, items_t, items_l, len_t, len_l, iter_t, iter_l, isN_n, isN_i, isN_s, isN_t, isN_l, isN_b, at_0, at_1, at_2, at_3, ib_tn, ib_tb, ib_ti, ib_ts, ib_tt, ib_tl, ib_sn, ib_sb, ib_si, ib_ss, ib_st, ib_sl, ib_in, ib_ib, ib_ii, ib_is, ib_it, ib_il, ib_bn, ib_bb, ib_bi, ib_bs, ib_bt, ib_bl, na_n, na_b, na_i, na_s, na_t, na_l, List.getElem?_cons_zero, List.getElem?_cons_succ, List.set_cons_zero, List.set_cons_succ, List.map_cons, List.map_nil, List.length_cons, List.length_nil, List.replicate_succ, List.replicate_zero, List.cons_append, List.nil_append, List.append_nil, List.isEmpty_nil, List.isEmpty_cons, List.cons.injEq, Option.some.injEq, T.int.injEq, T.str.injEq, T.bl.injEq, T.tup.injEq, T.lst.injEq, T.adr.injEq, Sl.fz.injEq, Sl.ow.injEq, exists_eq_left, exists_eq_left', exists_eq_right, exists_eq_right', exists_eq, exists_eq', exists_and_left, exists_and_right, exists_const, exists_false, and_true, true_and, and_false, false_and, or_true, true_or, or_false, false_or, not_true_eq_false, not_false_eq_true, if_true, if_false, ite_true, ite_false, Bool.not_true, Bool.not_false, Bool.true_or, Bool.or_true, Bool.false_or, Bool.or_false, Bool.true_and, Bool.and_true, Bool.false_and, Bool.and_false, Bool.false_eq_true, Bool.true_eq_false, eq_self, decide_eq_true_eq, decide_true, decide_false, Bool.decide_eq_true, Bool.not_eq_true, decide_eq_false_iff_not, Bool.and_eq_true, Bool.or_eq_true, Bool.not_eq_true', reduceCtorEq, ne_eq, Nat.le_refl, Nat.reduceAdd, Nat.reduceSub, Nat.reduceLeDiff, Nat.reduceLT, implies_true, forall_const, List.any_cons, List.any_nil, List.all_cons, List.all_nil, wipeP, restore, List.getD_eq_getElem?_getD, Option.getD_some, List.mem_singleton, forall_eq, Int.reduceLT, Int.reduceLE, Int.reduceNeg, Int.reduceSub, Int.reduceAdd, Int.reduceToNat, Int.reduceEq, Int.reduceNe, String.reduceEq, and_self, or_self, pfWT, tyOk]
  have := tok_sum (wt_ok n t s hk)
  have e : (Str.ofString " ").length = sp1.length := rfl
  exact ⟨s, hk, by omega, s, rfl, by rw [e]; omega, h⟩
end
end Y

namespace Y
open PySem PySem.Spec PyProof.Rows L2 RT RZ TL PySem.NumText
/-! ### the law's texts -/
theorem slen (a b : Str) : (a ++ b).length = a.length + b.length := by
  rw [len_tl, tl_append, List.length_append, ← len_tl, ← len_tl]
def cat (ss : List Str) : Str := Txt.join (Str.ofString "") ss
theorem tl_emp : tl (Str.ofString "") = [] := by decide +kernel
theorem tl_sp : tl sp1 = [32] := by decide +kernel
theorem cat_nil : cat [] = Str.ofString "" := by
  rw [cat, join_eq]
  rfl
theorem cat_cons (a : Str) (r : List Str) : cat (a :: r) = a ++ cat r := by
  refine ext_tl ?_
  rw [cat, cat, join_eq, join_eq, tl_append, tl_join, tl_join, tl_emp]
  cases r with
  | nil => simp [joinL]
  | cons b r => simp [joinL]
theorem sempty (a : Str) : Str.ofString "" ++ a = a := ext_tl (by rw [tl_append, tl_emp]; rfl)
theorem catJ : ∀ (L : List (List Str)) (z : List Str), (∀ x ∈ L, x ≠ []) → z ≠ [] → cat (L.map fun x => J x ++ sp1) ++ J z = J (L.flatten ++ z)
  | [], z, _, _ => by
    show cat [] ++ J z = _
    rw [cat_nil, sempty]
    rfl
  | x :: L, z, h, hz => by
    have ih := catJ L z (fun y hy => h y (List.mem_cons_of_mem _ hy)) hz
    rw [List.map_cons, cat_cons, List.flatten_cons, List.append_assoc, J_app (h x List.mem_cons_self) (by simp [hz]), ← ih]
    rw [sapp, sapp]
/-- texts with commas between them -/
theorem jl : ∀ (x : List Str) (L : List (List Str)), (∀ y ∈ x :: L, y ≠ []) → Txt.join (Str.ofString " , ") ((x :: L).map J) = J (listed (x :: L))
  | x, [], _ => by
    rw [join_eq]
    show J x = J (x ++ [])
    rw [List.append_nil]
  | x, y :: L, h => by
    have ih := jl y L (fun z hz => h z (List.mem_cons_of_mem _ hz))
    have hy := h y (List.mem_cons_of_mem _ List.mem_cons_self)
    have hne : y ++ L.flatMap (fun y => sK :: y) ≠ [] := by simp [hy]
    have e1 : listed (x :: y :: L) = x ++ (sK :: listed (y :: L)) := by
      simp [listed]
    have e2 : Str.ofString " , " = sp1 ++ (sK ++ sp1) := by decide +kernel
    rw [e1, J_app (h x List.mem_cons_self) (by simp), J_cons sK (show listed (y :: L) ≠ [] from hne), ← ih]
    refine ext_tl ?_
    rw [join_eq, join_eq, tl_join]
    simp only [List.map_cons, joinL, tl_append, e2]
    rw [tl_join]
    simp [List.append_assoc, e2, tl_append]
theorem jl_len {L : List (List Str)} (h : ∀ x ∈ L, ∀ s ∈ x, tkOk s) (h1 : ∀ x ∈ L, x ≠ []) : ((L.map J).map (·.length)).sum + (L.map J).length * 3 ≤ 12 * (listed L).length := by
  have k : ∀ L : List (List Str), (∀ x ∈ L, ∀ s ∈ x, tkOk s) → (∀ x ∈ L, x ≠ []) → ((L.map J).map (·.length)).sum + (L.map J).length * 3 ≤ 12 * (L.flatMap fun y => y).length := by
    intro L
    induction L with
    | nil => intro _ _; exact Nat.zero_le _
    | cons x L ih =>
      intro h h1
      have ih := ih (fun y hy => h y (List.mem_cons_of_mem _ hy)) (fun y hy => h1 y (List.mem_cons_of_mem _ hy))
      have hj := join_len x (h x List.mem_cons_self)
      have hp := List.length_pos_iff.mpr (h1 x List.mem_cons_self)
      rw [List.flatMap_cons, List.length_append, List.map_cons, List.map_cons, List.sum_cons, List.length_cons]
      omega
  have e : (L.flatMap fun y => y).length ≤ (listed L).length := by
    cases L with
    | nil => exact Nat.zero_le _
    | cons x r =>
      show _ ≤ (x ++ r.flatMap fun y => sK :: y).length
      rw [List.flatMap_cons, List.length_append, List.length_append]
      have : ∀ r : List (List Str), (r.flatMap fun y => y).length ≤ (r.flatMap fun y => sK :: y).length := by
        intro r
        induction r with
        | nil => exact Nat.zero_le _
        | cons y r ih =>
          rw [List.flatMap_cons, List.flatMap_cons, List.length_append, List.length_append, List.length_cons]
          omega
      have := this r
      omega
  have := k L h h1
  omega
theorem vt_ne {n : Nat} {t : T} (h : Aok n t) : vt t ≠ [] := fun e => by
  have := vt_pos n t h
  rw [e] at this
  simp at this
def pfVX (n : Nat) : PSp := fun ts Φ => ∃ t, ts = [t] ∧ Aok n t ∧ (vt t).length ≤ 1000000 ∧ Φ (.str (J (vt t))) false
def pfVX0 : Nat → PSp
  | 0 => fun _ _ => False
  | n + 1 => pfVX n
def pfKX (n : Nat) : PSp := fun ts Φ => ∃ t s, ts = [t] ∧ Kt n t s ∧ s.length ≤ 100000 ∧ Φ (.str (J s)) false
def pfFX (n : Nat) : PSp := fun ts Φ => ∃ l : List Fd, ts = [.tup (l.map fpT)] ∧ (∀ p ∈ l, isNm p.1 = true ∧ Kt n p.2.1 p.2.2) ∧ (l.flatMap fpS).length ≤ 100000 ∧ Φ (.str (cat ((l.map fpS).map fun x => J x ++ sp1))) false
def pfWX (n : Nat) : PSp := fun ts Φ => ∃ t s, ts = [t] ∧ Wt n t s ∧ s.length ≤ 100000 ∧ Φ (.str (J s)) false
def pfTX (n : Nat) : PSp := fun ts Φ => ∃ p : Tr, ts = [trT p] ∧ (Ed p.1.1 p.1.2 ∧ Ed p.2.1.1 p.2.1.2 ∧ Wt n p.2.2.1 p.2.2.2) ∧ (trS p).length ≤ 100000 ∧ Φ (.str (J (p.1.2 :: w_to :: p.2.1.2 :: w_by :: p.2.2.2))) false
section
variable {P : Program} {w : World} {K : PySem.W.Frag} {mg : Str → Option Value} {base : Heap}
theorem ok_value_text {W : Wld} {k : Nat} {n : Nat} (D : Df K mg "_law_value_text" s_value_text)
    (C_value_text : CalQ P w K mg base (W) "_law_value_text" k ["_law_value"] (pfVX0 n)) (m_isinstance : mg "isinstance" = none) (m_tuple : mg "tuple" = none) (m_str : mg "str" = none) :
    CalQ P w K mg base (W) "_law_value_text" (k + 1) ["_law_value"] (pfVX n) := by
  refine CalQ.mk D sc_value_text (fun _ _ _ _ _ _ us h => match us, h with | [_], _ => rfl) (fun ts Φ h => by first | (obtain ⟨rfl, _⟩ := h; rfl) | (obtain ⟨_, rfl, _⟩ := h; rfl) | (obtain ⟨_, _, rfl, _⟩ := h; rfl) | (obtain ⟨_, _, _, rfl, _⟩ := h; rfl) | (obtain ⟨_, _, _, _, rfl, _⟩ := h; rfl)) (fun f cdv A outer s H E hr => ?_)
  refine ⟨_, qss_cons (qs_if (qt_truth (qr_of (qe_isi (is := isB "tuple") (by rfl) m_isinstance (qe_name (pv 0)) (pe_bltn (v := .ty "tuple") (by rfl) m_tuple (by decide +kernel) rfl) (kitN (by decide +kernel)))) (by intro _; rfl))
    (qss_one (qs_ret (qe_if (qt_truth (qr_name (pv 0)) (by intro _; rfl)) (qe_op oq_add (qe_op oq_add qe_str (qe_met PySem.F.plainAttrs_str PySem.F.slot_str_join PySem.F.type_str_join me_join (qr_of qe_str) (qa_cons (qe_lc rfl (own := [("_law_one", 1)]) sc_value_text.nd (by decide) (qi_val (qe_name (pv 0))) (blkOk_by (N := ["_law_value", "_law_one"]) (sc := defScope s_value_text) (by decide +kernel)) (fun _ _ _ _ _ => (qg_name (pg_name (i := 1) sc_value_text.nd rfl (.inl rfl)))) (fun _ _ _ _ _ => qts_nil) (fun _ _ _ _ _ => (qe_call C_value_text (hr.mono (by omega)) (by rfl) (qa_cons (qe_name (pv 1)) qa_nil)))) qa_nil))) qe_str) qe_str)))
    (qss_nil))
    (qss_one (qs_ret (qe_if (qt_truth (qr_of (qe_isi (is := isB "str") (by rfl) m_isinstance (qe_name (pv 0)) (pe_bltn (v := .ty "str") (by rfl) m_str (by decide +kernel) rfl) (kitN (by decide +kernel)))) (by intro _; rfl)) (qe_name (pv 0)) (qe_callTy cq_str (by rfl) m_str (by decide +kernel) (qa_cons (qe_name (pv 0)) qa_nil))))), ?_⟩
  intro ts Φ h
  obtain ⟨t, rfl, ha, hl, h⟩ := h
  cases t with
  | non => cases n <;> exact ha.elim
  | bl _ => cases n <;> exact ha.elim
  | lst _ => cases n <;> exact ha.elim
  | adr _ => cases n <;> exact ha.elim
  | int i =>
    have ha : ib i := by cases n <;> exact ha
    simp only [↓reduceIte, ↓sSeq, ↓sAsg, ↓sIf, ↓sRet, ↓sRetN, ↓sExpr, ↓sNext, ↓sBreak, ↓sCont, ↓sAug, ↓sFor, ↓gN, ↓pIx, ↓pC, ↓pTup, ↓pLst, ↓pCons, ↓pNil, ↓pStar, ↓pOp, ↓pTB, ↓pTru, ↓pTAnd, ↓pTOr, ↓pTNot, ↓pAndV, ↓pOrV, ↓pNotV, ↓pIf, ↓pCall, ↓pLen, ↓pIsi, ↓pDget, ↓gDset, ↓gSubT, ↓PEq, ↓PNe, ↓pChain, ↓pNeg, ↓pSl, ↓pNoPart, ↓pPart, ↓pIter, ↓pRng1, ↓pRng2, ↓pEnum, ↓pRev, ↓pZip, ↓pMet, ↓pMet0, ↓pMut, ↓pLc, ↓pLRng1, ↓pLRng2, ↓pYes, ↓pRE, ↓startP, ↓pWords, ↓pSplit, ↓gLt, ↓gLe, ↓gGt, ↓gGe, ↓pV_f0, ↓pV_o0, ↓pRV_f0, ↓pRV_o0, ↓lk_f0, ↓lk_o0, ↓sRV_f0, ↓sRV_o0, ↓pV_f1, ↓pV_o1, ↓pRV_f1, ↓pRV_o1, ↓lk_f1, ↓lk_o1, ↓sRV_f1, ↓sRV_o1, ↓pV_f2, ↓pV_o2, ↓pRV_f2, ↓pRV_o2, ↓lk_f2, ↓lk_o2, ↓sRV_f2, ↓sRV_o2, ↓pV_f3, ↓pV_o3, ↓pRV_f3, ↓pRV_o3, ↓lk_f3, ↓lk_o3, ↓sRV_f3, ↓sRV_o3, ↓pV_f4, ↓pV_o4, ↓pRV_f4, ↓pRV_o4, ↓lk_f4, ↓lk_o4, ↓sRV_f4, ↓sRV_o4, ↓pV_f5, ↓pV_o5, ↓pRV_f5, ↓pRV_o5, ↓lk_f5, ↓lk_o5, ↓sRV_f5, ↓sRV_o5, ↓pV_f6, ↓pV_o6, ↓pRV_f6, ↓pRV_o6, ↓lk_f6, ↓lk_o6, ↓sRV_f6, ↓sRV_o6, ↓pV_f7, ↓pV_o7, ↓pRV_f7, ↓pRV_o7, ↓lk_f7, ↓lk_o7, ↓sRV_f7, ↓sRV_o7, ↓pV_f8, ↓pV_o8, ↓pRV_f8, ↓pRV_o8, ↓lk_f8, ↓lk_o8, ↓sRV_f8, ↓sRV_o8, ↓pV_f9, ↓pV_o9, ↓pRV_f9, ↓pRV_o9, ↓lk_f9, ↓lk_o9, ↓sRV_f9, ↓sRV_o9, ↓pV_f10, ↓pV_o10, ↓pRV_f10, ↓pRV_o10, ↓lk_f10, ↓lk_o10, ↓sRV_f10, ↓sRV_o10, ↓pV_f11, ↓pV_o11, ↓pRV_f11, ↓pRV_o11, ↓lk_f11, ↓lk_o11, ↓sRV_f11, ↓sRV_o11, ↓pV_f12, ↓pV_o12, ↓pRV_f12, ↓pRV_o12, ↓lk_f12, ↓lk_o12, ↓sRV_f12, ↓sRV_o12, ↓pV_f13, ↓pV_o13, ↓pRV_f13, ↓pRV_o13, ↓lk_f13, ↓lk_o13, ↓sRV_f13, ↓sRV_o13, ↓lk_fz, ↓of_fn, ↓of_fb, ↓of_fi, ↓of_fs, ↓of_ft, ↓of_fl, ↓of_ol, ↓of_ff, ↓ad_i, ↓ad_s, ↓ad_l, ↓ad_t, ↓su_i, ↓mu_i, ↓mu_l, ↓mo_i, ↓fd_i, ↓pw_i, ↓an_i, ↓ci_i, ↓is_n, ↓is_nn, ↓in_t, ↓in_l, ↓in_s, ↓ix_l, ↓ix_t, ↓ix_s, ↓sl_l, ↓sl_t, ↓sl_s, ↓kn_i, ↓kp_i, ↓kr1, ↓kr2, ↓ke_l, ↓kz_l, ↓kz_t, ↓klr1, ↓klr2, ↓gt_e, ↓gs_n, ↓gs_c, nc_0, nc_1, nc_2, nc_3, nc_4, nc_5, nc_6, nc_7, nc_8, nc_9, nc_10, nc_11, nc_12, eq_ii, eq_ss, eq_nn, eq_bb, eq_st, eq_ts, eq_si, eq_is, eq_it, eq_ti, cmp_i, cmp_b, cmp_n, sc_i, sc_s, sc_b, sc_n, flat_i, flat_s, flat_b, flat_n, tru_n, tru_b, tru_i, tru_t, tru_l, items_t, items_l, len_t, len_l, iter_t, iter_l, isN_n, isN_i, isN_s, isN_t, isN_l, isN_b, at_0, at_1, at_2, at_3, ib_tn, ib_tb, ib_ti, ib_ts, ib_tt, ib_tl, ib_sn, ib_sb, ib_si, ib_ss, ib_st, ib_sl, ib_in, ib_ib, ib_ii, ib_is, ib_it, ib_il, ib_bn, ib_bb, ib_bi, ib_bs, ib_bt, ib_bl, na_n, na_b, na_i, na_s, na_t, na_l, List.getElem?_cons_zero, List.getElem?_cons_succ, List.set_cons_zero, List.set_cons_succ, List.map_cons, List.map_nil, List.length_cons, List.length_nil, List.replicate_succ, List.replicate_zero, List.cons_append, List.nil_append, List.append_nil, List.isEmpty_nil, List.isEmpty_cons, List.cons.injEq, Option.some.injEq, T.int.injEq, T.str.injEq, T.bl.injEq, T.tup.injEq, T.lst.injEq, T.adr.injEq, Sl.fz.injEq, Sl.ow.injEq, exists_eq_left, exists_eq_left', exists_eq_right, exists_eq_right', exists_eq, exists_eq', exists_and_left, exists_and_right, exists_const, exists_false, and_true, true_and, and_false, false_and, or_true, true_or, or_false, false_or, not_true_eq_false, not_false_eq_true, if_true, if_false, ite_true, ite_false, Bool.not_true, Bool.not_false, Bool.true_or, Bool.or_true, Bool.false_or, Bool.or_false, Bool.true_and, Bool.and_true, Bool.false_and, Bool.and_false, Bool.false_eq_true, Bool.true_eq_false, eq_self, decide_eq_true_eq, decide_true, decide_false, Bool.decide_eq_true, Bool.not_eq_true, decide_eq_false_iff_not, Bool.and_eq_true, Bool.or_eq_true, Bool.not_eq_true', reduceCtorEq, ne_eq, Nat.le_refl, Nat.reduceAdd, Nat.reduceSub, Nat.reduceLeDiff, Nat.reduceLT, implies_true, forall_const, List.any_cons, List.any_nil, List.all_cons, List.all_nil, wipeP, restore, List.getD_eq_getElem?_getD, Option.getD_some, List.mem_singleton, forall_eq, Int.reduceLT, Int.reduceLE, Int.reduceNeg, Int.reduceSub, Int.reduceAdd, Int.reduceToNat, Int.reduceEq, Int.reduceNe, String.reduceEq, and_self, or_self]
    refine ⟨log_ib ha, ?_⟩
    rw [show vt (.int i) = [istr i] from rfl, J_one] at h
    exact h
  | str x =>
    simp only [↓reduceIte, ↓sSeq, ↓sAsg, ↓sIf, ↓sRet, ↓sRetN, ↓sExpr, ↓sNext, ↓sBreak, ↓sCont, ↓sAug, ↓sFor, ↓gN, ↓pIx, ↓pC, ↓pTup, ↓pLst, ↓pCons, ↓pNil, ↓pStar, ↓pOp, ↓pTB, ↓pTru, ↓pTAnd, ↓pTOr, ↓pTNot, ↓pAndV, ↓pOrV, ↓pNotV, ↓pIf, ↓pCall, ↓pLen, ↓pIsi, ↓pDget, ↓gDset, ↓gSubT, ↓PEq, ↓PNe, ↓pChain, ↓pNeg, ↓pSl, ↓pNoPart, ↓pPart, ↓pIter, ↓pRng1, ↓pRng2, ↓pEnum, ↓pRev, ↓pZip, ↓pMet, ↓pMet0, ↓pMut, ↓pLc, ↓pLRng1, ↓pLRng2, ↓pYes, ↓pRE, ↓startP, ↓pWords, ↓pSplit, ↓gLt, ↓gLe, ↓gGt, ↓gGe, ↓pV_f0, ↓pV_o0, ↓pRV_f0, ↓pRV_o0, ↓lk_f0, ↓lk_o0, ↓sRV_f0, ↓sRV_o0, ↓pV_f1, ↓pV_o1, ↓pRV_f1, ↓pRV_o1, ↓lk_f1, ↓lk_o1, ↓sRV_f1, ↓sRV_o1, ↓pV_f2, ↓pV_o2, ↓pRV_f2, ↓pRV_o2, ↓lk_f2, ↓lk_o2, ↓sRV_f2, ↓sRV_o2, ↓pV_f3, ↓pV_o3, ↓pRV_f3, ↓pRV_o3, ↓lk_f3, ↓lk_o3, ↓sRV_f3, ↓sRV_o3, ↓pV_f4, ↓pV_o4, ↓pRV_f4, ↓pRV_o4, ↓lk_f4, ↓lk_o4, ↓sRV_f4, ↓sRV_o4, ↓pV_f5, ↓pV_o5, ↓pRV_f5, ↓pRV_o5, ↓lk_f5, ↓lk_o5, ↓sRV_f5, ↓sRV_o5, ↓pV_f6, ↓pV_o6, ↓pRV_f6, ↓pRV_o6, ↓lk_f6, ↓lk_o6, ↓sRV_f6, ↓sRV_o6, ↓pV_f7, ↓pV_o7, ↓pRV_f7, ↓pRV_o7, ↓lk_f7, ↓lk_o7, ↓sRV_f7, ↓sRV_o7, ↓pV_f8, ↓pV_o8, ↓pRV_f8, ↓pRV_o8, ↓lk_f8, ↓lk_o8, ↓sRV_f8, ↓sRV_o8, ↓pV_f9, ↓pV_o9, ↓pRV_f9, ↓pRV_o9, ↓lk_f9, ↓lk_o9, ↓sRV_f9, ↓sRV_o9, ↓pV_f10, ↓pV_o10, ↓pRV_f10, ↓pRV_o10, ↓lk_f10, ↓lk_o10, ↓sRV_f10, ↓sRV_o10, ↓pV_f11, ↓pV_o11, ↓pRV_f11, ↓pRV_o11, ↓lk_f11, ↓lk_o11, ↓sRV_f11, ↓sRV_o11, ↓pV_f12, ↓pV_o12, ↓pRV_f12, ↓pRV_o12, ↓lk_f12, ↓lk_o12, ↓sRV_f12, ↓sRV_o12, ↓pV_f13, ↓pV_o13, ↓pRV_f13, ↓pRV_o13, ↓lk_f13, ↓lk_o13, ↓sRV_f13, ↓sRV_o13, ↓lk_fz, ↓of_fn, ↓of_fb, ↓of_fi, ↓of_fs, ↓of_ft, ↓of_fl, ↓of_ol, ↓of_ff, ↓ad_i, ↓ad_s, ↓ad_l, ↓ad_t, ↓su_i, ↓mu_i, ↓mu_l, ↓mo_i, ↓fd_i, ↓pw_i, ↓an_i, ↓ci_i, ↓is_n, ↓is_nn, ↓in_t, ↓in_l, ↓in_s, ↓ix_l, ↓ix_t, ↓ix_s, ↓sl_l, ↓sl_t, ↓sl_s, ↓kn_i, ↓kp_i, ↓kr1, ↓kr2, ↓ke_l, ↓kz_l, ↓kz_t, ↓klr1, ↓klr2, ↓gt_e, ↓gs_n, ↓gs_c, nc_0, nc_1, nc_2, nc_3, nc_4, nc_5, nc_6, nc_7, nc_8, nc_9, nc_10, nc_11, nc_12, eq_ii, eq_ss, eq_nn, eq_bb, eq_st, eq_ts, eq_si, eq_is, eq_it, eq_ti, cmp_i, cmp_b, cmp_n, sc_i, sc_s, sc_b, sc_n, flat_i, flat_s, flat_b, flat_n, tru_n, tru_b, tru_i, tru_t, tru_l, items_t, items_l, len_t, len_l, iter_t, iter_l, isN_n, isN_i, isN_s, isN_t, isN_l, isN_b, at_0, at_1, at_2, at_3, ib_tn, ib_tb, ib_ti, ib_ts, ib_tt, ib_tl, ib_sn, ib_sb, ib_si, ib_ss, ib_st, ib_sl, ib_in, ib_ib, ib_ii, ib_is, ib_it, ib_il, ib_bn, ib_bb, ib_bi, ib_bs, ib_bt, ib_bl, na_n, na_b, na_i, na_s, na_t, na_l, List.getElem?_cons_zero, List.getElem?_cons_succ, List.set_cons_zero, List.set_cons_succ, List.map_cons, List.map_nil, List.length_cons, List.length_nil, List.replicate_succ, List.replicate_zero, List.cons_append, List.nil_append, List.append_nil, List.isEmpty_nil, List.isEmpty_cons, List.cons.injEq, Option.some.injEq, T.int.injEq, T.str.injEq, T.bl.injEq, T.tup.injEq, T.lst.injEq, T.adr.injEq, Sl.fz.injEq, Sl.ow.injEq, exists_eq_left, exists_eq_left', exists_eq_right, exists_eq_right', exists_eq, exists_eq', exists_and_left, exists_and_right, exists_const, exists_false, and_true, true_and, and_false, false_and, or_true, true_or, or_false, false_or, not_true_eq_false, not_false_eq_true, if_true, if_false, ite_true, ite_false, Bool.not_true, Bool.not_false, Bool.true_or, Bool.or_true, Bool.false_or, Bool.or_false, Bool.true_and, Bool.and_true, Bool.false_and, Bool.and_false, Bool.false_eq_true, Bool.true_eq_false, eq_self, decide_eq_true_eq, decide_true, decide_false, Bool.decide_eq_true, Bool.not_eq_true, decide_eq_false_iff_not, Bool.and_eq_true, Bool.or_eq_true, Bool.not_eq_true', reduceCtorEq, ne_eq, Nat.le_refl, Nat.reduceAdd, Nat.reduceSub, Nat.reduceLeDiff, Nat.reduceLT, implies_true, forall_const, List.any_cons, List.any_nil, List.all_cons, List.all_nil, wipeP, restore, List.getD_eq_getElem?_getD, Option.getD_some, List.mem_singleton, forall_eq, Int.reduceLT, Int.reduceLE, Int.reduceNeg, Int.reduceSub, Int.reduceAdd, Int.reduceToNat, Int.reduceEq, Int.reduceNe, String.reduceEq, and_self, or_self]
    rw [show vt (.str x) = [x] from rfl, J_one] at h
    exact h
  | tup l =>
    obtain ⟨m, rfl, ha⟩ : ∃ m, n = m + 1 ∧ ∀ t ∈ l, Aok m t := by
      cases n with
      | zero => exact ha.elim
      | succ m => exact ⟨m, rfl, ha⟩
    rw [vt_tup] at hl h
    rw [List.length_cons, List.length_append, List.length_singleton] at hl
    cases l with
    | nil =>
      simp only [↓reduceIte, ↓sSeq, ↓sAsg, ↓sIf, ↓sRet, ↓sRetN, ↓sExpr, ↓sNext, ↓sBreak, ↓sCont, ↓sAug, ↓sFor, ↓gN, ↓pIx, ↓pC, ↓pTup, ↓pLst, ↓pCons, ↓pNil, ↓pStar, ↓pOp, ↓pTB, ↓pTru, ↓pTAnd, ↓pTOr, ↓pTNot, ↓pAndV, ↓pOrV, ↓pNotV, ↓pIf, ↓pCall, ↓pLen, ↓pIsi, ↓pDget, ↓gDset, ↓gSubT, ↓PEq, ↓PNe, ↓pChain, ↓pNeg, ↓pSl, ↓pNoPart, ↓pPart, ↓pIter, ↓pRng1, ↓pRng2, ↓pEnum, ↓pRev, ↓pZip, ↓pMet, ↓pMet0, ↓pMut, ↓pLc, ↓pLRng1, ↓pLRng2, ↓pYes, ↓pRE, ↓startP, ↓pWords, ↓pSplit, ↓gLt, ↓gLe, ↓gGt, ↓gGe, ↓pV_f0, ↓pV_o0, ↓pRV_f0, ↓pRV_o0, ↓lk_f0, ↓lk_o0, ↓sRV_f0, ↓sRV_o0, ↓pV_f1, ↓pV_o1, ↓pRV_f1, ↓pRV_o1, ↓lk_f1, ↓lk_o1, ↓sRV_f1, ↓sRV_o1, ↓pV_f2, ↓pV_o2, ↓pRV_f2, ↓pRV_o2, ↓lk_f2, ↓lk_o2, ↓sRV_f2, ↓sRV_o2, ↓pV_f3, ↓pV_o3, ↓pRV_f3, ↓pRV_o3, ↓lk_f3, ↓lk_o3, ↓sRV_f3, ↓sRV_o3, ↓pV_f4, ↓pV_o4, ↓pRV_f4, ↓pRV_o4, ↓lk_f4, ↓lk_o4, ↓sRV_f4, ↓sRV_o4, ↓pV_f5, ↓pV_o5, ↓pRV_f5, ↓pRV_o5, ↓lk_f5, ↓lk_o5, ↓sRV_f5, ↓sRV_o5, ↓pV_f6, ↓pV_o6, ↓pRV_f6, ↓pRV_o6, ↓lk_f6, ↓lk_o6, ↓sRV_f6, ↓sRV_o6, ↓pV_f7, ↓pV_o7, ↓pRV_f7, ↓pRV_o7, ↓lk_f7, ↓lk_o7, ↓sRV_f7, ↓sRV_o7, ↓pV_f8, ↓pV_o8, ↓pRV_f8, ↓pRV_o8, ↓lk_f8, ↓lk_o8, ↓sRV_f8, ↓sRV_o8, ↓pV_f9, ↓pV_o9, ↓pRV_f9, ↓pRV_o9, ↓lk_f9, ↓lk_o9, ↓sRV_f9, ↓sRV_o9, ↓pV_f10, ↓pV_o10, ↓pRV_f10, ↓pRV_o10, ↓lk_f10, ↓lk_o10, ↓sRV_f10, ↓sRV_o10, ↓pV_f11, ↓pV_o11, ↓pRV_f11, ↓pRV_o11, ↓lk_f11, ↓lk_o11, ↓sRV_f11, ↓sRV_o11, ↓pV_f12, ↓pV_o12, ↓pRV_f12, ↓pRV_o12, ↓lk_f12, ↓lk_o12, ↓sRV_f12, ↓sRV_o12, ↓pV_f13, ↓pV_o13, ↓pRV_f13, ↓pRV_o13, ↓lk_f13, ↓lk_o13, ↓sRV_f13, ↓sRV_o13, ↓lk_fz, ↓of_fn, ↓of_fb, ↓of_fi, ↓of_fs, ↓of_ft, ↓of_fl, ↓of_ol, ↓of_ff, ↓ad_i, ↓ad_s, ↓ad_l, ↓ad_t, ↓su_i, ↓mu_i, ↓mu_l, ↓mo_i, ↓fd_i, ↓pw_i, ↓an_i, ↓ci_i, ↓is_n, ↓is_nn, ↓in_t, ↓in_l, ↓in_s, ↓ix_l, ↓ix_t, ↓ix_s, ↓sl_l, ↓sl_t, ↓sl_s, ↓kn_i, ↓kp_i, ↓kr1, ↓kr2, ↓ke_l, ↓kz_l, ↓kz_t, ↓klr1, ↓klr2, ↓gt_e, ↓gs_n, ↓gs_c, nc_0, nc_1, nc_2, nc_3, nc_4, nc_5, nc_6, nc_7, nc_8, nc_9, nc_10, nc_11, nc_12, eq_ii, eq_ss, eq_nn, eq_bb, eq_st, eq_ts, eq_si, eq_is, eq_it, eq_ti, cmp_i, cmp_b, cmp_n, sc_i, sc_s, sc_b, sc_n, flat_i, flat_s, flat_b, flat_n, tru_n, tru_b, tru_i, tru_t, tru_l, items_t, items_l, len_t, len_l, iter_t, iter_l, isN_n, isN_i, isN_s, isN_t, isN_l, isN_b, at_0, at_1, at_2, at_3, ib_tn, ib_tb, ib_ti, ib_ts, ib_tt, ib_tl, ib_sn, ib_sb, ib_si, ib_ss, ib_st, ib_sl, ib_in, ib_ib, ib_ii, ib_is, ib_it, ib_il, ib_bn, ib_bb, ib_bi, ib_bs, ib_bt, ib_bl, na_n, na_b, na_i, na_s, na_t, na_l, List.getElem?_cons_zero, List.getElem?_cons_succ, List.set_cons_zero, List.set_cons_succ, List.map_cons, List.map_nil, List.length_cons, List.length_nil, List.replicate_succ, List.replicate_zero, List.cons_append, List.nil_append, List.append_nil, List.isEmpty_nil, List.isEmpty_cons, List.cons.injEq, Option.some.injEq, T.int.injEq, T.str.injEq, T.bl.injEq, T.tup.injEq, T.lst.injEq, T.adr.injEq, Sl.fz.injEq, Sl.ow.injEq, exists_eq_left, exists_eq_left', exists_eq_right, exists_eq_right', exists_eq, exists_eq', exists_and_left, exists_and_right, exists_const, exists_false, and_true, true_and, and_false, false_and, or_true, true_or, or_false, false_or, not_true_eq_false, not_false_eq_true, if_true, if_false, ite_true, ite_false, Bool.not_true, Bool.not_false, Bool.true_or, Bool.or_true, Bool.false_or, Bool.or_false, Bool.true_and, Bool.and_true, Bool.false_and, Bool.and_false, Bool.false_eq_true, Bool.true_eq_false, eq_self, decide_eq_true_eq, decide_true, decide_false, Bool.decide_eq_true, Bool.not_eq_true, decide_eq_false_iff_not, Bool.and_eq_true, Bool.or_eq_true, Bool.not_eq_true', reduceCtorEq, ne_eq, Nat.le_refl, Nat.reduceAdd, Nat.reduceSub, Nat.reduceLeDiff, Nat.reduceLT, implies_true, forall_const, List.any_cons, List.any_nil, List.all_cons, List.all_nil, wipeP, restore, List.getD_eq_getElem?_getD, Option.getD_some, List.mem_singleton, forall_eq, Int.reduceLT, Int.reduceLE, Int.reduceNeg, Int.reduceSub, Int.reduceAdd, Int.reduceToNat, Int.reduceEq, Int.reduceNe, String.reduceEq, and_self, or_self]
      exact h
    | cons t0 l0 =>
      have hne : ∀ x ∈ (t0 :: l0).map vt, x ≠ [] := fun x hx => by
        obtain ⟨t, ht, rfl⟩ := List.mem_map.mp hx
        exact vt_ne (ha t ht)
      have htk : ∀ x ∈ (t0 :: l0).map vt, ∀ s ∈ x, tkOk s := fun x hx => by
        obtain ⟨t, ht, rfl⟩ := List.mem_map.mp hx
        exact vt_ok m t (ha t ht)
      have c1 : (Str.ofString "[ ").length = 2 := by decide +kernel
      have c2 : (Str.ofString " ]").length = 2 := by decide +kernel
      have c3 : (Str.ofString " , ").length = 3 := by decide +kernel
      have c4 : Str.ofString "[ " = sO ++ sp1 := by decide +kernel
      have c5 : Str.ofString " ]" = sp1 ++ sC := by decide +kernel
      have nz : listed ((t0 :: l0).map vt) ≠ [] := fun z => by
        have := listed_num ((t0 :: l0).map vt) (fun y hy => List.length_pos_iff.mpr (hne y hy))
        rw [z] at this
        simp at this
      have j1 := jl (vt t0) (l0.map vt) hne
      have j2 := jl_len htk hne
      have j3 := join_len (listed ((t0 :: l0).map vt)) (fun s hs => by
        rcases listed_mem2 hs with e | ⟨y, hy, hs⟩
        · rw [e]
          exact words_tk _ (by simp)
        · exact htk y hy s hs)
      have n1 := listed_num ((t0 :: l0).map vt) (fun y hy => List.length_pos_iff.mpr (hne y hy))
      rw [List.length_map] at n1
      simp only [↓reduceIte, ↓sSeq, ↓sAsg, ↓sIf, ↓sRet, ↓sRetN, ↓sExpr, ↓sNext, ↓sBreak, ↓sCont, ↓sAug, ↓sFor, ↓gN, ↓pIx, ↓pC, ↓pTup, ↓pLst, ↓pCons, ↓pNil, ↓pStar, ↓pOp, ↓pTB, ↓pTru, ↓pTAnd, ↓pTOr, ↓pTNot, ↓pAndV, ↓pOrV, ↓pNotV, ↓pIf, ↓pCall, ↓pLen, ↓pIsi, ↓pDget, ↓gDset, ↓gSubT, ↓PEq, ↓PNe, ↓pChain, ↓pNeg, ↓pSl, ↓pNoPart, ↓pPart, ↓pIter, ↓pRng1, ↓pRng2, ↓pEnum, ↓pRev, ↓pZip, ↓pMet, ↓pMet0, ↓pMut, ↓pLc, ↓pLRng1, ↓pLRng2, ↓pYes, ↓pRE, ↓startP, ↓pWords, ↓pSplit, ↓gLt, ↓gLe, ↓gGt, ↓gGe, ↓pV_f0, ↓pV_o0, ↓pRV_f0, ↓pRV_o0, ↓lk_f0, ↓lk_o0, ↓sRV_f0, ↓sRV_o0, ↓pV_f1, ↓pV_o1, ↓pRV_f1, ↓pRV_o1, ↓lk_f1, ↓lk_o1, ↓sRV_f1, ↓sRV_o1, ↓pV_f2, ↓pV_o2, ↓pRV_f2, ↓pRV_o2, ↓lk_f2, ↓lk_o2, ↓sRV_f2, ↓sRV_o2, ↓pV_f3, ↓pV_o3, ↓pRV_f3, ↓pRV_o3, ↓lk_f3, ↓lk_o3, ↓sRV_f3, ↓sRV_o3, ↓pV_f4, ↓pV_o4, ↓pRV_f4, ↓pRV_o4, ↓lk_f4, ↓lk_o4, ↓sRV_f4, ↓sRV_o4, ↓pV_f5, ↓pV_o5, ↓pRV_f5, ↓pRV_o5, ↓lk_f5, ↓lk_o5, ↓sRV_f5, ↓sRV_o5, ↓pV_f6, ↓pV_o6, ↓pRV_f6, ↓pRV_o6, ↓lk_f6, ↓lk_o6, ↓sRV_f6, ↓sRV_o6, ↓pV_f7, ↓pV_o7, ↓pRV_f7, ↓pRV_o7, ↓lk_f7, ↓lk_o7, ↓sRV_f7, ↓sRV_o7, ↓pV_f8, ↓pV_o8, ↓pRV_f8, ↓pRV_o8, ↓lk_f8, ↓lk_o8, ↓sRV_f8, ↓sRV_o8, ↓pV_f9, ↓pV_o9, ↓pRV_f9, ↓pRV_o9, ↓lk_f9, ↓lk_o9, ↓sRV_f9, ↓sRV_o9, ↓pV_f10, ↓pV_o10, ↓pRV_f10, ↓pRV_o10, ↓lk_f10, ↓lk_o10, ↓sRV_f10, ↓sRV_o10, ↓pV_f11, ↓pV_o11, ↓pRV_f11, ↓pRV_o11, ↓lk_f11, ↓lk_o11, ↓sRV_f11, ↓sRV_o11, ↓pV_f12, ↓pV_o12, ↓pRV_f12, ↓pRV_o12, ↓lk_f12, ↓lk_o12, ↓sRV_f12, ↓sRV_o12, ↓pV_f13, ↓pV_o13, ↓pRV_f13, ↓pRV_o13, ↓lk_f13, ↓lk_o13, ↓sRV_f13, ↓sRV_o13, ↓lk_fz, ↓of_fn, ↓of_fb, ↓of_fi, ↓of_fs, ↓of_ft, ↓of_fl, ↓of_ol, ↓of_ff, ↓ad_i, ↓ad_s, ↓ad_l, ↓ad_t, ↓su_i, ↓mu_i, ↓mu_l, ↓mo_i, ↓fd_i, ↓pw_i, ↓an_i, ↓ci_i, ↓is_n, ↓is_nn, ↓in_t, ↓in_l, ↓in_s, ↓ix_l, ↓ix_t, ↓ix_s, ↓sl_l, ↓sl_t, ↓sl_s, ↓kn_i, ↓kp_i, ↓kr1, ↓kr2, ↓ke_l, ↓kz_l, ↓kz_t, ↓klr1, ↓klr2, ↓gt_e, ↓gs_n, ↓gs_c, nc_0, nc_1, nc_2, nc_3, nc_4, nc_5, nc_6, nc_7, nc_8, nc_9, nc_10, nc_11, nc_12, eq_ii, eq_ss, eq_nn, eq_bb, eq_st, eq_ts, eq_si, eq_is, eq_it, eq_ti, cmp_i, cmp_b, cmp_n, sc_i, sc_s, sc_b, sc_n, flat_i, flat_s, flat_b, flat_n, tru_n, tru_b, tru_i, tru_t, tru_l, items_t, items_l, len_t, len_l, iter_t, iter_l, isN_n, isN_i, isN_s, isN_t, isN_l, isN_b, at_0, at_1, at_2, at_3, ib_tn, ib_tb, ib_ti, ib_ts, ib_tt, ib_tl, ib_sn, ib_sb, ib_si, ib_ss, ib_st, ib_sl, ib_in, ib_ib, ib_ii, ib_is, ib_it, ib_il, ib_bn, ib_bb, ib_bi, ib_bs, ib_bt, ib_bl, na_n, na_b, na_i, na_s, na_t, na_l, List.getElem?_cons_zero, List.getElem?_cons_succ, List.set_cons_zero, List.set_cons_succ, List.map_cons, List.map_nil, List.length_cons, List.length_nil, List.replicate_succ, List.replicate_zero, List.cons_append, List.nil_append, List.append_nil, List.isEmpty_nil, List.isEmpty_cons, List.cons.injEq, Option.some.injEq, T.int.injEq, T.str.injEq, T.bl.injEq, T.tup.injEq, T.lst.injEq, T.adr.injEq, Sl.fz.injEq, Sl.ow.injEq, exists_eq_left, exists_eq_left', exists_eq_right, exists_eq_right', exists_eq, exists_eq', exists_and_left, exists_and_right, exists_const, exists_false, and_true, true_and, and_false, false_and, or_true, true_or, or_false, false_or, not_true_eq_false, not_false_eq_true, if_true, if_false, ite_true, ite_false, Bool.not_true, Bool.not_false, Bool.true_or, Bool.or_true, Bool.false_or, Bool.or_false, Bool.true_and, Bool.and_true, Bool.false_and, Bool.and_false, Bool.false_eq_true, Bool.true_eq_false, eq_self, decide_eq_true_eq, decide_true, decide_false, Bool.decide_eq_true, Bool.not_eq_true, decide_eq_false_iff_not, Bool.and_eq_true, Bool.or_eq_true, Bool.not_eq_true', reduceCtorEq, ne_eq, Nat.le_refl, Nat.reduceAdd, Nat.reduceSub, Nat.reduceLeDiff, Nat.reduceLT, implies_true, forall_const, List.any_cons, List.any_nil, List.all_cons, List.all_nil, wipeP, restore, List.getD_eq_getElem?_getD, Option.getD_some, List.mem_singleton, forall_eq, Int.reduceLT, Int.reduceLE, Int.reduceNeg, Int.reduceSub, Int.reduceAdd, Int.reduceToNat, Int.reduceEq, Int.reduceNe, String.reduceEq, and_self, or_self, tyOk]
      refine ⟨by omega, by simp, fun i acc ρ => ρ = [.fz (.tup (t0 :: l0)), .no] ∧ acc = ((t0 :: l0).take i).map fun t => .str (J (vt t)), ⟨rfl, rfl⟩, ?_, ?_⟩
      · rintro i t acc ρ2 e hacc ⟨rfl, rfl⟩
        obtain ⟨hi, rfl⟩ := List.getElem?_eq_some_iff.mp e
        have hm := List.getElem_mem hi
        have := listed_mem (List.mem_map.mpr ⟨_, hm, rfl⟩ : vt (t0 :: l0)[i] ∈ (t0 :: l0).map vt)
        simp only [↓reduceIte, ↓sSeq, ↓sAsg, ↓sIf, ↓sRet, ↓sRetN, ↓sExpr, ↓sNext, ↓sBreak, ↓sCont, ↓sAug, ↓sFor, ↓gN, ↓pIx, ↓pC, ↓pTup, ↓pLst, ↓pCons, ↓pNil, ↓pStar, ↓pOp, ↓pTB, ↓pTru, ↓pTAnd, ↓pTOr, ↓pTNot, ↓pAndV, ↓pOrV, ↓pNotV, ↓pIf, ↓pCall, ↓pLen, ↓pIsi, ↓pDget, ↓gDset, ↓gSubT, ↓PEq, ↓PNe, ↓pChain, ↓pNeg, ↓pSl, ↓pNoPart, ↓pPart, ↓pIter, ↓pRng1, ↓pRng2, ↓pEnum, ↓pRev, ↓pZip, ↓pMet, ↓pMet0, ↓pMut, ↓pLc, ↓pLRng1, ↓pLRng2, ↓pYes, ↓pRE, ↓startP, ↓pWords, ↓pSplit, ↓gLt, ↓gLe, ↓gGt, ↓gGe, ↓pV_f0, ↓pV_o0, ↓pRV_f0, ↓pRV_o0, ↓lk_f0, ↓lk_o0, ↓sRV_f0, ↓sRV_o0, ↓pV_f1, ↓pV_o1, ↓pRV_f1, ↓pRV_o1, ↓lk_f1, ↓lk_o1, ↓sRV_f1, ↓sRV_o1, ↓pV_f2, ↓pV_o2, ↓pRV_f2, ↓pRV_o2, ↓lk_f2, ↓lk_o2, ↓sRV_f2, ↓sRV_o2, ↓pV_f3, ↓pV_o3, ↓pRV_f3, ↓pRV_o3, ↓lk_f3, ↓lk_o3, ↓sRV_f3, ↓sRV_o3, ↓pV_f4, ↓pV_o4, ↓pRV_f4, ↓pRV_o4, ↓lk_f4, ↓lk_o4, ↓sRV_f4, ↓sRV_o4, ↓pV_f5, ↓pV_o5, ↓pRV_f5, ↓pRV_o5, ↓lk_f5, ↓lk_o5, ↓sRV_f5, ↓sRV_o5, ↓pV_f6, ↓pV_o6, ↓pRV_f6, ↓pRV_o6, ↓lk_f6, ↓lk_o6, ↓sRV_f6, ↓sRV_o6, ↓pV_f7, ↓pV_o7, ↓pRV_f7, ↓pRV_o7, ↓lk_f7, ↓lk_o7, ↓sRV_f7, ↓sRV_o7, ↓pV_f8, ↓pV_o8, ↓pRV_f8, ↓pRV_o8, ↓lk_f8, ↓lk_o8, ↓sRV_f8, ↓sRV_o8, ↓pV_f9, ↓pV_o9, ↓pRV_f9, ↓pRV_o9, ↓lk_f9, ↓lk_o9, ↓sRV_f9, ↓sRV_o9, ↓pV_f10, ↓pV_o10, ↓pRV_f10, ↓pRV_o10, ↓lk_f10, ↓lk_o10, ↓sRV_f10, ↓sRV_o10, ↓pV_f11, ↓pV_o11, ↓pRV_f11, ↓pRV_o11, ↓lk_f11, ↓lk_o11, ↓sRV_f11, ↓sRV_o11, ↓pV_f12, ↓pV_o12, ↓pRV_f12, ↓pRV_o12, ↓lk_f12, ↓lk_o12, ↓sRV_f12, ↓sRV_o12, ↓pV_f13, ↓pV_o13, ↓pRV_f13, ↓pRV_o13, ↓lk_f13, ↓lk_o13, ↓sRV_f13, ↓sRV_o13, ↓lk_fz, ↓of_fn, ↓of_fb, ↓of_fi, ↓of_fs, ↓of_ft, ↓of_fl, ↓of_ol, ↓of_ff, ↓ad_i, ↓ad_s, ↓ad_l, ↓ad_t, ↓su_i, ↓mu_i, ↓mu_l, ↓mo_i, ↓fd_i, ↓pw_i, ↓an_i, ↓ci_i, ↓is_n, ↓is_nn, ↓in_t, ↓in_l, ↓in_s, ↓ix_l, ↓ix_t, ↓ix_s, ↓sl_l, ↓sl_t, ↓sl_s, ↓kn_i, ↓kp_i, ↓kr1, ↓kr2, ↓ke_l, ↓kz_l, ↓kz_t, ↓klr1, ↓klr2, ↓gt_e, ↓gs_n, ↓gs_c, nc_0, nc_1, nc_2, nc_3, nc_4, nc_5, nc_6, nc_7, nc_8, nc_9, nc_10, nc_11, nc_12, eq_ii, eq_ss, eq_nn, eq_bb, eq_st, eq_ts, eq_si, eq_is, eq_it, eq_ti, cmp_i, cmp_b, cmp_n, sc_i, sc_s, sc_b, sc_n, flat_i, flat_s, flat_b, flat_n, tru_n, tru_b, tru_i, tru_t, tru_l, items_t, items_l, len_t, len_l, iter_t, iter_l, isN_n, isN_i, isN_s, isN_t, isN_l, isN_b, at_0, at_1, at_2, at_3, ib_tn, ib_tb, ib_ti, ib_ts, ib_tt, ib_tl, ib_sn, ib_sb, ib_si, ib_ss, ib_st, ib_sl, ib_in, ib_ib, ib_ii, ib_is, ib_it, ib_il, ib_bn, ib_bb, ib_bi, ib_bs, ib_bt, ib_bl, na_n, na_b, na_i, na_s, na_t, na_l, List.getElem?_cons_zero, List.getElem?_cons_succ, List.set_cons_zero, List.set_cons_succ, List.map_cons, List.map_nil, List.length_cons, List.length_nil, List.replicate_succ, List.replicate_zero, List.cons_append, List.nil_append, List.append_nil, List.isEmpty_nil, List.isEmpty_cons, List.cons.injEq, Option.some.injEq, T.int.injEq, T.str.injEq, T.bl.injEq, T.tup.injEq, T.lst.injEq, T.adr.injEq, Sl.fz.injEq, Sl.ow.injEq, exists_eq_left, exists_eq_left', exists_eq_right, exists_eq_right', exists_eq, exists_eq', exists_and_left, exists_and_right, exists_const, exists_false, and_true, true_and, and_false, false_and, or_true, true_or, or_false, false_or, not_true_eq_false, not_false_eq_true, if_true, if_false, ite_true, ite_false, Bool.not_true, Bool.not_false, Bool.true_or, Bool.or_true, Bool.false_or, Bool.or_false, Bool.true_and, Bool.and_true, Bool.false_and, Bool.and_false, Bool.false_eq_true, Bool.true_eq_false, eq_self, decide_eq_true_eq, decide_true, decide_false, Bool.decide_eq_true, Bool.not_eq_true, decide_eq_false_iff_not, Bool.and_eq_true, Bool.or_eq_true, Bool.not_eq_true', reduceCtorEq, ne_eq, Nat.le_refl, Nat.reduceAdd, Nat.reduceSub, Nat.reduceLeDiff, Nat.reduceLT, implies_true, forall_const, List.any_cons, List.any_nil, List.all_cons, List.all_nil, wipeP, restore, List.getD_eq_getElem?_getD, Option.getD_some, List.mem_singleton, forall_eq, Int.reduceLT, Int.reduceLE, Int.reduceNeg, Int.reduceSub, Int.reduceAdd, Int.reduceToNat, Int.reduceEq, Int.reduceNe, String.reduceEq, and_self, or_self, pfVX0, pfVX]
        refine ⟨ha _ hm, by omega, ?_⟩
        rw [List.take_add_one, e, List.map_append]
        rfl
      · rintro acc ρ2 hacc ⟨rfl, rfl⟩
        rw [List.take_length]
        have e : ((t0 :: l0).map fun t => T.str (J (vt t))) = (((t0 :: l0).map vt).map J).map T.str := by
          rw [List.map_map, List.map_map]
          rfl
        have j4 : Txt.join (Str.ofString " , ") (((t0 :: l0).map vt).map J) = J (listed ((t0 :: l0).map vt)) := j1
        refine ⟨_, .inl (by rw [e]), by rw [c3]; omega, by rw [j4, c1]; omega, by rw [slen, j4, c1, c2]; omega, ?_⟩
        rw [j4, c4, c5]
        rw [J_cons sO (by simp), J_app nz (by simp), J_one] at h
        simp only [sapp]
        exact h
theorem ok_fields_text {W : Wld} {k : Nat} {n : Nat} (D : Df K mg "_law_fields_text" s_fields_text)
    (C_kind_text : CalQ P w K mg base (W) "_law_kind_text" k ["_law_kind"] (pfKX n)) :
    CalQ P w K mg base (W) "_law_fields_text" (k + 1) ["_law_fields"] (pfFX n) := by
  refine CalQ.mk D sc_fields_text (fun _ _ _ _ _ _ us h => match us, h with | [_], _ => rfl) (fun ts Φ h => by first | (obtain ⟨rfl, _⟩ := h; rfl) | (obtain ⟨_, rfl, _⟩ := h; rfl) | (obtain ⟨_, _, rfl, _⟩ := h; rfl) | (obtain ⟨_, _, _, rfl, _⟩ := h; rfl) | (obtain ⟨_, _, _, _, rfl, _⟩ := h; rfl)) (fun f cdv A outer s H E hr => ?_)
  refine ⟨_, qss_one (qs_ret (qe_met PySem.F.plainAttrs_str PySem.F.slot_str_join PySem.F.type_str_join me_join (qr_of qe_str) (qa_cons (qe_lc rfl (own := [("_law_field", 1)]) sc_fields_text.nd (by decide) (qi_val (qe_name (pv 0))) (blkOk_by (N := ["_law_fields", "_law_field"]) (sc := defScope s_fields_text) (by decide +kernel)) (fun _ _ _ _ _ => (qg_name (pg_name (i := 1) sc_fields_text.nd rfl (.inl rfl)))) (fun _ _ _ _ _ => qts_nil) (fun _ _ _ _ _ => (qe_op oq_add (qe_op oq_add (qe_op oq_add (qe_ix (qr_name (pv 1)) qe_int (fun _ _ => rfl)) qe_str) (qe_call C_kind_text (hr.mono (by omega)) (by rfl) (qa_cons (qe_ix (qr_name (pv 1)) qe_int (fun _ _ => rfl)) qa_nil))) qe_str))) qa_nil))), ?_⟩
  intro ts Φ h
  obtain ⟨l, rfl, hl, hn, h⟩ := h
  have n1 := fm_num (f := fpS) (l := l) (fun x _ => by rw [fps_len]; omega)
  simp only [↓reduceIte, ↓sSeq, ↓sAsg, ↓sIf, ↓sRet, ↓sRetN, ↓sExpr, ↓sNext, ↓sBreak, ↓sCont, ↓sAug, ↓sFor, ↓gN, ↓pIx, ↓pC, ↓pTup, ↓pLst, ↓pCons, ↓pNil, ↓pStar, ↓pOp, ↓pTB, ↓pTru, ↓pTAnd, ↓pTOr, ↓pTNot, ↓pAndV, ↓pOrV, ↓pNotV, ↓pIf, ↓pCall, ↓pLen, ↓pIsi, ↓pDget, ↓gDset, ↓gSubT, ↓PEq, ↓PNe, ↓pChain, ↓pNeg, ↓pSl, ↓pNoPart, ↓pPart, ↓pIter, ↓pRng1, ↓pRng2, ↓pEnum, ↓pRev, ↓pZip, ↓pMet, ↓pMet0, ↓pMut, ↓pLc, ↓pLRng1, ↓pLRng2, ↓pYes, ↓pRE, ↓startP, ↓pWords, ↓pSplit, ↓gLt, ↓gLe, ↓gGt, ↓gGe, ↓pV_f0, ↓pV_o0, ↓pRV_f0, ↓pRV_o0, ↓lk_f0, ↓lk_o0, ↓sRV_f0, ↓sRV_o0, ↓pV_f1, ↓pV_o1, ↓pRV_f1, ↓pRV_o1, ↓lk_f1, ↓lk_o1, ↓sRV_f1, ↓sRV_o1, ↓pV_f2, ↓pV_o2, ↓pRV_f2, ↓pRV_o2, ↓lk_f2, ↓lk_o2, ↓sRV_f2, ↓sRV_o2, ↓pV_f3, ↓pV_o3, ↓pRV_f3, ↓pRV_o3, ↓lk_f3, ↓lk_o3, ↓sRV_f3, ↓sRV_o3, ↓pV_f4, ↓pV_o4, ↓pRV_f4, ↓pRV_o4, ↓lk_f4, ↓lk_o4, ↓sRV_f4, ↓sRV_o4, ↓pV_f5, ↓pV_o5, ↓pRV_f5, ↓pRV_o5, ↓lk_f5, ↓lk_o5, ↓sRV_f5, ↓sRV_o5, ↓pV_f6, ↓pV_o6, ↓pRV_f6, ↓pRV_o6, ↓lk_f6, ↓lk_o6, ↓sRV_f6, ↓sRV_o6, ↓pV_f7, ↓pV_o7, ↓pRV_f7, ↓pRV_o7, ↓lk_f7, ↓lk_o7, ↓sRV_f7, ↓sRV_o7, ↓pV_f8, ↓pV_o8, ↓pRV_f8, ↓pRV_o8, ↓lk_f8, ↓lk_o8, ↓sRV_f8, ↓sRV_o8, ↓pV_f9, ↓pV_o9, ↓pRV_f9, ↓pRV_o9, ↓lk_f9, ↓lk_o9, ↓sRV_f9, ↓sRV_o9, ↓pV_f10, ↓pV_o10, ↓pRV_f10, ↓pRV_o10, ↓lk_f10, ↓lk_o10, ↓sRV_f10, ↓sRV_o10, ↓pV_f11, ↓pV_o11, ↓pRV_f11, ↓pRV_o11, ↓lk_f11, ↓lk_o11, ↓sRV_f11, ↓sRV_o11, ↓pV_f12, ↓pV_o12, ↓pRV_f12, ↓pRV_o12, ↓lk_f12, ↓lk_o12, ↓sRV_f12, ↓sRV_o12, ↓pV_f13, ↓pV_o13, ↓pRV_f13, ↓pRV_o13, ↓lk_f13, ↓lk_o13, ↓sRV_f13, ↓sRV_o13, ↓lk_fz, ↓of_fn, ↓of_fb, ↓of_fi, ↓of_fs, ↓of_ft, ↓of_fl, ↓of_ol, ↓of_ff, ↓ad_i, ↓ad_s, ↓ad_l, ↓ad_t, ↓su_i, ↓mu_i, ↓mu_l, ↓mo_i, ↓fd_i, ↓pw_i, ↓an_i, ↓ci_i, ↓is_n, ↓is_nn, ↓in_t, ↓in_l, ↓in_s, ↓ix_l, ↓ix_t, ↓ix_s, ↓sl_l, ↓sl_t, ↓sl_s, ↓kn_i, ↓kp_i, ↓kr1, ↓kr2, ↓ke_l, ↓kz_l, ↓kz_t, ↓klr1, ↓klr2, ↓gt_e, ↓gs_n, ↓gs_c, nc_0, nc_1, nc_2, nc_3, nc_4, nc_5, nc_6, nc_7, nc_8, nc_9, nc_10, nc_11, nc_12, eq_ii, eq_ss, eq_nn, eq_bb, eq_st, eq_ts, eq_si, eq_is, eq_it, eq_ti, cmp_i, cmp_b, cmp_n, sc_i, sc_s, sc_b, sc_n, flat_i, flat_s, flat_b, flat_n, tru_n, tru_b, tru_i, tru_t, tru_l, items_t, items_l, len_t, len_l, iter_t, iter_l, isN_n, isN_i, isN_s, isN_t, isN_l, isN_b, at_0, at_1, at_2, at_3, ib_tn, ib_tb, ib_ti, ib_ts, ib_tt, ib_tl, ib_sn, ib_sb, ib_si, ib_ss, ib_st, ib_sl, ib_in, ib_ib, ib_ii, ib_is, ib_it, ib_il, ib_bn, ib_bb, ib_bi, ib_bs, ib_bt, ib_bl, na_n, na_b, na_i, na_s, na_t, na_l, List.getElem?_cons_zero, List.getElem?_cons_succ, List.set_cons_zero, List.set_cons_succ, List.map_cons, List.map_nil, List.length_cons, List.length_nil, List.replicate_succ, List.replicate_zero, List.cons_append, List.nil_append, List.append_nil, List.isEmpty_nil, List.isEmpty_cons, List.cons.injEq, Option.some.injEq, T.int.injEq, T.str.injEq, T.bl.injEq, T.tup.injEq, T.lst.injEq, T.adr.injEq, Sl.fz.injEq, Sl.ow.injEq, exists_eq_left, exists_eq_left', exists_eq_right, exists_eq_right', exists_eq, exists_eq', exists_and_left, exists_and_right, exists_const, exists_false, and_true, true_and, and_false, false_and, or_true, true_or, or_false, false_or, not_true_eq_false, not_false_eq_true, if_true, if_false, ite_true, ite_false, Bool.not_true, Bool.not_false, Bool.true_or, Bool.or_true, Bool.false_or, Bool.or_false, Bool.true_and, Bool.and_true, Bool.false_and, Bool.and_false, Bool.false_eq_true, Bool.true_eq_false, eq_self, decide_eq_true_eq, decide_true, decide_false, Bool.decide_eq_true, Bool.not_eq_true, decide_eq_false_iff_not, Bool.and_eq_true, Bool.or_eq_true, Bool.not_eq_true', reduceCtorEq, ne_eq, Nat.le_refl, Nat.reduceAdd, Nat.reduceSub, Nat.reduceLeDiff, Nat.reduceLT, implies_true, forall_const, List.any_cons, List.any_nil, List.all_cons, List.all_nil, wipeP, restore, List.getD_eq_getElem?_getD, Option.getD_some, List.mem_singleton, forall_eq, Int.reduceLT, Int.reduceLE, Int.reduceNeg, Int.reduceSub, Int.reduceAdd, Int.reduceToNat, Int.reduceEq, Int.reduceNe, String.reduceEq, and_self, or_self, tyOk]
  refine ⟨by rw [List.length_map]; omega, by simp, fun i acc ρ => ρ = [.fz (.tup (l.map fpT)), .no] ∧ acc = (l.take i).map fun p => .str (J (fpS p) ++ sp1), ⟨rfl, rfl⟩, ?_, ?_⟩
  · rintro i t acc ρ2 e hacc ⟨rfl, rfl⟩
    obtain ⟨hi, rfl⟩ := map_get e
    have hm := List.getElem_mem hi
    obtain ⟨m1, m2⟩ := hl _ hm
    have b1 := fm_mem (f := fpS) hm
    rw [fps_len] at b1
    have b2 := (nm_parts m1).2.1
    have b3 := join_len _ (kt_ok n _ _ m2)
    have c1 : (Str.ofString " : ").length = 3 := by decide +kernel
    have c2 : (Str.ofString " ; ").length = 3 := by decide +kernel
    have c3 : Str.ofString " : " = sp1 ++ (sCo ++ sp1) := by decide +kernel
    have c4 : Str.ofString " ; " = sp1 ++ (sSe ++ sp1) := by decide +kernel
    simp only [↓reduceIte, ↓sSeq, ↓sAsg, ↓sIf, ↓sRet, ↓sRetN, ↓sExpr, ↓sNext, ↓sBreak, ↓sCont, ↓sAug, ↓sFor, ↓gN, ↓pIx, ↓pC, ↓pTup, ↓pLst, ↓pCons, ↓pNil, ↓pStar, ↓pOp, ↓pTB, ↓pTru, ↓pTAnd, ↓pTOr, ↓pTNot, ↓pAndV, ↓pOrV, ↓pNotV, ↓pIf, ↓pCall, ↓pLen, ↓pIsi, ↓pDget, ↓gDset, ↓gSubT, ↓PEq, ↓PNe, ↓pChain, ↓pNeg, ↓pSl, ↓pNoPart, ↓pPart, ↓pIter, ↓pRng1, ↓pRng2, ↓pEnum, ↓pRev, ↓pZip, ↓pMet, ↓pMet0, ↓pMut, ↓pLc, ↓pLRng1, ↓pLRng2, ↓pYes, ↓pRE, ↓startP, ↓pWords, ↓pSplit, ↓gLt, ↓gLe, ↓gGt, ↓gGe, ↓pV_f0, ↓pV_o0, ↓pRV_f0, ↓pRV_o0, ↓lk_f0, ↓lk_o0, ↓sRV_f0, ↓sRV_o0, ↓pV_f1, ↓pV_o1, ↓pRV_f1, ↓pRV_o1, ↓lk_f1, ↓lk_o1, ↓sRV_f1, ↓sRV_o1, ↓pV_f2, ↓pV_o2, ↓pRV_f2, ↓pRV_o2, ↓lk_f2, ↓lk_o2, ↓sRV_f2, ↓sRV_o2, ↓pV_f3, ↓pV_o3, ↓pRV_f3, ↓pRV_o3, ↓lk_f3, ↓lk_o3, ↓sRV_f3, ↓sRV_o3, ↓pV_f4, ↓pV_o4, ↓pRV_f4, ↓pRV_o4, ↓lk_f4, ↓lk_o4, ↓sRV_f4, ↓sRV_o4, ↓pV_f5, ↓pV_o5, ↓pRV_f5, ↓pRV_o5, ↓lk_f5, ↓lk_o5, ↓sRV_f5, ↓sRV_o5, ↓pV_f6, ↓pV_o6, ↓pRV_f6, ↓pRV_o6, ↓lk_f6, ↓lk_o6, ↓sRV_f6, ↓sRV_o6, ↓pV_f7, ↓pV_o7, ↓pRV_f7, ↓pRV_o7, ↓lk_f7, ↓lk_o7, ↓sRV_f7, ↓sRV_o7, ↓pV_f8, ↓pV_o8, ↓pRV_f8, ↓pRV_o8, ↓lk_f8, ↓lk_o8, ↓sRV_f8, ↓sRV_o8, ↓pV_f9, ↓pV_o9, ↓pRV_f9, ↓pRV_o9, ↓lk_f9, ↓lk_o9, ↓sRV_f9, ↓sRV_o9, ↓pV_f10, ↓pV_o10, ↓pRV_f10, ↓pRV_o10, ↓lk_f10, ↓lk_o10, ↓sRV_f10, ↓sRV_o10, ↓pV_f11, ↓pV_o11, ↓pRV_f11, ↓pRV_o11, ↓lk_f11, ↓lk_o11, ↓sRV_f11, ↓sRV_o11, ↓pV_f12, ↓pV_o12, ↓pRV_f12, ↓pRV_o12, ↓lk_f12, ↓lk_o12, ↓sRV_f12, ↓sRV_o12, ↓pV_f13, ↓pV_o13, ↓pRV_f13, ↓pRV_o13, ↓lk_f13, ↓lk_o13, ↓sRV_f13, ↓sRV_o13, ↓lk_fz, ↓of_fn, ↓of_fb, ↓of_fi, ↓of_fs, ↓of_ft, ↓of_fl, ↓of_ol, ↓of_ff, ↓ad_i, ↓ad_s, ↓ad_l, ↓ad_t, ↓su_i, ↓mu_i, ↓mu_l, ↓mo_i, ↓fd_i, ↓pw_i, ↓an_i, ↓ci_i, ↓is_n, ↓is_nn, ↓in_t, ↓in_l, ↓in_s, ↓ix_l, ↓ix_t, ↓ix_s, ↓sl_l, ↓sl_t, ↓sl_s, ↓kn_i, ↓kp_i, ↓kr1, ↓kr2, ↓ke_l, ↓kz_l, ↓kz_t, ↓klr1, ↓klr2, ↓gt_e, ↓gs_n, ↓gs_c, nc_0, nc_1, nc_2, nc_3, nc_4, nc_5, nc_6, nc_7, nc_8, nc_9, nc_10, nc_11, nc_12, eq_ii, eq_ss, eq_nn, eq_bb, eq_st, eq_ts, eq_si, eq_is, eq_it, eq_ti, cmp_i, cmp_b, cmp_n, sc_i, sc_s, sc_b, sc_n, flat_i, flat_s, flat_b, flat_n, tru_n, tru_b, tru_i, tru_t, tru_l, items_t, items_l, len_t, len_l, iter_t, iter_l, isN_n, isN_i, isN_s, isN_t, isN_l, isN_b, at_0, at_1, at_2, at_3, ib_tn, ib_tb, ib_ti, ib_ts, ib_tt, ib_tl, ib_sn, ib_sb, ib_si, ib_ss, ib_st, ib_sl, ib_in, ib_ib, ib_ii, ib_is, ib_it, ib_il, ib_bn, ib_bb, ib_bi, ib_bs, ib_bt, ib_bl, na_n, na_b, na_i, na_s, na_t, na_l, List.getElem?_cons_zero, List.getElem?_cons_succ, List.set_cons_zero, List.set_cons_succ, List.map_cons, List.map_nil, List.length_cons, List.length_nil, List.replicate_succ, List.replicate_zero, List.cons_append, List.nil_append, List.append_nil, List.isEmpty_nil, List.isEmpty_cons, List.cons.injEq, Option.some.injEq, T.int.injEq, T.str.injEq, T.bl.injEq, T.tup.injEq, T.lst.injEq, T.adr.injEq, Sl.fz.injEq, Sl.ow.injEq, exists_eq_left, exists_eq_left', exists_eq_right, exists_eq_right', exists_eq, exists_eq', exists_and_left, exists_and_right, exists_const, exists_false, and_true, true_and, and_false, false_and, or_true, true_or, or_false, false_or, not_true_eq_false, not_false_eq_true, if_true, if_false, ite_true, ite_false, Bool.not_true, Bool.not_false, Bool.true_or, Bool.or_true, Bool.false_or, Bool.or_false, Bool.true_and, Bool.and_true, Bool.false_and, Bool.and_false, Bool.false_eq_true, Bool.true_eq_false, eq_self, decide_eq_true_eq, decide_true, decide_false, Bool.decide_eq_true, Bool.not_eq_true, decide_eq_false_iff_not, Bool.and_eq_true, Bool.or_eq_true, Bool.not_eq_true', reduceCtorEq, ne_eq, Nat.le_refl, Nat.reduceAdd, Nat.reduceSub, Nat.reduceLeDiff, Nat.reduceLT, implies_true, forall_const, List.any_cons, List.any_nil, List.all_cons, List.all_nil, wipeP, restore, List.getD_eq_getElem?_getD, Option.getD_some, List.mem_singleton, forall_eq, Int.reduceLT, Int.reduceLE, Int.reduceNeg, Int.reduceSub, Int.reduceAdd, Int.reduceToNat, Int.reduceEq, Int.reduceNe, String.reduceEq, and_self, or_self, fpT, pfKX]
    refine ⟨by omega, _, m2, by omega, by rw [slen]; omega, by rw [slen, slen]; omega, ?_⟩
    rw [List.take_add_one, List.getElem?_eq_getElem hi, List.map_append]
    refine congrArg (fun z => List.map _ (l.take i) ++ [T.str z]) ?_
    rw [fpS, J_cons _ (by simp), J_cons _ (by simp), J_app (kt_ne m2) (by simp), J_one, c3, c4]
    simp only [sapp]
  · rintro acc ρ2 hacc ⟨rfl, rfl⟩
    rw [List.length_map, List.take_length]
    have e : (l.map fun p => T.str (J (fpS p) ++ sp1)) = ((l.map fpS).map fun x => J x ++ sp1).map T.str := by
      rw [List.map_map, List.map_map]
      rfl
    refine ⟨_, .inl (by rw [e]), ?_, h⟩
    have c0 : (Str.ofString "").length = 0 := by decide +kernel
    rw [c0, Nat.mul_zero, Nat.add_zero]
    have k : ∀ l : List Fd, (∀ p ∈ l, isNm p.1 = true ∧ Kt n p.2.1 p.2.2) → (((l.map fpS).map fun x => J x ++ sp1).map (·.length)).sum ≤ 10 * (l.flatMap fpS).length := by
      intro l
      induction l with
      | nil => intro _; exact Nat.zero_le _
      | cons p l ih =>
        intro h
        have ih := ih fun q hq => h q (List.mem_cons_of_mem _ hq)
        obtain ⟨m1, m2⟩ := h p List.mem_cons_self
        have b3 := join_len (fpS p) (fun x hx => by
          rcases List.mem_cons.mp hx with rfl | hx
          · exact nm_tk m1
          rcases List.mem_cons.mp hx with rfl | hx
          · exact words_tk _ (by simp)
          rcases List.mem_append.mp hx with hx | hx
          · exact kt_ok n _ _ m2 x hx
          · rw [List.mem_singleton.mp hx]
            exact words_tk _ (by simp))
        have b4 := fps_len p
        have c1 : sp1.length = 1 := by decide +kernel
        simp only [List.map_cons, List.sum_cons, List.flatMap_cons, List.length_append, slen] at ih ⊢
        omega
    have := k l hl
    omega
theorem ok_kind_text {W : Wld} {k : Nat} {n : Nat} (D : Df K mg "_law_kind_text" s_kind_text)
    (C_kind_text : CalQ P w K mg base (W) "_law_kind_text" k ["_law_kind"] (pfKX n))
    (C_fields_text : CalQ P w K mg base (W) "_law_fields_text" k ["_law_fields"] (pfFX n)) (m_str : mg "str" = none) :
    CalQ P w K mg base (W) "_law_kind_text" (k + 1) ["_law_kind"] (pfKX (n + 1)) := by
  refine CalQ.mk D sc_kind_text (fun _ _ _ _ _ _ us h => match us, h with | [_], _ => rfl) (fun ts Φ h => by first | (obtain ⟨rfl, _⟩ := h; rfl) | (obtain ⟨_, rfl, _⟩ := h; rfl) | (obtain ⟨_, _, rfl, _⟩ := h; rfl) | (obtain ⟨_, _, _, rfl, _⟩ := h; rfl) | (obtain ⟨_, _, _, _, rfl, _⟩ := h; rfl)) (fun f cdv A outer s H E hr => ?_)
  refine ⟨_, qss_cons (qs_set (i := 1) sc_kind_text.nd rfl (.inl rfl) (qe_ix (qr_name (pv 0)) qe_int (fun _ _ => rfl)))
    (qss_cons (qs_if (qt_cmp (oq_eq hr.units) (qe_name (pv 1)) qe_str (nomark _))
    (qss_one (qs_ret (qe_op oq_add (qe_op oq_add (qe_op oq_add qe_str (qe_callTy cq_str (by rfl) m_str (by decide +kernel) (qa_cons (qe_ix (qr_name (pv 0)) qe_int (fun _ _ => rfl)) qa_nil))) qe_str) (qe_callTy cq_str (by rfl) m_str (by decide +kernel) (qa_cons (qe_ix (qr_name (pv 0)) qe_int (fun _ _ => rfl)) qa_nil)))))
    (qss_nil))
    (qss_cons (qs_if (qt_cmp (oq_eq hr.units) (qe_name (pv 1)) qe_str (nomark _))
    (qss_one (qs_ret (qe_op oq_add (qe_op oq_add qe_str (qe_met PySem.F.plainAttrs_str PySem.F.slot_str_join PySem.F.type_str_join me_join (qr_of qe_str) (qa_cons (qe_ix (qr_name (pv 0)) qe_int (fun _ _ => rfl)) qa_nil))) qe_str)))
    (qss_nil))
    (qss_cons (qs_if (qt_cmp (oq_eq hr.units) (qe_name (pv 1)) qe_str (nomark _))
    (qss_one (qs_ret (qe_op oq_add qe_str (qe_call C_kind_text (hr.mono (by omega)) (by rfl) (qa_cons (qe_ix (qr_name (pv 0)) qe_int (fun _ _ => rfl)) qa_nil)))))
    (qss_nil))
    (qss_cons (qs_if (qt_cmp (oq_eq hr.units) (qe_name (pv 1)) qe_str (nomark _))
    (qss_one (qs_ret (qe_op oq_add (qe_op oq_add (qe_op oq_add qe_str (qe_callTy cq_str (by rfl) m_str (by decide +kernel) (qa_cons (qe_ix (qr_name (pv 0)) qe_int (fun _ _ => rfl)) qa_nil))) qe_str) (qe_call C_kind_text (hr.mono (by omega)) (by rfl) (qa_cons (qe_ix (qr_name (pv 0)) qe_int (fun _ _ => rfl)) qa_nil)))))
    (qss_nil))
    (qss_one (qs_ret (qe_op oq_add (qe_op oq_add (qe_op oq_add (qe_name (pv 1)) qe_str) (qe_call C_fields_text (hr.mono (by omega)) (by rfl) (qa_cons (qe_ix (qr_name (pv 0)) qe_int (fun _ _ => rfl)) qa_nil))) qe_str))))))), ?_⟩
  intro ts Φ h
  obtain ⟨t, s, rfl, hk, hn, h⟩ := h
  rcases hk with ⟨i, j, rfl, hi, hj, rfl⟩ | ⟨ns, rfl, hne, hns, rfl⟩ | ⟨k, s', rfl, hk, rfl⟩ | ⟨k, i, s', rfl, hi, hk, rfl⟩ | ⟨w, l, hw, rfl, hl, rfl⟩
  · have li : (Str.ofString (toString i)).length ≤ 5 := istr_len hi.1 hi.2
    have lj : (Str.ofString (toString j)).length ≤ 5 := istr_len hj.1 hj.2
    have c1 : (Str.ofString "num ").length = 4 := by decide +kernel
    have c2 : (Str.ofString " .. ").length = 4 := by decide +kernel
    have c3 : Str.ofString "num " = w_num ++ sp1 := by decide +kernel
    have c4 : Str.ofString " .. " = sp1 ++ (w_dd ++ sp1) := by decide +kernel
    rw [J_cons _ (by simp), J_cons _ (by simp), J_cons _ (by simp), J_one] at h
    simp only [↓reduceIte, ↓sSeq, ↓sAsg, ↓sIf, ↓sRet, ↓sRetN, ↓sExpr, ↓sNext, ↓sBreak, ↓sCont, ↓sAug, ↓sFor, ↓gN, ↓pIx, ↓pC, ↓pTup, ↓pLst, ↓pCons, ↓pNil, ↓pStar, ↓pOp, ↓pTB, ↓pTru, ↓pTAnd, ↓pTOr, ↓pTNot, ↓pAndV, ↓pOrV, ↓pNotV, ↓pIf, ↓pCall, ↓pLen, ↓pIsi, ↓pDget, ↓gDset, ↓gSubT, ↓PEq, ↓PNe, ↓pChain, ↓pNeg, ↓pSl, ↓pNoPart, ↓pPart, ↓pIter, ↓pRng1, ↓pRng2, ↓pEnum, ↓pRev, ↓pZip, ↓pMet, ↓pMet0, ↓pMut, ↓pLc, ↓pLRng1, ↓pLRng2, ↓pYes, ↓pRE, ↓startP, ↓pWords, ↓pSplit, ↓gLt, ↓gLe, ↓gGt, ↓gGe, ↓pV_f0, ↓pV_o0, ↓pRV_f0, ↓pRV_o0, ↓lk_f0, ↓lk_o0, ↓sRV_f0, ↓sRV_o0, ↓pV_f1, ↓pV_o1, ↓pRV_f1, ↓pRV_o1, ↓lk_f1, ↓lk_o1, ↓sRV_f1, ↓sRV_o1, ↓pV_f2, ↓pV_o2, ↓pRV_f2, ↓pRV_o2, ↓lk_f2, ↓lk_o2, ↓sRV_f2, ↓sRV_o2, ↓pV_f3, ↓pV_o3, ↓pRV_f3, ↓pRV_o3, ↓lk_f3, ↓lk_o3, ↓sRV_f3, ↓sRV_o3, ↓pV_f4, ↓pV_o4, ↓pRV_f4, ↓pRV_o4, ↓lk_f4, ↓lk_o4, ↓sRV_f4, ↓sRV_o4, ↓pV_f5, ↓pV_o5, ↓pRV_f5, ↓pRV_o5, ↓lk_f5, ↓lk_o5, ↓sRV_f5, ↓sRV_o5, ↓pV_f6, ↓pV_o6, ↓pRV_f6, ↓pRV_o6, ↓lk_f6, ↓lk_o6, ↓sRV_f6, ↓sRV_o6, ↓pV_f7, ↓pV_o7, ↓pRV_f7, ↓pRV_o7, ↓lk_f7, ↓lk_o7, ↓sRV_f7, ↓sRV_o7, ↓pV_f8, ↓pV_o8, ↓pRV_f8, ↓pRV_o8, ↓lk_f8, ↓lk_o8, ↓sRV_f8, ↓sRV_o8, ↓pV_f9, ↓pV_o9, ↓pRV_f9, ↓pRV_o9, ↓lk_f9, ↓lk_o9, ↓sRV_f9, ↓sRV_o9, ↓pV_f10, ↓pV_o10, ↓pRV_f10, ↓pRV_o10, ↓lk_f10, ↓lk_o10, ↓sRV_f10, ↓sRV_o10, ↓pV_f11, ↓pV_o11, ↓pRV_f11, ↓pRV_o11, ↓lk_f11, ↓lk_o11, ↓sRV_f11, ↓sRV_o11, ↓pV_f12, ↓pV_o12, ↓pRV_f12, ↓pRV_o12, ↓lk_f12, ↓lk_o12, ↓sRV_f12, ↓sRV_o12, ↓pV_f13, ↓pV_o13, ↓pRV_f13, ↓pRV_o13, ↓lk_f13, ↓lk_o13, ↓sRV_f13, ↓sRV_o13, ↓lk_fz, ↓of_fn, ↓of_fb, ↓of_fi, ↓of_fs, ↓of_ft, ↓of_fl, ↓of_ol, ↓of_ff, ↓ad_i, ↓ad_s, ↓ad_l, ↓ad_t, ↓su_i, ↓mu_i, ↓mu_l, ↓mo_i, ↓fd_i, ↓pw_i, ↓an_i, ↓ci_i, ↓is_n, ↓is_nn, ↓in_t, ↓in_l, ↓in_s, ↓ix_l, ↓ix_t, ↓ix_s, ↓sl_l, ↓sl_t, ↓sl_s, ↓kn_i, ↓kp_i, ↓kr1, ↓kr2, ↓ke_l, ↓kz_l, ↓kz_t, ↓klr1, ↓klr2, ↓gt_e, ↓gs_n, ↓gs_c, nc_0, nc_1, nc_2, nc_3, nc_4, nc_5, nc_6, nc_7, nc_8, nc_9, nc_10, nc_11, nc_12, eq_ii, eq_ss, eq_nn, eq_bb, eq_st, eq_ts, eq_si, eq_is, eq_it, eq_ti, cmp_i, cmp_b, cmp_n, sc_i, sc_s, sc_b, sc_n, flat_i, flat_s, flat_b, flat_n, tru_n, tru_b, tru_i, tru_t, tru_l, items_t, items_l, len_t, len_l, iter_t, iter_l, isN_n, isN_i, isN_s, isN_t, isN_l, isN_b, at_0, at_1, at_2, at_3, ib_tn, ib_tb, ib_ti, ib_ts, ib_tt, ib_tl, ib_sn, ib_sb, ib_si, ib_ss, ib_st, ib_sl, ib_in, ib_ib, ib_ii, ib_is, ib_it, ib_il, ib_bn, ib_bb, ib_bi, ib_bs, ib_bt, ib_bl, na_n, na_b, na_i, na_s, na_t, na_l, List.getElem?_cons_zero, List.getElem?_cons_succ, List.set_cons_zero, List.set_cons_succ, List.map_cons, List.map_nil, List.length_cons, List.length_nil, List.replicate_succ, List.replicate_zero, List.cons_append, List.nil_append, List.append_nil, List.isEmpty_nil, List.isEmpty_cons, List.cons.injEq, Option.some.injEq, T.int.injEq, T.str.injEq, T.bl.injEq, T.tup.injEq, T.lst.injEq, T.adr.injEq, Sl.fz.injEq, Sl.ow.injEq, exists_eq_left, exists_eq_left', exists_eq_right, exists_eq_right', exists_eq, exists_eq', exists_and_left, exists_and_right, exists_const, exists_false, and_true, true_and, and_false, false_and, or_true, true_or, or_false, false_or, not_true_eq_false, not_false_eq_true, if_true, if_false, ite_true, ite_false, Bool.not_true, Bool.not_false, Bool.true_or, Bool.or_true, Bool.false_or, Bool.or_false, Bool.true_and, Bool.and_true, Bool.false_and, Bool.and_false, Bool.false_eq_true, Bool.true_eq_false, eq_self, decide_eq_true_eq, decide_true, decide_false, Bool.decide_eq_true, Bool.not_eq_true, decide_eq_false_iff_not, Bool.and_eq_true, Bool.or_eq_true, Bool.not_eq_true', reduceCtorEq, ne_eq, Nat.le_refl, Nat.reduceAdd, Nat.reduceSub, Nat.reduceLeDiff, Nat.reduceLT, implies_true, forall_const, List.any_cons, List.any_nil, List.all_cons, List.all_nil, wipeP, restore, List.getD_eq_getElem?_getD, Option.getD_some, List.mem_singleton, forall_eq, Int.reduceLT, Int.reduceLE, Int.reduceNeg, Int.reduceSub, Int.reduceAdd, Int.reduceToNat, Int.reduceEq, Int.reduceNe, String.reduceEq, and_self, or_self, w_num, str_inj]
    refine ⟨log_ib hi, by omega, by rw [slen]; omega, log_ib hj, by rw [slen, slen]; omega, ?_⟩
    rw [c3, c4]
    simp only [sapp]
    exact h
  · have c1 : (Str.ofString "pick { ").length = 7 := by decide +kernel
    have c2 : (Str.ofString " }").length = 2 := by decide +kernel
    have c3 : Str.ofString "pick { " = w_pick ++ (sp1 ++ (bO ++ sp1)) := by decide +kernel
    have c4 : Str.ofString " }" = sp1 ++ bC := by decide +kernel
    have c5 : (Str.ofString " , ").length = 3 := by decide +kernel
    obtain ⟨x0, l0, rfl⟩ := List.exists_cons_of_ne_nil hne
    have hz : ∀ x ∈ (x0 :: l0).map fun x => [x], x ≠ [] := fun x hx => by
      obtain ⟨y, _, rfl⟩ := List.mem_map.mp hx
      simp
    have htk : ∀ x ∈ (x0 :: l0).map fun x => [x], ∀ s ∈ x, tkOk s := fun x hx s hs => by
      obtain ⟨y, hy, rfl⟩ := List.mem_map.mp hx
      rw [List.mem_singleton.mp hs]
      exact nm_tk (hns y hy)
    have j1 := jl [x0] (l0.map fun x => [x]) hz
    have j2 := jl_len htk hz
    have e0 : ((x0 :: l0).map fun x => [x]).map J = x0 :: l0 := by
      rw [List.map_map]
      have : (J ∘ fun x : Str => [x]) = _root_.id := funext fun x => J_one x
      rw [this, List.map_id]
    rw [e0] at j2
    have j1 : Txt.join (Str.ofString " , ") (x0 :: l0) = J (listed ((x0 :: l0).map fun x => [x])) := by
      have e0 : ([x0] :: l0.map fun x => [x]).map J = x0 :: l0 := e0
      rw [e0] at j1
      exact j1
    rw [List.length_cons, List.length_cons, List.length_append, List.length_singleton] at hn
    have j3 := join_len (listed ((x0 :: l0).map fun x => [x])) (fun s hs => by
      rcases listed_mem2 hs with e | ⟨y, hy, hs⟩
      · rw [e]
        exact words_tk _ (by simp)
      · exact htk y hy s hs)
    rw [J_cons _ (by simp), J_cons _ (by simp), J_app (by simp [listed]) (by simp), J_one, ← j1] at h
    simp only [↓reduceIte, ↓sSeq, ↓sAsg, ↓sIf, ↓sRet, ↓sRetN, ↓sExpr, ↓sNext, ↓sBreak, ↓sCont, ↓sAug, ↓sFor, ↓gN, ↓pIx, ↓pC, ↓pTup, ↓pLst, ↓pCons, ↓pNil, ↓pStar, ↓pOp, ↓pTB, ↓pTru, ↓pTAnd, ↓pTOr, ↓pTNot, ↓pAndV, ↓pOrV, ↓pNotV, ↓pIf, ↓pCall, ↓pLen, ↓pIsi, ↓pDget, ↓gDset, ↓gSubT, ↓PEq, ↓PNe, ↓pChain, ↓pNeg, ↓pSl, ↓pNoPart, ↓pPart, ↓pIter, ↓pRng1, ↓pRng2, ↓pEnum, ↓pRev, ↓pZip, ↓pMet, ↓pMet0, ↓pMut, ↓pLc, ↓pLRng1, ↓pLRng2, ↓pYes, ↓pRE, ↓startP, ↓pWords, ↓pSplit, ↓gLt, ↓gLe, ↓gGt, ↓gGe, ↓pV_f0, ↓pV_o0, ↓pRV_f0, ↓pRV_o0, ↓lk_f0, ↓lk_o0, ↓sRV_f0, ↓sRV_o0, ↓pV_f1, ↓pV_o1, ↓pRV_f1, ↓pRV_o1, ↓lk_f1, ↓lk_o1, ↓sRV_f1, ↓sRV_o1, ↓pV_f2, ↓pV_o2, ↓pRV_f2, ↓pRV_o2, ↓lk_f2, ↓lk_o2, ↓sRV_f2, ↓sRV_o2, ↓pV_f3, ↓pV_o3, ↓pRV_f3, ↓pRV_o3, ↓lk_f3, ↓lk_o3, ↓sRV_f3, ↓sRV_o3, ↓pV_f4, ↓pV_o4, ↓pRV_f4, ↓pRV_o4, ↓lk_f4, ↓lk_o4, ↓sRV_f4, ↓sRV_o4, ↓pV_f5, ↓pV_o5, ↓pRV_f5, ↓pRV_o5, ↓lk_f5, ↓lk_o5, ↓sRV_f5, ↓sRV_o5, ↓pV_f6, ↓pV_o6, ↓pRV_f6, ↓pRV_o6, ↓lk_f6, ↓lk_o6, ↓sRV_f6, ↓sRV_o6, ↓pV_f7, ↓pV_o7, ↓pRV_f7, ↓pRV_o7, ↓lk_f7, ↓lk_o7, ↓sRV_f7, ↓sRV_o7, ↓pV_f8, ↓pV_o8, ↓pRV_f8, ↓pRV_o8, ↓lk_f8, ↓lk_o8, ↓sRV_f8, ↓sRV_o8, ↓pV_f9, ↓pV_o9, ↓pRV_f9, ↓pRV_o9, ↓lk_f9, ↓lk_o9, ↓sRV_f9, ↓sRV_o9, ↓pV_f10, ↓pV_o10, ↓pRV_f10, ↓pRV_o10, ↓lk_f10, ↓lk_o10, ↓sRV_f10, ↓sRV_o10, ↓pV_f11, ↓pV_o11, ↓pRV_f11, ↓pRV_o11, ↓lk_f11, ↓lk_o11, ↓sRV_f11, ↓sRV_o11, ↓pV_f12, ↓pV_o12, ↓pRV_f12, ↓pRV_o12, ↓lk_f12, ↓lk_o12, ↓sRV_f12, ↓sRV_o12, ↓pV_f13, ↓pV_o13, ↓pRV_f13, ↓pRV_o13, ↓lk_f13, ↓lk_o13, ↓sRV_f13, ↓sRV_o13, ↓lk_fz, ↓of_fn, ↓of_fb, ↓of_fi, ↓of_fs, ↓of_ft, ↓of_fl, ↓of_ol, ↓of_ff, ↓ad_i, ↓ad_s, ↓ad_l, ↓ad_t, ↓su_i, ↓mu_i, ↓mu_l, ↓mo_i, ↓fd_i, ↓pw_i, ↓an_i, ↓ci_i, ↓is_n, ↓is_nn, ↓in_t, ↓in_l, ↓in_s, ↓ix_l, ↓ix_t, ↓ix_s, ↓sl_l, ↓sl_t, ↓sl_s, ↓kn_i, ↓kp_i, ↓kr1, ↓kr2, ↓ke_l, ↓kz_l, ↓kz_t, ↓klr1, ↓klr2, ↓gt_e, ↓gs_n, ↓gs_c, nc_0, nc_1, nc_2, nc_3, nc_4, nc_5, nc_6, nc_7, nc_8, nc_9, nc_10, nc_11, nc_12, eq_ii, eq_ss, eq_nn, eq_bb, eq_st, eq_ts, eq_si, eq_is, eq_it, eq_ti, cmp_i, cmp_b, cmp_n, sc_i, sc_s, sc_b, sc_n, flat_i, flat_s, flat_b, flat_n, tru_n, tru_b, tru_i, tru_t, tru_l, items_t, items_l, len_t, len_l, iter_t, iter_l, isN_n, isN_i, isN_s, isN_t, isN_l, isN_b, at_0, at_1, at_2, at_3, ib_tn, ib_tb, ib_ti, ib_ts, ib_tt, ib_tl, ib_sn, ib_sb, ib_si, ib_ss, ib_st, ib_sl, ib_in, ib_ib, ib_ii, ib_is, ib_it, ib_il, ib_bn, ib_bb, ib_bi, ib_bs, ib_bt, ib_bl, na_n, na_b, na_i, na_s, na_t, na_l, List.getElem?_cons_zero, List.getElem?_cons_succ, List.set_cons_zero, List.set_cons_succ, List.map_cons, List.map_nil, List.length_cons, List.length_nil, List.replicate_succ, List.replicate_zero, List.cons_append, List.nil_append, List.append_nil, List.isEmpty_nil, List.isEmpty_cons, List.cons.injEq, Option.some.injEq, T.int.injEq, T.str.injEq, T.bl.injEq, T.tup.injEq, T.lst.injEq, T.adr.injEq, Sl.fz.injEq, Sl.ow.injEq, exists_eq_left, exists_eq_left', exists_eq_right, exists_eq_right', exists_eq, exists_eq', exists_and_left, exists_and_right, exists_const, exists_false, and_true, true_and, and_false, false_and, or_true, true_or, or_false, false_or, not_true_eq_false, not_false_eq_true, if_true, if_false, ite_true, ite_false, Bool.not_true, Bool.not_false, Bool.true_or, Bool.or_true, Bool.false_or, Bool.or_false, Bool.true_and, Bool.and_true, Bool.false_and, Bool.and_false, Bool.false_eq_true, Bool.true_eq_false, eq_self, decide_eq_true_eq, decide_true, decide_false, Bool.decide_eq_true, Bool.not_eq_true, decide_eq_false_iff_not, Bool.and_eq_true, Bool.or_eq_true, Bool.not_eq_true', reduceCtorEq, ne_eq, Nat.le_refl, Nat.reduceAdd, Nat.reduceSub, Nat.reduceLeDiff, Nat.reduceLT, implies_true, forall_const, List.any_cons, List.any_nil, List.all_cons, List.all_nil, wipeP, restore, List.getD_eq_getElem?_getD, Option.getD_some, List.mem_singleton, forall_eq, Int.reduceLT, Int.reduceLE, Int.reduceNeg, Int.reduceSub, Int.reduceAdd, Int.reduceToNat, Int.reduceEq, Int.reduceNe, String.reduceEq, and_self, or_self, w_pick, str_inj, tyOk]
    refine ⟨x0 :: l0, rfl, by rw [c5]; omega, by rw [j1, c1]; omega, by rw [slen, j1, c1, c2]; omega, ?_⟩
    rw [c3, c4]
    simp only [sapp]
    exact h
  · have c1 : (Str.ofString "opt ").length = 4 := by decide +kernel
    have c3 : Str.ofString "opt " = w_opt ++ sp1 := by decide +kernel
    rw [List.length_cons] at hn
    have j3 := join_len s' (kt_ok n k s' hk)
    rw [J_cons _ (kt_ne hk)] at h
    simp only [↓reduceIte, ↓sSeq, ↓sAsg, ↓sIf, ↓sRet, ↓sRetN, ↓sExpr, ↓sNext, ↓sBreak, ↓sCont, ↓sAug, ↓sFor, ↓gN, ↓pIx, ↓pC, ↓pTup, ↓pLst, ↓pCons, ↓pNil, ↓pStar, ↓pOp, ↓pTB, ↓pTru, ↓pTAnd, ↓pTOr, ↓pTNot, ↓pAndV, ↓pOrV, ↓pNotV, ↓pIf, ↓pCall, ↓pLen, ↓pIsi, ↓pDget, ↓gDset, ↓gSubT, ↓PEq, ↓PNe, ↓pChain, ↓pNeg, ↓pSl, ↓pNoPart, ↓pPart, ↓pIter, ↓pRng1, ↓pRng2, ↓pEnum, ↓pRev, ↓pZip, ↓pMet, ↓pMet0, ↓pMut, ↓pLc, ↓pLRng1, ↓pLRng2, ↓pYes, ↓pRE, ↓startP, ↓pWords, ↓pSplit, ↓gLt, ↓gLe, ↓gGt, ↓gGe, ↓pV_f0, ↓pV_o0, ↓pRV_f0, ↓pRV_o0, ↓lk_f0, ↓lk_o0, ↓sRV_f0, ↓sRV_o0, ↓pV_f1, ↓pV_o1, ↓pRV_f1, ↓pRV_o1, ↓lk_f1, ↓lk_o1, ↓sRV_f1, ↓sRV_o1, ↓pV_f2, ↓pV_o2, ↓pRV_f2, ↓pRV_o2, ↓lk_f2, ↓lk_o2, ↓sRV_f2, ↓sRV_o2, ↓pV_f3, ↓pV_o3, ↓pRV_f3, ↓pRV_o3, ↓lk_f3, ↓lk_o3, ↓sRV_f3, ↓sRV_o3, ↓pV_f4, ↓pV_o4, ↓pRV_f4, ↓pRV_o4, ↓lk_f4, ↓lk_o4, ↓sRV_f4, ↓sRV_o4, ↓pV_f5, ↓pV_o5, ↓pRV_f5, ↓pRV_o5, ↓lk_f5, ↓lk_o5, ↓sRV_f5, ↓sRV_o5, ↓pV_f6, ↓pV_o6, ↓pRV_f6, ↓pRV_o6, ↓lk_f6, ↓lk_o6, ↓sRV_f6, ↓sRV_o6, ↓pV_f7, ↓pV_o7, ↓pRV_f7, ↓pRV_o7, ↓lk_f7, ↓lk_o7, ↓sRV_f7, ↓sRV_o7, ↓pV_f8, ↓pV_o8, ↓pRV_f8, ↓pRV_o8, ↓lk_f8, ↓lk_o8, ↓sRV_f8, ↓sRV_o8, ↓pV_f9, ↓pV_o9, ↓pRV_f9, ↓pRV_o9, ↓lk_f9, ↓lk_o9, ↓sRV_f9, ↓sRV_o9, ↓pV_f10, ↓pV_o10, ↓pRV_f10, ↓pRV_o10, ↓lk_f10, ↓lk_o10, ↓sRV_f10, ↓sRV_o10, ↓pV_f11, ↓pV_o11, ↓pRV_f11, ↓pRV_o11, ↓lk_f11, ↓lk_o11, ↓sRV_f11, ↓sRV_o11, ↓pV_f12, ↓pV_o12, ↓pRV_f12, ↓pRV_o12, ↓lk_f12, ↓lk_o12, ↓sRV_f12, ↓sRV_o12, ↓pV_f13, ↓pV_o13, ↓pRV_f13, ↓pRV_o13, ↓lk_f13, ↓lk_o13, ↓sRV_f13, ↓sRV_o13, ↓lk_fz, ↓of_fn, ↓of_fb, ↓of_fi, ↓of_fs, ↓of_ft, ↓of_fl, ↓of_ol, ↓of_ff, ↓ad_i, ↓ad_s, ↓ad_l, ↓ad_t, ↓su_i, ↓mu_i, ↓mu_l, ↓mo_i, ↓fd_i, ↓pw_i, ↓an_i, ↓ci_i, ↓is_n, ↓is_nn, ↓in_t, ↓in_l, ↓in_s, ↓ix_l, ↓ix_t, ↓ix_s, ↓sl_l, ↓sl_t, ↓sl_s, ↓kn_i, ↓kp_i, ↓kr1, ↓kr2, ↓ke_l, ↓kz_l, ↓kz_t, ↓klr1, ↓klr2, ↓gt_e, ↓gs_n, ↓gs_c, nc_0, nc_1, nc_2, nc_3, nc_4, nc_5, nc_6, nc_7, nc_8, nc_9, nc_10, nc_11, nc_12, eq_ii, eq_ss, eq_nn, eq_bb, eq_st, eq_ts, eq_si, eq_is, eq_it, eq_ti, cmp_i, cmp_b, cmp_n, sc_i, sc_s, sc_b, sc_n, flat_i, flat_s, flat_b, flat_n, tru_n, tru_b, tru_i, tru_t, tru_l, items_t, items_l, len_t, len_l, iter_t, iter_l, isN_n, isN_i, isN_s, isN_t, isN_l, isN_b, at_0, at_1, at_2, at_3, ib_tn, ib_tb, ib_ti, ib_ts, ib_tt, ib_tl, ib_sn, ib_sb, ib_si, ib_ss, ib_st, ib_sl, ib_in, ib_ib, ib_ii, ib_is, ib_it, ib_il, ib_bn, ib_bb, ib_bi, ib_bs, ib_bt, ib_bl, na_n, na_b, na_i, na_s, na_t, na_l, List.getElem?_cons_zero, List.getElem?_cons_succ, List.set_cons_zero, List.set_cons_succ, List.map_cons, List.map_nil, List.length_cons, List.length_nil, List.replicate_succ, List.replicate_zero, List.cons_append, List.nil_append, List.append_nil, List.isEmpty_nil, List.isEmpty_cons, List.cons.injEq, Option.some.injEq, T.int.injEq, T.str.injEq, T.bl.injEq, T.tup.injEq, T.lst.injEq, T.adr.injEq, Sl.fz.injEq, Sl.ow.injEq, exists_eq_left, exists_eq_left', exists_eq_right, exists_eq_right', exists_eq, exists_eq', exists_and_left, exists_and_right, exists_const, exists_false, and_true, true_and, and_false, false_and, or_true, true_or, or_false, false_or, not_true_eq_false, not_false_eq_true, if_true, if_false, ite_true, ite_false, Bool.not_true, Bool.not_false, Bool.true_or, Bool.or_true, Bool.false_or, Bool.or_false, Bool.true_and, Bool.and_true, Bool.false_and, Bool.and_false, Bool.false_eq_true, Bool.true_eq_false, eq_self, decide_eq_true_eq, decide_true, decide_false, Bool.decide_eq_true, Bool.not_eq_true, decide_eq_false_iff_not, Bool.and_eq_true, Bool.or_eq_true, Bool.not_eq_true', reduceCtorEq, ne_eq, Nat.le_refl, Nat.reduceAdd, Nat.reduceSub, Nat.reduceLeDiff, Nat.reduceLT, implies_true, forall_const, List.any_cons, List.any_nil, List.all_cons, List.all_nil, wipeP, restore, List.getD_eq_getElem?_getD, Option.getD_some, List.mem_singleton, forall_eq, Int.reduceLT, Int.reduceLE, Int.reduceNeg, Int.reduceSub, Int.reduceAdd, Int.reduceToNat, Int.reduceEq, Int.reduceNe, String.reduceEq, and_self, or_self, w_opt, str_inj, pfKX]
    refine ⟨_, hk, by omega, by omega, ?_⟩
    rw [c3]
    simp only [sapp]
    exact h
  · have li : (Str.ofString (toString i)).length ≤ 5 := istr_len hi.1 hi.2
    have c1 : (Str.ofString "row ").length = 4 := by decide +kernel
    have c2 : (Str.ofString " of ").length = 4 := by decide +kernel
    have c3 : Str.ofString "row " = w_row ++ sp1 := by decide +kernel
    have c4 : Str.ofString " of " = sp1 ++ (w_of ++ sp1) := by decide +kernel
    rw [List.length_cons, List.length_cons, List.length_cons] at hn
    have j3 := join_len s' (kt_ok n k s' hk)
    rw [J_cons _ (by simp), J_cons _ (by simp), J_cons _ (kt_ne hk)] at h
    simp only [↓reduceIte, ↓sSeq, ↓sAsg, ↓sIf, ↓sRet, ↓sRetN, ↓sExpr, ↓sNext, ↓sBreak, ↓sCont, ↓sAug, ↓sFor, ↓gN, ↓pIx, ↓pC, ↓pTup, ↓pLst, ↓pCons, ↓pNil, ↓pStar, ↓pOp, ↓pTB, ↓pTru, ↓pTAnd, ↓pTOr, ↓pTNot, ↓pAndV, ↓pOrV, ↓pNotV, ↓pIf, ↓pCall, ↓pLen, ↓pIsi, ↓pDget, ↓gDset, ↓gSubT, ↓PEq, ↓PNe, ↓pChain, ↓pNeg, ↓pSl, ↓pNoPart, ↓pPart, ↓pIter, ↓pRng1, ↓pRng2, ↓pEnum, ↓pRev, ↓pZip, ↓pMet, ↓pMet0, ↓pMut, ↓pLc, ↓pLRng1, ↓pLRng2, ↓pYes, ↓pRE, ↓startP, ↓pWords, ↓pSplit, ↓gLt, ↓gLe, ↓gGt, ↓gGe, ↓pV_f0, ↓pV_o0, ↓pRV_f0, ↓pRV_o0, ↓lk_f0, ↓lk_o0, ↓sRV_f0, ↓sRV_o0, ↓pV_f1, ↓pV_o1, ↓pRV_f1, ↓pRV_o1, ↓lk_f1, ↓lk_o1, ↓sRV_f1, ↓sRV_o1, ↓pV_f2, ↓pV_o2, ↓pRV_f2, ↓pRV_o2, ↓lk_f2, ↓lk_o2, ↓sRV_f2, ↓sRV_o2, ↓pV_f3, ↓pV_o3, ↓pRV_f3, ↓pRV_o3, ↓lk_f3, ↓lk_o3, ↓sRV_f3, ↓sRV_o3, ↓pV_f4, ↓pV_o4, ↓pRV_f4, ↓pRV_o4, ↓lk_f4, ↓lk_o4, ↓sRV_f4, ↓sRV_o4, ↓pV_f5, ↓pV_o5, ↓pRV_f5, ↓pRV_o5, ↓lk_f5, ↓lk_o5, ↓sRV_f5, ↓sRV_o5, ↓pV_f6, ↓pV_o6, ↓pRV_f6, ↓pRV_o6, ↓lk_f6, ↓lk_o6, ↓sRV_f6, ↓sRV_o6, ↓pV_f7, ↓pV_o7, ↓pRV_f7, ↓pRV_o7, ↓lk_f7, ↓lk_o7, ↓sRV_f7, ↓sRV_o7, ↓pV_f8, ↓pV_o8, ↓pRV_f8, ↓pRV_o8, ↓lk_f8, ↓lk_o8, ↓sRV_f8, ↓sRV_o8, ↓pV_f9, ↓pV_o9, ↓pRV_f9, ↓pRV_o9, ↓lk_f9, ↓lk_o9, ↓sRV_f9, ↓sRV_o9, ↓pV_f10, ↓pV_o10, ↓pRV_f10, ↓pRV_o10, ↓lk_f10, ↓lk_o10, ↓sRV_f10, ↓sRV_o10, ↓pV_f11, ↓pV_o11, ↓pRV_f11, ↓pRV_o11, ↓lk_f11, ↓lk_o11, ↓sRV_f11, ↓sRV_o11, ↓pV_f12, ↓pV_o12, ↓pRV_f12, ↓pRV_o12, ↓lk_f12, ↓lk_o12, ↓sRV_f12, ↓sRV_o12, ↓pV_f13, ↓pV_o13, ↓pRV_f13, ↓pRV_o13, ↓lk_f13, ↓lk_o13, ↓sRV_f13, ↓sRV_o13, ↓lk_fz, ↓of_fn, ↓of_fb, ↓of_fi, ↓of_fs, ↓of_ft, ↓of_fl, ↓of_ol, ↓of_ff, ↓ad_i, ↓ad_s, ↓ad_l, ↓ad_t, ↓su_i, ↓mu_i, ↓mu_l, ↓mo_i, ↓fd_i, ↓pw_i, ↓an_i, ↓ci_i, ↓is_n, ↓is_nn, ↓in_t, ↓in_l, ↓in_s, ↓ix_l, ↓ix_t, ↓ix_s, ↓sl_l, ↓sl_t, ↓sl_s, ↓kn_i, ↓kp_i, ↓kr1, ↓kr2, ↓ke_l, ↓kz_l, ↓kz_t, ↓klr1, ↓klr2, ↓gt_e, ↓gs_n, ↓gs_c, nc_0, nc_1, nc_2, nc_3, nc_4, nc_5, nc_6, nc_7, nc_8, nc_9, nc_10, nc_11, nc_12, eq_ii, eq_ss, eq_nn, eq_bb, eq_st, eq_ts, eq_si, eq_is, eq_it, eq_ti, cmp_i, cmp_b, cmp_n, sc_i, sc_s, sc_b, sc_n, flat_i, flat_s, flat_b, flat_n, tru_n, tru_b, tru_i, tru_t, tru_l, items_t, items_l, len_t, len_l, iter_t, iter_l, isN_n, isN_i, isN_s, isN_t, isN_l, isN_b, at_0, at_1, at_2, at_3, ib_tn, ib_tb, ib_ti, ib_ts, ib_tt, ib_tl, ib_sn, ib_sb, ib_si, ib_ss, ib_st, ib_sl, ib_in, ib_ib, ib_ii, ib_is, ib_it, ib_il, ib_bn, ib_bb, ib_bi, ib_bs, ib_bt, ib_bl, na_n, na_b, na_i, na_s, na_t, na_l, List.getElem?_cons_zero, List.getElem?_cons_succ, List.set_cons_zero, List.set_cons_succ, List.map_cons, List.map_nil, List.length_cons, List.length_nil, List.replicate_succ, List.replicate_zero, List.cons_append, List.nil_append, List.append_nil, List.isEmpty_nil, List.isEmpty_cons, List.cons.injEq, Option.some.injEq, T.int.injEq, T.str.injEq, T.bl.injEq, T.tup.injEq, T.lst.injEq, T.adr.injEq, Sl.fz.injEq, Sl.ow.injEq, exists_eq_left, exists_eq_left', exists_eq_right, exists_eq_right', exists_eq, exists_eq', exists_and_left, exists_and_right, exists_const, exists_false, and_true, true_and, and_false, false_and, or_true, true_or, or_false, false_or, not_true_eq_false, not_false_eq_true, if_true, if_false, ite_true, ite_false, Bool.not_true, Bool.not_false, Bool.true_or, Bool.or_true, Bool.false_or, Bool.or_false, Bool.true_and, Bool.and_true, Bool.false_and, Bool.and_false, Bool.false_eq_true, Bool.true_eq_false, eq_self, decide_eq_true_eq, decide_true, decide_false, Bool.decide_eq_true, Bool.not_eq_true, decide_eq_false_iff_not, Bool.and_eq_true, Bool.or_eq_true, Bool.not_eq_true', reduceCtorEq, ne_eq, Nat.le_refl, Nat.reduceAdd, Nat.reduceSub, Nat.reduceLeDiff, Nat.reduceLT, implies_true, forall_const, List.any_cons, List.any_nil, List.all_cons, List.all_nil, wipeP, restore, List.getD_eq_getElem?_getD, Option.getD_some, List.mem_singleton, forall_eq, Int.reduceLT, Int.reduceLE, Int.reduceNeg, Int.reduceSub, Int.reduceAdd, Int.reduceToNat, Int.reduceEq, Int.reduceNe, String.reduceEq, and_self, or_self, w_row, str_inj, pfKX]
    refine ⟨log_ib hi, by omega, by rw [slen]; omega, _, hk, by omega, by rw [slen, slen]; omega, ?_⟩
    rw [c3, c4]
    simp only [sapp]
    exact h
  · have c2 : (Str.ofString " { ").length = 3 := by decide +kernel
    have c5 : (Str.ofString "}").length = 1 := by decide +kernel
    have c4 : Str.ofString " { " = sp1 ++ (bO ++ sp1) := by decide +kernel
    have hs : ∀ x ∈ l.map fpS, x ≠ [] := fun x hx => by
      obtain ⟨p, _, rfl⟩ := List.mem_map.mp hx
      simp [fpS]
    have j1 := catJ (l.map fpS) [bC] hs (by simp)
    have j2 := join_len (l.flatMap fpS ++ [bC]) (fun x hx => by
      have := kt_ok (n + 1) _ _ (.inr (.inr (.inr (.inr ⟨w, l, hw, rfl, hl, rfl⟩)))) x (List.mem_cons_of_mem _ (List.mem_cons_of_mem _ hx))
      exact this)
    rw [List.flatMap_def] at h hn j2
    rw [List.length_cons, List.length_cons] at hn
    rw [← j1, slen] at j2
    rw [J_cons _ (by simp), J_cons _ (by simp), ← j1, J_one] at h
    rw [List.length_append, List.length_singleton] at hn j2
    have lw : w.length = 3 := by rcases hw with rfl | rfl <;> decide +kernel
    have fin : (w.length + (Str.ofString " { ").length ≤ 16000000 ∧ (w ++ Str.ofString " { ").length + (cat (List.map (fun x => J x ++ sp1) (List.map fpS l))).length ≤ 16000000 ∧ (w ++ Str.ofString " { " ++ cat (List.map (fun x => J x ++ sp1) (List.map fpS l))).length + (Str.ofString "}").length ≤ 16000000) ∧
      Φ (T.str (w ++ Str.ofString " { " ++ cat (List.map (fun x => J x ++ sp1) (List.map fpS l)) ++ Str.ofString "}")) false := by
      refine ⟨⟨by omega, by rw [slen]; omega, by rw [slen, slen]; omega⟩, ?_⟩
      rw [c4]
      simp only [sapp]
      exact h
    obtain ⟨⟨f1, f2, f3⟩, f4⟩ := fin
    rcases hw with rfl | rfl
    · simp only [↓reduceIte, ↓sSeq, ↓sAsg, ↓sIf, ↓sRet, ↓sRetN, ↓sExpr, ↓sNext, ↓sBreak, ↓sCont, ↓sAug, ↓sFor, ↓gN, ↓pIx, ↓pC, ↓pTup, ↓pLst, ↓pCons, ↓pNil, ↓pStar, ↓pOp, ↓pTB, ↓pTru, ↓pTAnd, ↓pTOr, ↓pTNot, ↓pAndV, ↓pOrV, ↓pNotV, ↓pIf, ↓pCall, ↓pLen, ↓pIsi, ↓pDget, ↓gDset, ↓gSubT, ↓PEq, ↓PNe, ↓pChain, ↓pNeg, ↓pSl, ↓pNoPart, ↓pPart, ↓pIter, ↓pRng1, ↓pRng2, ↓pEnum, ↓pRev, ↓pZip, ↓pMet, ↓pMet0, ↓pMut, ↓pLc, ↓pLRng1, ↓pLRng2, ↓pYes, ↓pRE, ↓startP, ↓pWords, ↓pSplit, ↓gLt, ↓gLe, ↓gGt, ↓gGe, ↓pV_f0, ↓pV_o0, ↓pRV_f0, ↓pRV_o0, ↓lk_f0, ↓lk_o0, ↓sRV_f0, ↓sRV_o0, ↓pV_f1, ↓pV_o1, ↓pRV_f1, ↓pRV_o1, ↓lk_f1, ↓lk_o1, ↓sRV_f1, ↓sRV_o1, ↓pV_f2, ↓pV_o2, ↓pRV_f2, ↓pRV_o2, ↓lk_f2, ↓lk_o2, ↓sRV_f2, ↓sRV_o2, ↓pV_f3, ↓pV_o3, ↓pRV_f3, ↓pRV_o3, ↓lk_f3, ↓lk_o3, ↓sRV_f3, ↓sRV_o3, ↓pV_f4, ↓pV_o4, ↓pRV_f4, ↓pRV_o4, ↓lk_f4, ↓lk_o4, ↓sRV_f4, ↓sRV_o4, ↓pV_f5, ↓pV_o5, ↓pRV_f5, ↓pRV_o5, ↓lk_f5, ↓lk_o5, ↓sRV_f5, ↓sRV_o5, ↓pV_f6, ↓pV_o6, ↓pRV_f6, ↓pRV_o6, ↓lk_f6, ↓lk_o6, ↓sRV_f6, ↓sRV_o6, ↓pV_f7, ↓pV_o7, ↓pRV_f7, ↓pRV_o7, ↓lk_f7, ↓lk_o7, ↓sRV_f7, ↓sRV_o7, ↓pV_f8, ↓pV_o8, ↓pRV_f8, ↓pRV_o8, ↓lk_f8, ↓lk_o8, ↓sRV_f8, ↓sRV_o8, ↓pV_f9, ↓pV_o9, ↓pRV_f9, ↓pRV_o9, ↓lk_f9, ↓lk_o9, ↓sRV_f9, ↓sRV_o9, ↓pV_f10, ↓pV_o10, ↓pRV_f10, ↓pRV_o10, ↓lk_f10, ↓lk_o10, ↓sRV_f10, ↓sRV_o10, ↓pV_f11, ↓pV_o11, ↓pRV_f11, ↓pRV_o11, ↓lk_f11, ↓lk_o11, ↓sRV_f11, ↓sRV_o11, ↓pV_f12, ↓pV_o12, ↓pRV_f12, ↓pRV_o12, ↓lk_f12, ↓lk_o12, ↓sRV_f12, ↓sRV_o12, ↓pV_f13, ↓pV_o13, ↓pRV_f13, ↓pRV_o13, ↓lk_f13, ↓lk_o13, ↓sRV_f13, ↓sRV_o13, ↓lk_fz, ↓of_fn, ↓of_fb, ↓of_fi, ↓of_fs, ↓of_ft, ↓of_fl, ↓of_ol, ↓of_ff, ↓ad_i, ↓ad_s, ↓ad_l, ↓ad_t, ↓su_i, ↓mu_i, ↓mu_l, ↓mo_i, ↓fd_i, ↓pw_i, ↓an_i, ↓ci_i, ↓is_n, ↓is_nn, ↓in_t, ↓in_l, ↓in_s, ↓ix_l, ↓ix_t, ↓ix_s, ↓sl_l, ↓sl_t, ↓sl_s, ↓kn_i, ↓kp_i, ↓kr1, ↓kr2, ↓ke_l, ↓kz_l, ↓kz_t, ↓klr1, ↓klr2, ↓gt_e, ↓gs_n, ↓gs_c, nc_0, nc_1, nc_2, nc_3, nc_4, nc_5, nc_6, nc_7, nc_8, nc_9, nc_10, nc_11, nc_12, eq_ii, eq_ss, eq_nn, eq_bb, eq_st, eq_ts, eq_si, eq_is, eq_it, eq_ti, cmp_i, cmp_b, cmp_n, sc_i, sc_s, sc_b, sc_n, flat_i, flat_s, flat_b, flat_n, tru_n, tru_b, tru_i, tru_t, tru_l, items_t, items_l, len_t, len_l, iter_t, iter_l, isN_n, isN_i, isN_s, isN_t, isN_l, isN_b, at_0, at_1, at_2, at_3, ib_tn, ib_tb, ib_ti, ib_ts, ib_tt, ib_tl, ib_sn, ib_sb, ib_si, ib_ss, ib_st, ib_sl, ib_in, ib_ib, ib_ii, ib_is, ib_it, ib_il, ib_bn, ib_bb, ib_bi, ib_bs, ib_bt, ib_bl, na_n, na_b, na_i, na_s, na_t, na_l, List.getElem?_cons_zero, List.getElem?_cons_succ, List.set_cons_zero, List.set_cons_succ, List.map_cons, List.map_nil, List.length_cons, List.length_nil, List.replicate_succ, List.replicate_zero, List.cons_append, List.nil_append, List.append_nil, List.isEmpty_nil, List.isEmpty_cons, List.cons.injEq, Option.some.injEq, T.int.injEq, T.str.injEq, T.bl.injEq, T.tup.injEq, T.lst.injEq, T.adr.injEq, Sl.fz.injEq, Sl.ow.injEq, exists_eq_left, exists_eq_left', exists_eq_right, exists_eq_right', exists_eq, exists_eq', exists_and_left, exists_and_right, exists_const, exists_false, and_true, true_and, and_false, false_and, or_true, true_or, or_false, false_or, not_true_eq_false, not_false_eq_true, if_true, if_false, ite_true, ite_false, Bool.not_true, Bool.not_false, Bool.true_or, Bool.or_true, Bool.false_or, Bool.or_false, Bool.true_and, Bool.and_true, Bool.false_and, Bool.and_false, Bool.false_eq_true, Bool.true_eq_false, eq_self, decide_eq_true_eq, decide_true, decide_false, Bool.decide_eq_true, Bool.not_eq_true, decide_eq_false_iff_not, Bool.and_eq_true, Bool.or_eq_true, Bool.not_eq_true', reduceCtorEq, ne_eq, Nat.le_refl, Nat.reduceAdd, Nat.reduceSub, Nat.reduceLeDiff, Nat.reduceLT, implies_true, forall_const, List.any_cons, List.any_nil, List.all_cons, List.all_nil, wipeP, restore, List.getD_eq_getElem?_getD, Option.getD_some, List.mem_singleton, forall_eq, Int.reduceLT, Int.reduceLE, Int.reduceNeg, Int.reduceSub, Int.reduceAdd, Int.reduceToNat, Int.reduceEq, Int.reduceNe, String.reduceEq, and_self, or_self, w_one, str_inj, pfFX]
      exact ⟨f1, l, rfl, hl, by rw [List.flatMap_def]; omega, f2, f3, f4⟩
    · simp only [↓reduceIte, ↓sSeq, ↓sAsg, ↓sIf, ↓sRet, ↓sRetN, ↓sExpr, ↓sNext, ↓sBreak, ↓sCont, ↓sAug, ↓sFor, ↓gN, ↓pIx, ↓pC, ↓pTup, ↓pLst, ↓pCons, ↓pNil, ↓pStar, ↓pOp, ↓pTB, ↓pTru, ↓pTAnd, ↓pTOr, ↓pTNot, ↓pAndV, ↓pOrV, ↓pNotV, ↓pIf, ↓pCall, ↓pLen, ↓pIsi, ↓pDget, ↓gDset, ↓gSubT, ↓PEq, ↓PNe, ↓pChain, ↓pNeg, ↓pSl, ↓pNoPart, ↓pPart, ↓pIter, ↓pRng1, ↓pRng2, ↓pEnum, ↓pRev, ↓pZip, ↓pMet, ↓pMet0, ↓pMut, ↓pLc, ↓pLRng1, ↓pLRng2, ↓pYes, ↓pRE, ↓startP, ↓pWords, ↓pSplit, ↓gLt, ↓gLe, ↓gGt, ↓gGe, ↓pV_f0, ↓pV_o0, ↓pRV_f0, ↓pRV_o0, ↓lk_f0, ↓lk_o0, ↓sRV_f0, ↓sRV_o0, ↓pV_f1, ↓pV_o1, ↓pRV_f1, ↓pRV_o1, ↓lk_f1, ↓lk_o1, ↓sRV_f1, ↓sRV_o1, ↓pV_f2, ↓pV_o2, ↓pRV_f2, ↓pRV_o2, ↓lk_f2, ↓lk_o2, ↓sRV_f2, ↓sRV_o2, ↓pV_f3, ↓pV_o3, ↓pRV_f3, ↓pRV_o3, ↓lk_f3, ↓lk_o3, ↓sRV_f3, ↓sRV_o3, ↓pV_f4, ↓pV_o4, ↓pRV_f4, ↓pRV_o4, ↓lk_f4, ↓lk_o4, ↓sRV_f4, ↓sRV_o4, ↓pV_f5, ↓pV_o5, ↓pRV_f5, ↓pRV_o5, ↓lk_f5, ↓lk_o5, ↓sRV_f5, ↓sRV_o5, ↓pV_f6, ↓pV_o6, ↓pRV_f6, ↓pRV_o6, ↓lk_f6, ↓lk_o6, ↓sRV_f6, ↓sRV_o6, ↓pV_f7, ↓pV_o7, ↓pRV_f7, ↓pRV_o7, ↓lk_f7, ↓lk_o7, ↓sRV_f7, ↓sRV_o7, ↓pV_f8, ↓pV_o8, ↓pRV_f8, ↓pRV_o8, ↓lk_f8, ↓lk_o8, ↓sRV_f8, ↓sRV_o8, ↓pV_f9, ↓pV_o9, ↓pRV_f9, ↓pRV_o9, ↓lk_f9, ↓lk_o9, ↓sRV_f9, ↓sRV_o9, ↓pV_f10, ↓pV_o10, ↓pRV_f10, ↓pRV_o10, ↓lk_f10, ↓lk_o10, ↓sRV_f10, ↓sRV_o10, ↓pV_f11, ↓pV_o11, ↓pRV_f11, ↓pRV_o11, ↓lk_f11, ↓lk_o11, ↓sRV_f11, ↓sRV_o11, ↓pV_f12, ↓pV_o12, ↓pRV_f12, ↓pRV_o12, ↓lk_f12, ↓lk_o12, ↓sRV_f12, ↓sRV_o12, ↓pV_f13, ↓pV_o13, ↓pRV_f13, ↓pRV_o13, ↓lk_f13, ↓lk_o13, ↓sRV_f13, ↓sRV_o13, ↓lk_fz, ↓of_fn, ↓of_fb, ↓of_fi, ↓of_fs, ↓of_ft, ↓of_fl, ↓of_ol, ↓of_ff, ↓ad_i, ↓ad_s, ↓ad_l, ↓ad_t, ↓su_i, ↓mu_i, ↓mu_l, ↓mo_i, ↓fd_i, ↓pw_i, ↓an_i, ↓ci_i, ↓is_n, ↓is_nn, ↓in_t, ↓in_l, ↓in_s, ↓ix_l, ↓ix_t, ↓ix_s, ↓sl_l, ↓sl_t, ↓sl_s, ↓kn_i, ↓kp_i, ↓kr1, ↓kr2, ↓ke_l, ↓kz_l, ↓kz_t, ↓klr1, ↓klr2, ↓gt_e, ↓gs_n, ↓gs_c, nc_0, nc_1, nc_2, nc_3, nc_4, nc_5, nc_6, nc_7, nc_8, nc_9, nc_10, nc_11, nc_12, eq_ii, eq_ss, eq_nn, eq_bb, eq_st, eq_ts, eq_si, eq_is, eq_it, eq_ti, cmp_i, cmp_b, cmp_n, sc_i, sc_s, sc_b, sc_n, flat_i, flat_s, flat_b, flat_n, tru_n, tru_b, tru_i, tru_t, tru_l, items_t, items_l, len_t, len_l, iter_t, iter_l, isN_n, isN_i, isN_s, isN_t, isN_l, isN_b, at_0, at_1, at_2, at_3, ib_tn, ib_tb, ib_ti, ib_ts, ib_tt, ib_tl, ib_sn, ib_sb, ib_si, ib_ss, ib_st, ib_sl, ib_in, ib_ib, ib_ii, ib_is, ib_it, ib_il, ib_bn, ib_bb, ib_bi, ib_bs, ib_bt, ib_bl, na_n, na_b, na_i, na_s, na_t, na_l, List.getElem?_cons_zero, List.getElem?_cons_succ, List.set_cons_zero, List.set_cons_succ, List.map_cons, List.map_nil, List.length_cons, List.length_nil, List.replicate_succ, List.replicate_zero, List.cons_append, List.nil_append, List.append_nil, List.isEmpty_nil, List.isEmpty_cons, List.cons.injEq, Option.some.injEq, T.int.injEq, T.str.injEq, T.bl.injEq, T.tup.injEq, T.lst.injEq, T.adr.injEq, Sl.fz.injEq, Sl.ow.injEq, exists_eq_left, exists_eq_left', exists_eq_right, exists_eq_right', exists_eq, exists_eq', exists_and_left, exists_and_right, exists_const, exists_false, and_true, true_and, and_false, false_and, or_true, true_or, or_false, false_or, not_true_eq_false, not_false_eq_true, if_true, if_false, ite_true, ite_false, Bool.not_true, Bool.not_false, Bool.true_or, Bool.or_true, Bool.false_or, Bool.or_false, Bool.true_and, Bool.and_true, Bool.false_and, Bool.and_false, Bool.false_eq_true, Bool.true_eq_false, eq_self, decide_eq_true_eq, decide_true, decide_false, Bool.decide_eq_true, Bool.not_eq_true, decide_eq_false_iff_not, Bool.and_eq_true, Bool.or_eq_true, Bool.not_eq_true', reduceCtorEq, ne_eq, Nat.le_refl, Nat.reduceAdd, Nat.reduceSub, Nat.reduceLeDiff, Nat.reduceLT, implies_true, forall_const, List.any_cons, List.any_nil, List.all_cons, List.all_nil, wipeP, restore, List.getD_eq_getElem?_getD, Option.getD_some, List.mem_singleton, forall_eq, Int.reduceLT, Int.reduceLE, Int.reduceNeg, Int.reduceSub, Int.reduceAdd, Int.reduceToNat, Int.reduceEq, Int.reduceNe, String.reduceEq, and_self, or_self, w_rec, str_inj, pfFX]
      exact ⟨f1, l, rfl, hl, by rw [List.flatMap_def]; omega, f2, f3, f4⟩
theorem ok_trio_text {W : Wld} {k : Nat} {n : Nat} (D : Df K mg "_law_trio_text" s_trio_text)
    (C_way_text : CalQ P w K mg base (W) "_law_way_text" k ["_law_way"] (pfWX n)) (m_str : mg "str" = none) :
    CalQ P w K mg base (W) "_law_trio_text" (k + 1) ["_law_trio"] (pfTX n) := by
  refine CalQ.mk D sc_trio_text (fun _ _ _ _ _ _ us h => match us, h with | [_], _ => rfl) (fun ts Φ h => by first | (obtain ⟨rfl, _⟩ := h; rfl) | (obtain ⟨_, rfl, _⟩ := h; rfl) | (obtain ⟨_, _, rfl, _⟩ := h; rfl) | (obtain ⟨_, _, _, rfl, _⟩ := h; rfl) | (obtain ⟨_, _, _, _, rfl, _⟩ := h; rfl)) (fun f cdv A outer s H E hr => ?_)
  refine ⟨_, qss_cons (qs_setLc (i := 1) rfl (own := [("_law_end", 2)]) sc_trio_text.nd rfl rfl (sw_true rfl rfl rfl (by decide +kernel)) (by decide) (qi_val (qe_slice (qr_name (pv 0)) qo_none (qo_some qe_int))) (blkOk_by (N := ["_law_trio", "_law_ends", "_law_end"]) (sc := defScope s_trio_text) (by decide +kernel)) (fun _ _ _ _ _ => (qg_name (pg_name (i := 2) sc_trio_text.nd rfl (.inl rfl)))) (fun _ _ _ _ _ => qts_nil) (fun _ _ _ _ _ => (qe_if (qt_cmp oq_is (qe_name (pv 2)) qe_non (nomark _)) qe_str (qe_callTy cq_str (by rfl) m_str (by decide +kernel) (qa_cons (qe_name (pv 2)) qa_nil)))))
    (qss_one (qs_ret (qe_op oq_add (qe_op oq_add (qe_op oq_add (qe_op oq_add (qe_ix (qr_name (pv 1)) qe_int (fun _ _ => rfl)) qe_str) (qe_ix (qr_name (pv 1)) qe_int (fun _ _ => rfl))) qe_str) (qe_call C_way_text (hr.mono (by omega)) (by rfl) (qa_cons (qe_ix (qr_name (pv 0)) qe_int (fun _ _ => rfl)) qa_nil))))), ?_⟩
  intro ts Φ h
  obtain ⟨p, rfl, ⟨m1, m2, m3⟩, hn, h⟩ := h
  have ec : cutT [p.1.1, p.2.1.1, p.2.2.1] none (some 2) = [p.1.1, p.2.1.1] := rfl
  have l1 := (ed_tk m1).1
  have l2 := (ed_tk m2).1
  have l3 := join_len _ (wt_ok n _ _ m3)
  rw [trs_len] at hn
  have c1 : (Str.ofString " to ").length = 4 := by decide +kernel
  have c2 : (Str.ofString " by ").length = 4 := by decide +kernel
  have c3 : Str.ofString " to " = sp1 ++ (w_to ++ sp1) := by decide +kernel
  have c4 : Str.ofString " by " = sp1 ++ (w_by ++ sp1) := by decide +kernel
  rw [J_cons _ (by simp), J_cons _ (by simp), J_cons _ (by simp), J_cons _ (wt_ne m3)] at h
  simp only [↓reduceIte, ↓sSeq, ↓sAsg, ↓sIf, ↓sRet, ↓sRetN, ↓sExpr, ↓sNext, ↓sBreak, ↓sCont, ↓sAug, ↓sFor, ↓gN, ↓pIx, ↓pC, ↓pTup, ↓pLst, ↓pCons, ↓pNil, ↓pStar, ↓pOp, ↓pTB, ↓pTru, ↓pTAnd, ↓pTOr, ↓pTNot, ↓pAndV, ↓pOrV, ↓pNotV, ↓pIf, ↓pCall, ↓pLen, ↓pIsi, ↓pDget, ↓gDset, ↓gSubT, ↓PEq, ↓PNe, ↓pChain, ↓pNeg, ↓pSl, ↓pNoPart, ↓pPart, ↓pIter, ↓pRng1, ↓pRng2, ↓pEnum, ↓pRev, ↓pZip, ↓pMet, ↓pMet0, ↓pMut, ↓pLc, ↓pLRng1, ↓pLRng2, ↓pYes, ↓pRE, ↓startP, ↓pWords, ↓pSplit, ↓gLt, ↓gLe, ↓gGt, ↓gGe, ↓pV_f0, ↓pV_o0, ↓pRV_f0, ↓pRV_o0, ↓lk_f0, ↓lk_o0, ↓sRV_f0, ↓sRV_o0, ↓pV_f1, ↓pV_o1, ↓pRV_f1, ↓pRV_o1, ↓lk_f1, ↓lk_o1, ↓sRV_f1, ↓sRV_o1, ↓pV_f2, ↓pV_o2, ↓pRV_f2, ↓pRV_o2, ↓lk_f2, ↓lk_o2, ↓sRV_f2, ↓sRV_o2, ↓pV_f3, ↓pV_o3, ↓pRV_f3, ↓pRV_o3, ↓lk_f3, ↓lk_o3, ↓sRV_f3, ↓sRV_o3, ↓pV_f4, ↓pV_o4, ↓pRV_f4, ↓pRV_o4, ↓lk_f4, ↓lk_o4, ↓sRV_f4, ↓sRV_o4, ↓pV_f5, ↓pV_o5, ↓pRV_f5, ↓pRV_o5, ↓lk_f5, ↓lk_o5, ↓sRV_f5, ↓sRV_o5, ↓pV_f6, ↓pV_o6, ↓pRV_f6, ↓pRV_o6, ↓lk_f6, ↓lk_o6, ↓sRV_f6, ↓sRV_o6, ↓pV_f7, ↓pV_o7, ↓pRV_f7, ↓pRV_o7, ↓lk_f7, ↓lk_o7, ↓sRV_f7, ↓sRV_o7, ↓pV_f8, ↓pV_o8, ↓pRV_f8, ↓pRV_o8, ↓lk_f8, ↓lk_o8, ↓sRV_f8, ↓sRV_o8, ↓pV_f9, ↓pV_o9, ↓pRV_f9, ↓pRV_o9, ↓lk_f9, ↓lk_o9, ↓sRV_f9, ↓sRV_o9, ↓pV_f10, ↓pV_o10, ↓pRV_f10, ↓pRV_o10, ↓lk_f10, ↓lk_o10, ↓sRV_f10, ↓sRV_o10, ↓pV_f11, ↓pV_o11, ↓pRV_f11, ↓pRV_o11, ↓lk_f11, ↓lk_o11, ↓sRV_f11, ↓sRV_o11, ↓pV_f12, ↓pV_o12, ↓pRV_f12, ↓pRV_o12, ↓lk_f12, ↓lk_o12, ↓sRV_f12, ↓sRV_o12, ↓pV_f13, ↓pV_o13, ↓pRV_f13, ↓pRV_o13, ↓lk_f13, ↓lk_o13, ↓sRV_f13, ↓sRV_o13, ↓lk_fz, ↓of_fn, ↓of_fb, ↓of_fi, ↓of_fs, ↓of_ft, ↓of_fl, ↓of_ol, ↓of_ff, ↓ad_i, ↓ad_s, ↓ad_l, ↓ad_t, ↓su_i, ↓mu_i, ↓mu_l, ↓mo_i, ↓fd_i, ↓pw_i, ↓an_i, ↓ci_i, ↓is_n, ↓is_nn, ↓in_t, ↓in_l, ↓in_s, ↓ix_l, ↓ix_t, ↓ix_s, ↓sl_l, ↓sl_t, ↓sl_s, ↓kn_i, ↓kp_i, ↓kr1, ↓kr2, ↓ke_l, ↓kz_l, ↓kz_t, ↓klr1, ↓klr2, ↓gt_e, ↓gs_n, ↓gs_c, nc_0, nc_1, nc_2, nc_3, nc_4, nc_5, nc_6, nc_7, nc_8, nc_9, nc_10, nc_11, nc_12, eq_ii, eq_ss, eq_nn, eq_bb, eq_st, eq_ts, eq_si, eq_is, eq_it, eq_ti, cmp_i, cmp_b, cmp_n, sc_i, sc_s, sc_b, sc_n, flat_i, flat_s, flat_b, flat_n, tru_n, tru_b, tru_i, tru_t, tru_l, items_t, items_l, len_t, len_l, iter_t, iter_l, isN_n, isN_i, isN_s, isN_t, isN_l, isN_b, at_0, at_1, at_2, at_3, ib_tn, ib_tb, ib_ti, ib_ts, ib_tt, ib_tl, ib_sn, ib_sb, ib_si, ib_ss, ib_st, ib_sl, ib_in, ib_ib, ib_ii, ib_is, ib_it, ib_il, ib_bn, ib_bb, ib_bi, ib_bs, ib_bt, ib_bl, na_n, na_b, na_i, na_s, na_t, na_l, List.getElem?_cons_zero, List.getElem?_cons_succ, List.set_cons_zero, List.set_cons_succ, List.map_cons, List.map_nil, List.length_cons, List.length_nil, List.replicate_succ, List.replicate_zero, List.cons_append, List.nil_append, List.append_nil, List.isEmpty_nil, List.isEmpty_cons, List.cons.injEq, Option.some.injEq, T.int.injEq, T.str.injEq, T.bl.injEq, T.tup.injEq, T.lst.injEq, T.adr.injEq, Sl.fz.injEq, Sl.ow.injEq, exists_eq_left, exists_eq_left', exists_eq_right, exists_eq_right', exists_eq, exists_eq', exists_and_left, exists_and_right, exists_const, exists_false, and_true, true_and, and_false, false_and, or_true, true_or, or_false, false_or, not_true_eq_false, not_false_eq_true, if_true, if_false, ite_true, ite_false, Bool.not_true, Bool.not_false, Bool.true_or, Bool.or_true, Bool.false_or, Bool.or_false, Bool.true_and, Bool.and_true, Bool.false_and, Bool.and_false, Bool.false_eq_true, Bool.true_eq_false, eq_self, decide_eq_true_eq, decide_true, decide_false, Bool.decide_eq_true, Bool.not_eq_true, decide_eq_false_iff_not, Bool.and_eq_true, Bool.or_eq_true, Bool.not_eq_true', reduceCtorEq, ne_eq, Nat.le_refl, Nat.reduceAdd, Nat.reduceSub, Nat.reduceLeDiff, Nat.reduceLT, implies_true, forall_const, List.any_cons, List.any_nil, List.all_cons, List.all_nil, wipeP, restore, List.getD_eq_getElem?_getD, Option.getD_some, List.mem_singleton, forall_eq, Int.reduceLT, Int.reduceLE, Int.reduceNeg, Int.reduceSub, Int.reduceAdd, Int.reduceToNat, Int.reduceEq, Int.reduceNe, String.reduceEq, and_self, or_self, trT]
  rw [ec]
  refine ⟨by show 2 ≤ 16000000; decide, by simp, fun i acc ρ => ρ = [Sl.fz (T.tup [p.1.1, p.2.1.1, p.2.2.1]), Sl.no, Sl.no] ∧ acc = ([p.1.2, p.2.1.2].take i).map T.str, ⟨rfl, rfl⟩, ?_, ?_⟩
  · rintro i t acc ρ2 e hacc ⟨rfl, rfl⟩
    have ht : ∃ x, Ed t x ∧ [p.1.2, p.2.1.2][i]? = some x := by
      match i, e with
      | 0, e => cases e; exact ⟨_, m1, rfl⟩
      | 1, e => cases e; exact ⟨_, m2, rfl⟩
      | i + 2, e => cases e
    obtain ⟨x, hx, ex⟩ := ht
    have st : ([p.1.2, p.2.1.2].take (i + 1)).map T.str = ([p.1.2, p.2.1.2].take i).map T.str ++ [T.str x] := by
      rw [List.take_add_one, ex, List.map_append]
      rfl
    rcases hx with ⟨rfl, rfl⟩ | ⟨j, rfl, hj, rfl⟩ | ⟨rfl, hn⟩
    · simp only [↓reduceIte, ↓sSeq, ↓sAsg, ↓sIf, ↓sRet, ↓sRetN, ↓sExpr, ↓sNext, ↓sBreak, ↓sCont, ↓sAug, ↓sFor, ↓gN, ↓pIx, ↓pC, ↓pTup, ↓pLst, ↓pCons, ↓pNil, ↓pStar, ↓pOp, ↓pTB, ↓pTru, ↓pTAnd, ↓pTOr, ↓pTNot, ↓pAndV, ↓pOrV, ↓pNotV, ↓pIf, ↓pCall, ↓pLen, ↓pIsi, ↓pDget, ↓gDset, ↓gSubT, ↓PEq, ↓PNe, ↓pChain, ↓pNeg, ↓pSl, ↓pNoPart, ↓pPart, ↓pIter, ↓pRng1, ↓pRng2, ↓pEnum, ↓pRev, ↓pZip, ↓pMet, ↓pMet0, ↓pMut, ↓pLc, ↓pLRng1, ↓pLRng2, ↓pYes, ↓pRE, ↓startP, ↓pWords, ↓pSplit, ↓gLt, ↓gLe, ↓gGt, ↓gGe, ↓pV_f0, ↓pV_o0, ↓pRV_f0, ↓pRV_o0, ↓lk_f0, ↓lk_o0, ↓sRV_f0, ↓sRV_o0, ↓pV_f1, ↓pV_o1, ↓pRV_f1, ↓pRV_o1, ↓lk_f1, ↓lk_o1, ↓sRV_f1, ↓sRV_o1, ↓pV_f2, ↓pV_o2, ↓pRV_f2, ↓pRV_o2, ↓lk_f2, ↓lk_o2, ↓sRV_f2, ↓sRV_o2, ↓pV_f3, ↓pV_o3, ↓pRV_f3, ↓pRV_o3, ↓lk_f3, ↓lk_o3, ↓sRV_f3, ↓sRV_o3, ↓pV_f4, ↓pV_o4, ↓pRV_f4, ↓pRV_o4, ↓lk_f4, ↓lk_o4, ↓sRV_f4, ↓sRV_o4, ↓pV_f5, ↓pV_o5, ↓pRV_f5, ↓pRV_o5, ↓lk_f5, ↓lk_o5, ↓sRV_f5, ↓sRV_o5, ↓pV_f6, ↓pV_o6, ↓pRV_f6, ↓pRV_o6, ↓lk_f6, ↓lk_o6, ↓sRV_f6, ↓sRV_o6, ↓pV_f7, ↓pV_o7, ↓pRV_f7, ↓pRV_o7, ↓lk_f7, ↓lk_o7, ↓sRV_f7, ↓sRV_o7, ↓pV_f8, ↓pV_o8, ↓pRV_f8, ↓pRV_o8, ↓lk_f8, ↓lk_o8, ↓sRV_f8, ↓sRV_o8, ↓pV_f9, ↓pV_o9, ↓pRV_f9, ↓pRV_o9, ↓lk_f9, ↓lk_o9, ↓sRV_f9, ↓sRV_o9, ↓pV_f10, ↓pV_o10, ↓pRV_f10, ↓pRV_o10, ↓lk_f10, ↓lk_o10, ↓sRV_f10, ↓sRV_o10, ↓pV_f11, ↓pV_o11, ↓pRV_f11, ↓pRV_o11, ↓lk_f11, ↓lk_o11, ↓sRV_f11, ↓sRV_o11, ↓pV_f12, ↓pV_o12, ↓pRV_f12, ↓pRV_o12, ↓lk_f12, ↓lk_o12, ↓sRV_f12, ↓sRV_o12, ↓pV_f13, ↓pV_o13, ↓pRV_f13, ↓pRV_o13, ↓lk_f13, ↓lk_o13, ↓sRV_f13, ↓sRV_o13, ↓lk_fz, ↓of_fn, ↓of_fb, ↓of_fi, ↓of_fs, ↓of_ft, ↓of_fl, ↓of_ol, ↓of_ff, ↓ad_i, ↓ad_s, ↓ad_l, ↓ad_t, ↓su_i, ↓mu_i, ↓mu_l, ↓mo_i, ↓fd_i, ↓pw_i, ↓an_i, ↓ci_i, ↓is_n, ↓is_nn, ↓in_t, ↓in_l, ↓in_s, ↓ix_l, ↓ix_t, ↓ix_s, ↓sl_l, ↓sl_t, ↓sl_s, ↓kn_i, ↓kp_i, ↓kr1, ↓kr2, ↓ke_l, ↓kz_l, ↓kz_t, ↓klr1, ↓klr2, ↓gt_e, ↓gs_n, ↓gs_c, nc_0, nc_1, nc_2, nc_3, nc_4, nc_5, nc_6, nc_7, nc_8, nc_9, nc_10, nc_11, nc_12, eq_ii, eq_ss, eq_nn, eq_bb, eq_st, eq_ts, eq_si, eq_is, eq_it, eq_ti, cmp_i, cmp_b, cmp_n, sc_i, sc_s, sc_b, sc_n, flat_i, flat_s, flat_b, flat_n, tru_n, tru_b, tru_i, tru_t, tru_l, items_t, items_l, len_t, len_l, iter_t, iter_l, isN_n, isN_i, isN_s, isN_t, isN_l, isN_b, at_0, at_1, at_2, at_3, ib_tn, ib_tb, ib_ti, ib_ts, ib_tt, ib_tl, ib_sn, ib_sb, ib_si, ib_ss, ib_st, ib_sl, ib_in, ib_ib, ib_ii, ib_is, ib_it, ib_il, ib_bn, ib_bb, ib_bi, ib_bs, ib_bt, ib_bl, na_n, na_b, na_i, na_s, na_t, na_l, List.getElem?_cons_zero, List.getElem?_cons_succ, List.set_cons_zero, List.set_cons_succ, List.map_cons, List.map_nil, List.length_cons, List.length_nil, List.replicate_succ, List.replicate_zero, List.cons_append, List.nil_append, List.append_nil, List.isEmpty_nil, List.isEmpty_cons, List.cons.injEq, Option.some.injEq, T.int.injEq, T.str.injEq, T.bl.injEq, T.tup.injEq, T.lst.injEq, T.adr.injEq, Sl.fz.injEq, Sl.ow.injEq, exists_eq_left, exists_eq_left', exists_eq_right, exists_eq_right', exists_eq, exists_eq', exists_and_left, exists_and_right, exists_const, exists_false, and_true, true_and, and_false, false_and, or_true, true_or, or_false, false_or, not_true_eq_false, not_false_eq_true, if_true, if_false, ite_true, ite_false, Bool.not_true, Bool.not_false, Bool.true_or, Bool.or_true, Bool.false_or, Bool.or_false, Bool.true_and, Bool.and_true, Bool.false_and, Bool.and_false, Bool.false_eq_true, Bool.true_eq_false, eq_self, decide_eq_true_eq, decide_true, decide_false, Bool.decide_eq_true, Bool.not_eq_true, decide_eq_false_iff_not, Bool.and_eq_true, Bool.or_eq_true, Bool.not_eq_true', reduceCtorEq, ne_eq, Nat.le_refl, Nat.reduceAdd, Nat.reduceSub, Nat.reduceLeDiff, Nat.reduceLT, implies_true, forall_const, List.any_cons, List.any_nil, List.all_cons, List.all_nil, wipeP, restore, List.getD_eq_getElem?_getD, Option.getD_some, List.mem_singleton, forall_eq, Int.reduceLT, Int.reduceLE, Int.reduceNeg, Int.reduceSub, Int.reduceAdd, Int.reduceToNat, Int.reduceEq, Int.reduceNe, String.reduceEq, and_self, or_self]
      exact st.symm
    · simp only [↓reduceIte, ↓sSeq, ↓sAsg, ↓sIf, ↓sRet, ↓sRetN, ↓sExpr, ↓sNext, ↓sBreak, ↓sCont, ↓sAug, ↓sFor, ↓gN, ↓pIx, ↓pC, ↓pTup, ↓pLst, ↓pCons, ↓pNil, ↓pStar, ↓pOp, ↓pTB, ↓pTru, ↓pTAnd, ↓pTOr, ↓pTNot, ↓pAndV, ↓pOrV, ↓pNotV, ↓pIf, ↓pCall, ↓pLen, ↓pIsi, ↓pDget, ↓gDset, ↓gSubT, ↓PEq, ↓PNe, ↓pChain, ↓pNeg, ↓pSl, ↓pNoPart, ↓pPart, ↓pIter, ↓pRng1, ↓pRng2, ↓pEnum, ↓pRev, ↓pZip, ↓pMet, ↓pMet0, ↓pMut, ↓pLc, ↓pLRng1, ↓pLRng2, ↓pYes, ↓pRE, ↓startP, ↓pWords, ↓pSplit, ↓gLt, ↓gLe, ↓gGt, ↓gGe, ↓pV_f0, ↓pV_o0, ↓pRV_f0, ↓pRV_o0, ↓lk_f0, ↓lk_o0, ↓sRV_f0, ↓sRV_o0, ↓pV_f1, ↓pV_o1, ↓pRV_f1, ↓pRV_o1, ↓lk_f1, ↓lk_o1, ↓sRV_f1, ↓sRV_o1, ↓pV_f2, ↓pV_o2, ↓pRV_f2, ↓pRV_o2, ↓lk_f2, ↓lk_o2, ↓sRV_f2, ↓sRV_o2, ↓pV_f3, ↓pV_o3, ↓pRV_f3, ↓pRV_o3, ↓lk_f3, ↓lk_o3, ↓sRV_f3, ↓sRV_o3, ↓pV_f4, ↓pV_o4, ↓pRV_f4, ↓pRV_o4, ↓lk_f4, ↓lk_o4, ↓sRV_f4, ↓sRV_o4, ↓pV_f5, ↓pV_o5, ↓pRV_f5, ↓pRV_o5, ↓lk_f5, ↓lk_o5, ↓sRV_f5, ↓sRV_o5, ↓pV_f6, ↓pV_o6, ↓pRV_f6, ↓pRV_o6, ↓lk_f6, ↓lk_o6, ↓sRV_f6, ↓sRV_o6, ↓pV_f7, ↓pV_o7, ↓pRV_f7, ↓pRV_o7, ↓lk_f7, ↓lk_o7, ↓sRV_f7, ↓sRV_o7, ↓pV_f8, ↓pV_o8, ↓pRV_f8, ↓pRV_o8, ↓lk_f8, ↓lk_o8, ↓sRV_f8, ↓sRV_o8, ↓pV_f9, ↓pV_o9, ↓pRV_f9, ↓pRV_o9, ↓lk_f9, ↓lk_o9, ↓sRV_f9, ↓sRV_o9, ↓pV_f10, ↓pV_o10, ↓pRV_f10, ↓pRV_o10, ↓lk_f10, ↓lk_o10, ↓sRV_f10, ↓sRV_o10, ↓pV_f11, ↓pV_o11, ↓pRV_f11, ↓pRV_o11, ↓lk_f11, ↓lk_o11, ↓sRV_f11, ↓sRV_o11, ↓pV_f12, ↓pV_o12, ↓pRV_f12, ↓pRV_o12, ↓lk_f12, ↓lk_o12, ↓sRV_f12, ↓sRV_o12, ↓pV_f13, ↓pV_o13, ↓pRV_f13, ↓pRV_o13, ↓lk_f13, ↓lk_o13, ↓sRV_f13, ↓sRV_o13, ↓lk_fz, ↓of_fn, ↓of_fb, ↓of_fi, ↓of_fs, ↓of_ft, ↓of_fl, ↓of_ol, ↓of_ff, ↓ad_i, ↓ad_s, ↓ad_l, ↓ad_t, ↓su_i, ↓mu_i, ↓mu_l, ↓mo_i, ↓fd_i, ↓pw_i, ↓an_i, ↓ci_i, ↓is_n, ↓is_nn, ↓in_t, ↓in_l, ↓in_s, ↓ix_l, ↓ix_t, ↓ix_s, ↓sl_l, ↓sl_t, ↓sl_s, ↓kn_i, ↓kp_i, ↓kr1, ↓kr2, ↓ke_l, ↓kz_l, ↓kz_t, ↓klr1, ↓klr2, ↓gt_e, ↓gs_n, ↓gs_c, nc_0, nc_1, nc_2, nc_3, nc_4, nc_5, nc_6, nc_7, nc_8, nc_9, nc_10, nc_11, nc_12, eq_ii, eq_ss, eq_nn, eq_bb, eq_st, eq_ts, eq_si, eq_is, eq_it, eq_ti, cmp_i, cmp_b, cmp_n, sc_i, sc_s, sc_b, sc_n, flat_i, flat_s, flat_b, flat_n, tru_n, tru_b, tru_i, tru_t, tru_l, items_t, items_l, len_t, len_l, iter_t, iter_l, isN_n, isN_i, isN_s, isN_t, isN_l, isN_b, at_0, at_1, at_2, at_3, ib_tn, ib_tb, ib_ti, ib_ts, ib_tt, ib_tl, ib_sn, ib_sb, ib_si, ib_ss, ib_st, ib_sl, ib_in, ib_ib, ib_ii, ib_is, ib_it, ib_il, ib_bn, ib_bb, ib_bi, ib_bs, ib_bt, ib_bl, na_n, na_b, na_i, na_s, na_t, na_l, List.getElem?_cons_zero, List.getElem?_cons_succ, List.set_cons_zero, List.set_cons_succ, List.map_cons, List.map_nil, List.length_cons, List.length_nil, List.replicate_succ, List.replicate_zero, List.cons_append, List.nil_append, List.append_nil, List.isEmpty_nil, List.isEmpty_cons, List.cons.injEq, Option.some.injEq, T.int.injEq, T.str.injEq, T.bl.injEq, T.tup.injEq, T.lst.injEq, T.adr.injEq, Sl.fz.injEq, Sl.ow.injEq, exists_eq_left, exists_eq_left', exists_eq_right, exists_eq_right', exists_eq, exists_eq', exists_and_left, exists_and_right, exists_const, exists_false, and_true, true_and, and_false, false_and, or_true, true_or, or_false, false_or, not_true_eq_false, not_false_eq_true, if_true, if_false, ite_true, ite_false, Bool.not_true, Bool.not_false, Bool.true_or, Bool.or_true, Bool.false_or, Bool.or_false, Bool.true_and, Bool.and_true, Bool.false_and, Bool.and_false, Bool.false_eq_true, Bool.true_eq_false, eq_self, decide_eq_true_eq, decide_true, decide_false, Bool.decide_eq_true, Bool.not_eq_true, decide_eq_false_iff_not, Bool.and_eq_true, Bool.or_eq_true, Bool.not_eq_true', reduceCtorEq, ne_eq, Nat.le_refl, Nat.reduceAdd, Nat.reduceSub, Nat.reduceLeDiff, Nat.reduceLT, implies_true, forall_const, List.any_cons, List.any_nil, List.all_cons, List.all_nil, wipeP, restore, List.getD_eq_getElem?_getD, Option.getD_some, List.mem_singleton, forall_eq, Int.reduceLT, Int.reduceLE, Int.reduceNeg, Int.reduceSub, Int.reduceAdd, Int.reduceToNat, Int.reduceEq, Int.reduceNe, String.reduceEq, and_self, or_self]
      exact ⟨log_ib hj, st.symm⟩
    · simp only [↓reduceIte, ↓sSeq, ↓sAsg, ↓sIf, ↓sRet, ↓sRetN, ↓sExpr, ↓sNext, ↓sBreak, ↓sCont, ↓sAug, ↓sFor, ↓gN, ↓pIx, ↓pC, ↓pTup, ↓pLst, ↓pCons, ↓pNil, ↓pStar, ↓pOp, ↓pTB, ↓pTru, ↓pTAnd, ↓pTOr, ↓pTNot, ↓pAndV, ↓pOrV, ↓pNotV, ↓pIf, ↓pCall, ↓pLen, ↓pIsi, ↓pDget, ↓gDset, ↓gSubT, ↓PEq, ↓PNe, ↓pChain, ↓pNeg, ↓pSl, ↓pNoPart, ↓pPart, ↓pIter, ↓pRng1, ↓pRng2, ↓pEnum, ↓pRev, ↓pZip, ↓pMet, ↓pMet0, ↓pMut, ↓pLc, ↓pLRng1, ↓pLRng2, ↓pYes, ↓pRE, ↓startP, ↓pWords, ↓pSplit, ↓gLt, ↓gLe, ↓gGt, ↓gGe, ↓pV_f0, ↓pV_o0, ↓pRV_f0, ↓pRV_o0, ↓lk_f0, ↓lk_o0, ↓sRV_f0, ↓sRV_o0, ↓pV_f1, ↓pV_o1, ↓pRV_f1, ↓pRV_o1, ↓lk_f1, ↓lk_o1, ↓sRV_f1, ↓sRV_o1, ↓pV_f2, ↓pV_o2, ↓pRV_f2, ↓pRV_o2, ↓lk_f2, ↓lk_o2, ↓sRV_f2, ↓sRV_o2, ↓pV_f3, ↓pV_o3, ↓pRV_f3, ↓pRV_o3, ↓lk_f3, ↓lk_o3, ↓sRV_f3, ↓sRV_o3, ↓pV_f4, ↓pV_o4, ↓pRV_f4, ↓pRV_o4, ↓lk_f4, ↓lk_o4, ↓sRV_f4, ↓sRV_o4, ↓pV_f5, ↓pV_o5, ↓pRV_f5, ↓pRV_o5, ↓lk_f5, ↓lk_o5, ↓sRV_f5, ↓sRV_o5, ↓pV_f6, ↓pV_o6, ↓pRV_f6, ↓pRV_o6, ↓lk_f6, ↓lk_o6, ↓sRV_f6, ↓sRV_o6, ↓pV_f7, ↓pV_o7, ↓pRV_f7, ↓pRV_o7, ↓lk_f7, ↓lk_o7, ↓sRV_f7, ↓sRV_o7, ↓pV_f8, ↓pV_o8, ↓pRV_f8, ↓pRV_o8, ↓lk_f8, ↓lk_o8, ↓sRV_f8, ↓sRV_o8, ↓pV_f9, ↓pV_o9, ↓pRV_f9, ↓pRV_o9, ↓lk_f9, ↓lk_o9, ↓sRV_f9, ↓sRV_o9, ↓pV_f10, ↓pV_o10, ↓pRV_f10, ↓pRV_o10, ↓lk_f10, ↓lk_o10, ↓sRV_f10, ↓sRV_o10, ↓pV_f11, ↓pV_o11, ↓pRV_f11, ↓pRV_o11, ↓lk_f11, ↓lk_o11, ↓sRV_f11, ↓sRV_o11, ↓pV_f12, ↓pV_o12, ↓pRV_f12, ↓pRV_o12, ↓lk_f12, ↓lk_o12, ↓sRV_f12, ↓sRV_o12, ↓pV_f13, ↓pV_o13, ↓pRV_f13, ↓pRV_o13, ↓lk_f13, ↓lk_o13, ↓sRV_f13, ↓sRV_o13, ↓lk_fz, ↓of_fn, ↓of_fb, ↓of_fi, ↓of_fs, ↓of_ft, ↓of_fl, ↓of_ol, ↓of_ff, ↓ad_i, ↓ad_s, ↓ad_l, ↓ad_t, ↓su_i, ↓mu_i, ↓mu_l, ↓mo_i, ↓fd_i, ↓pw_i, ↓an_i, ↓ci_i, ↓is_n, ↓is_nn, ↓in_t, ↓in_l, ↓in_s, ↓ix_l, ↓ix_t, ↓ix_s, ↓sl_l, ↓sl_t, ↓sl_s, ↓kn_i, ↓kp_i, ↓kr1, ↓kr2, ↓ke_l, ↓kz_l, ↓kz_t, ↓klr1, ↓klr2, ↓gt_e, ↓gs_n, ↓gs_c, nc_0, nc_1, nc_2, nc_3, nc_4, nc_5, nc_6, nc_7, nc_8, nc_9, nc_10, nc_11, nc_12, eq_ii, eq_ss, eq_nn, eq_bb, eq_st, eq_ts, eq_si, eq_is, eq_it, eq_ti, cmp_i, cmp_b, cmp_n, sc_i, sc_s, sc_b, sc_n, flat_i, flat_s, flat_b, flat_n, tru_n, tru_b, tru_i, tru_t, tru_l, items_t, items_l, len_t, len_l, iter_t, iter_l, isN_n, isN_i, isN_s, isN_t, isN_l, isN_b, at_0, at_1, at_2, at_3, ib_tn, ib_tb, ib_ti, ib_ts, ib_tt, ib_tl, ib_sn, ib_sb, ib_si, ib_ss, ib_st, ib_sl, ib_in, ib_ib, ib_ii, ib_is, ib_it, ib_il, ib_bn, ib_bb, ib_bi, ib_bs, ib_bt, ib_bl, na_n, na_b, na_i, na_s, na_t, na_l, List.getElem?_cons_zero, List.getElem?_cons_succ, List.set_cons_zero, List.set_cons_succ, List.map_cons, List.map_nil, List.length_cons, List.length_nil, List.replicate_succ, List.replicate_zero, List.cons_append, List.nil_append, List.append_nil, List.isEmpty_nil, List.isEmpty_cons, List.cons.injEq, Option.some.injEq, T.int.injEq, T.str.injEq, T.bl.injEq, T.tup.injEq, T.lst.injEq, T.adr.injEq, Sl.fz.injEq, Sl.ow.injEq, exists_eq_left, exists_eq_left', exists_eq_right, exists_eq_right', exists_eq, exists_eq', exists_and_left, exists_and_right, exists_const, exists_false, and_true, true_and, and_false, false_and, or_true, true_or, or_false, false_or, not_true_eq_false, not_false_eq_true, if_true, if_false, ite_true, ite_false, Bool.not_true, Bool.not_false, Bool.true_or, Bool.or_true, Bool.false_or, Bool.or_false, Bool.true_and, Bool.and_true, Bool.false_and, Bool.and_false, Bool.false_eq_true, Bool.true_eq_false, eq_self, decide_eq_true_eq, decide_true, decide_false, Bool.decide_eq_true, Bool.not_eq_true, decide_eq_false_iff_not, Bool.and_eq_true, Bool.or_eq_true, Bool.not_eq_true', reduceCtorEq, ne_eq, Nat.le_refl, Nat.reduceAdd, Nat.reduceSub, Nat.reduceLeDiff, Nat.reduceLT, implies_true, forall_const, List.any_cons, List.any_nil, List.all_cons, List.all_nil, wipeP, restore, List.getD_eq_getElem?_getD, Option.getD_some, List.mem_singleton, forall_eq, Int.reduceLT, Int.reduceLE, Int.reduceNeg, Int.reduceSub, Int.reduceAdd, Int.reduceToNat, Int.reduceEq, Int.reduceNe, String.reduceEq, and_self, or_self]
      exact st.symm
  · rintro acc ρ2 hacc ⟨rfl, rfl⟩
    have ea : ([p.1.2, p.2.1.2].take [p.1.1, p.2.1.1].length).map T.str = [T.str p.1.2, T.str p.2.1.2] := rfl
    rw [ea]
    simp only [↓reduceIte, ↓sSeq, ↓sAsg, ↓sIf, ↓sRet, ↓sRetN, ↓sExpr, ↓sNext, ↓sBreak, ↓sCont, ↓sAug, ↓sFor, ↓gN, ↓pIx, ↓pC, ↓pTup, ↓pLst, ↓pCons, ↓pNil, ↓pStar, ↓pOp, ↓pTB, ↓pTru, ↓pTAnd, ↓pTOr, ↓pTNot, ↓pAndV, ↓pOrV, ↓pNotV, ↓pIf, ↓pCall, ↓pLen, ↓pIsi, ↓pDget, ↓gDset, ↓gSubT, ↓PEq, ↓PNe, ↓pChain, ↓pNeg, ↓pSl, ↓pNoPart, ↓pPart, ↓pIter, ↓pRng1, ↓pRng2, ↓pEnum, ↓pRev, ↓pZip, ↓pMet, ↓pMet0, ↓pMut, ↓pLc, ↓pLRng1, ↓pLRng2, ↓pYes, ↓pRE, ↓startP, ↓pWords, ↓pSplit, ↓gLt, ↓gLe, ↓gGt, ↓gGe, ↓pV_f0, ↓pV_o0, ↓pRV_f0, ↓pRV_o0, ↓lk_f0, ↓lk_o0, ↓sRV_f0, ↓sRV_o0, ↓pV_f1, ↓pV_o1, ↓pRV_f1, ↓pRV_o1, ↓lk_f1, ↓lk_o1, ↓sRV_f1, ↓sRV_o1, ↓pV_f2, ↓pV_o2, ↓pRV_f2, ↓pRV_o2, ↓lk_f2, ↓lk_o2, ↓sRV_f2, ↓sRV_o2, ↓pV_f3, ↓pV_o3, ↓pRV_f3, ↓pRV_o3, ↓lk_f3, ↓lk_o3, ↓sRV_f3, ↓sRV_o3, ↓pV_f4, ↓pV_o4, ↓pRV_f4, ↓pRV_o4, ↓lk_f4, ↓lk_o4, ↓sRV_f4, ↓sRV_o4, ↓pV_f5, ↓pV_o5, ↓pRV_f5, ↓pRV_o5, ↓lk_f5, ↓lk_o5, ↓sRV_f5, ↓sRV_o5, ↓pV_f6, ↓pV_o6, ↓pRV_f6, ↓pRV_o6, ↓lk_f6, ↓lk_o6, ↓sRV_f6, ↓sRV_o6, ↓pV_f7, ↓pV_o7, ↓pRV_f7, ↓pRV_o7, ↓lk_f7, ↓lk_o7, ↓sRV_f7, ↓sRV_o7, ↓pV_f8, ↓pV_o8, ↓pRV_f8, ↓pRV_o8, ↓lk_f8, ↓lk_o8, ↓sRV_f8, ↓sRV_o8, ↓pV_f9, ↓pV_o9, ↓pRV_f9, ↓pRV_o9, ↓lk_f9, ↓lk_o9, ↓sRV_f9, ↓sRV_o9, ↓pV_f10, ↓pV_o10, ↓pRV_f10, ↓pRV_o10, ↓lk_f10, ↓lk_o10, ↓sRV_f10, ↓sRV_o10, ↓pV_f11, ↓pV_o11, ↓pRV_f11, ↓pRV_o11, ↓lk_f11, ↓lk_o11, ↓sRV_f11, ↓sRV_o11, ↓pV_f12, ↓pV_o12, ↓pRV_f12, ↓pRV_o12, ↓lk_f12, ↓lk_o12, ↓sRV_f12, ↓sRV_o12, ↓pV_f13, ↓pV_o13, ↓pRV_f13, ↓pRV_o13, ↓lk_f13, ↓lk_o13, ↓sRV_f13, ↓sRV_o13, ↓lk_fz, ↓of_fn, ↓of_fb, ↓of_fi, ↓of_fs, ↓of_ft, ↓of_fl, ↓of_ol, ↓of_ff, ↓ad_i, ↓ad_s, ↓ad_l, ↓ad_t, ↓su_i, ↓mu_i, ↓mu_l, ↓mo_i, ↓fd_i, ↓pw_i, ↓an_i, ↓ci_i, ↓is_n, ↓is_nn, ↓in_t, ↓in_l, ↓in_s, ↓ix_l, ↓ix_t, ↓ix_s, ↓sl_l, ↓sl_t, ↓sl_s, ↓kn_i, ↓kp_i, ↓kr1, ↓kr2, ↓ke_l, ↓kz_l, ↓kz_t, ↓klr1, ↓klr2, ↓gt_e, ↓gs_n, ↓gs_c, nc_0, nc_1, nc_2, nc_3, nc_4, nc_5, nc_6, nc_7, nc_8, nc_9, nc_10, nc_11, nc_12, eq_ii, eq_ss, eq_nn, eq_bb, eq_st, eq_ts, eq_si, eq_is, eq_it, eq_ti, cmp_i, cmp_b, cmp_n, sc_i, sc_s, sc_b, sc_n, flat_i, flat_s, flat_b, flat_n, tru_n, tru_b, tru_i, tru_t, tru_l, items_t, items_l, len_t, len_l, iter_t, iter_l, isN_n, isN_i, isN_s, isN_t, isN_l, isN_b, at_0, at_1, at_2, at_3, ib_tn, ib_tb, ib_ti, ib_ts, ib_tt, ib_tl, ib_sn, ib_sb, ib_si, ib_ss, ib_st, ib_sl, ib_in, ib_ib, ib_ii, ib_is, ib_it, ib_il, ib_bn, ib_bb, ib_bi, ib_bs, ib_bt, ib_bl, na_n, na_b, na_i, na_s, na_t, na_l, List.getElem?_cons_zero, List.getElem?_cons_succ, List.set_cons_zero, List.set_cons_succ, List.map_cons, List.map_nil, List.length_cons, List.length_nil, List.replicate_succ, List.replicate_zero, List.cons_append, List.nil_append, List.append_nil, List.isEmpty_nil, List.isEmpty_cons, List.cons.injEq, Option.some.injEq, T.int.injEq, T.str.injEq, T.bl.injEq, T.tup.injEq, T.lst.injEq, T.adr.injEq, Sl.fz.injEq, Sl.ow.injEq, exists_eq_left, exists_eq_left', exists_eq_right, exists_eq_right', exists_eq, exists_eq', exists_and_left, exists_and_right, exists_const, exists_false, and_true, true_and, and_false, false_and, or_true, true_or, or_false, false_or, not_true_eq_false, not_false_eq_true, if_true, if_false, ite_true, ite_false, Bool.not_true, Bool.not_false, Bool.true_or, Bool.or_true, Bool.false_or, Bool.or_false, Bool.true_and, Bool.and_true, Bool.false_and, Bool.and_false, Bool.false_eq_true, Bool.true_eq_false, eq_self, decide_eq_true_eq, decide_true, decide_false, Bool.decide_eq_true, Bool.not_eq_true, decide_eq_false_iff_not, Bool.and_eq_true, Bool.or_eq_true, Bool.not_eq_true', reduceCtorEq, ne_eq, Nat.le_refl, Nat.reduceAdd, Nat.reduceSub, Nat.reduceLeDiff, Nat.reduceLT, implies_true, forall_const, List.any_cons, List.any_nil, List.all_cons, List.all_nil, wipeP, restore, List.getD_eq_getElem?_getD, Option.getD_some, List.mem_singleton, forall_eq, Int.reduceLT, Int.reduceLE, Int.reduceNeg, Int.reduceSub, Int.reduceAdd, Int.reduceToNat, Int.reduceEq, Int.reduceNe, String.reduceEq, and_self, or_self, pfWX]
    refine ⟨by omega, by rw [slen]; omega, by rw [slen, slen]; omega, _, m3, by omega, by rw [slen, slen, slen]; omega, ?_⟩
    rw [c3, c4]
    simp only [sapp]
    exact h
theorem ok_way_text {W : Wld} {k : Nat} {n : Nat} (D : Df K mg "_law_way_text" s_way_text)
    (C_value_text : CalQ P w K mg base (W) "_law_value_text" k ["_law_value"] (pfVX 2))
    (C_way_text : CalQ P w K mg base (W) "_law_way_text" k ["_law_way"] (pfWX n))
    (C_trio_text : CalQ P w K mg base (W) "_law_trio_text" k ["_law_trio"] (pfTX n)) (m_len : mg "len" = none) :
    CalQ P w K mg base (W) "_law_way_text" (k + 1) ["_law_way"] (pfWX (n + 1)) := by
  refine CalQ.mk D sc_way_text (fun _ _ _ _ _ _ us h => match us, h with | [_], _ => rfl) (fun ts Φ h => by first | (obtain ⟨rfl, _⟩ := h; rfl) | (obtain ⟨_, rfl, _⟩ := h; rfl) | (obtain ⟨_, _, rfl, _⟩ := h; rfl) | (obtain ⟨_, _, _, rfl, _⟩ := h; rfl) | (obtain ⟨_, _, _, _, rfl, _⟩ := h; rfl)) (fun f cdv A outer s H E hr => ?_)
  refine ⟨_, qss_cons (qs_set (i := 1) sc_way_text.nd rfl (.inl rfl) (qe_ix (qr_name (pv 0)) qe_int (fun _ _ => rfl)))
    (qss_cons (qs_if (qt_cmp (oq_eq hr.units) (qe_len (by rfl) m_len (qr_name (pv 0))) qe_int (nomark _))
    (qss_one (qs_retV (pv 1)))
    (qss_nil))
    (qss_cons (qs_if (QW.qt (qw_or (qt_cmp (oq_eq hr.units) (qe_name (pv 1)) qe_str (nomark _)) (qw_or1 (qt_cmp (oq_eq hr.units) (qe_name (pv 1)) qe_str (nomark _)))))
    (qss_one (qs_ret (qe_op oq_add (qe_op oq_add (qe_op oq_add (qe_op oq_add (qe_name (pv 1)) qe_str) (qe_call C_value_text (hr.mono (by omega)) (by rfl) (qa_cons (qe_ix (qr_name (pv 0)) qe_int (fun _ _ => rfl)) qa_nil))) qe_str) (qe_call C_value_text (hr.mono (by omega)) (by rfl) (qa_cons (qe_ix (qr_name (pv 0)) qe_int (fun _ _ => rfl)) qa_nil)))))
    (qss_nil))
    (qss_cons (qs_if (QW.qt (qw_or (qt_cmp (oq_eq hr.units) (qe_name (pv 1)) qe_str (nomark _)) (qw_or1 (qt_cmp (oq_eq hr.units) (qe_name (pv 1)) qe_str (nomark _)))))
    (qss_one (qs_ret (qe_op oq_add (qe_op oq_add (qe_op oq_add (qe_op oq_add (qe_name (pv 1)) qe_str) (qe_call C_value_text (hr.mono (by omega)) (by rfl) (qa_cons (qe_ix (qr_name (pv 0)) qe_int (fun _ _ => rfl)) qa_nil))) qe_str) (qe_call C_way_text (hr.mono (by omega)) (by rfl) (qa_cons (qe_ix (qr_name (pv 0)) qe_int (fun _ _ => rfl)) qa_nil)))))
    (qss_nil))
    (qss_cons (qs_if (QW.qt (qw_or (qt_cmp (oq_eq hr.units) (qe_name (pv 1)) qe_str (nomark _)) (qw_or1 (qt_cmp (oq_eq hr.units) (qe_name (pv 1)) qe_str (nomark _)))))
    (qss_one (qs_ret (qe_op oq_add (qe_op oq_add (qe_name (pv 1)) qe_str) (qe_call C_way_text (hr.mono (by omega)) (by rfl) (qa_cons (qe_ix (qr_name (pv 0)) qe_int (fun _ _ => rfl)) qa_nil)))))
    (qss_nil))
    (qss_one (qs_ret (qe_op oq_add (qe_op oq_add (qe_op oq_add (qe_name (pv 1)) qe_str) (qe_met PySem.F.plainAttrs_str PySem.F.slot_str_join PySem.F.type_str_join me_join (qr_of qe_str) (qa_cons (qe_lc rfl (own := [("_law_trio", 2)]) sc_way_text.nd (by decide) (qi_val (qe_ix (qr_name (pv 0)) qe_int (fun _ _ => rfl))) (blkOk_by (N := ["_law_way", "_law_word", "_law_trio"]) (sc := defScope s_way_text) (by decide +kernel)) (fun _ _ _ _ _ => (qg_name (pg_name (i := 2) sc_way_text.nd rfl (.inl rfl)))) (fun _ _ _ _ _ => qts_nil) (fun _ _ _ _ _ => (qe_op oq_add (qe_call C_trio_text (hr.mono (by omega)) (by rfl) (qa_cons (qe_name (pv 2)) qa_nil)) qe_str))) qa_nil))) qe_str))))))), ?_⟩
  intro ts Φ h
  obtain ⟨t, s, rfl, hk, hn, h⟩ := h
  rcases hk with ⟨w, hw, rfl, rfl⟩ | ⟨w, u, v, hw, rfl, hu, hv, rfl⟩ | ⟨w, k, v, s', hw, rfl, hv, hk, rfl⟩ | ⟨w, k, s', hw, rfl, hk, rfl⟩ | ⟨w, l, hw, rfl, hl, rfl⟩
  · rw [J_one] at h
    simp only [↓reduceIte, ↓sSeq, ↓sAsg, ↓sIf, ↓sRet, ↓sRetN, ↓sExpr, ↓sNext, ↓sBreak, ↓sCont, ↓sAug, ↓sFor, ↓gN, ↓pIx, ↓pC, ↓pTup, ↓pLst, ↓pCons, ↓pNil, ↓pStar, ↓pOp, ↓pTB, ↓pTru, ↓pTAnd, ↓pTOr, ↓pTNot, ↓pAndV, ↓pOrV, ↓pNotV, ↓pIf, ↓pCall, ↓pLen, ↓pIsi, ↓pDget, ↓gDset, ↓gSubT, ↓PEq, ↓PNe, ↓pChain, ↓pNeg, ↓pSl, ↓pNoPart, ↓pPart, ↓pIter, ↓pRng1, ↓pRng2, ↓pEnum, ↓pRev, ↓pZip, ↓pMet, ↓pMet0, ↓pMut, ↓pLc, ↓pLRng1, ↓pLRng2, ↓pYes, ↓pRE, ↓startP, ↓pWords, ↓pSplit, ↓gLt, ↓gLe, ↓gGt, ↓gGe, ↓pV_f0, ↓pV_o0, ↓pRV_f0, ↓pRV_o0, ↓lk_f0, ↓lk_o0, ↓sRV_f0, ↓sRV_o0, ↓pV_f1, ↓pV_o1, ↓pRV_f1, ↓pRV_o1, ↓lk_f1, ↓lk_o1, ↓sRV_f1, ↓sRV_o1, ↓pV_f2, ↓pV_o2, ↓pRV_f2, ↓pRV_o2, ↓lk_f2, ↓lk_o2, ↓sRV_f2, ↓sRV_o2, ↓pV_f3, ↓pV_o3, ↓pRV_f3, ↓pRV_o3, ↓lk_f3, ↓lk_o3, ↓sRV_f3, ↓sRV_o3, ↓pV_f4, ↓pV_o4, ↓pRV_f4, ↓pRV_o4, ↓lk_f4, ↓lk_o4, ↓sRV_f4, ↓sRV_o4, ↓pV_f5, ↓pV_o5, ↓pRV_f5, ↓pRV_o5, ↓lk_f5, ↓lk_o5, ↓sRV_f5, ↓sRV_o5, ↓pV_f6, ↓pV_o6, ↓pRV_f6, ↓pRV_o6, ↓lk_f6, ↓lk_o6, ↓sRV_f6, ↓sRV_o6, ↓pV_f7, ↓pV_o7, ↓pRV_f7, ↓pRV_o7, ↓lk_f7, ↓lk_o7, ↓sRV_f7, ↓sRV_o7, ↓pV_f8, ↓pV_o8, ↓pRV_f8, ↓pRV_o8, ↓lk_f8, ↓lk_o8, ↓sRV_f8, ↓sRV_o8, ↓pV_f9, ↓pV_o9, ↓pRV_f9, ↓pRV_o9, ↓lk_f9, ↓lk_o9, ↓sRV_f9, ↓sRV_o9, ↓pV_f10, ↓pV_o10, ↓pRV_f10, ↓pRV_o10, ↓lk_f10, ↓lk_o10, ↓sRV_f10, ↓sRV_o10, ↓pV_f11, ↓pV_o11, ↓pRV_f11, ↓pRV_o11, ↓lk_f11, ↓lk_o11, ↓sRV_f11, ↓sRV_o11, ↓pV_f12, ↓pV_o12, ↓pRV_f12, ↓pRV_o12, ↓lk_f12, ↓lk_o12, ↓sRV_f12, ↓sRV_o12, ↓pV_f13, ↓pV_o13, ↓pRV_f13, ↓pRV_o13, ↓lk_f13, ↓lk_o13, ↓sRV_f13, ↓sRV_o13, ↓lk_fz, ↓of_fn, ↓of_fb, ↓of_fi, ↓of_fs, ↓of_ft, ↓of_fl, ↓of_ol, ↓of_ff, ↓ad_i, ↓ad_s, ↓ad_l, ↓ad_t, ↓su_i, ↓mu_i, ↓mu_l, ↓mo_i, ↓fd_i, ↓pw_i, ↓an_i, ↓ci_i, ↓is_n, ↓is_nn, ↓in_t, ↓in_l, ↓in_s, ↓ix_l, ↓ix_t, ↓ix_s, ↓sl_l, ↓sl_t, ↓sl_s, ↓kn_i, ↓kp_i, ↓kr1, ↓kr2, ↓ke_l, ↓kz_l, ↓kz_t, ↓klr1, ↓klr2, ↓gt_e, ↓gs_n, ↓gs_c, nc_0, nc_1, nc_2, nc_3, nc_4, nc_5, nc_6, nc_7, nc_8, nc_9, nc_10, nc_11, nc_12, eq_ii, eq_ss, eq_nn, eq_bb, eq_st, eq_ts, eq_si, eq_is, eq_it, eq_ti, cmp_i, cmp_b, cmp_n, sc_i, sc_s, sc_b, sc_n, flat_i, flat_s, flat_b, flat_n, tru_n, tru_b, tru_i, tru_t, tru_l, items_t, items_l, len_t, len_l, iter_t, iter_l, isN_n, isN_i, isN_s, isN_t, isN_l, isN_b, at_0, at_1, at_2, at_3, ib_tn, ib_tb, ib_ti, ib_ts, ib_tt, ib_tl, ib_sn, ib_sb, ib_si, ib_ss, ib_st, ib_sl, ib_in, ib_ib, ib_ii, ib_is, ib_it, ib_il, ib_bn, ib_bb, ib_bi, ib_bs, ib_bt, ib_bl, na_n, na_b, na_i, na_s, na_t, na_l, List.getElem?_cons_zero, List.getElem?_cons_succ, List.set_cons_zero, List.set_cons_succ, List.map_cons, List.map_nil, List.length_cons, List.length_nil, List.replicate_succ, List.replicate_zero, List.cons_append, List.nil_append, List.append_nil, List.isEmpty_nil, List.isEmpty_cons, List.cons.injEq, Option.some.injEq, T.int.injEq, T.str.injEq, T.bl.injEq, T.tup.injEq, T.lst.injEq, T.adr.injEq, Sl.fz.injEq, Sl.ow.injEq, exists_eq_left, exists_eq_left', exists_eq_right, exists_eq_right', exists_eq, exists_eq', exists_and_left, exists_and_right, exists_const, exists_false, and_true, true_and, and_false, false_and, or_true, true_or, or_false, false_or, not_true_eq_false, not_false_eq_true, if_true, if_false, ite_true, ite_false, Bool.not_true, Bool.not_false, Bool.true_or, Bool.or_true, Bool.false_or, Bool.or_false, Bool.true_and, Bool.and_true, Bool.false_and, Bool.and_false, Bool.false_eq_true, Bool.true_eq_false, eq_self, decide_eq_true_eq, decide_true, decide_false, Bool.decide_eq_true, Bool.not_eq_true, decide_eq_false_iff_not, Bool.and_eq_true, Bool.or_eq_true, Bool.not_eq_true', reduceCtorEq, ne_eq, Nat.le_refl, Nat.reduceAdd, Nat.reduceSub, Nat.reduceLeDiff, Nat.reduceLT, implies_true, forall_const, List.any_cons, List.any_nil, List.all_cons, List.all_nil, wipeP, restore, List.getD_eq_getElem?_getD, Option.getD_some, List.mem_singleton, forall_eq, Int.reduceLT, Int.reduceLE, Int.reduceNeg, Int.reduceSub, Int.reduceAdd, Int.reduceToNat, Int.reduceEq, Int.reduceNe, String.reduceEq, and_self, or_self]
    exact h
  · have lw : w.length = 5 := by rcases hw with rfl | rfl <;> decide +kernel
    have l1 := join_len _ (vt_ok 2 u hu.1)
    have l2 := join_len _ (vt_ok 2 v hv.1)
    have l3 : (Str.ofString " ").length = 1 := by decide +kernel
    rw [List.length_cons, List.length_append] at hn
    rw [J_cons _ (by simp [vt_ne hu.1]), J_app (vt_ne hu.1) (vt_ne hv.1)] at h
    rcases hw with rfl | rfl
    · simp only [↓reduceIte, ↓sSeq, ↓sAsg, ↓sIf, ↓sRet, ↓sRetN, ↓sExpr, ↓sNext, ↓sBreak, ↓sCont, ↓sAug, ↓sFor, ↓gN, ↓pIx, ↓pC, ↓pTup, ↓pLst, ↓pCons, ↓pNil, ↓pStar, ↓pOp, ↓pTB, ↓pTru, ↓pTAnd, ↓pTOr, ↓pTNot, ↓pAndV, ↓pOrV, ↓pNotV, ↓pIf, ↓pCall, ↓pLen, ↓pIsi, ↓pDget, ↓gDset, ↓gSubT, ↓PEq, ↓PNe, ↓pChain, ↓pNeg, ↓pSl, ↓pNoPart, ↓pPart, ↓pIter, ↓pRng1, ↓pRng2, ↓pEnum, ↓pRev, ↓pZip, ↓pMet, ↓pMet0, ↓pMut, ↓pLc, ↓pLRng1, ↓pLRng2, ↓pYes, ↓pRE, ↓startP, ↓pWords, ↓pSplit, ↓gLt, ↓gLe, ↓gGt, ↓gGe, ↓pV_f0, ↓pV_o0, ↓pRV_f0, ↓pRV_o0, ↓lk_f0, ↓lk_o0, ↓sRV_f0, ↓sRV_o0, ↓pV_f1, ↓pV_o1, ↓pRV_f1, ↓pRV_o1, ↓lk_f1, ↓lk_o1, ↓sRV_f1, ↓sRV_o1, ↓pV_f2, ↓pV_o2, ↓pRV_f2, ↓pRV_o2, ↓lk_f2, ↓lk_o2, ↓sRV_f2, ↓sRV_o2, ↓pV_f3, ↓pV_o3, ↓pRV_f3, ↓pRV_o3, ↓lk_f3, ↓lk_o3, ↓sRV_f3, ↓sRV_o3, ↓pV_f4, ↓pV_o4, ↓pRV_f4, ↓pRV_o4, ↓lk_f4, ↓lk_o4, ↓sRV_f4, ↓sRV_o4, ↓pV_f5, ↓pV_o5, ↓pRV_f5, ↓pRV_o5, ↓lk_f5, ↓lk_o5, ↓sRV_f5, ↓sRV_o5, ↓pV_f6, ↓pV_o6, ↓pRV_f6, ↓pRV_o6, ↓lk_f6, ↓lk_o6, ↓sRV_f6, ↓sRV_o6, ↓pV_f7, ↓pV_o7, ↓pRV_f7, ↓pRV_o7, ↓lk_f7, ↓lk_o7, ↓sRV_f7, ↓sRV_o7, ↓pV_f8, ↓pV_o8, ↓pRV_f8, ↓pRV_o8, ↓lk_f8, ↓lk_o8, ↓sRV_f8, ↓sRV_o8, ↓pV_f9, ↓pV_o9, ↓pRV_f9, ↓pRV_o9, ↓lk_f9, ↓lk_o9, ↓sRV_f9, ↓sRV_o9, ↓pV_f10, ↓pV_o10, ↓pRV_f10, ↓pRV_o10, ↓lk_f10, ↓lk_o10, ↓sRV_f10, ↓sRV_o10, ↓pV_f11, ↓pV_o11, ↓pRV_f11, ↓pRV_o11, ↓lk_f11, ↓lk_o11, ↓sRV_f11, ↓sRV_o11, ↓pV_f12, ↓pV_o12, ↓pRV_f12, ↓pRV_o12, ↓lk_f12, ↓lk_o12, ↓sRV_f12, ↓sRV_o12, ↓pV_f13, ↓pV_o13, ↓pRV_f13, ↓pRV_o13, ↓lk_f13, ↓lk_o13, ↓sRV_f13, ↓sRV_o13, ↓lk_fz, ↓of_fn, ↓of_fb, ↓of_fi, ↓of_fs, ↓of_ft, ↓of_fl, ↓of_ol, ↓of_ff, ↓ad_i, ↓ad_s, ↓ad_l, ↓ad_t, ↓su_i, ↓mu_i, ↓mu_l, ↓mo_i, ↓fd_i, ↓pw_i, ↓an_i, ↓ci_i, ↓is_n, ↓is_nn, ↓in_t, ↓in_l, ↓in_s, ↓ix_l, ↓ix_t, ↓ix_s, ↓sl_l, ↓sl_t, ↓sl_s, ↓kn_i, ↓kp_i, ↓kr1, ↓kr2, ↓ke_l, ↓kz_l, ↓kz_t, ↓klr1, ↓klr2, ↓gt_e, ↓gs_n, ↓gs_c, nc_0, nc_1, nc_2, nc_3, nc_4, nc_5, nc_6, nc_7, nc_8, nc_9, nc_10, nc_11, nc_12, eq_ii, eq_ss, eq_nn, eq_bb, eq_st, eq_ts, eq_si, eq_is, eq_it, eq_ti, cmp_i, cmp_b, cmp_n, sc_i, sc_s, sc_b, sc_n, flat_i, flat_s, flat_b, flat_n, tru_n, tru_b, tru_i, tru_t, tru_l, items_t, items_l, len_t, len_l, iter_t, iter_l, isN_n, isN_i, isN_s, isN_t, isN_l, isN_b, at_0, at_1, at_2, at_3, ib_tn, ib_tb, ib_ti, ib_ts, ib_tt, ib_tl, ib_sn, ib_sb, ib_si, ib_ss, ib_st, ib_sl, ib_in, ib_ib, ib_ii, ib_is, ib_it, ib_il, ib_bn, ib_bb, ib_bi, ib_bs, ib_bt, ib_bl, na_n, na_b, na_i, na_s, na_t, na_l, List.getElem?_cons_zero, List.getElem?_cons_succ, List.set_cons_zero, List.set_cons_succ, List.map_cons, List.map_nil, List.length_cons, List.length_nil, List.replicate_succ, List.replicate_zero, List.cons_append, List.nil_append, List.append_nil, List.isEmpty_nil, List.isEmpty_cons, List.cons.injEq, Option.some.injEq, T.int.injEq, T.str.injEq, T.bl.injEq, T.tup.injEq, T.lst.injEq, T.adr.injEq, Sl.fz.injEq, Sl.ow.injEq, exists_eq_left, exists_eq_left', exists_eq_right, exists_eq_right', exists_eq, exists_eq', exists_and_left, exists_and_right, exists_const, exists_false, and_true, true_and, and_false, false_and, or_true, true_or, or_false, false_or, not_true_eq_false, not_false_eq_true, if_true, if_false, ite_true, ite_false, Bool.not_true, Bool.not_false, Bool.true_or, Bool.or_true, Bool.false_or, Bool.or_false, Bool.true_and, Bool.and_true, Bool.false_and, Bool.and_false, Bool.false_eq_true, Bool.true_eq_false, eq_self, decide_eq_true_eq, decide_true, decide_false, Bool.decide_eq_true, Bool.not_eq_true, decide_eq_false_iff_not, Bool.and_eq_true, Bool.or_eq_true, Bool.not_eq_true', reduceCtorEq, ne_eq, Nat.le_refl, Nat.reduceAdd, Nat.reduceSub, Nat.reduceLeDiff, Nat.reduceLT, implies_true, forall_const, List.any_cons, List.any_nil, List.all_cons, List.all_nil, wipeP, restore, List.getD_eq_getElem?_getD, Option.getD_some, List.mem_singleton, forall_eq, Int.reduceLT, Int.reduceLE, Int.reduceNeg, Int.reduceSub, Int.reduceAdd, Int.reduceToNat, Int.reduceEq, Int.reduceNe, String.reduceEq, and_self, or_self, w_table, str_inj, pfVX]
      have lq : (Str.ofString "table").length = 5 := lw
      refine ⟨by omega, hu.1, by omega, by rw [slen]; omega, by rw [slen, slen]; omega, hv.1, by omega, by rw [slen, slen, slen]; omega, ?_⟩
      simp only [sapp]
      exact h
    · simp only [↓reduceIte, ↓sSeq, ↓sAsg, ↓sIf, ↓sRet, ↓sRetN, ↓sExpr, ↓sNext, ↓sBreak, ↓sCont, ↓sAug, ↓sFor, ↓gN, ↓pIx, ↓pC, ↓pTup, ↓pLst, ↓pCons, ↓pNil, ↓pStar, ↓pOp, ↓pTB, ↓pTru, ↓pTAnd, ↓pTOr, ↓pTNot, ↓pAndV, ↓pOrV, ↓pNotV, ↓pIf, ↓pCall, ↓pLen, ↓pIsi, ↓pDget, ↓gDset, ↓gSubT, ↓PEq, ↓PNe, ↓pChain, ↓pNeg, ↓pSl, ↓pNoPart, ↓pPart, ↓pIter, ↓pRng1, ↓pRng2, ↓pEnum, ↓pRev, ↓pZip, ↓pMet, ↓pMet0, ↓pMut, ↓pLc, ↓pLRng1, ↓pLRng2, ↓pYes, ↓pRE, ↓startP, ↓pWords, ↓pSplit, ↓gLt, ↓gLe, ↓gGt, ↓gGe, ↓pV_f0, ↓pV_o0, ↓pRV_f0, ↓pRV_o0, ↓lk_f0, ↓lk_o0, ↓sRV_f0, ↓sRV_o0, ↓pV_f1, ↓pV_o1, ↓pRV_f1, ↓pRV_o1, ↓lk_f1, ↓lk_o1, ↓sRV_f1, ↓sRV_o1, ↓pV_f2, ↓pV_o2, ↓pRV_f2, ↓pRV_o2, ↓lk_f2, ↓lk_o2, ↓sRV_f2, ↓sRV_o2, ↓pV_f3, ↓pV_o3, ↓pRV_f3, ↓pRV_o3, ↓lk_f3, ↓lk_o3, ↓sRV_f3, ↓sRV_o3, ↓pV_f4, ↓pV_o4, ↓pRV_f4, ↓pRV_o4, ↓lk_f4, ↓lk_o4, ↓sRV_f4, ↓sRV_o4, ↓pV_f5, ↓pV_o5, ↓pRV_f5, ↓pRV_o5, ↓lk_f5, ↓lk_o5, ↓sRV_f5, ↓sRV_o5, ↓pV_f6, ↓pV_o6, ↓pRV_f6, ↓pRV_o6, ↓lk_f6, ↓lk_o6, ↓sRV_f6, ↓sRV_o6, ↓pV_f7, ↓pV_o7, ↓pRV_f7, ↓pRV_o7, ↓lk_f7, ↓lk_o7, ↓sRV_f7, ↓sRV_o7, ↓pV_f8, ↓pV_o8, ↓pRV_f8, ↓pRV_o8, ↓lk_f8, ↓lk_o8, ↓sRV_f8, ↓sRV_o8, ↓pV_f9, ↓pV_o9, ↓pRV_f9, ↓pRV_o9, ↓lk_f9, ↓lk_o9, ↓sRV_f9, ↓sRV_o9, ↓pV_f10, ↓pV_o10, ↓pRV_f10, ↓pRV_o10, ↓lk_f10, ↓lk_o10, ↓sRV_f10, ↓sRV_o10, ↓pV_f11, ↓pV_o11, ↓pRV_f11, ↓pRV_o11, ↓lk_f11, ↓lk_o11, ↓sRV_f11, ↓sRV_o11, ↓pV_f12, ↓pV_o12, ↓pRV_f12, ↓pRV_o12, ↓lk_f12, ↓lk_o12, ↓sRV_f12, ↓sRV_o12, ↓pV_f13, ↓pV_o13, ↓pRV_f13, ↓pRV_o13, ↓lk_f13, ↓lk_o13, ↓sRV_f13, ↓sRV_o13, ↓lk_fz, ↓of_fn, ↓of_fb, ↓of_fi, ↓of_fs, ↓of_ft, ↓of_fl, ↓of_ol, ↓of_ff, ↓ad_i, ↓ad_s, ↓ad_l, ↓ad_t, ↓su_i, ↓mu_i, ↓mu_l, ↓mo_i, ↓fd_i, ↓pw_i, ↓an_i, ↓ci_i, ↓is_n, ↓is_nn, ↓in_t, ↓in_l, ↓in_s, ↓ix_l, ↓ix_t, ↓ix_s, ↓sl_l, ↓sl_t, ↓sl_s, ↓kn_i, ↓kp_i, ↓kr1, ↓kr2, ↓ke_l, ↓kz_l, ↓kz_t, ↓klr1, ↓klr2, ↓gt_e, ↓gs_n, ↓gs_c, nc_0, nc_1, nc_2, nc_3, nc_4, nc_5, nc_6, nc_7, nc_8, nc_9, nc_10, nc_11, nc_12, eq_ii, eq_ss, eq_nn, eq_bb, eq_st, eq_ts, eq_si, eq_is, eq_it, eq_ti, cmp_i, cmp_b, cmp_n, sc_i, sc_s, sc_b, sc_n, flat_i, flat_s, flat_b, flat_n, tru_n, tru_b, tru_i, tru_t, tru_l, items_t, items_l, len_t, len_l, iter_t, iter_l, isN_n, isN_i, isN_s, isN_t, isN_l, isN_b, at_0, at_1, at_2, at_3, ib_tn, ib_tb, ib_ti, ib_ts, ib_tt, ib_tl, ib_sn, ib_sb, ib_si, ib_ss, ib_st, ib_sl, ib_in, ib_ib, ib_ii, ib_is, ib_it, ib_il, ib_bn, ib_bb, ib_bi, ib_bs, ib_bt, ib_bl, na_n, na_b, na_i, na_s, na_t, na_l, List.getElem?_cons_zero, List.getElem?_cons_succ, List.set_cons_zero, List.set_cons_succ, List.map_cons, List.map_nil, List.length_cons, List.length_nil, List.replicate_succ, List.replicate_zero, List.cons_append, List.nil_append, List.append_nil, List.isEmpty_nil, List.isEmpty_cons, List.cons.injEq, Option.some.injEq, T.int.injEq, T.str.injEq, T.bl.injEq, T.tup.injEq, T.lst.injEq, T.adr.injEq, Sl.fz.injEq, Sl.ow.injEq, exists_eq_left, exists_eq_left', exists_eq_right, exists_eq_right', exists_eq, exists_eq', exists_and_left, exists_and_right, exists_const, exists_false, and_true, true_and, and_false, false_and, or_true, true_or, or_false, false_or, not_true_eq_false, not_false_eq_true, if_true, if_false, ite_true, ite_false, Bool.not_true, Bool.not_false, Bool.true_or, Bool.or_true, Bool.false_or, Bool.or_false, Bool.true_and, Bool.and_true, Bool.false_and, Bool.and_false, Bool.false_eq_true, Bool.true_eq_false, eq_self, decide_eq_true_eq, decide_true, decide_false, Bool.decide_eq_true, Bool.not_eq_true, decide_eq_false_iff_not, Bool.and_eq_true, Bool.or_eq_true, Bool.not_eq_true', reduceCtorEq, ne_eq, Nat.le_refl, Nat.reduceAdd, Nat.reduceSub, Nat.reduceLeDiff, Nat.reduceLT, implies_true, forall_const, List.any_cons, List.any_nil, List.all_cons, List.all_nil, wipeP, restore, List.getD_eq_getElem?_getD, Option.getD_some, List.mem_singleton, forall_eq, Int.reduceLT, Int.reduceLE, Int.reduceNeg, Int.reduceSub, Int.reduceAdd, Int.reduceToNat, Int.reduceEq, Int.reduceNe, String.reduceEq, and_self, or_self, w_apart, str_inj, pfVX]
      have lq : (Str.ofString "apart").length = 5 := lw
      refine ⟨by omega, hu.1, by omega, by rw [slen]; omega, by rw [slen, slen]; omega, hv.1, by omega, by rw [slen, slen, slen]; omega, ?_⟩
      simp only [sapp]
      exact h
  · have lw : w.length = 4 := by rcases hw with rfl | rfl <;> decide +kernel
    have l1 := join_len _ (vt_ok 2 v hv.1)
    have l2 := join_len _ (wt_ok n k s' hk)
    have l3 : (Str.ofString " ").length = 1 := by decide +kernel
    rw [List.length_cons, List.length_append] at hn
    rw [J_cons _ (by simp [vt_ne hv.1]), J_app (vt_ne hv.1) (wt_ne hk)] at h
    rcases hw with rfl | rfl
    · simp only [↓reduceIte, ↓sSeq, ↓sAsg, ↓sIf, ↓sRet, ↓sRetN, ↓sExpr, ↓sNext, ↓sBreak, ↓sCont, ↓sAug, ↓sFor, ↓gN, ↓pIx, ↓pC, ↓pTup, ↓pLst, ↓pCons, ↓pNil, ↓pStar, ↓pOp, ↓pTB, ↓pTru, ↓pTAnd, ↓pTOr, ↓pTNot, ↓pAndV, ↓pOrV, ↓pNotV, ↓pIf, ↓pCall, ↓pLen, ↓pIsi, ↓pDget, ↓gDset, ↓gSubT, ↓PEq, ↓PNe, ↓pChain, ↓pNeg, ↓pSl, ↓pNoPart, ↓pPart, ↓pIter, ↓pRng1, ↓pRng2, ↓pEnum, ↓pRev, ↓pZip, ↓pMet, ↓pMet0, ↓pMut, ↓pLc, ↓pLRng1, ↓pLRng2, ↓pYes, ↓pRE, ↓startP, ↓pWords, ↓pSplit, ↓gLt, ↓gLe, ↓gGt, ↓gGe, ↓pV_f0, ↓pV_o0, ↓pRV_f0, ↓pRV_o0, ↓lk_f0, ↓lk_o0, ↓sRV_f0, ↓sRV_o0, ↓pV_f1, ↓pV_o1, ↓pRV_f1, ↓pRV_o1, ↓lk_f1, ↓lk_o1, ↓sRV_f1, ↓sRV_o1, ↓pV_f2, ↓pV_o2, ↓pRV_f2, ↓pRV_o2, ↓lk_f2, ↓lk_o2, ↓sRV_f2, ↓sRV_o2, ↓pV_f3, ↓pV_o3, ↓pRV_f3, ↓pRV_o3, ↓lk_f3, ↓lk_o3, ↓sRV_f3, ↓sRV_o3, ↓pV_f4, ↓pV_o4, ↓pRV_f4, ↓pRV_o4, ↓lk_f4, ↓lk_o4, ↓sRV_f4, ↓sRV_o4, ↓pV_f5, ↓pV_o5, ↓pRV_f5, ↓pRV_o5, ↓lk_f5, ↓lk_o5, ↓sRV_f5, ↓sRV_o5, ↓pV_f6, ↓pV_o6, ↓pRV_f6, ↓pRV_o6, ↓lk_f6, ↓lk_o6, ↓sRV_f6, ↓sRV_o6, ↓pV_f7, ↓pV_o7, ↓pRV_f7, ↓pRV_o7, ↓lk_f7, ↓lk_o7, ↓sRV_f7, ↓sRV_o7, ↓pV_f8, ↓pV_o8, ↓pRV_f8, ↓pRV_o8, ↓lk_f8, ↓lk_o8, ↓sRV_f8, ↓sRV_o8, ↓pV_f9, ↓pV_o9, ↓pRV_f9, ↓pRV_o9, ↓lk_f9, ↓lk_o9, ↓sRV_f9, ↓sRV_o9, ↓pV_f10, ↓pV_o10, ↓pRV_f10, ↓pRV_o10, ↓lk_f10, ↓lk_o10, ↓sRV_f10, ↓sRV_o10, ↓pV_f11, ↓pV_o11, ↓pRV_f11, ↓pRV_o11, ↓lk_f11, ↓lk_o11, ↓sRV_f11, ↓sRV_o11, ↓pV_f12, ↓pV_o12, ↓pRV_f12, ↓pRV_o12, ↓lk_f12, ↓lk_o12, ↓sRV_f12, ↓sRV_o12, ↓pV_f13, ↓pV_o13, ↓pRV_f13, ↓pRV_o13, ↓lk_f13, ↓lk_o13, ↓sRV_f13, ↓sRV_o13, ↓lk_fz, ↓of_fn, ↓of_fb, ↓of_fi, ↓of_fs, ↓of_ft, ↓of_fl, ↓of_ol, ↓of_ff, ↓ad_i, ↓ad_s, ↓ad_l, ↓ad_t, ↓su_i, ↓mu_i, ↓mu_l, ↓mo_i, ↓fd_i, ↓pw_i, ↓an_i, ↓ci_i, ↓is_n, ↓is_nn, ↓in_t, ↓in_l, ↓in_s, ↓ix_l, ↓ix_t, ↓ix_s, ↓sl_l, ↓sl_t, ↓sl_s, ↓kn_i, ↓kp_i, ↓kr1, ↓kr2, ↓ke_l, ↓kz_l, ↓kz_t, ↓klr1, ↓klr2, ↓gt_e, ↓gs_n, ↓gs_c, nc_0, nc_1, nc_2, nc_3, nc_4, nc_5, nc_6, nc_7, nc_8, nc_9, nc_10, nc_11, nc_12, eq_ii, eq_ss, eq_nn, eq_bb, eq_st, eq_ts, eq_si, eq_is, eq_it, eq_ti, cmp_i, cmp_b, cmp_n, sc_i, sc_s, sc_b, sc_n, flat_i, flat_s, flat_b, flat_n, tru_n, tru_b, tru_i, tru_t, tru_l, items_t, items_l, len_t, len_l, iter_t, iter_l, isN_n, isN_i, isN_s, isN_t, isN_l, isN_b, at_0, at_1, at_2, at_3, ib_tn, ib_tb, ib_ti, ib_ts, ib_tt, ib_tl, ib_sn, ib_sb, ib_si, ib_ss, ib_st, ib_sl, ib_in, ib_ib, ib_ii, ib_is, ib_it, ib_il, ib_bn, ib_bb, ib_bi, ib_bs, ib_bt, ib_bl, na_n, na_b, na_i, na_s, na_t, na_l, List.getElem?_cons_zero, List.getElem?_cons_succ, List.set_cons_zero, List.set_cons_succ, List.map_cons, List.map_nil, List.length_cons, List.length_nil, List.replicate_succ, List.replicate_zero, List.cons_append, List.nil_append, List.append_nil, List.isEmpty_nil, List.isEmpty_cons, List.cons.injEq, Option.some.injEq, T.int.injEq, T.str.injEq, T.bl.injEq, T.tup.injEq, T.lst.injEq, T.adr.injEq, Sl.fz.injEq, Sl.ow.injEq, exists_eq_left, exists_eq_left', exists_eq_right, exists_eq_right', exists_eq, exists_eq', exists_and_left, exists_and_right, exists_const, exists_false, and_true, true_and, and_false, false_and, or_true, true_or, or_false, false_or, not_true_eq_false, not_false_eq_true, if_true, if_false, ite_true, ite_false, Bool.not_true, Bool.not_false, Bool.true_or, Bool.or_true, Bool.false_or, Bool.or_false, Bool.true_and, Bool.and_true, Bool.false_and, Bool.and_false, Bool.false_eq_true, Bool.true_eq_false, eq_self, decide_eq_true_eq, decide_true, decide_false, Bool.decide_eq_true, Bool.not_eq_true, decide_eq_false_iff_not, Bool.and_eq_true, Bool.or_eq_true, Bool.not_eq_true', reduceCtorEq, ne_eq, Nat.le_refl, Nat.reduceAdd, Nat.reduceSub, Nat.reduceLeDiff, Nat.reduceLT, implies_true, forall_const, List.any_cons, List.any_nil, List.all_cons, List.all_nil, wipeP, restore, List.getD_eq_getElem?_getD, Option.getD_some, List.mem_singleton, forall_eq, Int.reduceLT, Int.reduceLE, Int.reduceNeg, Int.reduceSub, Int.reduceAdd, Int.reduceToNat, Int.reduceEq, Int.reduceNe, String.reduceEq, and_self, or_self, w_some, str_inj, pfVX, pfWX]
      have lq : (Str.ofString "some").length = 4 := lw
      refine ⟨by omega, hv.1, by omega, by rw [slen]; omega, by rw [slen, slen]; omega, _, hk, by omega, by rw [slen, slen, slen]; omega, ?_⟩
      simp only [sapp]
      exact h
    · simp only [↓reduceIte, ↓sSeq, ↓sAsg, ↓sIf, ↓sRet, ↓sRetN, ↓sExpr, ↓sNext, ↓sBreak, ↓sCont, ↓sAug, ↓sFor, ↓gN, ↓pIx, ↓pC, ↓pTup, ↓pLst, ↓pCons, ↓pNil, ↓pStar, ↓pOp, ↓pTB, ↓pTru, ↓pTAnd, ↓pTOr, ↓pTNot, ↓pAndV, ↓pOrV, ↓pNotV, ↓pIf, ↓pCall, ↓pLen, ↓pIsi, ↓pDget, ↓gDset, ↓gSubT, ↓PEq, ↓PNe, ↓pChain, ↓pNeg, ↓pSl, ↓pNoPart, ↓pPart, ↓pIter, ↓pRng1, ↓pRng2, ↓pEnum, ↓pRev, ↓pZip, ↓pMet, ↓pMet0, ↓pMut, ↓pLc, ↓pLRng1, ↓pLRng2, ↓pYes, ↓pRE, ↓startP, ↓pWords, ↓pSplit, ↓gLt, ↓gLe, ↓gGt, ↓gGe, ↓pV_f0, ↓pV_o0, ↓pRV_f0, ↓pRV_o0, ↓lk_f0, ↓lk_o0, ↓sRV_f0, ↓sRV_o0, ↓pV_f1, ↓pV_o1, ↓pRV_f1, ↓pRV_o1, ↓lk_f1, ↓lk_o1, ↓sRV_f1, ↓sRV_o1, ↓pV_f2, ↓pV_o2, ↓pRV_f2, ↓pRV_o2, ↓lk_f2, ↓lk_o2, ↓sRV_f2, ↓sRV_o2, ↓pV_f3, ↓pV_o3, ↓pRV_f3, ↓pRV_o3, ↓lk_f3, ↓lk_o3, ↓sRV_f3, ↓sRV_o3, ↓pV_f4, ↓pV_o4, ↓pRV_f4, ↓pRV_o4, ↓lk_f4, ↓lk_o4, ↓sRV_f4, ↓sRV_o4, ↓pV_f5, ↓pV_o5, ↓pRV_f5, ↓pRV_o5, ↓lk_f5, ↓lk_o5, ↓sRV_f5, ↓sRV_o5, ↓pV_f6, ↓pV_o6, ↓pRV_f6, ↓pRV_o6, ↓lk_f6, ↓lk_o6, ↓sRV_f6, ↓sRV_o6, ↓pV_f7, ↓pV_o7, ↓pRV_f7, ↓pRV_o7, ↓lk_f7, ↓lk_o7, ↓sRV_f7, ↓sRV_o7, ↓pV_f8, ↓pV_o8, ↓pRV_f8, ↓pRV_o8, ↓lk_f8, ↓lk_o8, ↓sRV_f8, ↓sRV_o8, ↓pV_f9, ↓pV_o9, ↓pRV_f9, ↓pRV_o9, ↓lk_f9, ↓lk_o9, ↓sRV_f9, ↓sRV_o9, ↓pV_f10, ↓pV_o10, ↓pRV_f10, ↓pRV_o10, ↓lk_f10, ↓lk_o10, ↓sRV_f10, ↓sRV_o10, ↓pV_f11, ↓pV_o11, ↓pRV_f11, ↓pRV_o11, ↓lk_f11, ↓lk_o11, ↓sRV_f11, ↓sRV_o11, ↓pV_f12, ↓pV_o12, ↓pRV_f12, ↓pRV_o12, ↓lk_f12, ↓lk_o12, ↓sRV_f12, ↓sRV_o12, ↓pV_f13, ↓pV_o13, ↓pRV_f13, ↓pRV_o13, ↓lk_f13, ↓lk_o13, ↓sRV_f13, ↓sRV_o13, ↓lk_fz, ↓of_fn, ↓of_fb, ↓of_fi, ↓of_fs, ↓of_ft, ↓of_fl, ↓of_ol, ↓of_ff, ↓ad_i, ↓ad_s, ↓ad_l, ↓ad_t, ↓su_i, ↓mu_i, ↓mu_l, ↓mo_i, ↓fd_i, ↓pw_i, ↓an_i, ↓ci_i, ↓is_n, ↓is_nn, ↓in_t, ↓in_l, ↓in_s, ↓ix_l, ↓ix_t, ↓ix_s, ↓sl_l, ↓sl_t, ↓sl_s, ↓kn_i, ↓kp_i, ↓kr1, ↓kr2, ↓ke_l, ↓kz_l, ↓kz_t, ↓klr1, ↓klr2, ↓gt_e, ↓gs_n, ↓gs_c, nc_0, nc_1, nc_2, nc_3, nc_4, nc_5, nc_6, nc_7, nc_8, nc_9, nc_10, nc_11, nc_12, eq_ii, eq_ss, eq_nn, eq_bb, eq_st, eq_ts, eq_si, eq_is, eq_it, eq_ti, cmp_i, cmp_b, cmp_n, sc_i, sc_s, sc_b, sc_n, flat_i, flat_s, flat_b, flat_n, tru_n, tru_b, tru_i, tru_t, tru_l, items_t, items_l, len_t, len_l, iter_t, iter_l, isN_n, isN_i, isN_s, isN_t, isN_l, isN_b, at_0, at_1, at_2, at_3, ib_tn, ib_tb, ib_ti, ib_ts, ib_tt, ib_tl, ib_sn, ib_sb, ib_si, ib_ss, ib_st, ib_sl, ib_in, ib_ib, ib_ii, ib_is, ib_it, ib_il, ib_bn, ib_bb, ib_bi, ib_bs, ib_bt, ib_bl, na_n, na_b, na_i, na_s, na_t, na_l, List.getElem?_cons_zero, List.getElem?_cons_succ, List.set_cons_zero, List.set_cons_succ, List.map_cons, List.map_nil, List.length_cons, List.length_nil, List.replicate_succ, List.replicate_zero, List.cons_append, List.nil_append, List.append_nil, List.isEmpty_nil, List.isEmpty_cons, List.cons.injEq, Option.some.injEq, T.int.injEq, T.str.injEq, T.bl.injEq, T.tup.injEq, T.lst.injEq, T.adr.injEq, Sl.fz.injEq, Sl.ow.injEq, exists_eq_left, exists_eq_left', exists_eq_right, exists_eq_right', exists_eq, exists_eq', exists_and_left, exists_and_right, exists_const, exists_false, and_true, true_and, and_false, false_and, or_true, true_or, or_false, false_or, not_true_eq_false, not_false_eq_true, if_true, if_false, ite_true, ite_false, Bool.not_true, Bool.not_false, Bool.true_or, Bool.or_true, Bool.false_or, Bool.or_false, Bool.true_and, Bool.and_true, Bool.false_and, Bool.and_false, Bool.false_eq_true, Bool.true_eq_false, eq_self, decide_eq_true_eq, decide_true, decide_false, Bool.decide_eq_true, Bool.not_eq_true, decide_eq_false_iff_not, Bool.and_eq_true, Bool.or_eq_true, Bool.not_eq_true', reduceCtorEq, ne_eq, Nat.le_refl, Nat.reduceAdd, Nat.reduceSub, Nat.reduceLeDiff, Nat.reduceLT, implies_true, forall_const, List.any_cons, List.any_nil, List.all_cons, List.all_nil, wipeP, restore, List.getD_eq_getElem?_getD, Option.getD_some, List.mem_singleton, forall_eq, Int.reduceLT, Int.reduceLE, Int.reduceNeg, Int.reduceSub, Int.reduceAdd, Int.reduceToNat, Int.reduceEq, Int.reduceNe, String.reduceEq, and_self, or_self, w_must, str_inj, pfVX, pfWX]
      have lq : (Str.ofString "must").length = 4 := lw
      refine ⟨by omega, hv.1, by omega, by rw [slen]; omega, by rw [slen, slen]; omega, _, hk, by omega, by rw [slen, slen, slen]; omega, ?_⟩
      simp only [sapp]
      exact h
  · have lw : w.length ≤ 4 := by rcases hw with rfl | rfl <;> decide +kernel
    have l2 := join_len _ (wt_ok n k s' hk)
    have l3 : (Str.ofString " ").length = 1 := by decide +kernel
    rw [List.length_cons] at hn
    rw [J_cons _ (wt_ne hk)] at h
    rcases hw with rfl | rfl
    · simp only [↓reduceIte, ↓sSeq, ↓sAsg, ↓sIf, ↓sRet, ↓sRetN, ↓sExpr, ↓sNext, ↓sBreak, ↓sCont, ↓sAug, ↓sFor, ↓gN, ↓pIx, ↓pC, ↓pTup, ↓pLst, ↓pCons, ↓pNil, ↓pStar, ↓pOp, ↓pTB, ↓pTru, ↓pTAnd, ↓pTOr, ↓pTNot, ↓pAndV, ↓pOrV, ↓pNotV, ↓pIf, ↓pCall, ↓pLen, ↓pIsi, ↓pDget, ↓gDset, ↓gSubT, ↓PEq, ↓PNe, ↓pChain, ↓pNeg, ↓pSl, ↓pNoPart, ↓pPart, ↓pIter, ↓pRng1, ↓pRng2, ↓pEnum, ↓pRev, ↓pZip, ↓pMet, ↓pMet0, ↓pMut, ↓pLc, ↓pLRng1, ↓pLRng2, ↓pYes, ↓pRE, ↓startP, ↓pWords, ↓pSplit, ↓gLt, ↓gLe, ↓gGt, ↓gGe, ↓pV_f0, ↓pV_o0, ↓pRV_f0, ↓pRV_o0, ↓lk_f0, ↓lk_o0, ↓sRV_f0, ↓sRV_o0, ↓pV_f1, ↓pV_o1, ↓pRV_f1, ↓pRV_o1, ↓lk_f1, ↓lk_o1, ↓sRV_f1, ↓sRV_o1, ↓pV_f2, ↓pV_o2, ↓pRV_f2, ↓pRV_o2, ↓lk_f2, ↓lk_o2, ↓sRV_f2, ↓sRV_o2, ↓pV_f3, ↓pV_o3, ↓pRV_f3, ↓pRV_o3, ↓lk_f3, ↓lk_o3, ↓sRV_f3, ↓sRV_o3, ↓pV_f4, ↓pV_o4, ↓pRV_f4, ↓pRV_o4, ↓lk_f4, ↓lk_o4, ↓sRV_f4, ↓sRV_o4, ↓pV_f5, ↓pV_o5, ↓pRV_f5, ↓pRV_o5, ↓lk_f5, ↓lk_o5, ↓sRV_f5, ↓sRV_o5, ↓pV_f6, ↓pV_o6, ↓pRV_f6, ↓pRV_o6, ↓lk_f6, ↓lk_o6, ↓sRV_f6, ↓sRV_o6, ↓pV_f7, ↓pV_o7, ↓pRV_f7, ↓pRV_o7, ↓lk_f7, ↓lk_o7, ↓sRV_f7, ↓sRV_o7, ↓pV_f8, ↓pV_o8, ↓pRV_f8, ↓pRV_o8, ↓lk_f8, ↓lk_o8, ↓sRV_f8, ↓sRV_o8, ↓pV_f9, ↓pV_o9, ↓pRV_f9, ↓pRV_o9, ↓lk_f9, ↓lk_o9, ↓sRV_f9, ↓sRV_o9, ↓pV_f10, ↓pV_o10, ↓pRV_f10, ↓pRV_o10, ↓lk_f10, ↓lk_o10, ↓sRV_f10, ↓sRV_o10, ↓pV_f11, ↓pV_o11, ↓pRV_f11, ↓pRV_o11, ↓lk_f11, ↓lk_o11, ↓sRV_f11, ↓sRV_o11, ↓pV_f12, ↓pV_o12, ↓pRV_f12, ↓pRV_o12, ↓lk_f12, ↓lk_o12, ↓sRV_f12, ↓sRV_o12, ↓pV_f13, ↓pV_o13, ↓pRV_f13, ↓pRV_o13, ↓lk_f13, ↓lk_o13, ↓sRV_f13, ↓sRV_o13, ↓lk_fz, ↓of_fn, ↓of_fb, ↓of_fi, ↓of_fs, ↓of_ft, ↓of_fl, ↓of_ol, ↓of_ff, ↓ad_i, ↓ad_s, ↓ad_l, ↓ad_t, ↓su_i, ↓mu_i, ↓mu_l, ↓mo_i, ↓fd_i, ↓pw_i, ↓an_i, ↓ci_i, ↓is_n, ↓is_nn, ↓in_t, ↓in_l, ↓in_s, ↓ix_l, ↓ix_t, ↓ix_s, ↓sl_l, ↓sl_t, ↓sl_s, ↓kn_i, ↓kp_i, ↓kr1, ↓kr2, ↓ke_l, ↓kz_l, ↓kz_t, ↓klr1, ↓klr2, ↓gt_e, ↓gs_n, ↓gs_c, nc_0, nc_1, nc_2, nc_3, nc_4, nc_5, nc_6, nc_7, nc_8, nc_9, nc_10, nc_11, nc_12, eq_ii, eq_ss, eq_nn, eq_bb, eq_st, eq_ts, eq_si, eq_is, eq_it, eq_ti, cmp_i, cmp_b, cmp_n, sc_i, sc_s, sc_b, sc_n, flat_i, flat_s, flat_b, flat_n, tru_n, tru_b, tru_i, tru_t, tru_l, items_t, items_l, len_t, len_l, iter_t, iter_l, isN_n, isN_i, isN_s, isN_t, isN_l, isN_b, at_0, at_1, at_2, at_3, ib_tn, ib_tb, ib_ti, ib_ts, ib_tt, ib_tl, ib_sn, ib_sb, ib_si, ib_ss, ib_st, ib_sl, ib_in, ib_ib, ib_ii, ib_is, ib_it, ib_il, ib_bn, ib_bb, ib_bi, ib_bs, ib_bt, ib_bl, na_n, na_b, na_i, na_s, na_t, na_l, List.getElem?_cons_zero, List.getElem?_cons_succ, List.set_cons_zero, List.set_cons_succ, List.map_cons, List.map_nil, List.length_cons, List.length_nil, List.replicate_succ, List.replicate_zero, List.cons_append, List.nil_append, List.append_nil, List.isEmpty_nil, List.isEmpty_cons, List.cons.injEq, Option.some.injEq, T.int.injEq, T.str.injEq, T.bl.injEq, T.tup.injEq, T.lst.injEq, T.adr.injEq, Sl.fz.injEq, Sl.ow.injEq, exists_eq_left, exists_eq_left', exists_eq_right, exists_eq_right', exists_eq, exists_eq', exists_and_left, exists_and_right, exists_const, exists_false, and_true, true_and, and_false, false_and, or_true, true_or, or_false, false_or, not_true_eq_false, not_false_eq_true, if_true, if_false, ite_true, ite_false, Bool.not_true, Bool.not_false, Bool.true_or, Bool.or_true, Bool.false_or, Bool.or_false, Bool.true_and, Bool.and_true, Bool.false_and, Bool.and_false, Bool.false_eq_true, Bool.true_eq_false, eq_self, decide_eq_true_eq, decide_true, decide_false, Bool.decide_eq_true, Bool.not_eq_true, decide_eq_false_iff_not, Bool.and_eq_true, Bool.or_eq_true, Bool.not_eq_true', reduceCtorEq, ne_eq, Nat.le_refl, Nat.reduceAdd, Nat.reduceSub, Nat.reduceLeDiff, Nat.reduceLT, implies_true, forall_const, List.any_cons, List.any_nil, List.all_cons, List.all_nil, wipeP, restore, List.getD_eq_getElem?_getD, Option.getD_some, List.mem_singleton, forall_eq, Int.reduceLT, Int.reduceLE, Int.reduceNeg, Int.reduceSub, Int.reduceAdd, Int.reduceToNat, Int.reduceEq, Int.reduceNe, String.reduceEq, and_self, or_self, w_opt, str_inj, pfWX]
      have lq : (Str.ofString "opt").length ≤ 4 := lw
      refine ⟨by omega, _, hk, by omega, by rw [slen]; omega, ?_⟩
      simp only [sapp]
      exact h
    · simp only [↓reduceIte, ↓sSeq, ↓sAsg, ↓sIf, ↓sRet, ↓sRetN, ↓sExpr, ↓sNext, ↓sBreak, ↓sCont, ↓sAug, ↓sFor, ↓gN, ↓pIx, ↓pC, ↓pTup, ↓pLst, ↓pCons, ↓pNil, ↓pStar, ↓pOp, ↓pTB, ↓pTru, ↓pTAnd, ↓pTOr, ↓pTNot, ↓pAndV, ↓pOrV, ↓pNotV, ↓pIf, ↓pCall, ↓pLen, ↓pIsi, ↓pDget, ↓gDset, ↓gSubT, ↓PEq, ↓PNe, ↓pChain, ↓pNeg, ↓pSl, ↓pNoPart, ↓pPart, ↓pIter, ↓pRng1, ↓pRng2, ↓pEnum, ↓pRev, ↓pZip, ↓pMet, ↓pMet0, ↓pMut, ↓pLc, ↓pLRng1, ↓pLRng2, ↓pYes, ↓pRE, ↓startP, ↓pWords, ↓pSplit, ↓gLt, ↓gLe, ↓gGt, ↓gGe, ↓pV_f0, ↓pV_o0, ↓pRV_f0, ↓pRV_o0, ↓lk_f0, ↓lk_o0, ↓sRV_f0, ↓sRV_o0, ↓pV_f1, ↓pV_o1, ↓pRV_f1, ↓pRV_o1, ↓lk_f1, ↓lk_o1, ↓sRV_f1, ↓sRV_o1, ↓pV_f2, ↓pV_o2, ↓pRV_f2, ↓pRV_o2, ↓lk_f2, ↓lk_o2, ↓sRV_f2, ↓sRV_o2, ↓pV_f3, ↓pV_o3, ↓pRV_f3, ↓pRV_o3, ↓lk_f3, ↓lk_o3, ↓sRV_f3, ↓sRV_o3, ↓pV_f4, ↓pV_o4, ↓pRV_f4, ↓pRV_o4, ↓lk_f4, ↓lk_o4, ↓sRV_f4, ↓sRV_o4, ↓pV_f5, ↓pV_o5, ↓pRV_f5, ↓pRV_o5, ↓lk_f5, ↓lk_o5, ↓sRV_f5, ↓sRV_o5, ↓pV_f6, ↓pV_o6, ↓pRV_f6, ↓pRV_o6, ↓lk_f6, ↓lk_o6, ↓sRV_f6, ↓sRV_o6, ↓pV_f7, ↓pV_o7, ↓pRV_f7, ↓pRV_o7, ↓lk_f7, ↓lk_o7, ↓sRV_f7, ↓sRV_o7, ↓pV_f8, ↓pV_o8, ↓pRV_f8, ↓pRV_o8, ↓lk_f8, ↓lk_o8, ↓sRV_f8, ↓sRV_o8, ↓pV_f9, ↓pV_o9, ↓pRV_f9, ↓pRV_o9, ↓lk_f9, ↓lk_o9, ↓sRV_f9, ↓sRV_o9, ↓pV_f10, ↓pV_o10, ↓pRV_f10, ↓pRV_o10, ↓lk_f10, ↓lk_o10, ↓sRV_f10, ↓sRV_o10, ↓pV_f11, ↓pV_o11, ↓pRV_f11, ↓pRV_o11, ↓lk_f11, ↓lk_o11, ↓sRV_f11, ↓sRV_o11, ↓pV_f12, ↓pV_o12, ↓pRV_f12, ↓pRV_o12, ↓lk_f12, ↓lk_o12, ↓sRV_f12, ↓sRV_o12, ↓pV_f13, ↓pV_o13, ↓pRV_f13, ↓pRV_o13, ↓lk_f13, ↓lk_o13, ↓sRV_f13, ↓sRV_o13, ↓lk_fz, ↓of_fn, ↓of_fb, ↓of_fi, ↓of_fs, ↓of_ft, ↓of_fl, ↓of_ol, ↓of_ff, ↓ad_i, ↓ad_s, ↓ad_l, ↓ad_t, ↓su_i, ↓mu_i, ↓mu_l, ↓mo_i, ↓fd_i, ↓pw_i, ↓an_i, ↓ci_i, ↓is_n, ↓is_nn, ↓in_t, ↓in_l, ↓in_s, ↓ix_l, ↓ix_t, ↓ix_s, ↓sl_l, ↓sl_t, ↓sl_s, ↓kn_i, ↓kp_i, ↓kr1, ↓kr2, ↓ke_l, ↓kz_l, ↓kz_t, ↓klr1, ↓klr2, ↓gt_e, ↓gs_n, ↓gs_c, nc_0, nc_1, nc_2, nc_3, nc_4, nc_5, nc_6, nc_7, nc_8, nc_9, nc_10, nc_11, nc_12, eq_ii, eq_ss, eq_nn, eq_bb, eq_st, eq_ts, eq_si, eq_is, eq_it, eq_ti, cmp_i, cmp_b, cmp_n, sc_i, sc_s, sc_b, sc_n, flat_i, flat_s, flat_b, flat_n, tru_n, tru_b, tru_i, tru_t, tru_l, items_t, items_l, len_t, len_l, iter_t, iter_l, isN_n, isN_i, isN_s, isN_t, isN_l, isN_b, at_0, at_1, at_2, at_3, ib_tn, ib_tb, ib_ti, ib_ts, ib_tt, ib_tl, ib_sn, ib_sb, ib_si, ib_ss, ib_st, ib_sl, ib_in, ib_ib, ib_ii, ib_is, ib_it, ib_il, ib_bn, ib_bb, ib_bi, ib_bs, ib_bt, ib_bl, na_n, na_b, na_i, na_s, na_t, na_l, List.getElem?_cons_zero, List.getElem?_cons_succ, List.set_cons_zero, List.set_cons_succ, List.map_cons, List.map_nil, List.length_cons, List.length_nil, List.replicate_succ, List.replicate_zero, List.cons_append, List.nil_append, List.append_nil, List.isEmpty_nil, List.isEmpty_cons, List.cons.injEq, Option.some.injEq, T.int.injEq, T.str.injEq, T.bl.injEq, T.tup.injEq, T.lst.injEq, T.adr.injEq, Sl.fz.injEq, Sl.ow.injEq, exists_eq_left, exists_eq_left', exists_eq_right, exists_eq_right', exists_eq, exists_eq', exists_and_left, exists_and_right, exists_const, exists_false, and_true, true_and, and_false, false_and, or_true, true_or, or_false, false_or, not_true_eq_false, not_false_eq_true, if_true, if_false, ite_true, ite_false, Bool.not_true, Bool.not_false, Bool.true_or, Bool.or_true, Bool.false_or, Bool.or_false, Bool.true_and, Bool.and_true, Bool.false_and, Bool.and_false, Bool.false_eq_true, Bool.true_eq_false, eq_self, decide_eq_true_eq, decide_true, decide_false, Bool.decide_eq_true, Bool.not_eq_true, decide_eq_false_iff_not, Bool.and_eq_true, Bool.or_eq_true, Bool.not_eq_true', reduceCtorEq, ne_eq, Nat.le_refl, Nat.reduceAdd, Nat.reduceSub, Nat.reduceLeDiff, Nat.reduceLT, implies_true, forall_const, List.any_cons, List.any_nil, List.all_cons, List.all_nil, wipeP, restore, List.getD_eq_getElem?_getD, Option.getD_some, List.mem_singleton, forall_eq, Int.reduceLT, Int.reduceLE, Int.reduceNeg, Int.reduceSub, Int.reduceAdd, Int.reduceToNat, Int.reduceEq, Int.reduceNe, String.reduceEq, and_self, or_self, w_each, str_inj, pfWX]
      have lq : (Str.ofString "each").length ≤ 4 := lw
      refine ⟨by omega, _, hk, by omega, by rw [slen]; omega, ?_⟩
      simp only [sapp]
      exact h
  · have c2 : (Str.ofString " { ").length = 3 := by decide +kernel
    have c5 : (Str.ofString "}").length = 1 := by decide +kernel
    have c6 : (Str.ofString " ; ").length = 3 := by decide +kernel
    have c0 : (Str.ofString "").length = 0 := by decide +kernel
    have c4 : Str.ofString " { " = sp1 ++ (bO ++ sp1) := by decide +kernel
    have c7 : Str.ofString " ; " = sp1 ++ (sSe ++ sp1) := by decide +kernel
    have hs : ∀ x ∈ l.map trS, x ≠ [] := fun x hx => by
      obtain ⟨p, _, rfl⟩ := List.mem_map.mp hx
      simp [trS]
    have j1 := catJ (l.map trS) [bC] hs (by simp)
    have tok : ∀ x ∈ l.flatMap trS ++ [bC], tkOk x := fun x hx => by
      have := wt_ok (n + 1) _ _ (.inr (.inr (.inr (.inr ⟨w, l, hw, rfl, hl, rfl⟩)))) x (List.mem_cons_of_mem _ (List.mem_cons_of_mem _ hx))
      exact this
    have j2 := join_len (l.flatMap trS ++ [bC]) tok
    have n1 := fm_num (f := trS) (l := l) (fun x _ => by rw [trs_len]; omega)
    have k : ∀ l : List Tr, (∀ x ∈ l.flatMap trS, tkOk x) → (((l.map trS).map fun x => J x ++ sp1).map (·.length)).sum ≤ 10 * (l.flatMap trS).length := by
      intro l
      induction l with
      | nil => intro _; exact Nat.zero_le _
      | cons p l ih =>
        intro h
        rw [List.flatMap_cons] at h
        have ih := ih fun q hq => h q (List.mem_append_right _ hq)
        have b3 := join_len (trS p) (fun x hx => h x (List.mem_append_left _ hx))
        have b4 := trs_len p
        have c1 : sp1.length = 1 := by decide +kernel
        simp only [List.map_cons, List.sum_cons, List.flatMap_cons, List.length_append, slen] at ih ⊢
        omega
    have kk := k l fun x hx => tok x (List.mem_append_left _ hx)
    have mem : ∀ p ∈ l, (trS p).length ≤ (l.flatMap trS).length := fun p hp => fm_mem hp
    rw [List.length_cons, List.length_cons, List.length_append, List.length_singleton] at hn
    have hn' := hn
    rw [List.flatMap_def] at h j2 hn'
    rw [← j1, slen, List.length_append, List.length_singleton] at j2
    rw [J_cons _ (by simp), J_cons _ (by simp), ← j1, J_one] at h
    have lw : w.length ≤ 5 := by rcases hw with rfl | rfl <;> decide +kernel
    have fin : (w.length + (Str.ofString " { ").length ≤ 16000000 ∧ (w ++ Str.ofString " { ").length + (cat (List.map (fun x => J x ++ sp1) (List.map trS l))).length ≤ 16000000 ∧ (w ++ Str.ofString " { " ++ cat (List.map (fun x => J x ++ sp1) (List.map trS l))).length + (Str.ofString "}").length ≤ 16000000) ∧
      Φ (T.str (w ++ Str.ofString " { " ++ cat (List.map (fun x => J x ++ sp1) (List.map trS l)) ++ Str.ofString "}")) false := by
      refine ⟨⟨by omega, by rw [slen]; omega, by rw [slen, slen]; omega⟩, ?_⟩
      rw [c4]
      simp only [sapp]
      exact h
    obtain ⟨⟨f1, f2, f3⟩, f4⟩ := fin
    have est : ∀ p : Tr, p ∈ l → J (p.1.2 :: w_to :: p.2.1.2 :: w_by :: p.2.2.2) ++ Str.ofString " ; " = J (trS p) ++ sp1 := fun p hp => by
      have hz := wt_ne (hl p hp).2.2
      rw [trS, J_cons _ (by simp), J_cons _ (by simp), J_cons _ (by simp), J_cons _ hz, J_cons _ (by simp), J_cons _ (by simp), J_cons _ (by simp), J_cons _ (by simp), J_app hz (by simp), J_one, c7]
      simp only [sapp]
    have est2 : ∀ p : Tr, p ∈ l → (J (p.1.2 :: w_to :: p.2.1.2 :: w_by :: p.2.2.2)).length ≤ 900000 := fun p hp => by
      have := mem p hp
      rw [trs_len] at this
      have hz := wt_ne (hl p hp).2.2
      have b3 := join_len _ (wt_ok n _ _ (hl p hp).2.2)
      have b1 := (ed_tk (hl p hp).1).1
      have b2 := (ed_tk (hl p hp).2.1).1
      have e1 : sp1.length = 1 := by decide +kernel
      have e2 : w_to.length = 2 := by decide +kernel
      have e3 : w_by.length = 2 := by decide +kernel
      rw [J_cons _ (by simp), J_cons _ (by simp), J_cons _ (by simp), J_cons _ hz, slen, slen, slen, slen, slen, slen, slen, slen]
      omega
    have e : (l.map fun p => T.str (J (trS p) ++ sp1)) = ((l.map trS).map fun x => J x ++ sp1).map T.str := by
      rw [List.map_map, List.map_map]
      rfl
    rcases hw with rfl | rfl
    · simp only [↓reduceIte, ↓sSeq, ↓sAsg, ↓sIf, ↓sRet, ↓sRetN, ↓sExpr, ↓sNext, ↓sBreak, ↓sCont, ↓sAug, ↓sFor, ↓gN, ↓pIx, ↓pC, ↓pTup, ↓pLst, ↓pCons, ↓pNil, ↓pStar, ↓pOp, ↓pTB, ↓pTru, ↓pTAnd, ↓pTOr, ↓pTNot, ↓pAndV, ↓pOrV, ↓pNotV, ↓pIf, ↓pCall, ↓pLen, ↓pIsi, ↓pDget, ↓gDset, ↓gSubT, ↓PEq, ↓PNe, ↓pChain, ↓pNeg, ↓pSl, ↓pNoPart, ↓pPart, ↓pIter, ↓pRng1, ↓pRng2, ↓pEnum, ↓pRev, ↓pZip, ↓pMet, ↓pMet0, ↓pMut, ↓pLc, ↓pLRng1, ↓pLRng2, ↓pYes, ↓pRE, ↓startP, ↓pWords, ↓pSplit, ↓gLt, ↓gLe, ↓gGt, ↓gGe, ↓pV_f0, ↓pV_o0, ↓pRV_f0, ↓pRV_o0, ↓lk_f0, ↓lk_o0, ↓sRV_f0, ↓sRV_o0, ↓pV_f1, ↓pV_o1, ↓pRV_f1, ↓pRV_o1, ↓lk_f1, ↓lk_o1, ↓sRV_f1, ↓sRV_o1, ↓pV_f2, ↓pV_o2, ↓pRV_f2, ↓pRV_o2, ↓lk_f2, ↓lk_o2, ↓sRV_f2, ↓sRV_o2, ↓pV_f3, ↓pV_o3, ↓pRV_f3, ↓pRV_o3, ↓lk_f3, ↓lk_o3, ↓sRV_f3, ↓sRV_o3, ↓pV_f4, ↓pV_o4, ↓pRV_f4, ↓pRV_o4, ↓lk_f4, ↓lk_o4, ↓sRV_f4, ↓sRV_o4, ↓pV_f5, ↓pV_o5, ↓pRV_f5, ↓pRV_o5, ↓lk_f5, ↓lk_o5, ↓sRV_f5, ↓sRV_o5, ↓pV_f6, ↓pV_o6, ↓pRV_f6, ↓pRV_o6, ↓lk_f6, ↓lk_o6, ↓sRV_f6, ↓sRV_o6, ↓pV_f7, ↓pV_o7, ↓pRV_f7, ↓pRV_o7, ↓lk_f7, ↓lk_o7, ↓sRV_f7, ↓sRV_o7, ↓pV_f8, ↓pV_o8, ↓pRV_f8, ↓pRV_o8, ↓lk_f8, ↓lk_o8, ↓sRV_f8, ↓sRV_o8, ↓pV_f9, ↓pV_o9, ↓pRV_f9, ↓pRV_o9, ↓lk_f9, ↓lk_o9, ↓sRV_f9, ↓sRV_o9, ↓pV_f10, ↓pV_o10, ↓pRV_f10, ↓pRV_o10, ↓lk_f10, ↓lk_o10, ↓sRV_f10, ↓sRV_o10, ↓pV_f11, ↓pV_o11, ↓pRV_f11, ↓pRV_o11, ↓lk_f11, ↓lk_o11, ↓sRV_f11, ↓sRV_o11, ↓pV_f12, ↓pV_o12, ↓pRV_f12, ↓pRV_o12, ↓lk_f12, ↓lk_o12, ↓sRV_f12, ↓sRV_o12, ↓pV_f13, ↓pV_o13, ↓pRV_f13, ↓pRV_o13, ↓lk_f13, ↓lk_o13, ↓sRV_f13, ↓sRV_o13, ↓lk_fz, ↓of_fn, ↓of_fb, ↓of_fi, ↓of_fs, ↓of_ft, ↓of_fl, ↓of_ol, ↓of_ff, ↓ad_i, ↓ad_s, ↓ad_l, ↓ad_t, ↓su_i, ↓mu_i, ↓mu_l, ↓mo_i, ↓fd_i, ↓pw_i, ↓an_i, ↓ci_i, ↓is_n, ↓is_nn, ↓in_t, ↓in_l, ↓in_s, ↓ix_l, ↓ix_t, ↓ix_s, ↓sl_l, ↓sl_t, ↓sl_s, ↓kn_i, ↓kp_i, ↓kr1, ↓kr2, ↓ke_l, ↓kz_l, ↓kz_t, ↓klr1, ↓klr2, ↓gt_e, ↓gs_n, ↓gs_c, nc_0, nc_1, nc_2, nc_3, nc_4, nc_5, nc_6, nc_7, nc_8, nc_9, nc_10, nc_11, nc_12, eq_ii, eq_ss, eq_nn, eq_bb, eq_st, eq_ts, eq_si, eq_is, eq_it, eq_ti, cmp_i, cmp_b, cmp_n, sc_i, sc_s, sc_b, sc_n, flat_i, flat_s, flat_b, flat_n, tru_n, tru_b, tru_i, tru_t, tru_l, items_t, items_l, len_t, len_l, iter_t, iter_l, isN_n, isN_i, isN_s, isN_t, isN_l, isN_b, at_0, at_1, at_2, at_3, ib_tn, ib_tb, ib_ti, ib_ts, ib_tt, ib_tl, ib_sn, ib_sb, ib_si, ib_ss, ib_st, ib_sl, ib_in, ib_ib, ib_ii, ib_is, ib_it, ib_il, ib_bn, ib_bb, ib_bi, ib_bs, ib_bt, ib_bl, na_n, na_b, na_i, na_s, na_t, na_l, List.getElem?_cons_zero, List.getElem?_cons_succ, List.set_cons_zero, List.set_cons_succ, List.map_cons, List.map_nil, List.length_cons, List.length_nil, List.replicate_succ, List.replicate_zero, List.cons_append, List.nil_append, List.append_nil, List.isEmpty_nil, List.isEmpty_cons, List.cons.injEq, Option.some.injEq, T.int.injEq, T.str.injEq, T.bl.injEq, T.tup.injEq, T.lst.injEq, T.adr.injEq, Sl.fz.injEq, Sl.ow.injEq, exists_eq_left, exists_eq_left', exists_eq_right, exists_eq_right', exists_eq, exists_eq', exists_and_left, exists_and_right, exists_const, exists_false, and_true, true_and, and_false, false_and, or_true, true_or, or_false, false_or, not_true_eq_false, not_false_eq_true, if_true, if_false, ite_true, ite_false, Bool.not_true, Bool.not_false, Bool.true_or, Bool.or_true, Bool.false_or, Bool.or_false, Bool.true_and, Bool.and_true, Bool.false_and, Bool.and_false, Bool.false_eq_true, Bool.true_eq_false, eq_self, decide_eq_true_eq, decide_true, decide_false, Bool.decide_eq_true, Bool.not_eq_true, decide_eq_false_iff_not, Bool.and_eq_true, Bool.or_eq_true, Bool.not_eq_true', reduceCtorEq, ne_eq, Nat.le_refl, Nat.reduceAdd, Nat.reduceSub, Nat.reduceLeDiff, Nat.reduceLT, implies_true, forall_const, List.any_cons, List.any_nil, List.all_cons, List.all_nil, wipeP, restore, List.getD_eq_getElem?_getD, Option.getD_some, List.mem_singleton, forall_eq, Int.reduceLT, Int.reduceLE, Int.reduceNeg, Int.reduceSub, Int.reduceAdd, Int.reduceToNat, Int.reduceEq, Int.reduceNe, String.reduceEq, and_self, or_self, w_arms, str_inj, tyOk]
      refine ⟨f1, by rw [List.length_map]; omega, by simp, fun i acc ρ => ρ = [Sl.fz (T.tup [T.str (Str.ofString "arms"), T.tup (List.map trT l)]), Sl.fz (T.str (Str.ofString "arms")), Sl.no] ∧ acc = (l.take i).map fun p => .str (J (trS p) ++ sp1), ⟨rfl, rfl⟩, ?_, ?_⟩
      · rintro i t acc ρ2 ei hacc ⟨rfl, rfl⟩
        obtain ⟨hi, rfl⟩ := map_get ei
        have hm := List.getElem_mem hi
        have b1 := mem _ hm
        have b2 := est2 _ hm
        simp only [↓reduceIte, ↓sSeq, ↓sAsg, ↓sIf, ↓sRet, ↓sRetN, ↓sExpr, ↓sNext, ↓sBreak, ↓sCont, ↓sAug, ↓sFor, ↓gN, ↓pIx, ↓pC, ↓pTup, ↓pLst, ↓pCons, ↓pNil, ↓pStar, ↓pOp, ↓pTB, ↓pTru, ↓pTAnd, ↓pTOr, ↓pTNot, ↓pAndV, ↓pOrV, ↓pNotV, ↓pIf, ↓pCall, ↓pLen, ↓pIsi, ↓pDget, ↓gDset, ↓gSubT, ↓PEq, ↓PNe, ↓pChain, ↓pNeg, ↓pSl, ↓pNoPart, ↓pPart, ↓pIter, ↓pRng1, ↓pRng2, ↓pEnum, ↓pRev, ↓pZip, ↓pMet, ↓pMet0, ↓pMut, ↓pLc, ↓pLRng1, ↓pLRng2, ↓pYes, ↓pRE, ↓startP, ↓pWords, ↓pSplit, ↓gLt, ↓gLe, ↓gGt, ↓gGe, ↓pV_f0, ↓pV_o0, ↓pRV_f0, ↓pRV_o0, ↓lk_f0, ↓lk_o0, ↓sRV_f0, ↓sRV_o0, ↓pV_f1, ↓pV_o1, ↓pRV_f1, ↓pRV_o1, ↓lk_f1, ↓lk_o1, ↓sRV_f1, ↓sRV_o1, ↓pV_f2, ↓pV_o2, ↓pRV_f2, ↓pRV_o2, ↓lk_f2, ↓lk_o2, ↓sRV_f2, ↓sRV_o2, ↓pV_f3, ↓pV_o3, ↓pRV_f3, ↓pRV_o3, ↓lk_f3, ↓lk_o3, ↓sRV_f3, ↓sRV_o3, ↓pV_f4, ↓pV_o4, ↓pRV_f4, ↓pRV_o4, ↓lk_f4, ↓lk_o4, ↓sRV_f4, ↓sRV_o4, ↓pV_f5, ↓pV_o5, ↓pRV_f5, ↓pRV_o5, ↓lk_f5, ↓lk_o5, ↓sRV_f5, ↓sRV_o5, ↓pV_f6, ↓pV_o6, ↓pRV_f6, ↓pRV_o6, ↓lk_f6, ↓lk_o6, ↓sRV_f6, ↓sRV_o6, ↓pV_f7, ↓pV_o7, ↓pRV_f7, ↓pRV_o7, ↓lk_f7, ↓lk_o7, ↓sRV_f7, ↓sRV_o7, ↓pV_f8, ↓pV_o8, ↓pRV_f8, ↓pRV_o8, ↓lk_f8, ↓lk_o8, ↓sRV_f8, ↓sRV_o8, ↓pV_f9, ↓pV_o9, ↓pRV_f9, ↓pRV_o9, ↓lk_f9, ↓lk_o9, ↓sRV_f9, ↓sRV_o9, ↓pV_f10, ↓pV_o10, ↓pRV_f10, ↓pRV_o10, ↓lk_f10, ↓lk_o10, ↓sRV_f10, ↓sRV_o10, ↓pV_f11, ↓pV_o11, ↓pRV_f11, ↓pRV_o11, ↓lk_f11, ↓lk_o11, ↓sRV_f11, ↓sRV_o11, ↓pV_f12, ↓pV_o12, ↓pRV_f12, ↓pRV_o12, ↓lk_f12, ↓lk_o12, ↓sRV_f12, ↓sRV_o12, ↓pV_f13, ↓pV_o13, ↓pRV_f13, ↓pRV_o13, ↓lk_f13, ↓lk_o13, ↓sRV_f13, ↓sRV_o13, ↓lk_fz, ↓of_fn, ↓of_fb, ↓of_fi, ↓of_fs, ↓of_ft, ↓of_fl, ↓of_ol, ↓of_ff, ↓ad_i, ↓ad_s, ↓ad_l, ↓ad_t, ↓su_i, ↓mu_i, ↓mu_l, ↓mo_i, ↓fd_i, ↓pw_i, ↓an_i, ↓ci_i, ↓is_n, ↓is_nn, ↓in_t, ↓in_l, ↓in_s, ↓ix_l, ↓ix_t, ↓ix_s, ↓sl_l, ↓sl_t, ↓sl_s, ↓kn_i, ↓kp_i, ↓kr1, ↓kr2, ↓ke_l, ↓kz_l, ↓kz_t, ↓klr1, ↓klr2, ↓gt_e, ↓gs_n, ↓gs_c, nc_0, nc_1, nc_2, nc_3, nc_4, nc_5, nc_6, nc_7, nc_8, nc_9, nc_10, nc_11, nc_12, eq_ii, eq_ss, eq_nn, eq_bb, eq_st, eq_ts, eq_si, eq_is, eq_it, eq_ti, cmp_i, cmp_b, cmp_n, sc_i, sc_s, sc_b, sc_n, flat_i, flat_s, flat_b, flat_n, tru_n, tru_b, tru_i, tru_t, tru_l, items_t, items_l, len_t, len_l, iter_t, iter_l, isN_n, isN_i, isN_s, isN_t, isN_l, isN_b, at_0, at_1, at_2, at_3, ib_tn, ib_tb, ib_ti, ib_ts, ib_tt, ib_tl, ib_sn, ib_sb, ib_si, ib_ss, ib_st, ib_sl, ib_in, ib_ib, ib_ii, ib_is, ib_it, ib_il, ib_bn, ib_bb, ib_bi, ib_bs, ib_bt, ib_bl, na_n, na_b, na_i, na_s, na_t, na_l, List.getElem?_cons_zero, List.getElem?_cons_succ, List.set_cons_zero, List.set_cons_succ, List.map_cons, List.map_nil, List.length_cons, List.length_nil, List.replicate_succ, List.replicate_zero, List.cons_append, List.nil_append, List.append_nil, List.isEmpty_nil, List.isEmpty_cons, List.cons.injEq, Option.some.injEq, T.int.injEq, T.str.injEq, T.bl.injEq, T.tup.injEq, T.lst.injEq, T.adr.injEq, Sl.fz.injEq, Sl.ow.injEq, exists_eq_left, exists_eq_left', exists_eq_right, exists_eq_right', exists_eq, exists_eq', exists_and_left, exists_and_right, exists_const, exists_false, and_true, true_and, and_false, false_and, or_true, true_or, or_false, false_or, not_true_eq_false, not_false_eq_true, if_true, if_false, ite_true, ite_false, Bool.not_true, Bool.not_false, Bool.true_or, Bool.or_true, Bool.false_or, Bool.or_false, Bool.true_and, Bool.and_true, Bool.false_and, Bool.and_false, Bool.false_eq_true, Bool.true_eq_false, eq_self, decide_eq_true_eq, decide_true, decide_false, Bool.decide_eq_true, Bool.not_eq_true, decide_eq_false_iff_not, Bool.and_eq_true, Bool.or_eq_true, Bool.not_eq_true', reduceCtorEq, ne_eq, Nat.le_refl, Nat.reduceAdd, Nat.reduceSub, Nat.reduceLeDiff, Nat.reduceLT, implies_true, forall_const, List.any_cons, List.any_nil, List.all_cons, List.all_nil, wipeP, restore, List.getD_eq_getElem?_getD, Option.getD_some, List.mem_singleton, forall_eq, Int.reduceLT, Int.reduceLE, Int.reduceNeg, Int.reduceSub, Int.reduceAdd, Int.reduceToNat, Int.reduceEq, Int.reduceNe, String.reduceEq, and_self, or_self, pfTX]
        refine ⟨_, rfl, hl _ hm, by omega, by omega, ?_⟩
        rw [List.take_add_one, List.getElem?_eq_getElem hi, List.map_append, est _ hm]
        rfl
      · rintro acc ρ2 hacc ⟨rfl, rfl⟩
        rw [List.length_map, List.take_length]
        exact ⟨_, .inl (by rw [e]), by rw [c0]; omega, f2, f3, f4⟩
    · simp only [↓reduceIte, ↓sSeq, ↓sAsg, ↓sIf, ↓sRet, ↓sRetN, ↓sExpr, ↓sNext, ↓sBreak, ↓sCont, ↓sAug, ↓sFor, ↓gN, ↓pIx, ↓pC, ↓pTup, ↓pLst, ↓pCons, ↓pNil, ↓pStar, ↓pOp, ↓pTB, ↓pTru, ↓pTAnd, ↓pTOr, ↓pTNot, ↓pAndV, ↓pOrV, ↓pNotV, ↓pIf, ↓pCall, ↓pLen, ↓pIsi, ↓pDget, ↓gDset, ↓gSubT, ↓PEq, ↓PNe, ↓pChain, ↓pNeg, ↓pSl, ↓pNoPart, ↓pPart, ↓pIter, ↓pRng1, ↓pRng2, ↓pEnum, ↓pRev, ↓pZip, ↓pMet, ↓pMet0, ↓pMut, ↓pLc, ↓pLRng1, ↓pLRng2, ↓pYes, ↓pRE, ↓startP, ↓pWords, ↓pSplit, ↓gLt, ↓gLe, ↓gGt, ↓gGe, ↓pV_f0, ↓pV_o0, ↓pRV_f0, ↓pRV_o0, ↓lk_f0, ↓lk_o0, ↓sRV_f0, ↓sRV_o0, ↓pV_f1, ↓pV_o1, ↓pRV_f1, ↓pRV_o1, ↓lk_f1, ↓lk_o1, ↓sRV_f1, ↓sRV_o1, ↓pV_f2, ↓pV_o2, ↓pRV_f2, ↓pRV_o2, ↓lk_f2, ↓lk_o2, ↓sRV_f2, ↓sRV_o2, ↓pV_f3, ↓pV_o3, ↓pRV_f3, ↓pRV_o3, ↓lk_f3, ↓lk_o3, ↓sRV_f3, ↓sRV_o3, ↓pV_f4, ↓pV_o4, ↓pRV_f4, ↓pRV_o4, ↓lk_f4, ↓lk_o4, ↓sRV_f4, ↓sRV_o4, ↓pV_f5, ↓pV_o5, ↓pRV_f5, ↓pRV_o5, ↓lk_f5, ↓lk_o5, ↓sRV_f5, ↓sRV_o5, ↓pV_f6, ↓pV_o6, ↓pRV_f6, ↓pRV_o6, ↓lk_f6, ↓lk_o6, ↓sRV_f6, ↓sRV_o6, ↓pV_f7, ↓pV_o7, ↓pRV_f7, ↓pRV_o7, ↓lk_f7, ↓lk_o7, ↓sRV_f7, ↓sRV_o7, ↓pV_f8, ↓pV_o8, ↓pRV_f8, ↓pRV_o8, ↓lk_f8, ↓lk_o8, ↓sRV_f8, ↓sRV_o8, ↓pV_f9, ↓pV_o9, ↓pRV_f9, ↓pRV_o9, ↓lk_f9, ↓lk_o9, ↓sRV_f9, ↓sRV_o9, ↓pV_f10, ↓pV_o10, ↓pRV_f10, ↓pRV_o10, ↓lk_f10, ↓lk_o10, ↓sRV_f10, ↓sRV_o10, ↓pV_f11, ↓pV_o11, ↓pRV_f11, ↓pRV_o11, ↓lk_f11, ↓lk_o11, ↓sRV_f11, ↓sRV_o11, ↓pV_f12, ↓pV_o12, ↓pRV_f12, ↓pRV_o12, ↓lk_f12, ↓lk_o12, ↓sRV_f12, ↓sRV_o12, ↓pV_f13, ↓pV_o13, ↓pRV_f13, ↓pRV_o13, ↓lk_f13, ↓lk_o13, ↓sRV_f13, ↓sRV_o13, ↓lk_fz, ↓of_fn, ↓of_fb, ↓of_fi, ↓of_fs, ↓of_ft, ↓of_fl, ↓of_ol, ↓of_ff, ↓ad_i, ↓ad_s, ↓ad_l, ↓ad_t, ↓su_i, ↓mu_i, ↓mu_l, ↓mo_i, ↓fd_i, ↓pw_i, ↓an_i, ↓ci_i, ↓is_n, ↓is_nn, ↓in_t, ↓in_l, ↓in_s, ↓ix_l, ↓ix_t, ↓ix_s, ↓sl_l, ↓sl_t, ↓sl_s, ↓kn_i, ↓kp_i, ↓kr1, ↓kr2, ↓ke_l, ↓kz_l, ↓kz_t, ↓klr1, ↓klr2, ↓gt_e, ↓gs_n, ↓gs_c, nc_0, nc_1, nc_2, nc_3, nc_4, nc_5, nc_6, nc_7, nc_8, nc_9, nc_10, nc_11, nc_12, eq_ii, eq_ss, eq_nn, eq_bb, eq_st, eq_ts, eq_si, eq_is, eq_it, eq_ti, cmp_i, cmp_b, cmp_n, sc_i, sc_s, sc_b, sc_n, flat_i, flat_s, flat_b, flat_n, tru_n, tru_b, tru_i, tru_t, tru_l, items_t, items_l, len_t, len_l, iter_t, iter_l, isN_n, isN_i, isN_s, isN_t, isN_l, isN_b, at_0, at_1, at_2, at_3, ib_tn, ib_tb, ib_ti, ib_ts, ib_tt, ib_tl, ib_sn, ib_sb, ib_si, ib_ss, ib_st, ib_sl, ib_in, ib_ib, ib_ii, ib_is, ib_it, ib_il, ib_bn, ib_bb, ib_bi, ib_bs, ib_bt, ib_bl, na_n, na_b, na_i, na_s, na_t, na_l, List.getElem?_cons_zero, List.getElem?_cons_succ, List.set_cons_zero, List.set_cons_succ, List.map_cons, List.map_nil, List.length_cons, List.length_nil, List.replicate_succ, List.replicate_zero, List.cons_append, List.nil_append, List.append_nil, List.isEmpty_nil, List.isEmpty_cons, List.cons.injEq, Option.some.injEq, T.int.injEq, T.str.injEq, T.bl.injEq, T.tup.injEq, T.lst.injEq, T.adr.injEq, Sl.fz.injEq, Sl.ow.injEq, exists_eq_left, exists_eq_left', exists_eq_right, exists_eq_right', exists_eq, exists_eq', exists_and_left, exists_and_right, exists_const, exists_false, and_true, true_and, and_false, false_and, or_true, true_or, or_false, false_or, not_true_eq_false, not_false_eq_true, if_true, if_false, ite_true, ite_false, Bool.not_true, Bool.not_false, Bool.true_or, Bool.or_true, Bool.false_or, Bool.or_false, Bool.true_and, Bool.and_true, Bool.false_and, Bool.and_false, Bool.false_eq_true, Bool.true_eq_false, eq_self, decide_eq_true_eq, decide_true, decide_false, Bool.decide_eq_true, Bool.not_eq_true, decide_eq_false_iff_not, Bool.and_eq_true, Bool.or_eq_true, Bool.not_eq_true', reduceCtorEq, ne_eq, Nat.le_refl, Nat.reduceAdd, Nat.reduceSub, Nat.reduceLeDiff, Nat.reduceLT, implies_true, forall_const, List.any_cons, List.any_nil, List.all_cons, List.all_nil, wipeP, restore, List.getD_eq_getElem?_getD, Option.getD_some, List.mem_singleton, forall_eq, Int.reduceLT, Int.reduceLE, Int.reduceNeg, Int.reduceSub, Int.reduceAdd, Int.reduceToNat, Int.reduceEq, Int.reduceNe, String.reduceEq, and_self, or_self, w_parts, str_inj, tyOk]
      refine ⟨f1, by rw [List.length_map]; omega, by simp, fun i acc ρ => ρ = [Sl.fz (T.tup [T.str (Str.ofString "parts"), T.tup (List.map trT l)]), Sl.fz (T.str (Str.ofString "parts")), Sl.no] ∧ acc = (l.take i).map fun p => .str (J (trS p) ++ sp1), ⟨rfl, rfl⟩, ?_, ?_⟩
      · rintro i t acc ρ2 ei hacc ⟨rfl, rfl⟩
        obtain ⟨hi, rfl⟩ := map_get ei
        have hm := List.getElem_mem hi
        have b1 := mem _ hm
        have b2 := est2 _ hm
        simp only [↓reduceIte, ↓sSeq, ↓sAsg, ↓sIf, ↓sRet, ↓sRetN, ↓sExpr, ↓sNext, ↓sBreak, ↓sCont, ↓sAug, ↓sFor, ↓gN, ↓pIx, ↓pC, ↓pTup, ↓pLst, ↓pCons, ↓pNil, ↓pStar, ↓pOp, ↓pTB, ↓pTru, ↓pTAnd, ↓pTOr, ↓pTNot, ↓pAndV, ↓pOrV, ↓pNotV, ↓pIf, ↓pCall, ↓pLen, ↓pIsi, ↓pDget, ↓gDset, ↓gSubT, ↓PEq, ↓PNe, ↓pChain, ↓pNeg, ↓pSl, ↓pNoPart, ↓pPart, ↓pIter, ↓pRng1, ↓pRng2, ↓pEnum, ↓pRev, ↓pZip, ↓pMet, ↓pMet0, ↓pMut, ↓pLc, ↓pLRng1, ↓pLRng2, ↓pYes, ↓pRE, ↓startP, ↓pWords, ↓pSplit, ↓gLt, ↓gLe, ↓gGt, ↓gGe, ↓pV_f0, ↓pV_o0, ↓pRV_f0, ↓pRV_o0, ↓lk_f0, ↓lk_o0, ↓sRV_f0, ↓sRV_o0, ↓pV_f1, ↓pV_o1, ↓pRV_f1, ↓pRV_o1, ↓lk_f1, ↓lk_o1, ↓sRV_f1, ↓sRV_o1, ↓pV_f2, ↓pV_o2, ↓pRV_f2, ↓pRV_o2, ↓lk_f2, ↓lk_o2, ↓sRV_f2, ↓sRV_o2, ↓pV_f3, ↓pV_o3, ↓pRV_f3, ↓pRV_o3, ↓lk_f3, ↓lk_o3, ↓sRV_f3, ↓sRV_o3, ↓pV_f4, ↓pV_o4, ↓pRV_f4, ↓pRV_o4, ↓lk_f4, ↓lk_o4, ↓sRV_f4, ↓sRV_o4, ↓pV_f5, ↓pV_o5, ↓pRV_f5, ↓pRV_o5, ↓lk_f5, ↓lk_o5, ↓sRV_f5, ↓sRV_o5, ↓pV_f6, ↓pV_o6, ↓pRV_f6, ↓pRV_o6, ↓lk_f6, ↓lk_o6, ↓sRV_f6, ↓sRV_o6, ↓pV_f7, ↓pV_o7, ↓pRV_f7, ↓pRV_o7, ↓lk_f7, ↓lk_o7, ↓sRV_f7, ↓sRV_o7, ↓pV_f8, ↓pV_o8, ↓pRV_f8, ↓pRV_o8, ↓lk_f8, ↓lk_o8, ↓sRV_f8, ↓sRV_o8, ↓pV_f9, ↓pV_o9, ↓pRV_f9, ↓pRV_o9, ↓lk_f9, ↓lk_o9, ↓sRV_f9, ↓sRV_o9, ↓pV_f10, ↓pV_o10, ↓pRV_f10, ↓pRV_o10, ↓lk_f10, ↓lk_o10, ↓sRV_f10, ↓sRV_o10, ↓pV_f11, ↓pV_o11, ↓pRV_f11, ↓pRV_o11, ↓lk_f11, ↓lk_o11, ↓sRV_f11, ↓sRV_o11, ↓pV_f12, ↓pV_o12, ↓pRV_f12, ↓pRV_o12, ↓lk_f12, ↓lk_o12, ↓sRV_f12, ↓sRV_o12, ↓pV_f13, ↓pV_o13, ↓pRV_f13, ↓pRV_o13, ↓lk_f13, ↓lk_o13, ↓sRV_f13, ↓sRV_o13, ↓lk_fz, ↓of_fn, ↓of_fb, ↓of_fi, ↓of_fs, ↓of_ft, ↓of_fl, ↓of_ol, ↓of_ff, ↓ad_i, ↓ad_s, ↓ad_l, ↓ad_t, ↓su_i, ↓mu_i, ↓mu_l, ↓mo_i, ↓fd_i, ↓pw_i, ↓an_i, ↓ci_i, ↓is_n, ↓is_nn, ↓in_t, ↓in_l, ↓in_s, ↓ix_l, ↓ix_t, ↓ix_s, ↓sl_l, ↓sl_t, ↓sl_s, ↓kn_i, ↓kp_i, ↓kr1, ↓kr2, ↓ke_l, ↓kz_l, ↓kz_t, ↓klr1, ↓klr2, ↓gt_e, ↓gs_n, ↓gs_c, nc_0, nc_1, nc_2, nc_3, nc_4, nc_5, nc_6, nc_7, nc_8, nc_9, nc_10, nc_11, nc_12, eq_ii, eq_ss, eq_nn, eq_bb, eq_st, eq_ts, eq_si, eq_is, eq_it, eq_ti, cmp_i, cmp_b, cmp_n, sc_i, sc_s, sc_b, sc_n, flat_i, flat_s, flat_b, flat_n, tru_n, tru_b, tru_i, tru_t, tru_l, items_t, items_l, len_t, len_l, iter_t, iter_l, isN_n, isN_i, isN_s, isN_t, isN_l, isN_b, at_0, at_1, at_2, at_3, ib_tn, ib_tb, ib_ti, ib_ts, ib_tt, ib_tl, ib_sn, ib_sb, ib_si, ib_ss, ib_st, ib_sl, ib_in, ib_ib, ib_ii, ib_is, ib_it, ib_il, ib_bn, ib_bb, ib_bi, ib_bs, ib_bt, ib_bl, na_n, na_b, na_i, na_s, na_t, na_l, List.getElem?_cons_zero, List.getElem?_cons_succ, List.set_cons_zero, List.set_cons_succ, List.map_cons, List.map_nil, List.length_cons, List.length_nil, List.replicate_succ, List.replicate_zero, List.cons_append, List.nil_append, List.append_nil, List.isEmpty_nil, List.isEmpty_cons, List.cons.injEq, Option.some.injEq, T.int.injEq, T.str.injEq, T.bl.injEq, T.tup.injEq, T.lst.injEq, T.adr.injEq, Sl.fz.injEq, Sl.ow.injEq, exists_eq_left, exists_eq_left', exists_eq_right, exists_eq_right', exists_eq, exists_eq', exists_and_left, exists_and_right, exists_const, exists_false, and_true, true_and, and_false, false_and, or_true, true_or, or_false, false_or, not_true_eq_false, not_false_eq_true, if_true, if_false, ite_true, ite_false, Bool.not_true, Bool.not_false, Bool.true_or, Bool.or_true, Bool.false_or, Bool.or_false, Bool.true_and, Bool.and_true, Bool.false_and, Bool.and_false, Bool.false_eq_true, Bool.true_eq_false, eq_self, decide_eq_true_eq, decide_true, decide_false, Bool.decide_eq_true, Bool.not_eq_true, decide_eq_false_iff_not, Bool.and_eq_true, Bool.or_eq_true, Bool.not_eq_true', reduceCtorEq, ne_eq, Nat.le_refl, Nat.reduceAdd, Nat.reduceSub, Nat.reduceLeDiff, Nat.reduceLT, implies_true, forall_const, List.any_cons, List.any_nil, List.all_cons, List.all_nil, wipeP, restore, List.getD_eq_getElem?_getD, Option.getD_some, List.mem_singleton, forall_eq, Int.reduceLT, Int.reduceLE, Int.reduceNeg, Int.reduceSub, Int.reduceAdd, Int.reduceToNat, Int.reduceEq, Int.reduceNe, String.reduceEq, and_self, or_self, pfTX]
        refine ⟨_, rfl, hl _ hm, by omega, by omega, ?_⟩
        rw [List.take_add_one, List.getElem?_eq_getElem hi, List.map_append, est _ hm]
        rfl
      · rintro acc ρ2 hacc ⟨rfl, rfl⟩
        rw [List.length_map, List.take_length]
        exact ⟨_, .inl (by rw [e]), by rw [c0]; omega, f2, f3, f4⟩
end
end Y

namespace Y
open PySem PySem.Spec PyProof.Rows L2 RT RZ TL PySem.NumText
/-! ### draws -/
theorem pick_all {α : Type} {l : List α} {r : Int} {Q : α → Prop} (h0 : 0 ≤ r) (h1 : r < (l.length : Int)) (k : ∀ t ∈ l, Q t) : ∃ t, atI l r = some t ∧ Q t := by
  obtain ⟨t, e, hm⟩ := at_pick h0 h1
  exact ⟨t, e, k t hm⟩
def okInt (lo hi : Int) : T → Bool
  | .int i => decide (lo ≤ i) && decide (i ≤ hi)
  | _ => false
theorem pick_then {l : List T} {r lo hi : Int} {Q : T → Prop} (h0 : 0 ≤ r) (h1 : r < (l.length : Int)) (hl : l.all (okInt lo hi) = true) (k : ∀ i, lo ≤ i → i ≤ hi → Q (.int i)) : ∃ t, atI l r = some t ∧ Q t :=
  pick_all h0 h1 fun t ht => by
    have h := List.all_eq_true.mp hl t ht
    cases t with
    | int i =>
      obtain ⟨a, b⟩ := Bool.and_eq_true_iff.mp (show (decide (lo ≤ i) && decide (i ≤ hi)) = true from h)
      exact k i (of_decide_eq_true a) (of_decide_eq_true b)
    | _ => cases h
def pfReserved : PSp := fun ts Φ => ts = [] ∧ Φ (.lst (RS.map T.str)) true
def pfInt (d : Addr) : PSp := fun ts Φ => ts = [.adr d] ∧ ∀ i, ib i → Φ (.int i) false
def pfName (d : Addr) : PSp := fun ts Φ => ts = [.adr d] ∧ ∀ x, isNm x = true → Φ (.str x) false
def pfValue (d : Addr) (n : Nat) : PSp := fun ts Φ => ts = [.adr d, .int (n : Int)] ∧ ∀ t, Gd n t → Φ t false
def pfValue0 (d : Addr) : Nat → PSp
  | 0 => fun _ _ => False
  | n + 1 => pfValue d n
def pfPlace (d : Addr) : PSp := fun ts Φ => ts = [.adr d] ∧ ∀ t e, Ed t e → Φ t false
theorem rs_any (s : Str) : ((RS.map T.str).any fun z => T.eqv z (.str s)) = RS.contains s := by
  rw [List.any_map, Bool.eq_iff_iff, List.any_eq_true, List.contains_iff_mem]
  constructor
  · rintro ⟨x, hx, h⟩
    have e : decide (x = s) = true := by rw [← eq_ss]; exact h
    rw [← of_decide_eq_true e]
    exact hx
  · intro h
    exact ⟨s, h, by show T.eqv (.str s) (.str s) = true; rw [eq_ss]; exact decide_eq_true rfl⟩
theorem rs_flat : (RS.map T.str).all T.flat = true := by
  rw [List.all_map]
  exact List.all_eq_true.mpr fun _ _ => rfl
theorem rs_len : (RS.map T.str).length = 32 := rfl
section
variable {P : Program} {w : World} {K : PySem.W.Frag} {mg : Str → Option Value} {base : Heap}
theorem ok_reserved {d l : Addr} {k : Nat}  (D : Df K mg "_law_reserved" s_reserved) :
    CalQ P w K mg base (wd d l 3) "_law_reserved" (k + 1) [] (pfReserved) := by
  refine CalQ.mk D sc_reserved (fun _ _ _ _ _ _ us h => match us, h with | [], _ => rfl) (fun ts Φ h => by first | (obtain ⟨rfl, _⟩ := h; rfl) | (obtain ⟨_, rfl, _⟩ := h; rfl) | (obtain ⟨_, _, rfl, _⟩ := h; rfl) | (obtain ⟨_, _, _, rfl, _⟩ := h; rfl) | (obtain ⟨_, _, _, _, rfl, _⟩ := h; rfl)) (fun f cdv A outer s H E hr => ?_)
  refine ⟨_, qss_cons (qs_set (i := 0) sc_reserved.nd rfl (.inl rfl) qe_str)
    (qss_one (qs_ret (qe_split0 (qe_op oq_add (qe_name (pv 0)) qe_str) ))), ?_⟩
  intro ts Φ h
  obtain ⟨rfl, h⟩ := h
  simp only [↓reduceIte, ↓sSeq, ↓sAsg, ↓sIf, ↓sRet, ↓sRetN, ↓sExpr, ↓sNext, ↓sBreak, ↓sCont, ↓sAug, ↓sFor, ↓gN, ↓pIx, ↓pC, ↓pTup, ↓pLst, ↓pCons, ↓pNil, ↓pStar, ↓pOp, ↓pTB, ↓pTru, ↓pTAnd, ↓pTOr, ↓pTNot, ↓pAndV, ↓pOrV, ↓pNotV, ↓pIf, ↓pCall, ↓pLen, ↓pIsi, ↓pDget, ↓gDset, ↓gSubT, ↓PEq, ↓PNe, ↓pChain, ↓pNeg, ↓pSl, ↓pNoPart, ↓pPart, ↓pIter, ↓pRng1, ↓pRng2, ↓pEnum, ↓pRev, ↓pZip, ↓pMet, ↓pMet0, ↓pMut, ↓pLc, ↓pLRng1, ↓pLRng2, ↓pYes, ↓pRE, ↓startP, ↓pWords, ↓pSplit, ↓gLt, ↓gLe, ↓gGt, ↓gGe, ↓pV_f0, ↓pV_o0, ↓pRV_f0, ↓pRV_o0, ↓lk_f0, ↓lk_o0, ↓sRV_f0, ↓sRV_o0, ↓pV_f1, ↓pV_o1, ↓pRV_f1, ↓pRV_o1, ↓lk_f1, ↓lk_o1, ↓sRV_f1, ↓sRV_o1, ↓pV_f2, ↓pV_o2, ↓pRV_f2, ↓pRV_o2, ↓lk_f2, ↓lk_o2, ↓sRV_f2, ↓sRV_o2, ↓pV_f3, ↓pV_o3, ↓pRV_f3, ↓pRV_o3, ↓lk_f3, ↓lk_o3, ↓sRV_f3, ↓sRV_o3, ↓pV_f4, ↓pV_o4, ↓pRV_f4, ↓pRV_o4, ↓lk_f4, ↓lk_o4, ↓sRV_f4, ↓sRV_o4, ↓pV_f5, ↓pV_o5, ↓pRV_f5, ↓pRV_o5, ↓lk_f5, ↓lk_o5, ↓sRV_f5, ↓sRV_o5, ↓pV_f6, ↓pV_o6, ↓pRV_f6, ↓pRV_o6, ↓lk_f6, ↓lk_o6, ↓sRV_f6, ↓sRV_o6, ↓pV_f7, ↓pV_o7, ↓pRV_f7, ↓pRV_o7, ↓lk_f7, ↓lk_o7, ↓sRV_f7, ↓sRV_o7, ↓pV_f8, ↓pV_o8, ↓pRV_f8, ↓pRV_o8, ↓lk_f8, ↓lk_o8, ↓sRV_f8, ↓sRV_o8, ↓pV_f9, ↓pV_o9, ↓pRV_f9, ↓pRV_o9, ↓lk_f9, ↓lk_o9, ↓sRV_f9, ↓sRV_o9, ↓pV_f10, ↓pV_o10, ↓pRV_f10, ↓pRV_o10, ↓lk_f10, ↓lk_o10, ↓sRV_f10, ↓sRV_o10, ↓pV_f11, ↓pV_o11, ↓pRV_f11, ↓pRV_o11, ↓lk_f11, ↓lk_o11, ↓sRV_f11, ↓sRV_o11, ↓pV_f12, ↓pV_o12, ↓pRV_f12, ↓pRV_o12, ↓lk_f12, ↓lk_o12, ↓sRV_f12, ↓sRV_o12, ↓pV_f13, ↓pV_o13, ↓pRV_f13, ↓pRV_o13, ↓lk_f13, ↓lk_o13, ↓sRV_f13, ↓sRV_o13, ↓lk_fz, ↓of_fn, ↓of_fb, ↓of_fi, ↓of_fs, ↓of_ft, ↓of_fl, ↓of_ol, ↓of_ff, ↓ad_i, ↓ad_s, ↓ad_l, ↓ad_t, ↓su_i, ↓mu_i, ↓mu_l, ↓mo_i, ↓fd_i, ↓pw_i, ↓an_i, ↓ci_i, ↓is_n, ↓is_nn, ↓in_t, ↓in_l, ↓in_s, ↓ix_l, ↓ix_t, ↓ix_s, ↓sl_l, ↓sl_t, ↓sl_s, ↓kn_i, ↓kp_i, ↓kr1, ↓kr2, ↓ke_l, ↓kz_l, ↓kz_t, ↓klr1, ↓klr2, ↓gt_e, ↓gs_n, ↓gs_c, nc_0, nc_1, nc_2, nc_3, nc_4, nc_5, nc_6, nc_7, nc_8, nc_9, nc_10, nc_11, nc_12, eq_ii, eq_ss, eq_nn, eq_bb, eq_st, eq_ts, eq_si, eq_is, eq_it, eq_ti, cmp_i, cmp_b, cmp_n, sc_i, sc_s, sc_b, sc_n, flat_i, flat_s, flat_b, flat_n, tru_n, tru_b, tru_i, tru_t, tru_l, items_t, items_l, len_t, len_l, iter_t, iter_l, isN_n, isN_i, isN_s, isN_t, isN_l, isN_b, at_0, at_1, at_2, at_3, ib_tn, ib_tb, ib_ti, ib_ts, ib_tt, ib_tl, ib_sn, ib_sb, ib_si, ib_ss, ib_st, ib_sl, ib_in, ib_ib, ib_ii, ib_is, ib_it, ib_il, ib_bn, ib_bb, ib_bi, ib_bs, ib_bt, ib_bl, na_n, na_b, na_i, na_s, na_t, na_l, List.getElem?_cons_zero, List.getElem?_cons_succ, List.set_cons_zero, List.set_cons_succ, List.map_cons, List.map_nil, List.length_cons, List.length_nil, List.replicate_succ, List.replicate_zero, List.cons_append, List.nil_append, List.append_nil, List.isEmpty_nil, List.isEmpty_cons, List.cons.injEq, Option.some.injEq, T.int.injEq, T.str.injEq, T.bl.injEq, T.tup.injEq, T.lst.injEq, T.adr.injEq, Sl.fz.injEq, Sl.ow.injEq, exists_eq_left, exists_eq_left', exists_eq_right, exists_eq_right', exists_eq, exists_eq', exists_and_left, exists_and_right, exists_const, exists_false, and_true, true_and, and_false, false_and, or_true, true_or, or_false, false_or, not_true_eq_false, not_false_eq_true, if_true, if_false, ite_true, ite_false, Bool.not_true, Bool.not_false, Bool.true_or, Bool.or_true, Bool.false_or, Bool.or_false, Bool.true_and, Bool.and_true, Bool.false_and, Bool.and_false, Bool.false_eq_true, Bool.true_eq_false, eq_self, decide_eq_true_eq, decide_true, decide_false, Bool.decide_eq_true, Bool.not_eq_true, decide_eq_false_iff_not, Bool.and_eq_true, Bool.or_eq_true, Bool.not_eq_true', reduceCtorEq, ne_eq, Nat.le_refl, Nat.reduceAdd, Nat.reduceSub, Nat.reduceLeDiff, Nat.reduceLT, implies_true, forall_const, List.any_cons, List.any_nil, List.all_cons, List.all_nil, wipeP, restore, List.getD_eq_getElem?_getD, Option.getD_some, List.mem_singleton, forall_eq, Int.reduceLT, Int.reduceLE, Int.reduceNeg, Int.reduceSub, Int.reduceAdd, Int.reduceToNat, Int.reduceEq, Int.reduceNe, String.reduceEq, and_self, or_self]
  rw [show (Str.ofString "open add from retire rule step to by none num pick opt row of one rec same rank clip table apart some must" ++ Str.ofString " each arms parts or and not has tag long") = resS from rfl, res_words]
  exact ⟨by decide +kernel, by rw [res_len]; decide, h⟩
theorem ok_any_int {d l : Addr} {k : Nat}  (D : Df K mg "_law_any_int" s_any_int)
    (C_draw : CalQ P w K mg base (wd d l 3) "_law_draw" k ["_law_d", "_law_many"] (pDraw d)) :
    CalQ P w K mg base (wd d l 3) "_law_any_int" (k + 1) ["_law_d"] (pfInt d) := by
  refine CalQ.mk D sc_any_int (fun _ _ _ _ _ _ us h => match us, h with | [_], _ => rfl) (fun ts Φ h => by first | (obtain ⟨rfl, _⟩ := h; rfl) | (obtain ⟨_, rfl, _⟩ := h; rfl) | (obtain ⟨_, _, rfl, _⟩ := h; rfl) | (obtain ⟨_, _, _, rfl, _⟩ := h; rfl) | (obtain ⟨_, _, _, _, rfl, _⟩ := h; rfl)) (fun f cdv A outer s H E hr => ?_)
  refine ⟨_, qss_cons (qs_set (i := 1) sc_any_int.nd rfl (.inl rfl) (qe_call C_draw (hr.mono (by omega)) (by rfl) (qa_cons (qe_name (pv 0)) (qa_cons qe_int qa_nil))))
    (qss_cons (qs_if (qt_cmp (oq_eq hr.units) (qe_name (pv 1)) qe_int (nomark _))
    (qss_one (qs_ret (qe_op oq_sub (qe_call C_draw (hr.mono (by omega)) (by rfl) (qa_cons (qe_name (pv 0)) (qa_cons qe_int qa_nil))) qe_int)))
    (qss_nil))
    (qss_cons (qs_if (qt_cmp (oq_eq hr.units) (qe_name (pv 1)) qe_int (nomark _))
    (qss_one (qs_ret (qe_ix (qr_of (qe_lst (qa_cons qe_int (qa_cons qe_int (qa_cons qe_int (qa_cons qe_int (qa_cons qe_int (qa_cons qe_int (qa_cons qe_int (qa_cons qe_int qa_nil)))))))))) (qe_call C_draw (hr.mono (by omega)) (by rfl) (qa_cons (qe_name (pv 0)) (qa_cons qe_int qa_nil))) (fun _ _ => rfl))))
    (qss_nil))
    (qss_cons (qs_if (qt_cmp (oq_eq hr.units) (qe_name (pv 1)) qe_int (nomark _))
    (qss_one (qs_ret (qe_op oq_sub qe_int (qe_ix (qr_of (qe_lst (qa_cons qe_int (qa_cons qe_int (qa_cons qe_int (qa_cons qe_int (qa_cons qe_int (qa_cons qe_int (qa_cons qe_int (qa_cons qe_int qa_nil)))))))))) (qe_call C_draw (hr.mono (by omega)) (by rfl) (qa_cons (qe_name (pv 0)) (qa_cons qe_int qa_nil))) (fun _ _ => rfl)))))
    (qss_nil))
    (qss_one (qs_ret (qe_op oq_sub (qe_call C_draw (hr.mono (by omega)) (by rfl) (qa_cons (qe_name (pv 0)) (qa_cons qe_int qa_nil))) qe_int)))))), ?_⟩
  intro ts Φ h
  obtain ⟨rfl, h⟩ := h
  simp only [↓reduceIte, ↓sSeq, ↓sAsg, ↓sIf, ↓sRet, ↓sRetN, ↓sExpr, ↓sNext, ↓sBreak, ↓sCont, ↓sAug, ↓sFor, ↓gN, ↓pIx, ↓pC, ↓pTup, ↓pLst, ↓pCons, ↓pNil, ↓pStar, ↓pOp, ↓pTB, ↓pTru, ↓pTAnd, ↓pTOr, ↓pTNot, ↓pAndV, ↓pOrV, ↓pNotV, ↓pIf, ↓pCall, ↓pLen, ↓pIsi, ↓pDget, ↓gDset, ↓gSubT, ↓PEq, ↓PNe, ↓pChain, ↓pNeg, ↓pSl, ↓pNoPart, ↓pPart, ↓pIter, ↓pRng1, ↓pRng2, ↓pEnum, ↓pRev, ↓pZip, ↓pMet, ↓pMet0, ↓pMut, ↓pLc, ↓pLRng1, ↓pLRng2, ↓pYes, ↓pRE, ↓startP, ↓pWords, ↓pSplit, ↓gLt, ↓gLe, ↓gGt, ↓gGe, ↓pV_f0, ↓pV_o0, ↓pRV_f0, ↓pRV_o0, ↓lk_f0, ↓lk_o0, ↓sRV_f0, ↓sRV_o0, ↓pV_f1, ↓pV_o1, ↓pRV_f1, ↓pRV_o1, ↓lk_f1, ↓lk_o1, ↓sRV_f1, ↓sRV_o1, ↓pV_f2, ↓pV_o2, ↓pRV_f2, ↓pRV_o2, ↓lk_f2, ↓lk_o2, ↓sRV_f2, ↓sRV_o2, ↓pV_f3, ↓pV_o3, ↓pRV_f3, ↓pRV_o3, ↓lk_f3, ↓lk_o3, ↓sRV_f3, ↓sRV_o3, ↓pV_f4, ↓pV_o4, ↓pRV_f4, ↓pRV_o4, ↓lk_f4, ↓lk_o4, ↓sRV_f4, ↓sRV_o4, ↓pV_f5, ↓pV_o5, ↓pRV_f5, ↓pRV_o5, ↓lk_f5, ↓lk_o5, ↓sRV_f5, ↓sRV_o5, ↓pV_f6, ↓pV_o6, ↓pRV_f6, ↓pRV_o6, ↓lk_f6, ↓lk_o6, ↓sRV_f6, ↓sRV_o6, ↓pV_f7, ↓pV_o7, ↓pRV_f7, ↓pRV_o7, ↓lk_f7, ↓lk_o7, ↓sRV_f7, ↓sRV_o7, ↓pV_f8, ↓pV_o8, ↓pRV_f8, ↓pRV_o8, ↓lk_f8, ↓lk_o8, ↓sRV_f8, ↓sRV_o8, ↓pV_f9, ↓pV_o9, ↓pRV_f9, ↓pRV_o9, ↓lk_f9, ↓lk_o9, ↓sRV_f9, ↓sRV_o9, ↓pV_f10, ↓pV_o10, ↓pRV_f10, ↓pRV_o10, ↓lk_f10, ↓lk_o10, ↓sRV_f10, ↓sRV_o10, ↓pV_f11, ↓pV_o11, ↓pRV_f11, ↓pRV_o11, ↓lk_f11, ↓lk_o11, ↓sRV_f11, ↓sRV_o11, ↓pV_f12, ↓pV_o12, ↓pRV_f12, ↓pRV_o12, ↓lk_f12, ↓lk_o12, ↓sRV_f12, ↓sRV_o12, ↓pV_f13, ↓pV_o13, ↓pRV_f13, ↓pRV_o13, ↓lk_f13, ↓lk_o13, ↓sRV_f13, ↓sRV_o13, ↓lk_fz, ↓of_fn, ↓of_fb, ↓of_fi, ↓of_fs, ↓of_ft, ↓of_fl, ↓of_ol, ↓of_ff, ↓ad_i, ↓ad_s, ↓ad_l, ↓ad_t, ↓su_i, ↓mu_i, ↓mu_l, ↓mo_i, ↓fd_i, ↓pw_i, ↓an_i, ↓ci_i, ↓is_n, ↓is_nn, ↓in_t, ↓in_l, ↓in_s, ↓ix_l, ↓ix_t, ↓ix_s, ↓sl_l, ↓sl_t, ↓sl_s, ↓kn_i, ↓kp_i, ↓kr1, ↓kr2, ↓ke_l, ↓kz_l, ↓kz_t, ↓klr1, ↓klr2, ↓gt_e, ↓gs_n, ↓gs_c, nc_0, nc_1, nc_2, nc_3, nc_4, nc_5, nc_6, nc_7, nc_8, nc_9, nc_10, nc_11, nc_12, eq_ii, eq_ss, eq_nn, eq_bb, eq_st, eq_ts, eq_si, eq_is, eq_it, eq_ti, cmp_i, cmp_b, cmp_n, sc_i, sc_s, sc_b, sc_n, flat_i, flat_s, flat_b, flat_n, tru_n, tru_b, tru_i, tru_t, tru_l, items_t, items_l, len_t, len_l, iter_t, iter_l, isN_n, isN_i, isN_s, isN_t, isN_l, isN_b, at_0, at_1, at_2, at_3, ib_tn, ib_tb, ib_ti, ib_ts, ib_tt, ib_tl, ib_sn, ib_sb, ib_si, ib_ss, ib_st, ib_sl, ib_in, ib_ib, ib_ii, ib_is, ib_it, ib_il, ib_bn, ib_bb, ib_bi, ib_bs, ib_bt, ib_bl, na_n, na_b, na_i, na_s, na_t, na_l, List.getElem?_cons_zero, List.getElem?_cons_succ, List.set_cons_zero, List.set_cons_succ, List.map_cons, List.map_nil, List.length_cons, List.length_nil, List.replicate_succ, List.replicate_zero, List.cons_append, List.nil_append, List.append_nil, List.isEmpty_nil, List.isEmpty_cons, List.cons.injEq, Option.some.injEq, T.int.injEq, T.str.injEq, T.bl.injEq, T.tup.injEq, T.lst.injEq, T.adr.injEq, Sl.fz.injEq, Sl.ow.injEq, exists_eq_left, exists_eq_left', exists_eq_right, exists_eq_right', exists_eq, exists_eq', exists_and_left, exists_and_right, exists_const, exists_false, and_true, true_and, and_false, false_and, or_true, true_or, or_false, false_or, not_true_eq_false, not_false_eq_true, if_true, if_false, ite_true, ite_false, Bool.not_true, Bool.not_false, Bool.true_or, Bool.or_true, Bool.false_or, Bool.or_false, Bool.true_and, Bool.and_true, Bool.false_and, Bool.and_false, Bool.false_eq_true, Bool.true_eq_false, eq_self, decide_eq_true_eq, decide_true, decide_false, Bool.decide_eq_true, Bool.not_eq_true, decide_eq_false_iff_not, Bool.and_eq_true, Bool.or_eq_true, Bool.not_eq_true', reduceCtorEq, ne_eq, Nat.le_refl, Nat.reduceAdd, Nat.reduceSub, Nat.reduceLeDiff, Nat.reduceLT, implies_true, forall_const, List.any_cons, List.any_nil, List.all_cons, List.all_nil, wipeP, restore, List.getD_eq_getElem?_getD, Option.getD_some, List.mem_singleton, forall_eq, Int.reduceLT, Int.reduceLE, Int.reduceNeg, Int.reduceSub, Int.reduceAdd, Int.reduceToNat, Int.reduceEq, Int.reduceNe, String.reduceEq, and_self, or_self, pDraw]
  intro r r0 r1
  split
  · intro r r0 r1
    exact h _ ⟨by omega, by omega⟩
  split
  · intro r r0 r1
    exact pick_then (lo := -9999) (hi := 9999) r0 r1 (by decide) fun i h1 h2 => h _ ⟨h1, h2⟩
  split
  · intro r r0 r1
    refine pick_then (lo := -9999) (hi := 9999) r0 r1 (by decide) fun i h1 h2 => ?_
    simp only [↓reduceIte, ↓sSeq, ↓sAsg, ↓sIf, ↓sRet, ↓sRetN, ↓sExpr, ↓sNext, ↓sBreak, ↓sCont, ↓sAug, ↓sFor, ↓gN, ↓pIx, ↓pC, ↓pTup, ↓pLst, ↓pCons, ↓pNil, ↓pStar, ↓pOp, ↓pTB, ↓pTru, ↓pTAnd, ↓pTOr, ↓pTNot, ↓pAndV, ↓pOrV, ↓pNotV, ↓pIf, ↓pCall, ↓pLen, ↓pIsi, ↓pDget, ↓gDset, ↓gSubT, ↓PEq, ↓PNe, ↓pChain, ↓pNeg, ↓pSl, ↓pNoPart, ↓pPart, ↓pIter, ↓pRng1, ↓pRng2, ↓pEnum, ↓pRev, ↓pZip, ↓pMet, ↓pMet0, ↓pMut, ↓pLc, ↓pLRng1, ↓pLRng2, ↓pYes, ↓pRE, ↓startP, ↓pWords, ↓pSplit, ↓gLt, ↓gLe, ↓gGt, ↓gGe, ↓pV_f0, ↓pV_o0, ↓pRV_f0, ↓pRV_o0, ↓lk_f0, ↓lk_o0, ↓sRV_f0, ↓sRV_o0, ↓pV_f1, ↓pV_o1, ↓pRV_f1, ↓pRV_o1, ↓lk_f1, ↓lk_o1, ↓sRV_f1, ↓sRV_o1, ↓pV_f2, ↓pV_o2, ↓pRV_f2, ↓pRV_o2, ↓lk_f2, ↓lk_o2, ↓sRV_f2, ↓sRV_o2, ↓pV_f3, ↓pV_o3, ↓pRV_f3, ↓pRV_o3, ↓lk_f3, ↓lk_o3, ↓sRV_f3, ↓sRV_o3, ↓pV_f4, ↓pV_o4, ↓pRV_f4, ↓pRV_o4, ↓lk_f4, ↓lk_o4, ↓sRV_f4, ↓sRV_o4, ↓pV_f5, ↓pV_o5, ↓pRV_f5, ↓pRV_o5, ↓lk_f5, ↓lk_o5, ↓sRV_f5, ↓sRV_o5, ↓pV_f6, ↓pV_o6, ↓pRV_f6, ↓pRV_o6, ↓lk_f6, ↓lk_o6, ↓sRV_f6, ↓sRV_o6, ↓pV_f7, ↓pV_o7, ↓pRV_f7, ↓pRV_o7, ↓lk_f7, ↓lk_o7, ↓sRV_f7, ↓sRV_o7, ↓pV_f8, ↓pV_o8, ↓pRV_f8, ↓pRV_o8, ↓lk_f8, ↓lk_o8, ↓sRV_f8, ↓sRV_o8, ↓pV_f9, ↓pV_o9, ↓pRV_f9, ↓pRV_o9, ↓lk_f9, ↓lk_o9, ↓sRV_f9, ↓sRV_o9, ↓pV_f10, ↓pV_o10, ↓pRV_f10, ↓pRV_o10, ↓lk_f10, ↓lk_o10, ↓sRV_f10, ↓sRV_o10, ↓pV_f11, ↓pV_o11, ↓pRV_f11, ↓pRV_o11, ↓lk_f11, ↓lk_o11, ↓sRV_f11, ↓sRV_o11, ↓pV_f12, ↓pV_o12, ↓pRV_f12, ↓pRV_o12, ↓lk_f12, ↓lk_o12, ↓sRV_f12, ↓sRV_o12, ↓pV_f13, ↓pV_o13, ↓pRV_f13, ↓pRV_o13, ↓lk_f13, ↓lk_o13, ↓sRV_f13, ↓sRV_o13, ↓lk_fz, ↓of_fn, ↓of_fb, ↓of_fi, ↓of_fs, ↓of_ft, ↓of_fl, ↓of_ol, ↓of_ff, ↓ad_i, ↓ad_s, ↓ad_l, ↓ad_t, ↓su_i, ↓mu_i, ↓mu_l, ↓mo_i, ↓fd_i, ↓pw_i, ↓an_i, ↓ci_i, ↓is_n, ↓is_nn, ↓in_t, ↓in_l, ↓in_s, ↓ix_l, ↓ix_t, ↓ix_s, ↓sl_l, ↓sl_t, ↓sl_s, ↓kn_i, ↓kp_i, ↓kr1, ↓kr2, ↓ke_l, ↓kz_l, ↓kz_t, ↓klr1, ↓klr2, ↓gt_e, ↓gs_n, ↓gs_c, nc_0, nc_1, nc_2, nc_3, nc_4, nc_5, nc_6, nc_7, nc_8, nc_9, nc_10, nc_11, nc_12, eq_ii, eq_ss, eq_nn, eq_bb, eq_st, eq_ts, eq_si, eq_is, eq_it, eq_ti, cmp_i, cmp_b, cmp_n, sc_i, sc_s, sc_b, sc_n, flat_i, flat_s, flat_b, flat_n, tru_n, tru_b, tru_i, tru_t, tru_l, items_t, items_l, len_t, len_l, iter_t, iter_l, isN_n, isN_i, isN_s, isN_t, isN_l, isN_b, at_0, at_1, at_2, at_3, ib_tn, ib_tb, ib_ti, ib_ts, ib_tt, ib_tl, ib_sn, ib_sb, ib_si, ib_ss, ib_st, ib_sl, ib_in, ib_ib, ib_ii, ib_is, ib_it, ib_il, ib_bn, ib_bb, ib_bi, ib_bs, ib_bt, ib_bl, na_n, na_b, na_i, na_s, na_t, na_l, List.getElem?_cons_zero, List.getElem?_cons_succ, List.set_cons_zero, List.set_cons_succ, List.map_cons, List.map_nil, List.length_cons, List.length_nil, List.replicate_succ, List.replicate_zero, List.cons_append, List.nil_append, List.append_nil, List.isEmpty_nil, List.isEmpty_cons, List.cons.injEq, Option.some.injEq, T.int.injEq, T.str.injEq, T.bl.injEq, T.tup.injEq, T.lst.injEq, T.adr.injEq, Sl.fz.injEq, Sl.ow.injEq, exists_eq_left, exists_eq_left', exists_eq_right, exists_eq_right', exists_eq, exists_eq', exists_and_left, exists_and_right, exists_const, exists_false, and_true, true_and, and_false, false_and, or_true, true_or, or_false, false_or, not_true_eq_false, not_false_eq_true, if_true, if_false, ite_true, ite_false, Bool.not_true, Bool.not_false, Bool.true_or, Bool.or_true, Bool.false_or, Bool.or_false, Bool.true_and, Bool.and_true, Bool.false_and, Bool.and_false, Bool.false_eq_true, Bool.true_eq_false, eq_self, decide_eq_true_eq, decide_true, decide_false, Bool.decide_eq_true, Bool.not_eq_true, decide_eq_false_iff_not, Bool.and_eq_true, Bool.or_eq_true, Bool.not_eq_true', reduceCtorEq, ne_eq, Nat.le_refl, Nat.reduceAdd, Nat.reduceSub, Nat.reduceLeDiff, Nat.reduceLT, implies_true, forall_const, List.any_cons, List.any_nil, List.all_cons, List.all_nil, wipeP, restore, List.getD_eq_getElem?_getD, Option.getD_some, List.mem_singleton, forall_eq, Int.reduceLT, Int.reduceLE, Int.reduceNeg, Int.reduceSub, Int.reduceAdd, Int.reduceToNat, Int.reduceEq, Int.reduceNe, String.reduceEq, and_self, or_self]
    exact h _ ⟨by omega, by omega⟩
  · intro r r0 r1
    exact h _ ⟨by omega, by omega⟩
theorem ok_any_place {d l : Addr} {k : Nat}  (D : Df K mg "_law_any_place" s_any_place)
    (C_draw : CalQ P w K mg base (wd d l 3) "_law_draw" k ["_law_d", "_law_many"] (pDraw d))
    (C_any_int : CalQ P w K mg base (wd d l 3) "_law_any_int" k ["_law_d"] (pfInt d)) :
    CalQ P w K mg base (wd d l 3) "_law_any_place" (k + 1) ["_law_d"] (pfPlace d) := by
  refine CalQ.mk D sc_any_place (fun _ _ _ _ _ _ us h => match us, h with | [_], _ => rfl) (fun ts Φ h => by first | (obtain ⟨rfl, _⟩ := h; rfl) | (obtain ⟨_, rfl, _⟩ := h; rfl) | (obtain ⟨_, _, rfl, _⟩ := h; rfl) | (obtain ⟨_, _, _, rfl, _⟩ := h; rfl) | (obtain ⟨_, _, _, _, rfl, _⟩ := h; rfl)) (fun f cdv A outer s H E hr => ?_)
  refine ⟨_, qss_cons (qs_set (i := 1) sc_any_place.nd rfl (.inl rfl) (qe_call C_draw (hr.mono (by omega)) (by rfl) (qa_cons (qe_name (pv 0)) (qa_cons qe_int qa_nil))))
    (qss_one (qs_ret (qe_if (qt_cmp (oq_eq hr.units) (qe_name (pv 1)) qe_int (nomark _)) (qe_call C_any_int (hr.mono (by omega)) (by rfl) (qa_cons (qe_name (pv 0)) qa_nil)) (qe_ix (qr_of (qe_lst (qa_cons qe_non (qa_cons qe_int (qa_cons qe_int (qa_cons qe_int (qa_cons qe_int qa_nil))))))) (qe_name (pv 1)) (fun _ _ => rfl))))), ?_⟩
  intro ts Φ h
  obtain ⟨rfl, h⟩ := h
  simp only [↓reduceIte, ↓sSeq, ↓sAsg, ↓sIf, ↓sRet, ↓sRetN, ↓sExpr, ↓sNext, ↓sBreak, ↓sCont, ↓sAug, ↓sFor, ↓gN, ↓pIx, ↓pC, ↓pTup, ↓pLst, ↓pCons, ↓pNil, ↓pStar, ↓pOp, ↓pTB, ↓pTru, ↓pTAnd, ↓pTOr, ↓pTNot, ↓pAndV, ↓pOrV, ↓pNotV, ↓pIf, ↓pCall, ↓pLen, ↓pIsi, ↓pDget, ↓gDset, ↓gSubT, ↓PEq, ↓PNe, ↓pChain, ↓pNeg, ↓pSl, ↓pNoPart, ↓pPart, ↓pIter, ↓pRng1, ↓pRng2, ↓pEnum, ↓pRev, ↓pZip, ↓pMet, ↓pMet0, ↓pMut, ↓pLc, ↓pLRng1, ↓pLRng2, ↓pYes, ↓pRE, ↓startP, ↓pWords, ↓pSplit, ↓gLt, ↓gLe, ↓gGt, ↓gGe, ↓pV_f0, ↓pV_o0, ↓pRV_f0, ↓pRV_o0, ↓lk_f0, ↓lk_o0, ↓sRV_f0, ↓sRV_o0, ↓pV_f1, ↓pV_o1, ↓pRV_f1, ↓pRV_o1, ↓lk_f1, ↓lk_o1, ↓sRV_f1, ↓sRV_o1, ↓pV_f2, ↓pV_o2, ↓pRV_f2, ↓pRV_o2, ↓lk_f2, ↓lk_o2, ↓sRV_f2, ↓sRV_o2, ↓pV_f3, ↓pV_o3, ↓pRV_f3, ↓pRV_o3, ↓lk_f3, ↓lk_o3, ↓sRV_f3, ↓sRV_o3, ↓pV_f4, ↓pV_o4, ↓pRV_f4, ↓pRV_o4, ↓lk_f4, ↓lk_o4, ↓sRV_f4, ↓sRV_o4, ↓pV_f5, ↓pV_o5, ↓pRV_f5, ↓pRV_o5, ↓lk_f5, ↓lk_o5, ↓sRV_f5, ↓sRV_o5, ↓pV_f6, ↓pV_o6, ↓pRV_f6, ↓pRV_o6, ↓lk_f6, ↓lk_o6, ↓sRV_f6, ↓sRV_o6, ↓pV_f7, ↓pV_o7, ↓pRV_f7, ↓pRV_o7, ↓lk_f7, ↓lk_o7, ↓sRV_f7, ↓sRV_o7, ↓pV_f8, ↓pV_o8, ↓pRV_f8, ↓pRV_o8, ↓lk_f8, ↓lk_o8, ↓sRV_f8, ↓sRV_o8, ↓pV_f9, ↓pV_o9, ↓pRV_f9, ↓pRV_o9, ↓lk_f9, ↓lk_o9, ↓sRV_f9, ↓sRV_o9, ↓pV_f10, ↓pV_o10, ↓pRV_f10, ↓pRV_o10, ↓lk_f10, ↓lk_o10, ↓sRV_f10, ↓sRV_o10, ↓pV_f11, ↓pV_o11, ↓pRV_f11, ↓pRV_o11, ↓lk_f11, ↓lk_o11, ↓sRV_f11, ↓sRV_o11, ↓pV_f12, ↓pV_o12, ↓pRV_f12, ↓pRV_o12, ↓lk_f12, ↓lk_o12, ↓sRV_f12, ↓sRV_o12, ↓pV_f13, ↓pV_o13, ↓pRV_f13, ↓pRV_o13, ↓lk_f13, ↓lk_o13, ↓sRV_f13, ↓sRV_o13, ↓lk_fz, ↓of_fn, ↓of_fb, ↓of_fi, ↓of_fs, ↓of_ft, ↓of_fl, ↓of_ol, ↓of_ff, ↓ad_i, ↓ad_s, ↓ad_l, ↓ad_t, ↓su_i, ↓mu_i, ↓mu_l, ↓mo_i, ↓fd_i, ↓pw_i, ↓an_i, ↓ci_i, ↓is_n, ↓is_nn, ↓in_t, ↓in_l, ↓in_s, ↓ix_l, ↓ix_t, ↓ix_s, ↓sl_l, ↓sl_t, ↓sl_s, ↓kn_i, ↓kp_i, ↓kr1, ↓kr2, ↓ke_l, ↓kz_l, ↓kz_t, ↓klr1, ↓klr2, ↓gt_e, ↓gs_n, ↓gs_c, nc_0, nc_1, nc_2, nc_3, nc_4, nc_5, nc_6, nc_7, nc_8, nc_9, nc_10, nc_11, nc_12, eq_ii, eq_ss, eq_nn, eq_bb, eq_st, eq_ts, eq_si, eq_is, eq_it, eq_ti, cmp_i, cmp_b, cmp_n, sc_i, sc_s, sc_b, sc_n, flat_i, flat_s, flat_b, flat_n, tru_n, tru_b, tru_i, tru_t, tru_l, items_t, items_l, len_t, len_l, iter_t, iter_l, isN_n, isN_i, isN_s, isN_t, isN_l, isN_b, at_0, at_1, at_2, at_3, ib_tn, ib_tb, ib_ti, ib_ts, ib_tt, ib_tl, ib_sn, ib_sb, ib_si, ib_ss, ib_st, ib_sl, ib_in, ib_ib, ib_ii, ib_is, ib_it, ib_il, ib_bn, ib_bb, ib_bi, ib_bs, ib_bt, ib_bl, na_n, na_b, na_i, na_s, na_t, na_l, List.getElem?_cons_zero, List.getElem?_cons_succ, List.set_cons_zero, List.set_cons_succ, List.map_cons, List.map_nil, List.length_cons, List.length_nil, List.replicate_succ, List.replicate_zero, List.cons_append, List.nil_append, List.append_nil, List.isEmpty_nil, List.isEmpty_cons, List.cons.injEq, Option.some.injEq, T.int.injEq, T.str.injEq, T.bl.injEq, T.tup.injEq, T.lst.injEq, T.adr.injEq, Sl.fz.injEq, Sl.ow.injEq, exists_eq_left, exists_eq_left', exists_eq_right, exists_eq_right', exists_eq, exists_eq', exists_and_left, exists_and_right, exists_const, exists_false, and_true, true_and, and_false, false_and, or_true, true_or, or_false, false_or, not_true_eq_false, not_false_eq_true, if_true, if_false, ite_true, ite_false, Bool.not_true, Bool.not_false, Bool.true_or, Bool.or_true, Bool.false_or, Bool.or_false, Bool.true_and, Bool.and_true, Bool.false_and, Bool.and_false, Bool.false_eq_true, Bool.true_eq_false, eq_self, decide_eq_true_eq, decide_true, decide_false, Bool.decide_eq_true, Bool.not_eq_true, decide_eq_false_iff_not, Bool.and_eq_true, Bool.or_eq_true, Bool.not_eq_true', reduceCtorEq, ne_eq, Nat.le_refl, Nat.reduceAdd, Nat.reduceSub, Nat.reduceLeDiff, Nat.reduceLT, implies_true, forall_const, List.any_cons, List.any_nil, List.all_cons, List.all_nil, wipeP, restore, List.getD_eq_getElem?_getD, Option.getD_some, List.mem_singleton, forall_eq, Int.reduceLT, Int.reduceLE, Int.reduceNeg, Int.reduceSub, Int.reduceAdd, Int.reduceToNat, Int.reduceEq, Int.reduceNe, String.reduceEq, and_self, or_self, pDraw, pfInt]
  intro r r0 r1
  split
  · intro i hi
    exact h _ _ (.inr (.inl ⟨i, rfl, hi, rfl⟩))
  · refine pick_all r0 (by show r < 5; omega) fun t ht => ?_
    simp only [List.mem_cons, List.not_mem_nil, or_false] at ht
    rcases ht with rfl | rfl | rfl | rfl | rfl
    · exact h _ _ (.inl ⟨rfl, rfl⟩)
    all_goals exact h _ _ (.inr (.inl ⟨_, rfl, ⟨by decide, by decide⟩, rfl⟩))
theorem ok_any_name {d l : Addr} {k : Nat}  (D : Df K mg "_law_any_name" s_any_name)
    (C_draw : CalQ P w K mg base (wd d l 3) "_law_draw" k ["_law_d", "_law_many"] (pDraw d))
    (C_reserved : CalQ P w K mg base (wd d l 3) "_law_reserved" k [] (pfReserved)) (m_range : mg "range" = none) :
    CalQ P w K mg base (wd d l 3) "_law_any_name" (k + 1) ["_law_d"] (pfName d) := by
  refine CalQ.mk D sc_any_name (fun _ _ _ _ _ _ us h => match us, h with | [_], _ => rfl) (fun ts Φ h => by first | (obtain ⟨rfl, _⟩ := h; rfl) | (obtain ⟨_, rfl, _⟩ := h; rfl) | (obtain ⟨_, _, rfl, _⟩ := h; rfl) | (obtain ⟨_, _, _, rfl, _⟩ := h; rfl) | (obtain ⟨_, _, _, _, rfl, _⟩ := h; rfl)) (fun f cdv A outer s H E hr => ?_)
  refine ⟨_, qss_cons (qs_set (i := 1) sc_any_name.nd rfl (.inl rfl) qe_str)
    (qss_cons (qs_set (i := 2) sc_any_name.nd rfl (.inl rfl) (qe_call C_draw (hr.mono (by omega)) (by rfl) (qa_cons (qe_name (pv 0)) (qa_cons qe_int qa_nil))))
    (qss_cons (qs_if (qt_cmp (oq_eq hr.units) (qe_name (pv 2)) qe_int (nomark _))
    (qss_one (qs_ret (qe_op oq_add (qe_ix (qr_of (qe_call0 C_reserved (hr.mono (by omega)) (by rfl))) (qe_call C_draw (hr.mono (by omega)) (by rfl) (qa_cons (qe_name (pv 0)) (qa_cons qe_int qa_nil))) (fun _ _ => rfl)) (qe_ix (qr_name (pv 1)) (qe_call C_draw (hr.mono (by omega)) (by rfl) (qa_cons (qe_name (pv 0)) (qa_cons qe_int qa_nil))) (fun _ _ => rfl)))))
    (qss_nil))
    (qss_cons (qs_set (i := 3) sc_any_name.nd rfl (.inl rfl) (qe_ix (qr_name (pv 1)) (qe_call C_draw (hr.mono (by omega)) (by rfl) (qa_cons (qe_name (pv 0)) (qa_cons qe_int qa_nil))) (fun _ _ => rfl)))
    (qss_cons (qs_for (passes_of rfl) rfl (qi_range1 (by rfl) m_range (qe_ix (qr_of (qe_lst (qa_cons qe_int (qa_cons qe_int (qa_cons qe_int (qa_cons qe_int (qa_cons qe_int (qa_cons qe_int qa_nil)))))))) (qe_name (pv 2)) (fun _ _ => rfl))) (qg_name (pg_name (i := 4) sc_any_name.nd rfl (.inl rfl)))
    (qss_one (qs_set (i := 3) sc_any_name.nd rfl (.inl rfl) (qe_op oq_add (qe_name (pv 3)) (qe_ix (qr_name (pv 1)) (qe_call C_draw (hr.mono (by omega)) (by rfl) (qa_cons (qe_name (pv 0)) (qa_cons qe_int qa_nil))) (fun _ _ => rfl))))))
    (qss_cons (qs_if (qt_cmp (oq_in hr.units65) (qe_name (pv 3)) (qe_call0 C_reserved (hr.mono (by omega)) (by rfl)) rfl)
    (qss_one (qs_set (i := 3) sc_any_name.nd rfl (.inl rfl) (qe_op oq_add (qe_name (pv 3)) qe_str)))
    (qss_nil))
    (qss_one (qs_retV (pv 3)))))))), ?_⟩
  intro ts Φ h
  obtain ⟨rfl, h⟩ := h
  have ll : letS.length ≤ 16000000 := by rw [let_len]; decide
  simp only [↓reduceIte, ↓sSeq, ↓sAsg, ↓sIf, ↓sRet, ↓sRetN, ↓sExpr, ↓sNext, ↓sBreak, ↓sCont, ↓sAug, ↓sFor, ↓gN, ↓pIx, ↓pC, ↓pTup, ↓pLst, ↓pCons, ↓pNil, ↓pStar, ↓pOp, ↓pTB, ↓pTru, ↓pTAnd, ↓pTOr, ↓pTNot, ↓pAndV, ↓pOrV, ↓pNotV, ↓pIf, ↓pCall, ↓pLen, ↓pIsi, ↓pDget, ↓gDset, ↓gSubT, ↓PEq, ↓PNe, ↓pChain, ↓pNeg, ↓pSl, ↓pNoPart, ↓pPart, ↓pIter, ↓pRng1, ↓pRng2, ↓pEnum, ↓pRev, ↓pZip, ↓pMet, ↓pMet0, ↓pMut, ↓pLc, ↓pLRng1, ↓pLRng2, ↓pYes, ↓pRE, ↓startP, ↓pWords, ↓pSplit, ↓gLt, ↓gLe, ↓gGt, ↓gGe, ↓pV_f0, ↓pV_o0, ↓pRV_f0, ↓pRV_o0, ↓lk_f0, ↓lk_o0, ↓sRV_f0, ↓sRV_o0, ↓pV_f1, ↓pV_o1, ↓pRV_f1, ↓pRV_o1, ↓lk_f1, ↓lk_o1, ↓sRV_f1, ↓sRV_o1, ↓pV_f2, ↓pV_o2, ↓pRV_f2, ↓pRV_o2, ↓lk_f2, ↓lk_o2, ↓sRV_f2, ↓sRV_o2, ↓pV_f3, ↓pV_o3, ↓pRV_f3, ↓pRV_o3, ↓lk_f3, ↓lk_o3, ↓sRV_f3, ↓sRV_o3, ↓pV_f4, ↓pV_o4, ↓pRV_f4, ↓pRV_o4, ↓lk_f4, ↓lk_o4, ↓sRV_f4, ↓sRV_o4, ↓pV_f5, ↓pV_o5, ↓pRV_f5, ↓pRV_o5, ↓lk_f5, ↓lk_o5, ↓sRV_f5, ↓sRV_o5, ↓pV_f6, ↓pV_o6, ↓pRV_f6, ↓pRV_o6, ↓lk_f6, ↓lk_o6, ↓sRV_f6, ↓sRV_o6, ↓pV_f7, ↓pV_o7, ↓pRV_f7, ↓pRV_o7, ↓lk_f7, ↓lk_o7, ↓sRV_f7, ↓sRV_o7, ↓pV_f8, ↓pV_o8, ↓pRV_f8, ↓pRV_o8, ↓lk_f8, ↓lk_o8, ↓sRV_f8, ↓sRV_o8, ↓pV_f9, ↓pV_o9, ↓pRV_f9, ↓pRV_o9, ↓lk_f9, ↓lk_o9, ↓sRV_f9, ↓sRV_o9, ↓pV_f10, ↓pV_o10, ↓pRV_f10, ↓pRV_o10, ↓lk_f10, ↓lk_o10, ↓sRV_f10, ↓sRV_o10, ↓pV_f11, ↓pV_o11, ↓pRV_f11, ↓pRV_o11, ↓lk_f11, ↓lk_o11, ↓sRV_f11, ↓sRV_o11, ↓pV_f12, ↓pV_o12, ↓pRV_f12, ↓pRV_o12, ↓lk_f12, ↓lk_o12, ↓sRV_f12, ↓sRV_o12, ↓pV_f13, ↓pV_o13, ↓pRV_f13, ↓pRV_o13, ↓lk_f13, ↓lk_o13, ↓sRV_f13, ↓sRV_o13, ↓lk_fz, ↓of_fn, ↓of_fb, ↓of_fi, ↓of_fs, ↓of_ft, ↓of_fl, ↓of_ol, ↓of_ff, ↓ad_i, ↓ad_s, ↓ad_l, ↓ad_t, ↓su_i, ↓mu_i, ↓mu_l, ↓mo_i, ↓fd_i, ↓pw_i, ↓an_i, ↓ci_i, ↓is_n, ↓is_nn, ↓in_t, ↓in_l, ↓in_s, ↓ix_l, ↓ix_t, ↓ix_s, ↓sl_l, ↓sl_t, ↓sl_s, ↓kn_i, ↓kp_i, ↓kr1, ↓kr2, ↓ke_l, ↓kz_l, ↓kz_t, ↓klr1, ↓klr2, ↓gt_e, ↓gs_n, ↓gs_c, nc_0, nc_1, nc_2, nc_3, nc_4, nc_5, nc_6, nc_7, nc_8, nc_9, nc_10, nc_11, nc_12, eq_ii, eq_ss, eq_nn, eq_bb, eq_st, eq_ts, eq_si, eq_is, eq_it, eq_ti, cmp_i, cmp_b, cmp_n, sc_i, sc_s, sc_b, sc_n, flat_i, flat_s, flat_b, flat_n, tru_n, tru_b, tru_i, tru_t, tru_l, items_t, items_l, len_t, len_l, iter_t, iter_l, isN_n, isN_i, isN_s, isN_t, isN_l, isN_b, at_0, at_1, at_2, at_3, ib_tn, ib_tb, ib_ti, ib_ts, ib_tt, ib_tl, ib_sn, ib_sb, ib_si, ib_ss, ib_st, ib_sl, ib_in, ib_ib, ib_ii, ib_is, ib_it, ib_il, ib_bn, ib_bb, ib_bi, ib_bs, ib_bt, ib_bl, na_n, na_b, na_i, na_s, na_t, na_l, List.getElem?_cons_zero, List.getElem?_cons_succ, List.set_cons_zero, List.set_cons_succ, List.map_cons, List.map_nil, List.length_cons, List.length_nil, List.replicate_succ, List.replicate_zero, List.cons_append, List.nil_append, List.append_nil, List.isEmpty_nil, List.isEmpty_cons, List.cons.injEq, Option.some.injEq, T.int.injEq, T.str.injEq, T.bl.injEq, T.tup.injEq, T.lst.injEq, T.adr.injEq, Sl.fz.injEq, Sl.ow.injEq, exists_eq_left, exists_eq_left', exists_eq_right, exists_eq_right', exists_eq, exists_eq', exists_and_left, exists_and_right, exists_const, exists_false, and_true, true_and, and_false, false_and, or_true, true_or, or_false, false_or, not_true_eq_false, not_false_eq_true, if_true, if_false, ite_true, ite_false, Bool.not_true, Bool.not_false, Bool.true_or, Bool.or_true, Bool.false_or, Bool.or_false, Bool.true_and, Bool.and_true, Bool.false_and, Bool.and_false, Bool.false_eq_true, Bool.true_eq_false, eq_self, decide_eq_true_eq, decide_true, decide_false, Bool.decide_eq_true, Bool.not_eq_true, decide_eq_false_iff_not, Bool.and_eq_true, Bool.or_eq_true, Bool.not_eq_true', reduceCtorEq, ne_eq, Nat.le_refl, Nat.reduceAdd, Nat.reduceSub, Nat.reduceLeDiff, Nat.reduceLT, implies_true, forall_const, List.any_cons, List.any_nil, List.all_cons, List.all_nil, wipeP, restore, List.getD_eq_getElem?_getD, Option.getD_some, List.mem_singleton, forall_eq, Int.reduceLT, Int.reduceLE, Int.reduceNeg, Int.reduceSub, Int.reduceAdd, Int.reduceToNat, Int.reduceEq, Int.reduceNe, String.reduceEq, and_self, or_self, pDraw, pfReserved]
  intro r r0 r1
  split
  · intro r r0 r1
    refine pick_all r0 (by rw [rs_len]; exact r1) fun t ht r' s0 s1 => ⟨ll, ?_⟩
    obtain ⟨x, hx, rfl⟩ := List.mem_map.mp ht
    obtain ⟨c, e, hc, hm, _⟩ := let_pick (b := 36) s0 s1 (by decide)
    refine ⟨c, e, ?_⟩
    simp only [↓reduceIte, ↓sSeq, ↓sAsg, ↓sIf, ↓sRet, ↓sRetN, ↓sExpr, ↓sNext, ↓sBreak, ↓sCont, ↓sAug, ↓sFor, ↓gN, ↓pIx, ↓pC, ↓pTup, ↓pLst, ↓pCons, ↓pNil, ↓pStar, ↓pOp, ↓pTB, ↓pTru, ↓pTAnd, ↓pTOr, ↓pTNot, ↓pAndV, ↓pOrV, ↓pNotV, ↓pIf, ↓pCall, ↓pLen, ↓pIsi, ↓pDget, ↓gDset, ↓gSubT, ↓PEq, ↓PNe, ↓pChain, ↓pNeg, ↓pSl, ↓pNoPart, ↓pPart, ↓pIter, ↓pRng1, ↓pRng2, ↓pEnum, ↓pRev, ↓pZip, ↓pMet, ↓pMet0, ↓pMut, ↓pLc, ↓pLRng1, ↓pLRng2, ↓pYes, ↓pRE, ↓startP, ↓pWords, ↓pSplit, ↓gLt, ↓gLe, ↓gGt, ↓gGe, ↓pV_f0, ↓pV_o0, ↓pRV_f0, ↓pRV_o0, ↓lk_f0, ↓lk_o0, ↓sRV_f0, ↓sRV_o0, ↓pV_f1, ↓pV_o1, ↓pRV_f1, ↓pRV_o1, ↓lk_f1, ↓lk_o1, ↓sRV_f1, ↓sRV_o1, ↓pV_f2, ↓pV_o2, ↓pRV_f2, ↓pRV_o2, ↓lk_f2, ↓lk_o2, ↓sRV_f2, ↓sRV_o2, ↓pV_f3, ↓pV_o3, ↓pRV_f3, ↓pRV_o3, ↓lk_f3, ↓lk_o3, ↓sRV_f3, ↓sRV_o3, ↓pV_f4, ↓pV_o4, ↓pRV_f4, ↓pRV_o4, ↓lk_f4, ↓lk_o4, ↓sRV_f4, ↓sRV_o4, ↓pV_f5, ↓pV_o5, ↓pRV_f5, ↓pRV_o5, ↓lk_f5, ↓lk_o5, ↓sRV_f5, ↓sRV_o5, ↓pV_f6, ↓pV_o6, ↓pRV_f6, ↓pRV_o6, ↓lk_f6, ↓lk_o6, ↓sRV_f6, ↓sRV_o6, ↓pV_f7, ↓pV_o7, ↓pRV_f7, ↓pRV_o7, ↓lk_f7, ↓lk_o7, ↓sRV_f7, ↓sRV_o7, ↓pV_f8, ↓pV_o8, ↓pRV_f8, ↓pRV_o8, ↓lk_f8, ↓lk_o8, ↓sRV_f8, ↓sRV_o8, ↓pV_f9, ↓pV_o9, ↓pRV_f9, ↓pRV_o9, ↓lk_f9, ↓lk_o9, ↓sRV_f9, ↓sRV_o9, ↓pV_f10, ↓pV_o10, ↓pRV_f10, ↓pRV_o10, ↓lk_f10, ↓lk_o10, ↓sRV_f10, ↓sRV_o10, ↓pV_f11, ↓pV_o11, ↓pRV_f11, ↓pRV_o11, ↓lk_f11, ↓lk_o11, ↓sRV_f11, ↓sRV_o11, ↓pV_f12, ↓pV_o12, ↓pRV_f12, ↓pRV_o12, ↓lk_f12, ↓lk_o12, ↓sRV_f12, ↓sRV_o12, ↓pV_f13, ↓pV_o13, ↓pRV_f13, ↓pRV_o13, ↓lk_f13, ↓lk_o13, ↓sRV_f13, ↓sRV_o13, ↓lk_fz, ↓of_fn, ↓of_fb, ↓of_fi, ↓of_fs, ↓of_ft, ↓of_fl, ↓of_ol, ↓of_ff, ↓ad_i, ↓ad_s, ↓ad_l, ↓ad_t, ↓su_i, ↓mu_i, ↓mu_l, ↓mo_i, ↓fd_i, ↓pw_i, ↓an_i, ↓ci_i, ↓is_n, ↓is_nn, ↓in_t, ↓in_l, ↓in_s, ↓ix_l, ↓ix_t, ↓ix_s, ↓sl_l, ↓sl_t, ↓sl_s, ↓kn_i, ↓kp_i, ↓kr1, ↓kr2, ↓ke_l, ↓kz_l, ↓kz_t, ↓klr1, ↓klr2, ↓gt_e, ↓gs_n, ↓gs_c, nc_0, nc_1, nc_2, nc_3, nc_4, nc_5, nc_6, nc_7, nc_8, nc_9, nc_10, nc_11, nc_12, eq_ii, eq_ss, eq_nn, eq_bb, eq_st, eq_ts, eq_si, eq_is, eq_it, eq_ti, cmp_i, cmp_b, cmp_n, sc_i, sc_s, sc_b, sc_n, flat_i, flat_s, flat_b, flat_n, tru_n, tru_b, tru_i, tru_t, tru_l, items_t, items_l, len_t, len_l, iter_t, iter_l, isN_n, isN_i, isN_s, isN_t, isN_l, isN_b, at_0, at_1, at_2, at_3, ib_tn, ib_tb, ib_ti, ib_ts, ib_tt, ib_tl, ib_sn, ib_sb, ib_si, ib_ss, ib_st, ib_sl, ib_in, ib_ib, ib_ii, ib_is, ib_it, ib_il, ib_bn, ib_bb, ib_bi, ib_bs, ib_bt, ib_bl, na_n, na_b, na_i, na_s, na_t, na_l, List.getElem?_cons_zero, List.getElem?_cons_succ, List.set_cons_zero, List.set_cons_succ, List.map_cons, List.map_nil, List.length_cons, List.length_nil, List.replicate_succ, List.replicate_zero, List.cons_append, List.nil_append, List.append_nil, List.isEmpty_nil, List.isEmpty_cons, List.cons.injEq, Option.some.injEq, T.int.injEq, T.str.injEq, T.bl.injEq, T.tup.injEq, T.lst.injEq, T.adr.injEq, Sl.fz.injEq, Sl.ow.injEq, exists_eq_left, exists_eq_left', exists_eq_right, exists_eq_right', exists_eq, exists_eq', exists_and_left, exists_and_right, exists_const, exists_false, and_true, true_and, and_false, false_and, or_true, true_or, or_false, false_or, not_true_eq_false, not_false_eq_true, if_true, if_false, ite_true, ite_false, Bool.not_true, Bool.not_false, Bool.true_or, Bool.or_true, Bool.false_or, Bool.or_false, Bool.true_and, Bool.and_true, Bool.false_and, Bool.and_false, Bool.false_eq_true, Bool.true_eq_false, eq_self, decide_eq_true_eq, decide_true, decide_false, Bool.decide_eq_true, Bool.not_eq_true, decide_eq_false_iff_not, Bool.and_eq_true, Bool.or_eq_true, Bool.not_eq_true', reduceCtorEq, ne_eq, Nat.le_refl, Nat.reduceAdd, Nat.reduceSub, Nat.reduceLeDiff, Nat.reduceLT, implies_true, forall_const, List.any_cons, List.any_nil, List.all_cons, List.all_nil, wipeP, restore, List.getD_eq_getElem?_getD, Option.getD_some, List.mem_singleton, forall_eq, Int.reduceLT, Int.reduceLE, Int.reduceNeg, Int.reduceSub, Int.reduceAdd, Int.reduceToNat, Int.reduceEq, Int.reduceNe, String.reduceEq, and_self, or_self]
    have := res_more x hx c hm
    refine ⟨?_, h _ this⟩
    have h8 := (nm_parts this).2.1
    rw [slen] at h8
    omega
  · intro r' s0 s1
    refine ⟨ll, ?_⟩
    obtain ⟨c, e, hc, hm, hlow⟩ := let_pick (b := 26) s0 s1 (by decide)
    refine ⟨c, e, pick_then (lo := 0) (hi := 7) r0 r1 (by decide) fun j j0 j1 => ?_⟩
    simp only [↓reduceIte, ↓sSeq, ↓sAsg, ↓sIf, ↓sRet, ↓sRetN, ↓sExpr, ↓sNext, ↓sBreak, ↓sCont, ↓sAug, ↓sFor, ↓gN, ↓pIx, ↓pC, ↓pTup, ↓pLst, ↓pCons, ↓pNil, ↓pStar, ↓pOp, ↓pTB, ↓pTru, ↓pTAnd, ↓pTOr, ↓pTNot, ↓pAndV, ↓pOrV, ↓pNotV, ↓pIf, ↓pCall, ↓pLen, ↓pIsi, ↓pDget, ↓gDset, ↓gSubT, ↓PEq, ↓PNe, ↓pChain, ↓pNeg, ↓pSl, ↓pNoPart, ↓pPart, ↓pIter, ↓pRng1, ↓pRng2, ↓pEnum, ↓pRev, ↓pZip, ↓pMet, ↓pMet0, ↓pMut, ↓pLc, ↓pLRng1, ↓pLRng2, ↓pYes, ↓pRE, ↓startP, ↓pWords, ↓pSplit, ↓gLt, ↓gLe, ↓gGt, ↓gGe, ↓pV_f0, ↓pV_o0, ↓pRV_f0, ↓pRV_o0, ↓lk_f0, ↓lk_o0, ↓sRV_f0, ↓sRV_o0, ↓pV_f1, ↓pV_o1, ↓pRV_f1, ↓pRV_o1, ↓lk_f1, ↓lk_o1, ↓sRV_f1, ↓sRV_o1, ↓pV_f2, ↓pV_o2, ↓pRV_f2, ↓pRV_o2, ↓lk_f2, ↓lk_o2, ↓sRV_f2, ↓sRV_o2, ↓pV_f3, ↓pV_o3, ↓pRV_f3, ↓pRV_o3, ↓lk_f3, ↓lk_o3, ↓sRV_f3, ↓sRV_o3, ↓pV_f4, ↓pV_o4, ↓pRV_f4, ↓pRV_o4, ↓lk_f4, ↓lk_o4, ↓sRV_f4, ↓sRV_o4, ↓pV_f5, ↓pV_o5, ↓pRV_f5, ↓pRV_o5, ↓lk_f5, ↓lk_o5, ↓sRV_f5, ↓sRV_o5, ↓pV_f6, ↓pV_o6, ↓pRV_f6, ↓pRV_o6, ↓lk_f6, ↓lk_o6, ↓sRV_f6, ↓sRV_o6, ↓pV_f7, ↓pV_o7, ↓pRV_f7, ↓pRV_o7, ↓lk_f7, ↓lk_o7, ↓sRV_f7, ↓sRV_o7, ↓pV_f8, ↓pV_o8, ↓pRV_f8, ↓pRV_o8, ↓lk_f8, ↓lk_o8, ↓sRV_f8, ↓sRV_o8, ↓pV_f9, ↓pV_o9, ↓pRV_f9, ↓pRV_o9, ↓lk_f9, ↓lk_o9, ↓sRV_f9, ↓sRV_o9, ↓pV_f10, ↓pV_o10, ↓pRV_f10, ↓pRV_o10, ↓lk_f10, ↓lk_o10, ↓sRV_f10, ↓sRV_o10, ↓pV_f11, ↓pV_o11, ↓pRV_f11, ↓pRV_o11, ↓lk_f11, ↓lk_o11, ↓sRV_f11, ↓sRV_o11, ↓pV_f12, ↓pV_o12, ↓pRV_f12, ↓pRV_o12, ↓lk_f12, ↓lk_o12, ↓sRV_f12, ↓sRV_o12, ↓pV_f13, ↓pV_o13, ↓pRV_f13, ↓pRV_o13, ↓lk_f13, ↓lk_o13, ↓sRV_f13, ↓sRV_o13, ↓lk_fz, ↓of_fn, ↓of_fb, ↓of_fi, ↓of_fs, ↓of_ft, ↓of_fl, ↓of_ol, ↓of_ff, ↓ad_i, ↓ad_s, ↓ad_l, ↓ad_t, ↓su_i, ↓mu_i, ↓mu_l, ↓mo_i, ↓fd_i, ↓pw_i, ↓an_i, ↓ci_i, ↓is_n, ↓is_nn, ↓in_t, ↓in_l, ↓in_s, ↓ix_l, ↓ix_t, ↓ix_s, ↓sl_l, ↓sl_t, ↓sl_s, ↓kn_i, ↓kp_i, ↓kr1, ↓kr2, ↓ke_l, ↓kz_l, ↓kz_t, ↓klr1, ↓klr2, ↓gt_e, ↓gs_n, ↓gs_c, nc_0, nc_1, nc_2, nc_3, nc_4, nc_5, nc_6, nc_7, nc_8, nc_9, nc_10, nc_11, nc_12, eq_ii, eq_ss, eq_nn, eq_bb, eq_st, eq_ts, eq_si, eq_is, eq_it, eq_ti, cmp_i, cmp_b, cmp_n, sc_i, sc_s, sc_b, sc_n, flat_i, flat_s, flat_b, flat_n, tru_n, tru_b, tru_i, tru_t, tru_l, items_t, items_l, len_t, len_l, iter_t, iter_l, isN_n, isN_i, isN_s, isN_t, isN_l, isN_b, at_0, at_1, at_2, at_3, ib_tn, ib_tb, ib_ti, ib_ts, ib_tt, ib_tl, ib_sn, ib_sb, ib_si, ib_ss, ib_st, ib_sl, ib_in, ib_ib, ib_ii, ib_is, ib_it, ib_il, ib_bn, ib_bb, ib_bi, ib_bs, ib_bt, ib_bl, na_n, na_b, na_i, na_s, na_t, na_l, List.getElem?_cons_zero, List.getElem?_cons_succ, List.set_cons_zero, List.set_cons_succ, List.map_cons, List.map_nil, List.length_cons, List.length_nil, List.replicate_succ, List.replicate_zero, List.cons_append, List.nil_append, List.append_nil, List.isEmpty_nil, List.isEmpty_cons, List.cons.injEq, Option.some.injEq, T.int.injEq, T.str.injEq, T.bl.injEq, T.tup.injEq, T.lst.injEq, T.adr.injEq, Sl.fz.injEq, Sl.ow.injEq, exists_eq_left, exists_eq_left', exists_eq_right, exists_eq_right', exists_eq, exists_eq', exists_and_left, exists_and_right, exists_const, exists_false, and_true, true_and, and_false, false_and, or_true, true_or, or_false, false_or, not_true_eq_false, not_false_eq_true, if_true, if_false, ite_true, ite_false, Bool.not_true, Bool.not_false, Bool.true_or, Bool.or_true, Bool.false_or, Bool.or_false, Bool.true_and, Bool.and_true, Bool.false_and, Bool.and_false, Bool.false_eq_true, Bool.true_eq_false, eq_self, decide_eq_true_eq, decide_true, decide_false, Bool.decide_eq_true, Bool.not_eq_true, decide_eq_false_iff_not, Bool.and_eq_true, Bool.or_eq_true, Bool.not_eq_true', reduceCtorEq, ne_eq, Nat.le_refl, Nat.reduceAdd, Nat.reduceSub, Nat.reduceLeDiff, Nat.reduceLT, implies_true, forall_const, List.any_cons, List.any_nil, List.all_cons, List.all_nil, wipeP, restore, List.getD_eq_getElem?_getD, Option.getD_some, List.mem_singleton, forall_eq, Int.reduceLT, Int.reduceLE, Int.reduceNeg, Int.reduceSub, Int.reduceAdd, Int.reduceToNat, Int.reduceEq, Int.reduceNe, String.reduceEq, and_self, or_self]
    refine ⟨by omega, by omega, fun i ρ => ∃ x a, ρ = [Sl.fz (T.adr d), Sl.fz (T.str letS), Sl.fz (T.int r), Sl.fz (T.str x), a] ∧ nmL (tl x) = true ∧ x.length = i + 1, ⟨_, _, rfl, ?_, rfl⟩, ?_, ?_⟩
    · show (low c && [].all _) = true
      rw [hlow (by decide)]
      rfl
    · rintro i t ρ2 e ⟨x, a, rfl, hx, hl⟩
      obtain ⟨hi, rfl⟩ := rng_get e
      simp only [↓reduceIte, ↓sSeq, ↓sAsg, ↓sIf, ↓sRet, ↓sRetN, ↓sExpr, ↓sNext, ↓sBreak, ↓sCont, ↓sAug, ↓sFor, ↓gN, ↓pIx, ↓pC, ↓pTup, ↓pLst, ↓pCons, ↓pNil, ↓pStar, ↓pOp, ↓pTB, ↓pTru, ↓pTAnd, ↓pTOr, ↓pTNot, ↓pAndV, ↓pOrV, ↓pNotV, ↓pIf, ↓pCall, ↓pLen, ↓pIsi, ↓pDget, ↓gDset, ↓gSubT, ↓PEq, ↓PNe, ↓pChain, ↓pNeg, ↓pSl, ↓pNoPart, ↓pPart, ↓pIter, ↓pRng1, ↓pRng2, ↓pEnum, ↓pRev, ↓pZip, ↓pMet, ↓pMet0, ↓pMut, ↓pLc, ↓pLRng1, ↓pLRng2, ↓pYes, ↓pRE, ↓startP, ↓pWords, ↓pSplit, ↓gLt, ↓gLe, ↓gGt, ↓gGe, ↓pV_f0, ↓pV_o0, ↓pRV_f0, ↓pRV_o0, ↓lk_f0, ↓lk_o0, ↓sRV_f0, ↓sRV_o0, ↓pV_f1, ↓pV_o1, ↓pRV_f1, ↓pRV_o1, ↓lk_f1, ↓lk_o1, ↓sRV_f1, ↓sRV_o1, ↓pV_f2, ↓pV_o2, ↓pRV_f2, ↓pRV_o2, ↓lk_f2, ↓lk_o2, ↓sRV_f2, ↓sRV_o2, ↓pV_f3, ↓pV_o3, ↓pRV_f3, ↓pRV_o3, ↓lk_f3, ↓lk_o3, ↓sRV_f3, ↓sRV_o3, ↓pV_f4, ↓pV_o4, ↓pRV_f4, ↓pRV_o4, ↓lk_f4, ↓lk_o4, ↓sRV_f4, ↓sRV_o4, ↓pV_f5, ↓pV_o5, ↓pRV_f5, ↓pRV_o5, ↓lk_f5, ↓lk_o5, ↓sRV_f5, ↓sRV_o5, ↓pV_f6, ↓pV_o6, ↓pRV_f6, ↓pRV_o6, ↓lk_f6, ↓lk_o6, ↓sRV_f6, ↓sRV_o6, ↓pV_f7, ↓pV_o7, ↓pRV_f7, ↓pRV_o7, ↓lk_f7, ↓lk_o7, ↓sRV_f7, ↓sRV_o7, ↓pV_f8, ↓pV_o8, ↓pRV_f8, ↓pRV_o8, ↓lk_f8, ↓lk_o8, ↓sRV_f8, ↓sRV_o8, ↓pV_f9, ↓pV_o9, ↓pRV_f9, ↓pRV_o9, ↓lk_f9, ↓lk_o9, ↓sRV_f9, ↓sRV_o9, ↓pV_f10, ↓pV_o10, ↓pRV_f10, ↓pRV_o10, ↓lk_f10, ↓lk_o10, ↓sRV_f10, ↓sRV_o10, ↓pV_f11, ↓pV_o11, ↓pRV_f11, ↓pRV_o11, ↓lk_f11, ↓lk_o11, ↓sRV_f11, ↓sRV_o11, ↓pV_f12, ↓pV_o12, ↓pRV_f12, ↓pRV_o12, ↓lk_f12, ↓lk_o12, ↓sRV_f12, ↓sRV_o12, ↓pV_f13, ↓pV_o13, ↓pRV_f13, ↓pRV_o13, ↓lk_f13, ↓lk_o13, ↓sRV_f13, ↓sRV_o13, ↓lk_fz, ↓of_fn, ↓of_fb, ↓of_fi, ↓of_fs, ↓of_ft, ↓of_fl, ↓of_ol, ↓of_ff, ↓ad_i, ↓ad_s, ↓ad_l, ↓ad_t, ↓su_i, ↓mu_i, ↓mu_l, ↓mo_i, ↓fd_i, ↓pw_i, ↓an_i, ↓ci_i, ↓is_n, ↓is_nn, ↓in_t, ↓in_l, ↓in_s, ↓ix_l, ↓ix_t, ↓ix_s, ↓sl_l, ↓sl_t, ↓sl_s, ↓kn_i, ↓kp_i, ↓kr1, ↓kr2, ↓ke_l, ↓kz_l, ↓kz_t, ↓klr1, ↓klr2, ↓gt_e, ↓gs_n, ↓gs_c, nc_0, nc_1, nc_2, nc_3, nc_4, nc_5, nc_6, nc_7, nc_8, nc_9, nc_10, nc_11, nc_12, eq_ii, eq_ss, eq_nn, eq_bb, eq_st, eq_ts, eq_si, eq_is, eq_it, eq_ti, cmp_i, cmp_b, cmp_n, sc_i, sc_s, sc_b, sc_n, flat_i, flat_s, flat_b, flat_n, tru_n, tru_b, tru_i, tru_t, tru_l, items_t, items_l, len_t, len_l, iter_t, iter_l, isN_n, isN_i, isN_s, isN_t, isN_l, isN_b, at_0, at_1, at_2, at_3, ib_tn, ib_tb, ib_ti, ib_ts, ib_tt, ib_tl, ib_sn, ib_sb, ib_si, ib_ss, ib_st, ib_sl, ib_in, ib_ib, ib_ii, ib_is, ib_it, ib_il, ib_bn, ib_bb, ib_bi, ib_bs, ib_bt, ib_bl, na_n, na_b, na_i, na_s, na_t, na_l, List.getElem?_cons_zero, List.getElem?_cons_succ, List.set_cons_zero, List.set_cons_succ, List.map_cons, List.map_nil, List.length_cons, List.length_nil, List.replicate_succ, List.replicate_zero, List.cons_append, List.nil_append, List.append_nil, List.isEmpty_nil, List.isEmpty_cons, List.cons.injEq, Option.some.injEq, T.int.injEq, T.str.injEq, T.bl.injEq, T.tup.injEq, T.lst.injEq, T.adr.injEq, Sl.fz.injEq, Sl.ow.injEq, exists_eq_left, exists_eq_left', exists_eq_right, exists_eq_right', exists_eq, exists_eq', exists_and_left, exists_and_right, exists_const, exists_false, and_true, true_and, and_false, false_and, or_true, true_or, or_false, false_or, not_true_eq_false, not_false_eq_true, if_true, if_false, ite_true, ite_false, Bool.not_true, Bool.not_false, Bool.true_or, Bool.or_true, Bool.false_or, Bool.or_false, Bool.true_and, Bool.and_true, Bool.false_and, Bool.and_false, Bool.false_eq_true, Bool.true_eq_false, eq_self, decide_eq_true_eq, decide_true, decide_false, Bool.decide_eq_true, Bool.not_eq_true, decide_eq_false_iff_not, Bool.and_eq_true, Bool.or_eq_true, Bool.not_eq_true', reduceCtorEq, ne_eq, Nat.le_refl, Nat.reduceAdd, Nat.reduceSub, Nat.reduceLeDiff, Nat.reduceLT, implies_true, forall_const, List.any_cons, List.any_nil, List.all_cons, List.all_nil, wipeP, restore, List.getD_eq_getElem?_getD, Option.getD_some, List.mem_singleton, forall_eq, Int.reduceLT, Int.reduceLE, Int.reduceNeg, Int.reduceSub, Int.reduceAdd, Int.reduceToNat, Int.reduceEq, Int.reduceNe, String.reduceEq, and_self, or_self, pDraw]
      intro r r0 r1
      refine ⟨ll, ?_⟩
      obtain ⟨c, e, hc, hm, _⟩ := let_pick (b := 36) r0 r1 (by decide)
      refine ⟨c, e, ?_⟩
      have c1 : (⟨#[c]⟩ : Str).length = 1 := rfl
      refine ⟨by rw [c1]; omega, ?_, by rw [slen, hl, c1]⟩
      rw [tl_append]
      exact nmL_snoc hx hc
    · rintro ρ2 ⟨x, a, rfl, hx, hl⟩
      rw [rng_len] at hl
      simp only [↓reduceIte, ↓sSeq, ↓sAsg, ↓sIf, ↓sRet, ↓sRetN, ↓sExpr, ↓sNext, ↓sBreak, ↓sCont, ↓sAug, ↓sFor, ↓gN, ↓pIx, ↓pC, ↓pTup, ↓pLst, ↓pCons, ↓pNil, ↓pStar, ↓pOp, ↓pTB, ↓pTru, ↓pTAnd, ↓pTOr, ↓pTNot, ↓pAndV, ↓pOrV, ↓pNotV, ↓pIf, ↓pCall, ↓pLen, ↓pIsi, ↓pDget, ↓gDset, ↓gSubT, ↓PEq, ↓PNe, ↓pChain, ↓pNeg, ↓pSl, ↓pNoPart, ↓pPart, ↓pIter, ↓pRng1, ↓pRng2, ↓pEnum, ↓pRev, ↓pZip, ↓pMet, ↓pMet0, ↓pMut, ↓pLc, ↓pLRng1, ↓pLRng2, ↓pYes, ↓pRE, ↓startP, ↓pWords, ↓pSplit, ↓gLt, ↓gLe, ↓gGt, ↓gGe, ↓pV_f0, ↓pV_o0, ↓pRV_f0, ↓pRV_o0, ↓lk_f0, ↓lk_o0, ↓sRV_f0, ↓sRV_o0, ↓pV_f1, ↓pV_o1, ↓pRV_f1, ↓pRV_o1, ↓lk_f1, ↓lk_o1, ↓sRV_f1, ↓sRV_o1, ↓pV_f2, ↓pV_o2, ↓pRV_f2, ↓pRV_o2, ↓lk_f2, ↓lk_o2, ↓sRV_f2, ↓sRV_o2, ↓pV_f3, ↓pV_o3, ↓pRV_f3, ↓pRV_o3, ↓lk_f3, ↓lk_o3, ↓sRV_f3, ↓sRV_o3, ↓pV_f4, ↓pV_o4, ↓pRV_f4, ↓pRV_o4, ↓lk_f4, ↓lk_o4, ↓sRV_f4, ↓sRV_o4, ↓pV_f5, ↓pV_o5, ↓pRV_f5, ↓pRV_o5, ↓lk_f5, ↓lk_o5, ↓sRV_f5, ↓sRV_o5, ↓pV_f6, ↓pV_o6, ↓pRV_f6, ↓pRV_o6, ↓lk_f6, ↓lk_o6, ↓sRV_f6, ↓sRV_o6, ↓pV_f7, ↓pV_o7, ↓pRV_f7, ↓pRV_o7, ↓lk_f7, ↓lk_o7, ↓sRV_f7, ↓sRV_o7, ↓pV_f8, ↓pV_o8, ↓pRV_f8, ↓pRV_o8, ↓lk_f8, ↓lk_o8, ↓sRV_f8, ↓sRV_o8, ↓pV_f9, ↓pV_o9, ↓pRV_f9, ↓pRV_o9, ↓lk_f9, ↓lk_o9, ↓sRV_f9, ↓sRV_o9, ↓pV_f10, ↓pV_o10, ↓pRV_f10, ↓pRV_o10, ↓lk_f10, ↓lk_o10, ↓sRV_f10, ↓sRV_o10, ↓pV_f11, ↓pV_o11, ↓pRV_f11, ↓pRV_o11, ↓lk_f11, ↓lk_o11, ↓sRV_f11, ↓sRV_o11, ↓pV_f12, ↓pV_o12, ↓pRV_f12, ↓pRV_o12, ↓lk_f12, ↓lk_o12, ↓sRV_f12, ↓sRV_o12, ↓pV_f13, ↓pV_o13, ↓pRV_f13, ↓pRV_o13, ↓lk_f13, ↓lk_o13, ↓sRV_f13, ↓sRV_o13, ↓lk_fz, ↓of_fn, ↓of_fb, ↓of_fi, ↓of_fs, ↓of_ft, ↓of_fl, ↓of_ol, ↓of_ff, ↓ad_i, ↓ad_s, ↓ad_l, ↓ad_t, ↓su_i, ↓mu_i, ↓mu_l, ↓mo_i, ↓fd_i, ↓pw_i, ↓an_i, ↓ci_i, ↓is_n, ↓is_nn, ↓in_t, ↓in_l, ↓in_s, ↓ix_l, ↓ix_t, ↓ix_s, ↓sl_l, ↓sl_t, ↓sl_s, ↓kn_i, ↓kp_i, ↓kr1, ↓kr2, ↓ke_l, ↓kz_l, ↓kz_t, ↓klr1, ↓klr2, ↓gt_e, ↓gs_n, ↓gs_c, nc_0, nc_1, nc_2, nc_3, nc_4, nc_5, nc_6, nc_7, nc_8, nc_9, nc_10, nc_11, nc_12, eq_ii, eq_ss, eq_nn, eq_bb, eq_st, eq_ts, eq_si, eq_is, eq_it, eq_ti, cmp_i, cmp_b, cmp_n, sc_i, sc_s, sc_b, sc_n, flat_i, flat_s, flat_b, flat_n, tru_n, tru_b, tru_i, tru_t, tru_l, items_t, items_l, len_t, len_l, iter_t, iter_l, isN_n, isN_i, isN_s, isN_t, isN_l, isN_b, at_0, at_1, at_2, at_3, ib_tn, ib_tb, ib_ti, ib_ts, ib_tt, ib_tl, ib_sn, ib_sb, ib_si, ib_ss, ib_st, ib_sl, ib_in, ib_ib, ib_ii, ib_is, ib_it, ib_il, ib_bn, ib_bb, ib_bi, ib_bs, ib_bt, ib_bl, na_n, na_b, na_i, na_s, na_t, na_l, List.getElem?_cons_zero, List.getElem?_cons_succ, List.set_cons_zero, List.set_cons_succ, List.map_cons, List.map_nil, List.length_cons, List.length_nil, List.replicate_succ, List.replicate_zero, List.cons_append, List.nil_append, List.append_nil, List.isEmpty_nil, List.isEmpty_cons, List.cons.injEq, Option.some.injEq, T.int.injEq, T.str.injEq, T.bl.injEq, T.tup.injEq, T.lst.injEq, T.adr.injEq, Sl.fz.injEq, Sl.ow.injEq, exists_eq_left, exists_eq_left', exists_eq_right, exists_eq_right', exists_eq, exists_eq', exists_and_left, exists_and_right, exists_const, exists_false, and_true, true_and, and_false, false_and, or_true, true_or, or_false, false_or, not_true_eq_false, not_false_eq_true, if_true, if_false, ite_true, ite_false, Bool.not_true, Bool.not_false, Bool.true_or, Bool.or_true, Bool.false_or, Bool.or_false, Bool.true_and, Bool.and_true, Bool.false_and, Bool.and_false, Bool.false_eq_true, Bool.true_eq_false, eq_self, decide_eq_true_eq, decide_true, decide_false, Bool.decide_eq_true, Bool.not_eq_true, decide_eq_false_iff_not, Bool.and_eq_true, Bool.or_eq_true, Bool.not_eq_true', reduceCtorEq, ne_eq, Nat.le_refl, Nat.reduceAdd, Nat.reduceSub, Nat.reduceLeDiff, Nat.reduceLT, implies_true, forall_const, List.any_cons, List.any_nil, List.all_cons, List.all_nil, wipeP, restore, List.getD_eq_getElem?_getD, Option.getD_some, List.mem_singleton, forall_eq, Int.reduceLT, Int.reduceLE, Int.reduceNeg, Int.reduceSub, Int.reduceAdd, Int.reduceToNat, Int.reduceEq, Int.reduceNe, String.reduceEq, and_self, or_self, pfReserved]
      rw [rs_any, rs_flat]
      simp only [↓reduceIte, ↓sSeq, ↓sAsg, ↓sIf, ↓sRet, ↓sRetN, ↓sExpr, ↓sNext, ↓sBreak, ↓sCont, ↓sAug, ↓sFor, ↓gN, ↓pIx, ↓pC, ↓pTup, ↓pLst, ↓pCons, ↓pNil, ↓pStar, ↓pOp, ↓pTB, ↓pTru, ↓pTAnd, ↓pTOr, ↓pTNot, ↓pAndV, ↓pOrV, ↓pNotV, ↓pIf, ↓pCall, ↓pLen, ↓pIsi, ↓pDget, ↓gDset, ↓gSubT, ↓PEq, ↓PNe, ↓pChain, ↓pNeg, ↓pSl, ↓pNoPart, ↓pPart, ↓pIter, ↓pRng1, ↓pRng2, ↓pEnum, ↓pRev, ↓pZip, ↓pMet, ↓pMet0, ↓pMut, ↓pLc, ↓pLRng1, ↓pLRng2, ↓pYes, ↓pRE, ↓startP, ↓pWords, ↓pSplit, ↓gLt, ↓gLe, ↓gGt, ↓gGe, ↓pV_f0, ↓pV_o0, ↓pRV_f0, ↓pRV_o0, ↓lk_f0, ↓lk_o0, ↓sRV_f0, ↓sRV_o0, ↓pV_f1, ↓pV_o1, ↓pRV_f1, ↓pRV_o1, ↓lk_f1, ↓lk_o1, ↓sRV_f1, ↓sRV_o1, ↓pV_f2, ↓pV_o2, ↓pRV_f2, ↓pRV_o2, ↓lk_f2, ↓lk_o2, ↓sRV_f2, ↓sRV_o2, ↓pV_f3, ↓pV_o3, ↓pRV_f3, ↓pRV_o3, ↓lk_f3, ↓lk_o3, ↓sRV_f3, ↓sRV_o3, ↓pV_f4, ↓pV_o4, ↓pRV_f4, ↓pRV_o4, ↓lk_f4, ↓lk_o4, ↓sRV_f4, ↓sRV_o4, ↓pV_f5, ↓pV_o5, ↓pRV_f5, ↓pRV_o5, ↓lk_f5, ↓lk_o5, ↓sRV_f5, ↓sRV_o5, ↓pV_f6, ↓pV_o6, ↓pRV_f6, ↓pRV_o6, ↓lk_f6, ↓lk_o6, ↓sRV_f6, ↓sRV_o6, ↓pV_f7, ↓pV_o7, ↓pRV_f7, ↓pRV_o7, ↓lk_f7, ↓lk_o7, ↓sRV_f7, ↓sRV_o7, ↓pV_f8, ↓pV_o8, ↓pRV_f8, ↓pRV_o8, ↓lk_f8, ↓lk_o8, ↓sRV_f8, ↓sRV_o8, ↓pV_f9, ↓pV_o9, ↓pRV_f9, ↓pRV_o9, ↓lk_f9, ↓lk_o9, ↓sRV_f9, ↓sRV_o9, ↓pV_f10, ↓pV_o10, ↓pRV_f10, ↓pRV_o10, ↓lk_f10, ↓lk_o10, ↓sRV_f10, ↓sRV_o10, ↓pV_f11, ↓pV_o11, ↓pRV_f11, ↓pRV_o11, ↓lk_f11, ↓lk_o11, ↓sRV_f11, ↓sRV_o11, ↓pV_f12, ↓pV_o12, ↓pRV_f12, ↓pRV_o12, ↓lk_f12, ↓lk_o12, ↓sRV_f12, ↓sRV_o12, ↓pV_f13, ↓pV_o13, ↓pRV_f13, ↓pRV_o13, ↓lk_f13, ↓lk_o13, ↓sRV_f13, ↓sRV_o13, ↓lk_fz, ↓of_fn, ↓of_fb, ↓of_fi, ↓of_fs, ↓of_ft, ↓of_fl, ↓of_ol, ↓of_ff, ↓ad_i, ↓ad_s, ↓ad_l, ↓ad_t, ↓su_i, ↓mu_i, ↓mu_l, ↓mo_i, ↓fd_i, ↓pw_i, ↓an_i, ↓ci_i, ↓is_n, ↓is_nn, ↓in_t, ↓in_l, ↓in_s, ↓ix_l, ↓ix_t, ↓ix_s, ↓sl_l, ↓sl_t, ↓sl_s, ↓kn_i, ↓kp_i, ↓kr1, ↓kr2, ↓ke_l, ↓kz_l, ↓kz_t, ↓klr1, ↓klr2, ↓gt_e, ↓gs_n, ↓gs_c, nc_0, nc_1, nc_2, nc_3, nc_4, nc_5, nc_6, nc_7, nc_8, nc_9, nc_10, nc_11, nc_12, eq_ii, eq_ss, eq_nn, eq_bb, eq_st, eq_ts, eq_si, eq_is, eq_it, eq_ti, cmp_i, cmp_b, cmp_n, sc_i, sc_s, sc_b, sc_n, flat_i, flat_s, flat_b, flat_n, tru_n, tru_b, tru_i, tru_t, tru_l, items_t, items_l, len_t, len_l, iter_t, iter_l, isN_n, isN_i, isN_s, isN_t, isN_l, isN_b, at_0, at_1, at_2, at_3, ib_tn, ib_tb, ib_ti, ib_ts, ib_tt, ib_tl, ib_sn, ib_sb, ib_si, ib_ss, ib_st, ib_sl, ib_in, ib_ib, ib_ii, ib_is, ib_it, ib_il, ib_bn, ib_bb, ib_bi, ib_bs, ib_bt, ib_bl, na_n, na_b, na_i, na_s, na_t, na_l, List.getElem?_cons_zero, List.getElem?_cons_succ, List.set_cons_zero, List.set_cons_succ, List.map_cons, List.map_nil, List.length_cons, List.length_nil, List.replicate_succ, List.replicate_zero, List.cons_append, List.nil_append, List.append_nil, List.isEmpty_nil, List.isEmpty_cons, List.cons.injEq, Option.some.injEq, T.int.injEq, T.str.injEq, T.bl.injEq, T.tup.injEq, T.lst.injEq, T.adr.injEq, Sl.fz.injEq, Sl.ow.injEq, exists_eq_left, exists_eq_left', exists_eq_right, exists_eq_right', exists_eq, exists_eq', exists_and_left, exists_and_right, exists_const, exists_false, and_true, true_and, and_false, false_and, or_true, true_or, or_false, false_or, not_true_eq_false, not_false_eq_true, if_true, if_false, ite_true, ite_false, Bool.not_true, Bool.not_false, Bool.true_or, Bool.or_true, Bool.false_or, Bool.or_false, Bool.true_and, Bool.and_true, Bool.false_and, Bool.and_false, Bool.false_eq_true, Bool.true_eq_false, eq_self, decide_eq_true_eq, decide_true, decide_false, Bool.decide_eq_true, Bool.not_eq_true, decide_eq_false_iff_not, Bool.and_eq_true, Bool.or_eq_true, Bool.not_eq_true', reduceCtorEq, ne_eq, Nat.le_refl, Nat.reduceAdd, Nat.reduceSub, Nat.reduceLeDiff, Nat.reduceLT, implies_true, forall_const, List.any_cons, List.any_nil, List.all_cons, List.all_nil, wipeP, restore, List.getD_eq_getElem?_getD, Option.getD_some, List.mem_singleton, forall_eq, Int.reduceLT, Int.reduceLE, Int.reduceNeg, Int.reduceSub, Int.reduceAdd, Int.reduceToNat, Int.reduceEq, Int.reduceNe, String.reduceEq, and_self, or_self]
      split
      · rename_i hr
        have hx2 : x ∈ RS := List.contains_iff_mem.mp hr
        have e0 : Str.ofString "0" = (⟨#[48]⟩ : Str) := by decide +kernel
        have := res_more x hx2 48 (by decide +kernel)
        rw [e0]
        exact ⟨by have : (⟨#[48]⟩ : Str).length = 1 := rfl; omega, h _ this⟩
      · rename_i hr
        exact h _ (nm_of (by omega) (by omega) hx fun z => hr (List.contains_iff_mem.mpr z))
theorem ok_any_value {d l : Addr} {k : Nat} {n : Nat} (D : Df K mg "_law_any_value" s_any_value)
    (C_draw : CalQ P w K mg base (wd d l 3) "_law_draw" k ["_law_d", "_law_many"] (pDraw d))
    (C_any_int : CalQ P w K mg base (wd d l 3) "_law_any_int" k ["_law_d"] (pfInt d))
    (C_any_name : CalQ P w K mg base (wd d l 3) "_law_any_name" k ["_law_d"] (pfName d))
    (C_any_value : CalQ P w K mg base (wd d l 3) "_law_any_value" k ["_law_d", "_law_deep"] (pfValue0 d n)) (m_tuple : mg "tuple" = none) (m_range : mg "range" = none) :
    CalQ P w K mg base (wd d l 3) "_law_any_value" (k + 1) ["_law_d", "_law_deep"] (pfValue d n) := by
  refine CalQ.mk D sc_any_value (fun _ _ _ _ _ _ us h => match us, h with | [_, _], _ => rfl) (fun ts Φ h => by first | (obtain ⟨rfl, _⟩ := h; rfl) | (obtain ⟨_, rfl, _⟩ := h; rfl) | (obtain ⟨_, _, rfl, _⟩ := h; rfl) | (obtain ⟨_, _, _, rfl, _⟩ := h; rfl) | (obtain ⟨_, _, _, _, rfl, _⟩ := h; rfl)) (fun f cdv A outer s H E hr => ?_)
  refine ⟨_, qss_cons (qs_asg (qe_op oq_sub (qe_dget (qe_name (pv 0)) qe_int (fun _ _ => rfl)) qe_int) (qg_dset (qe_name (pv 0)) qe_int))
    (qss_cons (qs_set (i := 2) sc_any_value.nd rfl (.inl rfl) (qe_call C_draw (hr.mono (by omega)) (by rfl) (qa_cons (qe_name (pv 0)) (qa_cons qe_int qa_nil))))
    (qss_cons (qs_if (QW.qt (qw_or (qt_cmp (oq_eq hr.units) (qe_name (pv 1)) qe_int (nomark _)) (qw_or (qt_cmp oq_le (qe_dget (qe_name (pv 0)) qe_int (fun _ _ => rfl)) qe_int (nomark _)) (qw_or1 (qt_cmp oq_lt (qe_name (pv 2)) qe_int (nomark _))))))
    (qss_one (qs_ret (qe_if (qt_cmp (oq_eq hr.units) (qe_op oq_and (qe_name (pv 2)) qe_int) qe_int (nomark _)) (qe_call C_any_int (hr.mono (by omega)) (by rfl) (qa_cons (qe_name (pv 0)) qa_nil)) (qe_call C_any_name (hr.mono (by omega)) (by rfl) (qa_cons (qe_name (pv 0)) qa_nil)))))
    (qss_nil))
    (qss_one (qs_ret (qe_callTy cq_tuple (by rfl) m_tuple (by decide +kernel) (qa_cons (qe_lc rfl (own := [("_law_k", 3)]) sc_any_value.nd (by decide) (qi_range1 (by rfl) m_range (qe_ix (qr_of (qe_lst (qa_cons qe_int (qa_cons qe_int (qa_cons qe_int (qa_cons qe_int qa_nil)))))) (qe_call C_draw (hr.mono (by omega)) (by rfl) (qa_cons (qe_name (pv 0)) (qa_cons qe_int qa_nil))) (fun _ _ => rfl))) (blkOk_by (N := ["_law_d", "_law_deep", "_law_shape", "_law_k"]) (sc := defScope s_any_value) (by decide +kernel)) (fun _ _ _ _ _ => (qg_name (pg_name (i := 3) sc_any_value.nd rfl (.inl rfl)))) (fun _ _ _ _ _ => qts_nil) (fun _ _ _ _ _ => (qe_call C_any_value (hr.mono (by omega)) (by rfl) (qa_cons (qe_name (pv 0)) (qa_cons (qe_op oq_sub (qe_name (pv 1)) qe_int) qa_nil))))) qa_nil)))))), ?_⟩
  intro ts Φ h
  obtain ⟨rfl, h⟩ := h
  have atomI : ∀ i, ib i → Φ (.int i) false := fun i hi => h _ (gd_atom hi rfl)
  have atomN : ∀ x, isNm x = true → Φ (.str x) false := fun x hx => h _ (gd_atom (n := n) (t := .str x) hx rfl)
  have atom : ∀ b : Prop, [Decidable b] → (if b then ∀ (i : Int), ib i → Φ (T.int i) false else ∀ (x : Str), isNm x = true → Φ (T.str x) false) := fun b _ => by
    split
    · exact atomI
    · exact atomN
  simp only [↓reduceIte, ↓sSeq, ↓sAsg, ↓sIf, ↓sRet, ↓sRetN, ↓sExpr, ↓sNext, ↓sBreak, ↓sCont, ↓sAug, ↓sFor, ↓gN, ↓pIx, ↓pC, ↓pTup, ↓pLst, ↓pCons, ↓pNil, ↓pStar, ↓pOp, ↓pTB, ↓pTru, ↓pTAnd, ↓pTOr, ↓pTNot, ↓pAndV, ↓pOrV, ↓pNotV, ↓pIf, ↓pCall, ↓pLen, ↓pIsi, ↓pDget, ↓gDset, ↓gSubT, ↓PEq, ↓PNe, ↓pChain, ↓pNeg, ↓pSl, ↓pNoPart, ↓pPart, ↓pIter, ↓pRng1, ↓pRng2, ↓pEnum, ↓pRev, ↓pZip, ↓pMet, ↓pMet0, ↓pMut, ↓pLc, ↓pLRng1, ↓pLRng2, ↓pYes, ↓pRE, ↓startP, ↓pWords, ↓pSplit, ↓gLt, ↓gLe, ↓gGt, ↓gGe, ↓pV_f0, ↓pV_o0, ↓pRV_f0, ↓pRV_o0, ↓lk_f0, ↓lk_o0, ↓sRV_f0, ↓sRV_o0, ↓pV_f1, ↓pV_o1, ↓pRV_f1, ↓pRV_o1, ↓lk_f1, ↓lk_o1, ↓sRV_f1, ↓sRV_o1, ↓pV_f2, ↓pV_o2, ↓pRV_f2, ↓pRV_o2, ↓lk_f2, ↓lk_o2, ↓sRV_f2, ↓sRV_o2, ↓pV_f3, ↓pV_o3, ↓pRV_f3, ↓pRV_o3, ↓lk_f3, ↓lk_o3, ↓sRV_f3, ↓sRV_o3, ↓pV_f4, ↓pV_o4, ↓pRV_f4, ↓pRV_o4, ↓lk_f4, ↓lk_o4, ↓sRV_f4, ↓sRV_o4, ↓pV_f5, ↓pV_o5, ↓pRV_f5, ↓pRV_o5, ↓lk_f5, ↓lk_o5, ↓sRV_f5, ↓sRV_o5, ↓pV_f6, ↓pV_o6, ↓pRV_f6, ↓pRV_o6, ↓lk_f6, ↓lk_o6, ↓sRV_f6, ↓sRV_o6, ↓pV_f7, ↓pV_o7, ↓pRV_f7, ↓pRV_o7, ↓lk_f7, ↓lk_o7, ↓sRV_f7, ↓sRV_o7, ↓pV_f8, ↓pV_o8, ↓pRV_f8, ↓pRV_o8, ↓lk_f8, ↓lk_o8, ↓sRV_f8, ↓sRV_o8, ↓pV_f9, ↓pV_o9, ↓pRV_f9, ↓pRV_o9, ↓lk_f9, ↓lk_o9, ↓sRV_f9, ↓sRV_o9, ↓pV_f10, ↓pV_o10, ↓pRV_f10, ↓pRV_o10, ↓lk_f10, ↓lk_o10, ↓sRV_f10, ↓sRV_o10, ↓pV_f11, ↓pV_o11, ↓pRV_f11, ↓pRV_o11, ↓lk_f11, ↓lk_o11, ↓sRV_f11, ↓sRV_o11, ↓pV_f12, ↓pV_o12, ↓pRV_f12, ↓pRV_o12, ↓lk_f12, ↓lk_o12, ↓sRV_f12, ↓sRV_o12, ↓pV_f13, ↓pV_o13, ↓pRV_f13, ↓pRV_o13, ↓lk_f13, ↓lk_o13, ↓sRV_f13, ↓sRV_o13, ↓lk_fz, ↓of_fn, ↓of_fb, ↓of_fi, ↓of_fs, ↓of_ft, ↓of_fl, ↓of_ol, ↓of_ff, ↓ad_i, ↓ad_s, ↓ad_l, ↓ad_t, ↓su_i, ↓mu_i, ↓mu_l, ↓mo_i, ↓fd_i, ↓pw_i, ↓an_i, ↓ci_i, ↓is_n, ↓is_nn, ↓in_t, ↓in_l, ↓in_s, ↓ix_l, ↓ix_t, ↓ix_s, ↓sl_l, ↓sl_t, ↓sl_s, ↓kn_i, ↓kp_i, ↓kr1, ↓kr2, ↓ke_l, ↓kz_l, ↓kz_t, ↓klr1, ↓klr2, ↓gt_e, ↓gs_n, ↓gs_c, nc_0, nc_1, nc_2, nc_3, nc_4, nc_5, nc_6, nc_7, nc_8, nc_9, nc_10, nc_11, nc_12, eq_ii, eq_ss, eq_nn, eq_bb, eq_st, eq_ts, eq_si, eq_is, eq_it, eq_ti, cmp_i, cmp_b, cmp_n, sc_i, sc_s, sc_b, sc_n, flat_i, flat_s, flat_b, flat_n, tru_n, tru_b, tru_i, tru_t, tru_l, items_t, items_l, len_t, len_l, iter_t, iter_l, isN_n, isN_i, isN_s, isN_t, isN_l, isN_b, at_0, at_1, at_2, at_3, ib_tn, ib_tb, ib_ti, ib_ts, ib_tt, ib_tl, ib_sn, ib_sb, ib_si, ib_ss, ib_st, ib_sl, ib_in, ib_ib, ib_ii, ib_is, ib_it, ib_il, ib_bn, ib_bb, ib_bi, ib_bs, ib_bt, ib_bl, na_n, na_b, na_i, na_s, na_t, na_l, List.getElem?_cons_zero, List.getElem?_cons_succ, List.set_cons_zero, List.set_cons_succ, List.map_cons, List.map_nil, List.length_cons, List.length_nil, List.replicate_succ, List.replicate_zero, List.cons_append, List.nil_append, List.append_nil, List.isEmpty_nil, List.isEmpty_cons, List.cons.injEq, Option.some.injEq, T.int.injEq, T.str.injEq, T.bl.injEq, T.tup.injEq, T.lst.injEq, T.adr.injEq, Sl.fz.injEq, Sl.ow.injEq, exists_eq_left, exists_eq_left', exists_eq_right, exists_eq_right', exists_eq, exists_eq', exists_and_left, exists_and_right, exists_const, exists_false, and_true, true_and, and_false, false_and, or_true, true_or, or_false, false_or, not_true_eq_false, not_false_eq_true, if_true, if_false, ite_true, ite_false, Bool.not_true, Bool.not_false, Bool.true_or, Bool.or_true, Bool.false_or, Bool.or_false, Bool.true_and, Bool.and_true, Bool.false_and, Bool.and_false, Bool.false_eq_true, Bool.true_eq_false, eq_self, decide_eq_true_eq, decide_true, decide_false, Bool.decide_eq_true, Bool.not_eq_true, decide_eq_false_iff_not, Bool.and_eq_true, Bool.or_eq_true, Bool.not_eq_true', reduceCtorEq, ne_eq, Nat.le_refl, Nat.reduceAdd, Nat.reduceSub, Nat.reduceLeDiff, Nat.reduceLT, implies_true, forall_const, List.any_cons, List.any_nil, List.all_cons, List.all_nil, wipeP, restore, List.getD_eq_getElem?_getD, Option.getD_some, List.mem_singleton, forall_eq, Int.reduceLT, Int.reduceLE, Int.reduceNeg, Int.reduceSub, Int.reduceAdd, Int.reduceToNat, Int.reduceEq, Int.reduceNe, String.reduceEq, and_self, or_self, pDraw, pfInt, pfName]
  intro r r0 r1
  split
  · exact atom _
  intro v
  split
  · exact atom _
  split
  · exact atom _
  rename_i hn _ _
  obtain ⟨m, rfl⟩ : ∃ m, n = m + 1 := by
    cases n with
    | zero => exact absurd rfl hn
    | succ m => exact ⟨m, rfl⟩
  intro r' s0 s1
  refine pick_then (lo := 0) (hi := 3) s0 s1 (by decide) fun j j0 j1 => ?_
  simp only [↓reduceIte, ↓sSeq, ↓sAsg, ↓sIf, ↓sRet, ↓sRetN, ↓sExpr, ↓sNext, ↓sBreak, ↓sCont, ↓sAug, ↓sFor, ↓gN, ↓pIx, ↓pC, ↓pTup, ↓pLst, ↓pCons, ↓pNil, ↓pStar, ↓pOp, ↓pTB, ↓pTru, ↓pTAnd, ↓pTOr, ↓pTNot, ↓pAndV, ↓pOrV, ↓pNotV, ↓pIf, ↓pCall, ↓pLen, ↓pIsi, ↓pDget, ↓gDset, ↓gSubT, ↓PEq, ↓PNe, ↓pChain, ↓pNeg, ↓pSl, ↓pNoPart, ↓pPart, ↓pIter, ↓pRng1, ↓pRng2, ↓pEnum, ↓pRev, ↓pZip, ↓pMet, ↓pMet0, ↓pMut, ↓pLc, ↓pLRng1, ↓pLRng2, ↓pYes, ↓pRE, ↓startP, ↓pWords, ↓pSplit, ↓gLt, ↓gLe, ↓gGt, ↓gGe, ↓pV_f0, ↓pV_o0, ↓pRV_f0, ↓pRV_o0, ↓lk_f0, ↓lk_o0, ↓sRV_f0, ↓sRV_o0, ↓pV_f1, ↓pV_o1, ↓pRV_f1, ↓pRV_o1, ↓lk_f1, ↓lk_o1, ↓sRV_f1, ↓sRV_o1, ↓pV_f2, ↓pV_o2, ↓pRV_f2, ↓pRV_o2, ↓lk_f2, ↓lk_o2, ↓sRV_f2, ↓sRV_o2, ↓pV_f3, ↓pV_o3, ↓pRV_f3, ↓pRV_o3, ↓lk_f3, ↓lk_o3, ↓sRV_f3, ↓sRV_o3, ↓pV_f4, ↓pV_o4, ↓pRV_f4, ↓pRV_o4, ↓lk_f4, ↓lk_o4, ↓sRV_f4, ↓sRV_o4, ↓pV_f5, ↓pV_o5, ↓pRV_f5, ↓pRV_o5, ↓lk_f5, ↓lk_o5, ↓sRV_f5, ↓sRV_o5, ↓pV_f6, ↓pV_o6, ↓pRV_f6, ↓pRV_o6, ↓lk_f6, ↓lk_o6, ↓sRV_f6, ↓sRV_o6, ↓pV_f7, ↓pV_o7, ↓pRV_f7, ↓pRV_o7, ↓lk_f7, ↓lk_o7, ↓sRV_f7, ↓sRV_o7, ↓pV_f8, ↓pV_o8, ↓pRV_f8, ↓pRV_o8, ↓lk_f8, ↓lk_o8, ↓sRV_f8, ↓sRV_o8, ↓pV_f9, ↓pV_o9, ↓pRV_f9, ↓pRV_o9, ↓lk_f9, ↓lk_o9, ↓sRV_f9, ↓sRV_o9, ↓pV_f10, ↓pV_o10, ↓pRV_f10, ↓pRV_o10, ↓lk_f10, ↓lk_o10, ↓sRV_f10, ↓sRV_o10, ↓pV_f11, ↓pV_o11, ↓pRV_f11, ↓pRV_o11, ↓lk_f11, ↓lk_o11, ↓sRV_f11, ↓sRV_o11, ↓pV_f12, ↓pV_o12, ↓pRV_f12, ↓pRV_o12, ↓lk_f12, ↓lk_o12, ↓sRV_f12, ↓sRV_o12, ↓pV_f13, ↓pV_o13, ↓pRV_f13, ↓pRV_o13, ↓lk_f13, ↓lk_o13, ↓sRV_f13, ↓sRV_o13, ↓lk_fz, ↓of_fn, ↓of_fb, ↓of_fi, ↓of_fs, ↓of_ft, ↓of_fl, ↓of_ol, ↓of_ff, ↓ad_i, ↓ad_s, ↓ad_l, ↓ad_t, ↓su_i, ↓mu_i, ↓mu_l, ↓mo_i, ↓fd_i, ↓pw_i, ↓an_i, ↓ci_i, ↓is_n, ↓is_nn, ↓in_t, ↓in_l, ↓in_s, ↓ix_l, ↓ix_t, ↓ix_s, ↓sl_l, ↓sl_t, ↓sl_s, ↓kn_i, ↓kp_i, ↓kr1, ↓kr2, ↓ke_l, ↓kz_l, ↓kz_t, ↓klr1, ↓klr2, ↓gt_e, ↓gs_n, ↓gs_c, nc_0, nc_1, nc_2, nc_3, nc_4, nc_5, nc_6, nc_7, nc_8, nc_9, nc_10, nc_11, nc_12, eq_ii, eq_ss, eq_nn, eq_bb, eq_st, eq_ts, eq_si, eq_is, eq_it, eq_ti, cmp_i, cmp_b, cmp_n, sc_i, sc_s, sc_b, sc_n, flat_i, flat_s, flat_b, flat_n, tru_n, tru_b, tru_i, tru_t, tru_l, items_t, items_l, len_t, len_l, iter_t, iter_l, isN_n, isN_i, isN_s, isN_t, isN_l, isN_b, at_0, at_1, at_2, at_3, ib_tn, ib_tb, ib_ti, ib_ts, ib_tt, ib_tl, ib_sn, ib_sb, ib_si, ib_ss, ib_st, ib_sl, ib_in, ib_ib, ib_ii, ib_is, ib_it, ib_il, ib_bn, ib_bb, ib_bi, ib_bs, ib_bt, ib_bl, na_n, na_b, na_i, na_s, na_t, na_l, List.getElem?_cons_zero, List.getElem?_cons_succ, List.set_cons_zero, List.set_cons_succ, List.map_cons, List.map_nil, List.length_cons, List.length_nil, List.replicate_succ, List.replicate_zero, List.cons_append, List.nil_append, List.append_nil, List.isEmpty_nil, List.isEmpty_cons, List.cons.injEq, Option.some.injEq, T.int.injEq, T.str.injEq, T.bl.injEq, T.tup.injEq, T.lst.injEq, T.adr.injEq, Sl.fz.injEq, Sl.ow.injEq, exists_eq_left, exists_eq_left', exists_eq_right, exists_eq_right', exists_eq, exists_eq', exists_and_left, exists_and_right, exists_const, exists_false, and_true, true_and, and_false, false_and, or_true, true_or, or_false, false_or, not_true_eq_false, not_false_eq_true, if_true, if_false, ite_true, ite_false, Bool.not_true, Bool.not_false, Bool.true_or, Bool.or_true, Bool.false_or, Bool.or_false, Bool.true_and, Bool.and_true, Bool.false_and, Bool.and_false, Bool.false_eq_true, Bool.true_eq_false, eq_self, decide_eq_true_eq, decide_true, decide_false, Bool.decide_eq_true, Bool.not_eq_true, decide_eq_false_iff_not, Bool.and_eq_true, Bool.or_eq_true, Bool.not_eq_true', reduceCtorEq, ne_eq, Nat.le_refl, Nat.reduceAdd, Nat.reduceSub, Nat.reduceLeDiff, Nat.reduceLT, implies_true, forall_const, List.any_cons, List.any_nil, List.all_cons, List.all_nil, wipeP, restore, List.getD_eq_getElem?_getD, Option.getD_some, List.mem_singleton, forall_eq, Int.reduceLT, Int.reduceLE, Int.reduceNeg, Int.reduceSub, Int.reduceAdd, Int.reduceToNat, Int.reduceEq, Int.reduceNe, String.reduceEq, and_self, or_self]
  refine ⟨by omega, by omega, by rw [rng_len]; omega, by simp, fun i acc ρ => ρ = [Sl.fz (T.adr d), Sl.fz (T.int ((m + 1 : Nat) : Int)), Sl.fz (T.int r), Sl.no] ∧ acc.length = i ∧ ∀ t ∈ acc, Gd m t, ⟨rfl, rfl, fun t h => by cases h⟩, ?_, ?_⟩
  · rintro i t acc ρ2 e hacc ⟨rfl, hl, ha⟩
    obtain ⟨hi, rfl⟩ := rng_get e
    have e9 : ((m + 1 : Nat) : Int) - 1 = (m : Int) := by omega
    simp only [↓reduceIte, ↓sSeq, ↓sAsg, ↓sIf, ↓sRet, ↓sRetN, ↓sExpr, ↓sNext, ↓sBreak, ↓sCont, ↓sAug, ↓sFor, ↓gN, ↓pIx, ↓pC, ↓pTup, ↓pLst, ↓pCons, ↓pNil, ↓pStar, ↓pOp, ↓pTB, ↓pTru, ↓pTAnd, ↓pTOr, ↓pTNot, ↓pAndV, ↓pOrV, ↓pNotV, ↓pIf, ↓pCall, ↓pLen, ↓pIsi, ↓pDget, ↓gDset, ↓gSubT, ↓PEq, ↓PNe, ↓pChain, ↓pNeg, ↓pSl, ↓pNoPart, ↓pPart, ↓pIter, ↓pRng1, ↓pRng2, ↓pEnum, ↓pRev, ↓pZip, ↓pMet, ↓pMet0, ↓pMut, ↓pLc, ↓pLRng1, ↓pLRng2, ↓pYes, ↓pRE, ↓startP, ↓pWords, ↓pSplit, ↓gLt, ↓gLe, ↓gGt, ↓gGe, ↓pV_f0, ↓pV_o0, ↓pRV_f0, ↓pRV_o0, ↓lk_f0, ↓lk_o0, ↓sRV_f0, ↓sRV_o0, ↓pV_f1, ↓pV_o1, ↓pRV_f1, ↓pRV_o1, ↓lk_f1, ↓lk_o1, ↓sRV_f1, ↓sRV_o1, ↓pV_f2, ↓pV_o2, ↓pRV_f2, ↓pRV_o2, ↓lk_f2, ↓lk_o2, ↓sRV_f2, ↓sRV_o2, ↓pV_f3, ↓pV_o3, ↓pRV_f3, ↓pRV_o3, ↓lk_f3, ↓lk_o3, ↓sRV_f3, ↓sRV_o3, ↓pV_f4, ↓pV_o4, ↓pRV_f4, ↓pRV_o4, ↓lk_f4, ↓lk_o4, ↓sRV_f4, ↓sRV_o4, ↓pV_f5, ↓pV_o5, ↓pRV_f5, ↓pRV_o5, ↓lk_f5, ↓lk_o5, ↓sRV_f5, ↓sRV_o5, ↓pV_f6, ↓pV_o6, ↓pRV_f6, ↓pRV_o6, ↓lk_f6, ↓lk_o6, ↓sRV_f6, ↓sRV_o6, ↓pV_f7, ↓pV_o7, ↓pRV_f7, ↓pRV_o7, ↓lk_f7, ↓lk_o7, ↓sRV_f7, ↓sRV_o7, ↓pV_f8, ↓pV_o8, ↓pRV_f8, ↓pRV_o8, ↓lk_f8, ↓lk_o8, ↓sRV_f8, ↓sRV_o8, ↓pV_f9, ↓pV_o9, ↓pRV_f9, ↓pRV_o9, ↓lk_f9, ↓lk_o9, ↓sRV_f9, ↓sRV_o9, ↓pV_f10, ↓pV_o10, ↓pRV_f10, ↓pRV_o10, ↓lk_f10, ↓lk_o10, ↓sRV_f10, ↓sRV_o10, ↓pV_f11, ↓pV_o11, ↓pRV_f11, ↓pRV_o11, ↓lk_f11, ↓lk_o11, ↓sRV_f11, ↓sRV_o11, ↓pV_f12, ↓pV_o12, ↓pRV_f12, ↓pRV_o12, ↓lk_f12, ↓lk_o12, ↓sRV_f12, ↓sRV_o12, ↓pV_f13, ↓pV_o13, ↓pRV_f13, ↓pRV_o13, ↓lk_f13, ↓lk_o13, ↓sRV_f13, ↓sRV_o13, ↓lk_fz, ↓of_fn, ↓of_fb, ↓of_fi, ↓of_fs, ↓of_ft, ↓of_fl, ↓of_ol, ↓of_ff, ↓ad_i, ↓ad_s, ↓ad_l, ↓ad_t, ↓su_i, ↓mu_i, ↓mu_l, ↓mo_i, ↓fd_i, ↓pw_i, ↓an_i, ↓ci_i, ↓is_n, ↓is_nn, ↓in_t, ↓in_l, ↓in_s, ↓ix_l, ↓ix_t, ↓ix_s, ↓sl_l, ↓sl_t, ↓sl_s, ↓kn_i, ↓kp_i, ↓kr1, ↓kr2, ↓ke_l, ↓kz_l, ↓kz_t, ↓klr1, ↓klr2, ↓gt_e, ↓gs_n, ↓gs_c, nc_0, nc_1, nc_2, nc_3, nc_4, nc_5, nc_6, nc_7, nc_8, nc_9, nc_10, nc_11, nc_12, eq_ii, eq_ss, eq_nn, eq_bb, eq_st, eq_ts, eq_si, eq_is, eq_it, eq_ti, cmp_i, cmp_b, cmp_n, sc_i, sc_s, sc_b, sc_n, flat_i, flat_s, flat_b, flat_n, tru_n, tru_b, tru_i, tru_t, tru_l, items_t, items_l, len_t, len_l, iter_t, iter_l, isN_n, isN_i, isN_s, isN_t, isN_l, isN_b, at_0, at_1, at_2, at_3, ib_tn, ib_tb, ib_ti, ib_ts, ib_tt, ib_tl, ib_sn, ib_sb, ib_si, ib_ss, ib_st, ib_sl, ib_in, ib_ib, ib_ii, ib_is, ib_it, ib_il, ib_bn, ib_bb, ib_bi, ib_bs, ib_bt, ib_bl, na_n, na_b, na_i, na_s, na_t, na_l, List.getElem?_cons_zero, List.getElem?_cons_succ, List.set_cons_zero, List.set_cons_succ, List.map_cons, List.map_nil, List.length_cons, List.length_nil, List.replicate_succ, List.replicate_zero, List.cons_append, List.nil_append, List.append_nil, List.isEmpty_nil, List.isEmpty_cons, List.cons.injEq, Option.some.injEq, T.int.injEq, T.str.injEq, T.bl.injEq, T.tup.injEq, T.lst.injEq, T.adr.injEq, Sl.fz.injEq, Sl.ow.injEq, exists_eq_left, exists_eq_left', exists_eq_right, exists_eq_right', exists_eq, exists_eq', exists_and_left, exists_and_right, exists_const, exists_false, and_true, true_and, and_false, false_and, or_true, true_or, or_false, false_or, not_true_eq_false, not_false_eq_true, if_true, if_false, ite_true, ite_false, Bool.not_true, Bool.not_false, Bool.true_or, Bool.or_true, Bool.false_or, Bool.or_false, Bool.true_and, Bool.and_true, Bool.false_and, Bool.and_false, Bool.false_eq_true, Bool.true_eq_false, eq_self, decide_eq_true_eq, decide_true, decide_false, Bool.decide_eq_true, Bool.not_eq_true, decide_eq_false_iff_not, Bool.and_eq_true, Bool.or_eq_true, Bool.not_eq_true', reduceCtorEq, ne_eq, Nat.le_refl, Nat.reduceAdd, Nat.reduceSub, Nat.reduceLeDiff, Nat.reduceLT, implies_true, forall_const, List.any_cons, List.any_nil, List.all_cons, List.all_nil, wipeP, restore, List.getD_eq_getElem?_getD, Option.getD_some, List.mem_singleton, forall_eq, Int.reduceLT, Int.reduceLE, Int.reduceNeg, Int.reduceSub, Int.reduceAdd, Int.reduceToNat, Int.reduceEq, Int.reduceNe, String.reduceEq, and_self, or_self, pfValue0, pfValue, e9]
    intro t ht
    refine ⟨by rw [List.length_append, hl]; rfl, fun u hu => ?_⟩
    rcases List.mem_append.mp hu with hu | hu
    · exact ha u hu
    · rw [List.mem_singleton.mp hu]
      exact ht
  · rintro acc ρ2 hacc ⟨rfl, hl, ha⟩
    rw [rng_len] at hl
    simp only [↓reduceIte, ↓sSeq, ↓sAsg, ↓sIf, ↓sRet, ↓sRetN, ↓sExpr, ↓sNext, ↓sBreak, ↓sCont, ↓sAug, ↓sFor, ↓gN, ↓pIx, ↓pC, ↓pTup, ↓pLst, ↓pCons, ↓pNil, ↓pStar, ↓pOp, ↓pTB, ↓pTru, ↓pTAnd, ↓pTOr, ↓pTNot, ↓pAndV, ↓pOrV, ↓pNotV, ↓pIf, ↓pCall, ↓pLen, ↓pIsi, ↓pDget, ↓gDset, ↓gSubT, ↓PEq, ↓PNe, ↓pChain, ↓pNeg, ↓pSl, ↓pNoPart, ↓pPart, ↓pIter, ↓pRng1, ↓pRng2, ↓pEnum, ↓pRev, ↓pZip, ↓pMet, ↓pMet0, ↓pMut, ↓pLc, ↓pLRng1, ↓pLRng2, ↓pYes, ↓pRE, ↓startP, ↓pWords, ↓pSplit, ↓gLt, ↓gLe, ↓gGt, ↓gGe, ↓pV_f0, ↓pV_o0, ↓pRV_f0, ↓pRV_o0, ↓lk_f0, ↓lk_o0, ↓sRV_f0, ↓sRV_o0, ↓pV_f1, ↓pV_o1, ↓pRV_f1, ↓pRV_o1, ↓lk_f1, ↓lk_o1, ↓sRV_f1, ↓sRV_o1, ↓pV_f2, ↓pV_o2, ↓pRV_f2, ↓pRV_o2, ↓lk_f2, ↓lk_o2, ↓sRV_f2, ↓sRV_o2, ↓pV_f3, ↓pV_o3, ↓pRV_f3, ↓pRV_o3, ↓lk_f3, ↓lk_o3, ↓sRV_f3, ↓sRV_o3, ↓pV_f4, ↓pV_o4, ↓pRV_f4, ↓pRV_o4, ↓lk_f4, ↓lk_o4, ↓sRV_f4, ↓sRV_o4, ↓pV_f5, ↓pV_o5, ↓pRV_f5, ↓pRV_o5, ↓lk_f5, ↓lk_o5, ↓sRV_f5, ↓sRV_o5, ↓pV_f6, ↓pV_o6, ↓pRV_f6, ↓pRV_o6, ↓lk_f6, ↓lk_o6, ↓sRV_f6, ↓sRV_o6, ↓pV_f7, ↓pV_o7, ↓pRV_f7, ↓pRV_o7, ↓lk_f7, ↓lk_o7, ↓sRV_f7, ↓sRV_o7, ↓pV_f8, ↓pV_o8, ↓pRV_f8, ↓pRV_o8, ↓lk_f8, ↓lk_o8, ↓sRV_f8, ↓sRV_o8, ↓pV_f9, ↓pV_o9, ↓pRV_f9, ↓pRV_o9, ↓lk_f9, ↓lk_o9, ↓sRV_f9, ↓sRV_o9, ↓pV_f10, ↓pV_o10, ↓pRV_f10, ↓pRV_o10, ↓lk_f10, ↓lk_o10, ↓sRV_f10, ↓sRV_o10, ↓pV_f11, ↓pV_o11, ↓pRV_f11, ↓pRV_o11, ↓lk_f11, ↓lk_o11, ↓sRV_f11, ↓sRV_o11, ↓pV_f12, ↓pV_o12, ↓pRV_f12, ↓pRV_o12, ↓lk_f12, ↓lk_o12, ↓sRV_f12, ↓sRV_o12, ↓pV_f13, ↓pV_o13, ↓pRV_f13, ↓pRV_o13, ↓lk_f13, ↓lk_o13, ↓sRV_f13, ↓sRV_o13, ↓lk_fz, ↓of_fn, ↓of_fb, ↓of_fi, ↓of_fs, ↓of_ft, ↓of_fl, ↓of_ol, ↓of_ff, ↓ad_i, ↓ad_s, ↓ad_l, ↓ad_t, ↓su_i, ↓mu_i, ↓mu_l, ↓mo_i, ↓fd_i, ↓pw_i, ↓an_i, ↓ci_i, ↓is_n, ↓is_nn, ↓in_t, ↓in_l, ↓in_s, ↓ix_l, ↓ix_t, ↓ix_s, ↓sl_l, ↓sl_t, ↓sl_s, ↓kn_i, ↓kp_i, ↓kr1, ↓kr2, ↓ke_l, ↓kz_l, ↓kz_t, ↓klr1, ↓klr2, ↓gt_e, ↓gs_n, ↓gs_c, nc_0, nc_1, nc_2, nc_3, nc_4, nc_5, nc_6, nc_7, nc_8, nc_9, nc_10, nc_11, nc_12, eq_ii, eq_ss, eq_nn, eq_bb, eq_st, eq_ts, eq_si, eq_is, eq_it, eq_ti, cmp_i, cmp_b, cmp_n, sc_i, sc_s, sc_b, sc_n, flat_i, flat_s, flat_b, flat_n, tru_n, tru_b, tru_i, tru_t, tru_l, items_t, items_l, len_t, len_l, iter_t, iter_l, isN_n, isN_i, isN_s, isN_t, isN_l, isN_b, at_0, at_1, at_2, at_3, ib_tn, ib_tb, ib_ti, ib_ts, ib_tt, ib_tl, ib_sn, ib_sb, ib_si, ib_ss, ib_st, ib_sl, ib_in, ib_ib, ib_ii, ib_is, ib_it, ib_il, ib_bn, ib_bb, ib_bi, ib_bs, ib_bt, ib_bl, na_n, na_b, na_i, na_s, na_t, na_l, List.getElem?_cons_zero, List.getElem?_cons_succ, List.set_cons_zero, List.set_cons_succ, List.map_cons, List.map_nil, List.length_cons, List.length_nil, List.replicate_succ, List.replicate_zero, List.cons_append, List.nil_append, List.append_nil, List.isEmpty_nil, List.isEmpty_cons, List.cons.injEq, Option.some.injEq, T.int.injEq, T.str.injEq, T.bl.injEq, T.tup.injEq, T.lst.injEq, T.adr.injEq, Sl.fz.injEq, Sl.ow.injEq, exists_eq_left, exists_eq_left', exists_eq_right, exists_eq_right', exists_eq, exists_eq', exists_and_left, exists_and_right, exists_const, exists_false, and_true, true_and, and_false, false_and, or_true, true_or, or_false, false_or, not_true_eq_false, not_false_eq_true, if_true, if_false, ite_true, ite_false, Bool.not_true, Bool.not_false, Bool.true_or, Bool.or_true, Bool.false_or, Bool.or_false, Bool.true_and, Bool.and_true, Bool.false_and, Bool.and_false, Bool.false_eq_true, Bool.true_eq_false, eq_self, decide_eq_true_eq, decide_true, decide_false, Bool.decide_eq_true, Bool.not_eq_true, decide_eq_false_iff_not, Bool.and_eq_true, Bool.or_eq_true, Bool.not_eq_true', reduceCtorEq, ne_eq, Nat.le_refl, Nat.reduceAdd, Nat.reduceSub, Nat.reduceLeDiff, Nat.reduceLT, implies_true, forall_const, List.any_cons, List.any_nil, List.all_cons, List.all_nil, wipeP, restore, List.getD_eq_getElem?_getD, Option.getD_some, List.mem_singleton, forall_eq, Int.reduceLT, Int.reduceLE, Int.reduceNeg, Int.reduceSub, Int.reduceAdd, Int.reduceToNat, Int.reduceEq, Int.reduceNe, String.reduceEq, and_self, or_self]
    exact h _ (gd_up ha (by omega))
/-! kinds -/
def kb : Nat → Nat
  | 0 => 8
  | n + 1 => 9 + 2 * kb n
def KG (n : Nat) (t : T) : Prop := ∃ s, Kt (n + 1) t s ∧ s.length ≤ kb n
theorem kt_up : ∀ (n : Nat) (t : T) (s : List Str), Kt n t s → Kt (n + 1) t s
  | 0, _, _, h => h.elim
  | n + 1, t, s, h => by
    rcases h with ⟨i, j, h⟩ | ⟨ns, h⟩ | ⟨k, s', rfl, hk, rfl⟩ | ⟨k, i, s', rfl, hi, hk, rfl⟩ | ⟨w, l, hw, rfl, hl, rfl⟩
    · exact .inl ⟨i, j, h⟩
    · exact .inr (.inl ⟨ns, h⟩)
    · exact .inr (.inr (.inl ⟨k, s', rfl, kt_up n k s' hk, rfl⟩))
    · exact .inr (.inr (.inr (.inl ⟨k, i, s', rfl, hi, kt_up n k s' hk, rfl⟩)))
    · exact .inr (.inr (.inr (.inr ⟨w, l, hw, rfl, fun p hp => ⟨(hl p hp).1, kt_up n _ _ (hl p hp).2⟩, rfl⟩)))
theorem kt_le {n m : Nat} (h : n ≤ m) {t : T} {s : List Str} (k : Kt n t s) : Kt m t s := by
  obtain ⟨j, rfl⟩ := Nat.exists_eq_add_of_le h
  induction j with
  | zero => exact k
  | succ j ih => exact kt_up _ _ _ (ih (by omega))
def FG (n : Nat) (p : Fd) : Prop := isNm p.1 = true ∧ Kt (n + 1) p.2.1 p.2.2 ∧ p.2.2.length ≤ kb n
theorem fm_fps {l : List Fd} {b : Nat} (h : ∀ p ∈ l, p.2.2.length ≤ b) : (l.flatMap fpS).length ≤ l.length * (b + 3) := by
  induction l with
  | nil => simp
  | cons p l ih =>
    have h1 := h p List.mem_cons_self
    have ih := ih fun q hq => h q (List.mem_cons_of_mem _ hq)
    rw [List.flatMap_cons, List.length_append, fps_len, List.length_cons, Nat.add_mul]
    omega
theorem kg_num {n : Nat} {i j : Int} (hi : ib i) (hj : ib j) : KG n (.tup [.str w_num, .int i, .int j]) := by
  refine ⟨_, .inl ⟨i, j, rfl, hi, hj, rfl⟩, ?_⟩
  show 4 ≤ kb n
  cases n with
  | zero => decide
  | succ n => show 4 ≤ 9 + 2 * kb n; omega
theorem kg_pick {n : Nat} {ns : List Str} (h : ns ≠ []) (h1 : ns.length ≤ 3) (h2 : ∀ x ∈ ns, isNm x = true) : KG n (.tup [.str w_pick, .tup (ns.map .str)]) := by
  refine ⟨_, .inr (.inl ⟨ns, rfl, h, h2, rfl⟩), ?_⟩
  have := listed_len (ns.map fun x => [x])
  have h3 : ((ns.map fun x => [x]).map fun x => x.length + 1).sum ≤ ns.length * 2 := by
    have := sum_le (l := (ns.map fun x => [x]).map fun x => x.length + 1) (b := 2) (fun x hx => by
      obtain ⟨y, hy, rfl⟩ := List.mem_map.mp hx
      obtain ⟨z, hz, rfl⟩ := List.mem_map.mp hy
      exact Nat.le_refl 2)
    rwa [List.length_map, List.length_map] at this
  have e1 : listed (ns.map fun x => [x]) = [] ∨ (listed (ns.map fun x => [x])).length + 1 ≤ ns.length * 2 := by
    right
    obtain ⟨x, r, rfl⟩ := List.exists_cons_of_ne_nil h
    have : ∀ r : List Str, ((r.map fun x => [x]).flatMap fun y => sK :: y).length = 2 * r.length := by
      intro r
      induction r with
      | nil => rfl
      | cons y r ih =>
        rw [List.map_cons, List.flatMap_cons, List.length_append, ih]
        simp only [List.length_cons, List.length_nil]
        omega
    show ([x] ++ ((r.map fun x => [x]).flatMap fun y => sK :: y)).length + 1 ≤ _
    rw [List.length_append, this]
    simp only [List.length_cons, List.length_nil]
    omega
  have e2 : (listed (ns.map fun x => [x])).length ≤ 5 := by
    rcases e1 with e | e
    · rw [e]; decide
    · omega
  have e3 : 8 ≤ kb n := by
    cases n with
    | zero => exact Nat.le_refl _
    | succ n => show 8 ≤ 9 + 2 * kb n; omega
  rw [List.length_cons, List.length_cons, List.length_append, List.length_singleton]
  omega
theorem kg_fld {n : Nat} {w : Str} {l : List Fd} (hw : w = w_one ∨ w = w_rec) (hl : l.length ≤ 2) (h : ∀ p ∈ l, FG n p) : KG (n + 1) (.tup [.str w, .tup (l.map fpT)]) := by
  refine ⟨_, .inr (.inr (.inr (.inr ⟨w, l, hw, rfl, fun p hp => ⟨(h p hp).1, (h p hp).2.1⟩, rfl⟩))), ?_⟩
  have h1 := fm_fps (l := l) fun p hp => (h p hp).2.2
  have h2 : l.length * (kb n + 3) ≤ 2 * (kb n + 3) := Nat.mul_le_mul_right _ hl
  rw [List.length_cons, List.length_cons, List.length_append, List.length_singleton]
  show _ ≤ 9 + 2 * kb n
  omega
theorem kg_opt {n : Nat} {t : T} (h : KG n t) : KG (n + 1) (.tup [.str w_opt, t]) := by
  obtain ⟨s, h1, h2⟩ := h
  refine ⟨_, .inr (.inr (.inl ⟨t, s, rfl, h1, rfl⟩)), ?_⟩
  rw [List.length_cons]
  show _ ≤ 9 + 2 * kb n
  omega
theorem kg_row {n : Nat} {t : T} {i : Int} (h : KG n t) (hi : ib i) : KG (n + 1) (.tup [.str w_row, t, .int i]) := by
  obtain ⟨s, h1, h2⟩ := h
  refine ⟨_, .inr (.inr (.inr (.inl ⟨t, i, s, rfl, hi, h1, rfl⟩))), ?_⟩
  rw [List.length_cons, List.length_cons, List.length_cons]
  show _ ≤ 9 + 2 * kb n
  omega
def pfKind (d : Addr) (n : Nat) : PSp := fun ts Φ => ∃ m : Nat, ts = [.adr d, .int (m : Int)] ∧ m ≤ n ∧ ∀ t, KG m t → Φ t false
def pfFields (d : Addr) (n : Nat) : PSp := fun ts Φ => ∃ (m : Nat) (j : Int), ts = [.adr d, .int (m : Int), .int j] ∧ m ≤ n ∧ 0 ≤ j ∧ j ≤ 2 ∧ ∀ l : List Fd, (l.length : Int) = j → (∀ p ∈ l, FG m p) → Φ (.tup (l.map fpT)) false
def pfFields0 (d : Addr) : Nat → PSp
  | 0 => fun _ _ => False
  | n + 1 => pfFields d n
def pfKind0 (d : Addr) : Nat → PSp
  | 0 => fun _ _ => False
  | n + 1 => pfKind d n
theorem ok_any_fields {d l : Addr} {k : Nat} {n : Nat} (D : Df K mg "_law_any_fields" s_any_fields)
    (C_any_kind : CalQ P w K mg base (wd d l 3) "_law_any_kind" k ["_law_d", "_law_deep"] (pfKind d n))
    (C_any_name : CalQ P w K mg base (wd d l 3) "_law_any_name" k ["_law_d"] (pfName d)) (m_tuple : mg "tuple" = none) (m_range : mg "range" = none) :
    CalQ P w K mg base (wd d l 3) "_law_any_fields" (k + 1) ["_law_d", "_law_deep", "_law_size"] (pfFields d n) := by
  refine CalQ.mk D sc_any_fields (fun _ _ _ _ _ _ us h => match us, h with | [_, _, _], _ => rfl) (fun ts Φ h => by first | (obtain ⟨rfl, _⟩ := h; rfl) | (obtain ⟨_, rfl, _⟩ := h; rfl) | (obtain ⟨_, _, rfl, _⟩ := h; rfl) | (obtain ⟨_, _, _, rfl, _⟩ := h; rfl) | (obtain ⟨_, _, _, _, rfl, _⟩ := h; rfl)) (fun f cdv A outer s H E hr => ?_)
  refine ⟨_, qss_one (qs_ret (qe_callTy cq_tuple (by rfl) m_tuple (by decide +kernel) (qa_cons (qe_lc rfl (own := [("_law_k", 3)]) sc_any_fields.nd (by decide) (qi_range1 (by rfl) m_range (qe_name (pv 2))) (blkOk_by (N := ["_law_d", "_law_deep", "_law_size", "_law_k"]) (sc := defScope s_any_fields) (by decide +kernel)) (fun _ _ _ _ _ => (qg_name (pg_name (i := 3) sc_any_fields.nd rfl (.inl rfl)))) (fun _ _ _ _ _ => qts_nil) (fun _ _ _ _ _ => (qe_tup (qa_cons (qe_call C_any_name (hr.mono (by omega)) (by rfl) (qa_cons (qe_name (pv 0)) qa_nil)) (qa_cons (qe_call C_any_kind (hr.mono (by omega)) (by rfl) (qa_cons (qe_name (pv 0)) (qa_cons (qe_name (pv 1)) qa_nil))) qa_nil))))) qa_nil))), ?_⟩
  intro ts Φ h
  obtain ⟨m, j, rfl, hm, j0, j1, h⟩ := h
  simp only [↓reduceIte, ↓sSeq, ↓sAsg, ↓sIf, ↓sRet, ↓sRetN, ↓sExpr, ↓sNext, ↓sBreak, ↓sCont, ↓sAug, ↓sFor, ↓gN, ↓pIx, ↓pC, ↓pTup, ↓pLst, ↓pCons, ↓pNil, ↓pStar, ↓pOp, ↓pTB, ↓pTru, ↓pTAnd, ↓pTOr, ↓pTNot, ↓pAndV, ↓pOrV, ↓pNotV, ↓pIf, ↓pCall, ↓pLen, ↓pIsi, ↓pDget, ↓gDset, ↓gSubT, ↓PEq, ↓PNe, ↓pChain, ↓pNeg, ↓pSl, ↓pNoPart, ↓pPart, ↓pIter, ↓pRng1, ↓pRng2, ↓pEnum, ↓pRev, ↓pZip, ↓pMet, ↓pMet0, ↓pMut, ↓pLc, ↓pLRng1, ↓pLRng2, ↓pYes, ↓pRE, ↓startP, ↓pWords, ↓pSplit, ↓gLt, ↓gLe, ↓gGt, ↓gGe, ↓pV_f0, ↓pV_o0, ↓pRV_f0, ↓pRV_o0, ↓lk_f0, ↓lk_o0, ↓sRV_f0, ↓sRV_o0, ↓pV_f1, ↓pV_o1, ↓pRV_f1, ↓pRV_o1, ↓lk_f1, ↓lk_o1, ↓sRV_f1, ↓sRV_o1, ↓pV_f2, ↓pV_o2, ↓pRV_f2, ↓pRV_o2, ↓lk_f2, ↓lk_o2, ↓sRV_f2, ↓sRV_o2, ↓pV_f3, ↓pV_o3, ↓pRV_f3, ↓pRV_o3, ↓lk_f3, ↓lk_o3, ↓sRV_f3, ↓sRV_o3, ↓pV_f4, ↓pV_o4, ↓pRV_f4, ↓pRV_o4, ↓lk_f4, ↓lk_o4, ↓sRV_f4, ↓sRV_o4, ↓pV_f5, ↓pV_o5, ↓pRV_f5, ↓pRV_o5, ↓lk_f5, ↓lk_o5, ↓sRV_f5, ↓sRV_o5, ↓pV_f6, ↓pV_o6, ↓pRV_f6, ↓pRV_o6, ↓lk_f6, ↓lk_o6, ↓sRV_f6, ↓sRV_o6, ↓pV_f7, ↓pV_o7, ↓pRV_f7, ↓pRV_o7, ↓lk_f7, ↓lk_o7, ↓sRV_f7, ↓sRV_o7, ↓pV_f8, ↓pV_o8, ↓pRV_f8, ↓pRV_o8, ↓lk_f8, ↓lk_o8, ↓sRV_f8, ↓sRV_o8, ↓pV_f9, ↓pV_o9, ↓pRV_f9, ↓pRV_o9, ↓lk_f9, ↓lk_o9, ↓sRV_f9, ↓sRV_o9, ↓pV_f10, ↓pV_o10, ↓pRV_f10, ↓pRV_o10, ↓lk_f10, ↓lk_o10, ↓sRV_f10, ↓sRV_o10, ↓pV_f11, ↓pV_o11, ↓pRV_f11, ↓pRV_o11, ↓lk_f11, ↓lk_o11, ↓sRV_f11, ↓sRV_o11, ↓pV_f12, ↓pV_o12, ↓pRV_f12, ↓pRV_o12, ↓lk_f12, ↓lk_o12, ↓sRV_f12, ↓sRV_o12, ↓pV_f13, ↓pV_o13, ↓pRV_f13, ↓pRV_o13, ↓lk_f13, ↓lk_o13, ↓sRV_f13, ↓sRV_o13, ↓lk_fz, ↓of_fn, ↓of_fb, ↓of_fi, ↓of_fs, ↓of_ft, ↓of_fl, ↓of_ol, ↓of_ff, ↓ad_i, ↓ad_s, ↓ad_l, ↓ad_t, ↓su_i, ↓mu_i, ↓mu_l, ↓mo_i, ↓fd_i, ↓pw_i, ↓an_i, ↓ci_i, ↓is_n, ↓is_nn, ↓in_t, ↓in_l, ↓in_s, ↓ix_l, ↓ix_t, ↓ix_s, ↓sl_l, ↓sl_t, ↓sl_s, ↓kn_i, ↓kp_i, ↓kr1, ↓kr2, ↓ke_l, ↓kz_l, ↓kz_t, ↓klr1, ↓klr2, ↓gt_e, ↓gs_n, ↓gs_c, nc_0, nc_1, nc_2, nc_3, nc_4, nc_5, nc_6, nc_7, nc_8, nc_9, nc_10, nc_11, nc_12, eq_ii, eq_ss, eq_nn, eq_bb, eq_st, eq_ts, eq_si, eq_is, eq_it, eq_ti, cmp_i, cmp_b, cmp_n, sc_i, sc_s, sc_b, sc_n, flat_i, flat_s, flat_b, flat_n, tru_n, tru_b, tru_i, tru_t, tru_l, items_t, items_l, len_t, len_l, iter_t, iter_l, isN_n, isN_i, isN_s, isN_t, isN_l, isN_b, at_0, at_1, at_2, at_3, ib_tn, ib_tb, ib_ti, ib_ts, ib_tt, ib_tl, ib_sn, ib_sb, ib_si, ib_ss, ib_st, ib_sl, ib_in, ib_ib, ib_ii, ib_is, ib_it, ib_il, ib_bn, ib_bb, ib_bi, ib_bs, ib_bt, ib_bl, na_n, na_b, na_i, na_s, na_t, na_l, List.getElem?_cons_zero, List.getElem?_cons_succ, List.set_cons_zero, List.set_cons_succ, List.map_cons, List.map_nil, List.length_cons, List.length_nil, List.replicate_succ, List.replicate_zero, List.cons_append, List.nil_append, List.append_nil, List.isEmpty_nil, List.isEmpty_cons, List.cons.injEq, Option.some.injEq, T.int.injEq, T.str.injEq, T.bl.injEq, T.tup.injEq, T.lst.injEq, T.adr.injEq, Sl.fz.injEq, Sl.ow.injEq, exists_eq_left, exists_eq_left', exists_eq_right, exists_eq_right', exists_eq, exists_eq', exists_and_left, exists_and_right, exists_const, exists_false, and_true, true_and, and_false, false_and, or_true, true_or, or_false, false_or, not_true_eq_false, not_false_eq_true, if_true, if_false, ite_true, ite_false, Bool.not_true, Bool.not_false, Bool.true_or, Bool.or_true, Bool.false_or, Bool.or_false, Bool.true_and, Bool.and_true, Bool.false_and, Bool.and_false, Bool.false_eq_true, Bool.true_eq_false, eq_self, decide_eq_true_eq, decide_true, decide_false, Bool.decide_eq_true, Bool.not_eq_true, decide_eq_false_iff_not, Bool.and_eq_true, Bool.or_eq_true, Bool.not_eq_true', reduceCtorEq, ne_eq, Nat.le_refl, Nat.reduceAdd, Nat.reduceSub, Nat.reduceLeDiff, Nat.reduceLT, implies_true, forall_const, List.any_cons, List.any_nil, List.all_cons, List.all_nil, wipeP, restore, List.getD_eq_getElem?_getD, Option.getD_some, List.mem_singleton, forall_eq, Int.reduceLT, Int.reduceLE, Int.reduceNeg, Int.reduceSub, Int.reduceAdd, Int.reduceToNat, Int.reduceEq, Int.reduceNe, String.reduceEq, and_self, or_self]
  refine ⟨by omega, by omega, by rw [rng_len]; omega, by simp, fun i acc ρ => ρ = [Sl.fz (T.adr d), Sl.fz (T.int (m : Int)), Sl.fz (T.int j), Sl.no] ∧ ∃ l : List Fd, acc = l.map fpT ∧ l.length = i ∧ ∀ p ∈ l, FG m p, ⟨rfl, [], rfl, rfl, fun t h => by cases h⟩, ?_, ?_⟩
  · rintro i t acc ρ2 e hacc ⟨rfl, l, rfl, hl, ha⟩
    obtain ⟨hi, rfl⟩ := rng_get e
    simp only [↓reduceIte, ↓sSeq, ↓sAsg, ↓sIf, ↓sRet, ↓sRetN, ↓sExpr, ↓sNext, ↓sBreak, ↓sCont, ↓sAug, ↓sFor, ↓gN, ↓pIx, ↓pC, ↓pTup, ↓pLst, ↓pCons, ↓pNil, ↓pStar, ↓pOp, ↓pTB, ↓pTru, ↓pTAnd, ↓pTOr, ↓pTNot, ↓pAndV, ↓pOrV, ↓pNotV, ↓pIf, ↓pCall, ↓pLen, ↓pIsi, ↓pDget, ↓gDset, ↓gSubT, ↓PEq, ↓PNe, ↓pChain, ↓pNeg, ↓pSl, ↓pNoPart, ↓pPart, ↓pIter, ↓pRng1, ↓pRng2, ↓pEnum, ↓pRev, ↓pZip, ↓pMet, ↓pMet0, ↓pMut, ↓pLc, ↓pLRng1, ↓pLRng2, ↓pYes, ↓pRE, ↓startP, ↓pWords, ↓pSplit, ↓gLt, ↓gLe, ↓gGt, ↓gGe, ↓pV_f0, ↓pV_o0, ↓pRV_f0, ↓pRV_o0, ↓lk_f0, ↓lk_o0, ↓sRV_f0, ↓sRV_o0, ↓pV_f1, ↓pV_o1, ↓pRV_f1, ↓pRV_o1, ↓lk_f1, ↓lk_o1, ↓sRV_f1, ↓sRV_o1, ↓pV_f2, ↓pV_o2, ↓pRV_f2, ↓pRV_o2, ↓lk_f2, ↓lk_o2, ↓sRV_f2, ↓sRV_o2, ↓pV_f3, ↓pV_o3, ↓pRV_f3, ↓pRV_o3, ↓lk_f3, ↓lk_o3, ↓sRV_f3, ↓sRV_o3, ↓pV_f4, ↓pV_o4, ↓pRV_f4, ↓pRV_o4, ↓lk_f4, ↓lk_o4, ↓sRV_f4, ↓sRV_o4, ↓pV_f5, ↓pV_o5, ↓pRV_f5, ↓pRV_o5, ↓lk_f5, ↓lk_o5, ↓sRV_f5, ↓sRV_o5, ↓pV_f6, ↓pV_o6, ↓pRV_f6, ↓pRV_o6, ↓lk_f6, ↓lk_o6, ↓sRV_f6, ↓sRV_o6, ↓pV_f7, ↓pV_o7, ↓pRV_f7, ↓pRV_o7, ↓lk_f7, ↓lk_o7, ↓sRV_f7, ↓sRV_o7, ↓pV_f8, ↓pV_o8, ↓pRV_f8, ↓pRV_o8, ↓lk_f8, ↓lk_o8, ↓sRV_f8, ↓sRV_o8, ↓pV_f9, ↓pV_o9, ↓pRV_f9, ↓pRV_o9, ↓lk_f9, ↓lk_o9, ↓sRV_f9, ↓sRV_o9, ↓pV_f10, ↓pV_o10, ↓pRV_f10, ↓pRV_o10, ↓lk_f10, ↓lk_o10, ↓sRV_f10, ↓sRV_o10, ↓pV_f11, ↓pV_o11, ↓pRV_f11, ↓pRV_o11, ↓lk_f11, ↓lk_o11, ↓sRV_f11, ↓sRV_o11, ↓pV_f12, ↓pV_o12, ↓pRV_f12, ↓pRV_o12, ↓lk_f12, ↓lk_o12, ↓sRV_f12, ↓sRV_o12, ↓pV_f13, ↓pV_o13, ↓pRV_f13, ↓pRV_o13, ↓lk_f13, ↓lk_o13, ↓sRV_f13, ↓sRV_o13, ↓lk_fz, ↓of_fn, ↓of_fb, ↓of_fi, ↓of_fs, ↓of_ft, ↓of_fl, ↓of_ol, ↓of_ff, ↓ad_i, ↓ad_s, ↓ad_l, ↓ad_t, ↓su_i, ↓mu_i, ↓mu_l, ↓mo_i, ↓fd_i, ↓pw_i, ↓an_i, ↓ci_i, ↓is_n, ↓is_nn, ↓in_t, ↓in_l, ↓in_s, ↓ix_l, ↓ix_t, ↓ix_s, ↓sl_l, ↓sl_t, ↓sl_s, ↓kn_i, ↓kp_i, ↓kr1, ↓kr2, ↓ke_l, ↓kz_l, ↓kz_t, ↓klr1, ↓klr2, ↓gt_e, ↓gs_n, ↓gs_c, nc_0, nc_1, nc_2, nc_3, nc_4, nc_5, nc_6, nc_7, nc_8, nc_9, nc_10, nc_11, nc_12, eq_ii, eq_ss, eq_nn, eq_bb, eq_st, eq_ts, eq_si, eq_is, eq_it, eq_ti, cmp_i, cmp_b, cmp_n, sc_i, sc_s, sc_b, sc_n, flat_i, flat_s, flat_b, flat_n, tru_n, tru_b, tru_i, tru_t, tru_l, items_t, items_l, len_t, len_l, iter_t, iter_l, isN_n, isN_i, isN_s, isN_t, isN_l, isN_b, at_0, at_1, at_2, at_3, ib_tn, ib_tb, ib_ti, ib_ts, ib_tt, ib_tl, ib_sn, ib_sb, ib_si, ib_ss, ib_st, ib_sl, ib_in, ib_ib, ib_ii, ib_is, ib_it, ib_il, ib_bn, ib_bb, ib_bi, ib_bs, ib_bt, ib_bl, na_n, na_b, na_i, na_s, na_t, na_l, List.getElem?_cons_zero, List.getElem?_cons_succ, List.set_cons_zero, List.set_cons_succ, List.map_cons, List.map_nil, List.length_cons, List.length_nil, List.replicate_succ, List.replicate_zero, List.cons_append, List.nil_append, List.append_nil, List.isEmpty_nil, List.isEmpty_cons, List.cons.injEq, Option.some.injEq, T.int.injEq, T.str.injEq, T.bl.injEq, T.tup.injEq, T.lst.injEq, T.adr.injEq, Sl.fz.injEq, Sl.ow.injEq, exists_eq_left, exists_eq_left', exists_eq_right, exists_eq_right', exists_eq, exists_eq', exists_and_left, exists_and_right, exists_const, exists_false, and_true, true_and, and_false, false_and, or_true, true_or, or_false, false_or, not_true_eq_false, not_false_eq_true, if_true, if_false, ite_true, ite_false, Bool.not_true, Bool.not_false, Bool.true_or, Bool.or_true, Bool.false_or, Bool.or_false, Bool.true_and, Bool.and_true, Bool.false_and, Bool.and_false, Bool.false_eq_true, Bool.true_eq_false, eq_self, decide_eq_true_eq, decide_true, decide_false, Bool.decide_eq_true, Bool.not_eq_true, decide_eq_false_iff_not, Bool.and_eq_true, Bool.or_eq_true, Bool.not_eq_true', reduceCtorEq, ne_eq, Nat.le_refl, Nat.reduceAdd, Nat.reduceSub, Nat.reduceLeDiff, Nat.reduceLT, implies_true, forall_const, List.any_cons, List.any_nil, List.all_cons, List.all_nil, wipeP, restore, List.getD_eq_getElem?_getD, Option.getD_some, List.mem_singleton, forall_eq, Int.reduceLT, Int.reduceLE, Int.reduceNeg, Int.reduceSub, Int.reduceAdd, Int.reduceToNat, Int.reduceEq, Int.reduceNe, String.reduceEq, and_self, or_self, pfName, pfKind]
    intro x hx
    refine ⟨m, rfl, hm, fun t ht => ?_⟩
    obtain ⟨s, hs, hb⟩ := ht
    refine ⟨l ++ [(x, t, s)], by rw [List.map_append]; rfl, by rw [List.length_append, hl]; rfl, fun u hu => ?_⟩
    rcases List.mem_append.mp hu with hu | hu
    · exact ha u hu
    · rw [List.mem_singleton.mp hu]
      exact ⟨hx, hs, hb⟩
  · rintro acc ρ2 hacc ⟨rfl, l, rfl, hl, ha⟩
    rw [rng_len] at hl
    simp only [↓reduceIte, ↓sSeq, ↓sAsg, ↓sIf, ↓sRet, ↓sRetN, ↓sExpr, ↓sNext, ↓sBreak, ↓sCont, ↓sAug, ↓sFor, ↓gN, ↓pIx, ↓pC, ↓pTup, ↓pLst, ↓pCons, ↓pNil, ↓pStar, ↓pOp, ↓pTB, ↓pTru, ↓pTAnd, ↓pTOr, ↓pTNot, ↓pAndV, ↓pOrV, ↓pNotV, ↓pIf, ↓pCall, ↓pLen, ↓pIsi, ↓pDget, ↓gDset, ↓gSubT, ↓PEq, ↓PNe, ↓pChain, ↓pNeg, ↓pSl, ↓pNoPart, ↓pPart, ↓pIter, ↓pRng1, ↓pRng2, ↓pEnum, ↓pRev, ↓pZip, ↓pMet, ↓pMet0, ↓pMut, ↓pLc, ↓pLRng1, ↓pLRng2, ↓pYes, ↓pRE, ↓startP, ↓pWords, ↓pSplit, ↓gLt, ↓gLe, ↓gGt, ↓gGe, ↓pV_f0, ↓pV_o0, ↓pRV_f0, ↓pRV_o0, ↓lk_f0, ↓lk_o0, ↓sRV_f0, ↓sRV_o0, ↓pV_f1, ↓pV_o1, ↓pRV_f1, ↓pRV_o1, ↓lk_f1, ↓lk_o1, ↓sRV_f1, ↓sRV_o1, ↓pV_f2, ↓pV_o2, ↓pRV_f2, ↓pRV_o2, ↓lk_f2, ↓lk_o2, ↓sRV_f2, ↓sRV_o2, ↓pV_f3, ↓pV_o3, ↓pRV_f3, ↓pRV_o3, ↓lk_f3, ↓lk_o3, ↓sRV_f3, ↓sRV_o3, ↓pV_f4, ↓pV_o4, ↓pRV_f4, ↓pRV_o4, ↓lk_f4, ↓lk_o4, ↓sRV_f4, ↓sRV_o4, ↓pV_f5, ↓pV_o5, ↓pRV_f5, ↓pRV_o5, ↓lk_f5, ↓lk_o5, ↓sRV_f5, ↓sRV_o5, ↓pV_f6, ↓pV_o6, ↓pRV_f6, ↓pRV_o6, ↓lk_f6, ↓lk_o6, ↓sRV_f6, ↓sRV_o6, ↓pV_f7, ↓pV_o7, ↓pRV_f7, ↓pRV_o7, ↓lk_f7, ↓lk_o7, ↓sRV_f7, ↓sRV_o7, ↓pV_f8, ↓pV_o8, ↓pRV_f8, ↓pRV_o8, ↓lk_f8, ↓lk_o8, ↓sRV_f8, ↓sRV_o8, ↓pV_f9, ↓pV_o9, ↓pRV_f9, ↓pRV_o9, ↓lk_f9, ↓lk_o9, ↓sRV_f9, ↓sRV_o9, ↓pV_f10, ↓pV_o10, ↓pRV_f10, ↓pRV_o10, ↓lk_f10, ↓lk_o10, ↓sRV_f10, ↓sRV_o10, ↓pV_f11, ↓pV_o11, ↓pRV_f11, ↓pRV_o11, ↓lk_f11, ↓lk_o11, ↓sRV_f11, ↓sRV_o11, ↓pV_f12, ↓pV_o12, ↓pRV_f12, ↓pRV_o12, ↓lk_f12, ↓lk_o12, ↓sRV_f12, ↓sRV_o12, ↓pV_f13, ↓pV_o13, ↓pRV_f13, ↓pRV_o13, ↓lk_f13, ↓lk_o13, ↓sRV_f13, ↓sRV_o13, ↓lk_fz, ↓of_fn, ↓of_fb, ↓of_fi, ↓of_fs, ↓of_ft, ↓of_fl, ↓of_ol, ↓of_ff, ↓ad_i, ↓ad_s, ↓ad_l, ↓ad_t, ↓su_i, ↓mu_i, ↓mu_l, ↓mo_i, ↓fd_i, ↓pw_i, ↓an_i, ↓ci_i, ↓is_n, ↓is_nn, ↓in_t, ↓in_l, ↓in_s, ↓ix_l, ↓ix_t, ↓ix_s, ↓sl_l, ↓sl_t, ↓sl_s, ↓kn_i, ↓kp_i, ↓kr1, ↓kr2, ↓ke_l, ↓kz_l, ↓kz_t, ↓klr1, ↓klr2, ↓gt_e, ↓gs_n, ↓gs_c, nc_0, nc_1, nc_2, nc_3, nc_4, nc_5, nc_6, nc_7, nc_8, nc_9, nc_10, nc_11, nc_12, eq_ii, eq_ss, eq_nn, eq_bb, eq_st, eq_ts, eq_si, eq_is, eq_it, eq_ti, cmp_i, cmp_b, cmp_n, sc_i, sc_s, sc_b, sc_n, flat_i, flat_s, flat_b, flat_n, tru_n, tru_b, tru_i, tru_t, tru_l, items_t, items_l, len_t, len_l, iter_t, iter_l, isN_n, isN_i, isN_s, isN_t, isN_l, isN_b, at_0, at_1, at_2, at_3, ib_tn, ib_tb, ib_ti, ib_ts, ib_tt, ib_tl, ib_sn, ib_sb, ib_si, ib_ss, ib_st, ib_sl, ib_in, ib_ib, ib_ii, ib_is, ib_it, ib_il, ib_bn, ib_bb, ib_bi, ib_bs, ib_bt, ib_bl, na_n, na_b, na_i, na_s, na_t, na_l, List.getElem?_cons_zero, List.getElem?_cons_succ, List.set_cons_zero, List.set_cons_succ, List.map_cons, List.map_nil, List.length_cons, List.length_nil, List.replicate_succ, List.replicate_zero, List.cons_append, List.nil_append, List.append_nil, List.isEmpty_nil, List.isEmpty_cons, List.cons.injEq, Option.some.injEq, T.int.injEq, T.str.injEq, T.bl.injEq, T.tup.injEq, T.lst.injEq, T.adr.injEq, Sl.fz.injEq, Sl.ow.injEq, exists_eq_left, exists_eq_left', exists_eq_right, exists_eq_right', exists_eq, exists_eq', exists_and_left, exists_and_right, exists_const, exists_false, and_true, true_and, and_false, false_and, or_true, true_or, or_false, false_or, not_true_eq_false, not_false_eq_true, if_true, if_false, ite_true, ite_false, Bool.not_true, Bool.not_false, Bool.true_or, Bool.or_true, Bool.false_or, Bool.or_false, Bool.true_and, Bool.and_true, Bool.false_and, Bool.and_false, Bool.false_eq_true, Bool.true_eq_false, eq_self, decide_eq_true_eq, decide_true, decide_false, Bool.decide_eq_true, Bool.not_eq_true, decide_eq_false_iff_not, Bool.and_eq_true, Bool.or_eq_true, Bool.not_eq_true', reduceCtorEq, ne_eq, Nat.le_refl, Nat.reduceAdd, Nat.reduceSub, Nat.reduceLeDiff, Nat.reduceLT, implies_true, forall_const, List.any_cons, List.any_nil, List.all_cons, List.all_nil, wipeP, restore, List.getD_eq_getElem?_getD, Option.getD_some, List.mem_singleton, forall_eq, Int.reduceLT, Int.reduceLE, Int.reduceNeg, Int.reduceSub, Int.reduceAdd, Int.reduceToNat, Int.reduceEq, Int.reduceNe, String.reduceEq, and_self, or_self]
    exact h l (by omega) ha
theorem ok_any_kind {d l : Addr} {k : Nat} {n : Nat} (D : Df K mg "_law_any_kind" s_any_kind)
    (C_draw : CalQ P w K mg base (wd d l 3) "_law_draw" k ["_law_d", "_law_many"] (pDraw d))
    (C_any_int : CalQ P w K mg base (wd d l 3) "_law_any_int" k ["_law_d"] (pfInt d))
    (C_any_name : CalQ P w K mg base (wd d l 3) "_law_any_name" k ["_law_d"] (pfName d))
    (C_any_fields : CalQ P w K mg base (wd d l 3) "_law_any_fields" k ["_law_d", "_law_deep", "_law_size"] (pfFields0 d n))
    (C_any_kind : CalQ P w K mg base (wd d l 3) "_law_any_kind" k ["_law_d", "_law_deep"] (pfKind0 d n)) (m_tuple : mg "tuple" = none) (m_range : mg "range" = none) :
    CalQ P w K mg base (wd d l 3) "_law_any_kind" (k + 1) ["_law_d", "_law_deep"] (pfKind d n) := by
  refine CalQ.mk D sc_any_kind (fun _ _ _ _ _ _ us h => match us, h with | [_, _], _ => rfl) (fun ts Φ h => by first | (obtain ⟨rfl, _⟩ := h; rfl) | (obtain ⟨_, rfl, _⟩ := h; rfl) | (obtain ⟨_, _, rfl, _⟩ := h; rfl) | (obtain ⟨_, _, _, rfl, _⟩ := h; rfl) | (obtain ⟨_, _, _, _, rfl, _⟩ := h; rfl)) (fun f cdv A outer s H E hr => ?_)
  refine ⟨_, qss_cons (qs_asg (qe_op oq_sub (qe_dget (qe_name (pv 0)) qe_int (fun _ _ => rfl)) qe_int) (qg_dset (qe_name (pv 0)) qe_int))
    (qss_cons (qs_set (i := 2) sc_any_kind.nd rfl (.inl rfl) (qe_call C_draw (hr.mono (by omega)) (by rfl) (qa_cons (qe_name (pv 0)) (qa_cons qe_int qa_nil))))
    (qss_cons (qs_if (QW.qt (qw_or (qt_cmp (oq_eq hr.units) (qe_name (pv 1)) qe_int (nomark _)) (qw_or (qt_cmp oq_le (qe_dget (qe_name (pv 0)) qe_int (fun _ _ => rfl)) qe_int (nomark _)) (qw_or1 (QW.qt (qw_and (qt_cmp oq_ge (qe_name (pv 2)) qe_int (nomark _)) (qw_and1 (qt_cmp oq_le (qe_dget (qe_name (pv 0)) qe_int (fun _ _ => rfl)) qe_int (nomark _)))))))))
    (qss_one (qs_set (i := 2) sc_any_kind.nd rfl (.inl rfl) (qe_op oq_and (qe_name (pv 2)) qe_int)))
    (qss_nil))
    (qss_cons (qs_if (qt_cmp (oq_eq hr.units) (qe_name (pv 2)) qe_int (nomark _))
    (qss_cons (qs_set (i := 3) sc_any_kind.nd rfl (.inl rfl) (qe_call C_any_int (hr.mono (by omega)) (by rfl) (qa_cons (qe_name (pv 0)) qa_nil)))
      (qss_one (qs_ret (qe_tup (qa_cons qe_str (qa_cons (qe_name (pv 3)) (qa_cons (qe_call C_any_int (hr.mono (by omega)) (by rfl) (qa_cons (qe_name (pv 0)) qa_nil)) qa_nil)))))))
    (qss_nil))
    (qss_cons (qs_if (qt_cmp oq_lt (qe_name (pv 2)) qe_int (nomark _))
    (qss_one (qs_ret (qe_tup (qa_cons qe_str (qa_cons (qe_callTy cq_tuple (by rfl) m_tuple (by decide +kernel) (qa_cons (qe_lc rfl (own := [("_law_k", 5)]) sc_any_kind.nd (by decide) (qi_range1 (by rfl) m_range (qe_op oq_add qe_int (qe_call C_draw (hr.mono (by omega)) (by rfl) (qa_cons (qe_name (pv 0)) (qa_cons qe_int qa_nil))))) (blkOk_by (N := ["_law_d", "_law_deep", "_law_shape", "_law_low", "_law_inner", "_law_k"]) (sc := defScope s_any_kind) (by decide +kernel)) (fun _ _ _ _ _ => (qg_name (pg_name (i := 5) sc_any_kind.nd rfl (.inl rfl)))) (fun _ _ _ _ _ => qts_nil) (fun _ _ _ _ _ => (qe_call C_any_name (hr.mono (by omega)) (by rfl) (qa_cons (qe_name (pv 0)) qa_nil)))) qa_nil)) qa_nil)))))
    (qss_nil))
    (qss_cons (qs_if (qt_cmp (oq_eq hr.units) (qe_name (pv 2)) qe_int (nomark _))
    (qss_one (qs_ret (qe_tup (qa_cons qe_str (qa_cons (qe_call C_any_fields (hr.mono (by omega)) (by rfl) (qa_cons (qe_name (pv 0)) (qa_cons (qe_op oq_sub (qe_name (pv 1)) qe_int) (qa_cons (qe_op oq_add qe_int (qe_call C_draw (hr.mono (by omega)) (by rfl) (qa_cons (qe_name (pv 0)) (qa_cons qe_int qa_nil)))) qa_nil)))) qa_nil)))))
    (qss_nil))
    (qss_cons (qs_if (qt_cmp (oq_eq hr.units) (qe_name (pv 2)) qe_int (nomark _))
    (qss_one (qs_ret (qe_tup (qa_cons qe_str (qa_cons (qe_call C_any_fields (hr.mono (by omega)) (by rfl) (qa_cons (qe_name (pv 0)) (qa_cons (qe_op oq_sub (qe_name (pv 1)) qe_int) (qa_cons (qe_call C_draw (hr.mono (by omega)) (by rfl) (qa_cons (qe_name (pv 0)) (qa_cons qe_int qa_nil))) qa_nil)))) qa_nil)))))
    (qss_nil))
    (qss_cons (qs_asg (qe_op oq_sub (qe_dget (qe_name (pv 0)) qe_int (fun _ _ => rfl)) qe_int) (qg_dset (qe_name (pv 0)) qe_int))
    (qss_cons (qs_set (i := 4) sc_any_kind.nd rfl (.inl rfl) (qe_call C_any_kind (hr.mono (by omega)) (by rfl) (qa_cons (qe_name (pv 0)) (qa_cons (qe_op oq_sub (qe_name (pv 1)) qe_int) qa_nil))))
    (qss_one (qs_ret (qe_if (qt_cmp (oq_eq hr.units) (qe_name (pv 2)) qe_int (nomark _)) (qe_tup (qa_cons qe_str (qa_cons (qe_name (pv 4)) qa_nil))) (qe_tup (qa_cons qe_str (qa_cons (qe_name (pv 4)) (qa_cons (qe_call C_any_int (hr.mono (by omega)) (by rfl) (qa_cons (qe_name (pv 0)) qa_nil)) qa_nil))))))))))))))), ?_⟩
  intro ts Φ h
  obtain ⟨n', rfl, hle, h⟩ := h
  refine seq3_by (fun ρ => ∃ r : Int, ρ = [Sl.fz (T.adr d), Sl.fz (T.int (n' : Int)), Sl.fz (T.int r), Sl.no, Sl.no, Sl.no] ∧ 0 ≤ r ∧ r < 7 ∧ (n' = 0 → r < 3)) (fun nx hnx => ?_) ?_
  · have b1 : ∀ k : Nat, k < 7 → 0 ≤ Builtin.bitAnd (k : Int) 1 ∧ Builtin.bitAnd (k : Int) 1 < 3 := by decide
    simp only [↓reduceIte, ↓sSeq, ↓sAsg, ↓sIf, ↓sRet, ↓sRetN, ↓sExpr, ↓sNext, ↓sBreak, ↓sCont, ↓sAug, ↓sFor, ↓gN, ↓pIx, ↓pC, ↓pTup, ↓pLst, ↓pCons, ↓pNil, ↓pStar, ↓pOp, ↓pTB, ↓pTru, ↓pTAnd, ↓pTOr, ↓pTNot, ↓pAndV, ↓pOrV, ↓pNotV, ↓pIf, ↓pCall, ↓pLen, ↓pIsi, ↓pDget, ↓gDset, ↓gSubT, ↓PEq, ↓PNe, ↓pChain, ↓pNeg, ↓pSl, ↓pNoPart, ↓pPart, ↓pIter, ↓pRng1, ↓pRng2, ↓pEnum, ↓pRev, ↓pZip, ↓pMet, ↓pMet0, ↓pMut, ↓pLc, ↓pLRng1, ↓pLRng2, ↓pYes, ↓pRE, ↓startP, ↓pWords, ↓pSplit, ↓gLt, ↓gLe, ↓gGt, ↓gGe, ↓pV_f0, ↓pV_o0, ↓pRV_f0, ↓pRV_o0, ↓lk_f0, ↓lk_o0, ↓sRV_f0, ↓sRV_o0, ↓pV_f1, ↓pV_o1, ↓pRV_f1, ↓pRV_o1, ↓lk_f1, ↓lk_o1, ↓sRV_f1, ↓sRV_o1, ↓pV_f2, ↓pV_o2, ↓pRV_f2, ↓pRV_o2, ↓lk_f2, ↓lk_o2, ↓sRV_f2, ↓sRV_o2, ↓pV_f3, ↓pV_o3, ↓pRV_f3, ↓pRV_o3, ↓lk_f3, ↓lk_o3, ↓sRV_f3, ↓sRV_o3, ↓pV_f4, ↓pV_o4, ↓pRV_f4, ↓pRV_o4, ↓lk_f4, ↓lk_o4, ↓sRV_f4, ↓sRV_o4, ↓pV_f5, ↓pV_o5, ↓pRV_f5, ↓pRV_o5, ↓lk_f5, ↓lk_o5, ↓sRV_f5, ↓sRV_o5, ↓pV_f6, ↓pV_o6, ↓pRV_f6, ↓pRV_o6, ↓lk_f6, ↓lk_o6, ↓sRV_f6, ↓sRV_o6, ↓pV_f7, ↓pV_o7, ↓pRV_f7, ↓pRV_o7, ↓lk_f7, ↓lk_o7, ↓sRV_f7, ↓sRV_o7, ↓pV_f8, ↓pV_o8, ↓pRV_f8, ↓pRV_o8, ↓lk_f8, ↓lk_o8, ↓sRV_f8, ↓sRV_o8, ↓pV_f9, ↓pV_o9, ↓pRV_f9, ↓pRV_o9, ↓lk_f9, ↓lk_o9, ↓sRV_f9, ↓sRV_o9, ↓pV_f10, ↓pV_o10, ↓pRV_f10, ↓pRV_o10, ↓lk_f10, ↓lk_o10, ↓sRV_f10, ↓sRV_o10, ↓pV_f11, ↓pV_o11, ↓pRV_f11, ↓pRV_o11, ↓lk_f11, ↓lk_o11, ↓sRV_f11, ↓sRV_o11, ↓pV_f12, ↓pV_o12, ↓pRV_f12, ↓pRV_o12, ↓lk_f12, ↓lk_o12, ↓sRV_f12, ↓sRV_o12, ↓pV_f13, ↓pV_o13, ↓pRV_f13, ↓pRV_o13, ↓lk_f13, ↓lk_o13, ↓sRV_f13, ↓sRV_o13, ↓lk_fz, ↓of_fn, ↓of_fb, ↓of_fi, ↓of_fs, ↓of_ft, ↓of_fl, ↓of_ol, ↓of_ff, ↓ad_i, ↓ad_s, ↓ad_l, ↓ad_t, ↓su_i, ↓mu_i, ↓mu_l, ↓mo_i, ↓fd_i, ↓pw_i, ↓an_i, ↓ci_i, ↓is_n, ↓is_nn, ↓in_t, ↓in_l, ↓in_s, ↓ix_l, ↓ix_t, ↓ix_s, ↓sl_l, ↓sl_t, ↓sl_s, ↓kn_i, ↓kp_i, ↓kr1, ↓kr2, ↓ke_l, ↓kz_l, ↓kz_t, ↓klr1, ↓klr2, ↓gt_e, ↓gs_n, ↓gs_c, nc_0, nc_1, nc_2, nc_3, nc_4, nc_5, nc_6, nc_7, nc_8, nc_9, nc_10, nc_11, nc_12, eq_ii, eq_ss, eq_nn, eq_bb, eq_st, eq_ts, eq_si, eq_is, eq_it, eq_ti, cmp_i, cmp_b, cmp_n, sc_i, sc_s, sc_b, sc_n, flat_i, flat_s, flat_b, flat_n, tru_n, tru_b, tru_i, tru_t, tru_l, items_t, items_l, len_t, len_l, iter_t, iter_l, isN_n, isN_i, isN_s, isN_t, isN_l, isN_b, at_0, at_1, at_2, at_3, ib_tn, ib_tb, ib_ti, ib_ts, ib_tt, ib_tl, ib_sn, ib_sb, ib_si, ib_ss, ib_st, ib_sl, ib_in, ib_ib, ib_ii, ib_is, ib_it, ib_il, ib_bn, ib_bb, ib_bi, ib_bs, ib_bt, ib_bl, na_n, na_b, na_i, na_s, na_t, na_l, List.getElem?_cons_zero, List.getElem?_cons_succ, List.set_cons_zero, List.set_cons_succ, List.map_cons, List.map_nil, List.length_cons, List.length_nil, List.replicate_succ, List.replicate_zero, List.cons_append, List.nil_append, List.append_nil, List.isEmpty_nil, List.isEmpty_cons, List.cons.injEq, Option.some.injEq, T.int.injEq, T.str.injEq, T.bl.injEq, T.tup.injEq, T.lst.injEq, T.adr.injEq, Sl.fz.injEq, Sl.ow.injEq, exists_eq_left, exists_eq_left', exists_eq_right, exists_eq_right', exists_eq, exists_eq', exists_and_left, exists_and_right, exists_const, exists_false, and_true, true_and, and_false, false_and, or_true, true_or, or_false, false_or, not_true_eq_false, not_false_eq_true, if_true, if_false, ite_true, ite_false, Bool.not_true, Bool.not_false, Bool.true_or, Bool.or_true, Bool.false_or, Bool.or_false, Bool.true_and, Bool.and_true, Bool.false_and, Bool.and_false, Bool.false_eq_true, Bool.true_eq_false, eq_self, decide_eq_true_eq, decide_true, decide_false, Bool.decide_eq_true, Bool.not_eq_true, decide_eq_false_iff_not, Bool.and_eq_true, Bool.or_eq_true, Bool.not_eq_true', reduceCtorEq, ne_eq, Nat.le_refl, Nat.reduceAdd, Nat.reduceSub, Nat.reduceLeDiff, Nat.reduceLT, implies_true, forall_const, List.any_cons, List.any_nil, List.all_cons, List.all_nil, wipeP, restore, List.getD_eq_getElem?_getD, Option.getD_some, List.mem_singleton, forall_eq, Int.reduceLT, Int.reduceLE, Int.reduceNeg, Int.reduceSub, Int.reduceAdd, Int.reduceToNat, Int.reduceEq, Int.reduceNe, String.reduceEq, and_self, or_self, pDraw]
    intro r r0 r1
    have lowr : nx [Sl.fz (T.adr d), Sl.fz (T.int (n' : Int)), Sl.fz (T.int (Builtin.bitAnd r 1)), Sl.no, Sl.no, Sl.no] := by
      obtain ⟨k, rfl⟩ := Int.eq_ofNat_of_zero_le r0
      obtain ⟨b2, b3⟩ := b1 k (by omega)
      exact hnx _ ⟨_, rfl, b2, by omega, fun _ => b3⟩
    split
    · exact lowr
    rename_i hn
    have same : nx [Sl.fz (T.adr d), Sl.fz (T.int (n' : Int)), Sl.fz (T.int r), Sl.no, Sl.no, Sl.no] := hnx _ ⟨r, rfl, r0, r1, fun z => absurd (by rw [z]; rfl) hn⟩
    intro v
    split
    · exact lowr
    split
    · intro v
      split
      · exact lowr
      · exact same
    · exact same
  · rintro ρ ⟨r, rfl, r0, r1, hn⟩
    have num : ∀ i j, ib i → ib j → Φ (T.tup [T.str (Str.ofString "num"), T.int i, T.int j]) false := fun i j hi hj => h _ (kg_num hi hj)
    have pick : ∀ m : Nat, m ≤ 2 → LcK (gN 5) pYes (pCall (pfName d) (pCons (pV 0) pNil)) [5] (rngT 0 (m + 1)) [Sl.fz (T.adr d), Sl.fz (T.int (n' : Int)), Sl.fz (T.int r), Sl.no, Sl.no, Sl.no] fun t x ρ1 => ∃ x, t.items = some x ∧ Φ (T.tup [T.str (Str.ofString "pick"), T.tup x]) false := fun m hm => by
      refine ⟨by rw [rng_len]; omega, by simp, fun i acc ρ => ρ = [Sl.fz (T.adr d), Sl.fz (T.int (n' : Int)), Sl.fz (T.int r), Sl.no, Sl.no, Sl.no] ∧ ∃ l : List Str, acc = l.map T.str ∧ l.length = i ∧ ∀ p ∈ l, isNm p = true, ⟨rfl, [], rfl, rfl, fun t h => by cases h⟩, ?_, ?_⟩
      · rintro i t acc ρ2 e hacc ⟨rfl, l, rfl, hl, ha⟩
        obtain ⟨hi, rfl⟩ := rng_get e
        simp only [↓reduceIte, ↓sSeq, ↓sAsg, ↓sIf, ↓sRet, ↓sRetN, ↓sExpr, ↓sNext, ↓sBreak, ↓sCont, ↓sAug, ↓sFor, ↓gN, ↓pIx, ↓pC, ↓pTup, ↓pLst, ↓pCons, ↓pNil, ↓pStar, ↓pOp, ↓pTB, ↓pTru, ↓pTAnd, ↓pTOr, ↓pTNot, ↓pAndV, ↓pOrV, ↓pNotV, ↓pIf, ↓pCall, ↓pLen, ↓pIsi, ↓pDget, ↓gDset, ↓gSubT, ↓PEq, ↓PNe, ↓pChain, ↓pNeg, ↓pSl, ↓pNoPart, ↓pPart, ↓pIter, ↓pRng1, ↓pRng2, ↓pEnum, ↓pRev, ↓pZip, ↓pMet, ↓pMet0, ↓pMut, ↓pLc, ↓pLRng1, ↓pLRng2, ↓pYes, ↓pRE, ↓startP, ↓pWords, ↓pSplit, ↓gLt, ↓gLe, ↓gGt, ↓gGe, ↓pV_f0, ↓pV_o0, ↓pRV_f0, ↓pRV_o0, ↓lk_f0, ↓lk_o0, ↓sRV_f0, ↓sRV_o0, ↓pV_f1, ↓pV_o1, ↓pRV_f1, ↓pRV_o1, ↓lk_f1, ↓lk_o1, ↓sRV_f1, ↓sRV_o1, ↓pV_f2, ↓pV_o2, ↓pRV_f2, ↓pRV_o2, ↓lk_f2, ↓lk_o2, ↓sRV_f2, ↓sRV_o2, ↓pV_f3, ↓pV_o3, ↓pRV_f3, ↓pRV_o3, ↓lk_f3, ↓lk_o3, ↓sRV_f3, ↓sRV_o3, ↓pV_f4, ↓pV_o4, ↓pRV_f4, ↓pRV_o4, ↓lk_f4, ↓lk_o4, ↓sRV_f4, ↓sRV_o4, ↓pV_f5, ↓pV_o5, ↓pRV_f5, ↓pRV_o5, ↓lk_f5, ↓lk_o5, ↓sRV_f5, ↓sRV_o5, ↓pV_f6, ↓pV_o6, ↓pRV_f6, ↓pRV_o6, ↓lk_f6, ↓lk_o6, ↓sRV_f6, ↓sRV_o6, ↓pV_f7, ↓pV_o7, ↓pRV_f7, ↓pRV_o7, ↓lk_f7, ↓lk_o7, ↓sRV_f7, ↓sRV_o7, ↓pV_f8, ↓pV_o8, ↓pRV_f8, ↓pRV_o8, ↓lk_f8, ↓lk_o8, ↓sRV_f8, ↓sRV_o8, ↓pV_f9, ↓pV_o9, ↓pRV_f9, ↓pRV_o9, ↓lk_f9, ↓lk_o9, ↓sRV_f9, ↓sRV_o9, ↓pV_f10, ↓pV_o10, ↓pRV_f10, ↓pRV_o10, ↓lk_f10, ↓lk_o10, ↓sRV_f10, ↓sRV_o10, ↓pV_f11, ↓pV_o11, ↓pRV_f11, ↓pRV_o11, ↓lk_f11, ↓lk_o11, ↓sRV_f11, ↓sRV_o11, ↓pV_f12, ↓pV_o12, ↓pRV_f12, ↓pRV_o12, ↓lk_f12, ↓lk_o12, ↓sRV_f12, ↓sRV_o12, ↓pV_f13, ↓pV_o13, ↓pRV_f13, ↓pRV_o13, ↓lk_f13, ↓lk_o13, ↓sRV_f13, ↓sRV_o13, ↓lk_fz, ↓of_fn, ↓of_fb, ↓of_fi, ↓of_fs, ↓of_ft, ↓of_fl, ↓of_ol, ↓of_ff, ↓ad_i, ↓ad_s, ↓ad_l, ↓ad_t, ↓su_i, ↓mu_i, ↓mu_l, ↓mo_i, ↓fd_i, ↓pw_i, ↓an_i, ↓ci_i, ↓is_n, ↓is_nn, ↓in_t, ↓in_l, ↓in_s, ↓ix_l, ↓ix_t, ↓ix_s, ↓sl_l, ↓sl_t, ↓sl_s, ↓kn_i, ↓kp_i, ↓kr1, ↓kr2, ↓ke_l, ↓kz_l, ↓kz_t, ↓klr1, ↓klr2, ↓gt_e, ↓gs_n, ↓gs_c, nc_0, nc_1, nc_2, nc_3, nc_4, nc_5, nc_6, nc_7, nc_8, nc_9, nc_10, nc_11, nc_12, eq_ii, eq_ss, eq_nn, eq_bb, eq_st, eq_ts, eq_si, eq_is, eq_it, eq_ti, cmp_i, cmp_b, cmp_n, sc_i, sc_s, sc_b, sc_n, flat_i, flat_s, flat_b, flat_n, tru_n, tru_b, tru_i, tru_t, tru_l, items_t, items_l, len_t, len_l, iter_t, iter_l, isN_n, isN_i, isN_s, isN_t, isN_l, isN_b, at_0, at_1, at_2, at_3, ib_tn, ib_tb, ib_ti, ib_ts, ib_tt, ib_tl, ib_sn, ib_sb, ib_si, ib_ss, ib_st, ib_sl, ib_in, ib_ib, ib_ii, ib_is, ib_it, ib_il, ib_bn, ib_bb, ib_bi, ib_bs, ib_bt, ib_bl, na_n, na_b, na_i, na_s, na_t, na_l, List.getElem?_cons_zero, List.getElem?_cons_succ, List.set_cons_zero, List.set_cons_succ, List.map_cons, List.map_nil, List.length_cons, List.length_nil, List.replicate_succ, List.replicate_zero, List.cons_append, List.nil_append, List.append_nil, List.isEmpty_nil, List.isEmpty_cons, List.cons.injEq, Option.some.injEq, T.int.injEq, T.str.injEq, T.bl.injEq, T.tup.injEq, T.lst.injEq, T.adr.injEq, Sl.fz.injEq, Sl.ow.injEq, exists_eq_left, exists_eq_left', exists_eq_right, exists_eq_right', exists_eq, exists_eq', exists_and_left, exists_and_right, exists_const, exists_false, and_true, true_and, and_false, false_and, or_true, true_or, or_false, false_or, not_true_eq_false, not_false_eq_true, if_true, if_false, ite_true, ite_false, Bool.not_true, Bool.not_false, Bool.true_or, Bool.or_true, Bool.false_or, Bool.or_false, Bool.true_and, Bool.and_true, Bool.false_and, Bool.and_false, Bool.false_eq_true, Bool.true_eq_false, eq_self, decide_eq_true_eq, decide_true, decide_false, Bool.decide_eq_true, Bool.not_eq_true, decide_eq_false_iff_not, Bool.and_eq_true, Bool.or_eq_true, Bool.not_eq_true', reduceCtorEq, ne_eq, Nat.le_refl, Nat.reduceAdd, Nat.reduceSub, Nat.reduceLeDiff, Nat.reduceLT, implies_true, forall_const, List.any_cons, List.any_nil, List.all_cons, List.all_nil, wipeP, restore, List.getD_eq_getElem?_getD, Option.getD_some, List.mem_singleton, forall_eq, Int.reduceLT, Int.reduceLE, Int.reduceNeg, Int.reduceSub, Int.reduceAdd, Int.reduceToNat, Int.reduceEq, Int.reduceNe, String.reduceEq, and_self, or_self, pfName]
        intro x hx
        refine ⟨l ++ [x], by rw [List.map_append]; rfl, by rw [List.length_append, hl]; rfl, fun u hu => ?_⟩
        rcases List.mem_append.mp hu with hu | hu
        · exact ha u hu
        · rw [List.mem_singleton.mp hu]
          exact hx
      · rintro acc ρ2 hacc ⟨rfl, l, rfl, hl, ha⟩
        rw [rng_len] at hl
        simp only [↓reduceIte, ↓sSeq, ↓sAsg, ↓sIf, ↓sRet, ↓sRetN, ↓sExpr, ↓sNext, ↓sBreak, ↓sCont, ↓sAug, ↓sFor, ↓gN, ↓pIx, ↓pC, ↓pTup, ↓pLst, ↓pCons, ↓pNil, ↓pStar, ↓pOp, ↓pTB, ↓pTru, ↓pTAnd, ↓pTOr, ↓pTNot, ↓pAndV, ↓pOrV, ↓pNotV, ↓pIf, ↓pCall, ↓pLen, ↓pIsi, ↓pDget, ↓gDset, ↓gSubT, ↓PEq, ↓PNe, ↓pChain, ↓pNeg, ↓pSl, ↓pNoPart, ↓pPart, ↓pIter, ↓pRng1, ↓pRng2, ↓pEnum, ↓pRev, ↓pZip, ↓pMet, ↓pMet0, ↓pMut, ↓pLc, ↓pLRng1, ↓pLRng2, ↓pYes, ↓pRE, ↓startP, ↓pWords, ↓pSplit, ↓gLt, ↓gLe, ↓gGt, ↓gGe, ↓pV_f0, ↓pV_o0, ↓pRV_f0, ↓pRV_o0, ↓lk_f0, ↓lk_o0, ↓sRV_f0, ↓sRV_o0, ↓pV_f1, ↓pV_o1, ↓pRV_f1, ↓pRV_o1, ↓lk_f1, ↓lk_o1, ↓sRV_f1, ↓sRV_o1, ↓pV_f2, ↓pV_o2, ↓pRV_f2, ↓pRV_o2, ↓lk_f2, ↓lk_o2, ↓sRV_f2, ↓sRV_o2, ↓pV_f3, ↓pV_o3, ↓pRV_f3, ↓pRV_o3, ↓lk_f3, ↓lk_o3, ↓sRV_f3, ↓sRV_o3, ↓pV_f4, ↓pV_o4, ↓pRV_f4, ↓pRV_o4, ↓lk_f4, ↓lk_o4, ↓sRV_f4, ↓sRV_o4, ↓pV_f5, ↓pV_o5, ↓pRV_f5, ↓pRV_o5, ↓lk_f5, ↓lk_o5, ↓sRV_f5, ↓sRV_o5, ↓pV_f6, ↓pV_o6, ↓pRV_f6, ↓pRV_o6, ↓lk_f6, ↓lk_o6, ↓sRV_f6, ↓sRV_o6, ↓pV_f7, ↓pV_o7, ↓pRV_f7, ↓pRV_o7, ↓lk_f7, ↓lk_o7, ↓sRV_f7, ↓sRV_o7, ↓pV_f8, ↓pV_o8, ↓pRV_f8, ↓pRV_o8, ↓lk_f8, ↓lk_o8, ↓sRV_f8, ↓sRV_o8, ↓pV_f9, ↓pV_o9, ↓pRV_f9, ↓pRV_o9, ↓lk_f9, ↓lk_o9, ↓sRV_f9, ↓sRV_o9, ↓pV_f10, ↓pV_o10, ↓pRV_f10, ↓pRV_o10, ↓lk_f10, ↓lk_o10, ↓sRV_f10, ↓sRV_o10, ↓pV_f11, ↓pV_o11, ↓pRV_f11, ↓pRV_o11, ↓lk_f11, ↓lk_o11, ↓sRV_f11, ↓sRV_o11, ↓pV_f12, ↓pV_o12, ↓pRV_f12, ↓pRV_o12, ↓lk_f12, ↓lk_o12, ↓sRV_f12, ↓sRV_o12, ↓pV_f13, ↓pV_o13, ↓pRV_f13, ↓pRV_o13, ↓lk_f13, ↓lk_o13, ↓sRV_f13, ↓sRV_o13, ↓lk_fz, ↓of_fn, ↓of_fb, ↓of_fi, ↓of_fs, ↓of_ft, ↓of_fl, ↓of_ol, ↓of_ff, ↓ad_i, ↓ad_s, ↓ad_l, ↓ad_t, ↓su_i, ↓mu_i, ↓mu_l, ↓mo_i, ↓fd_i, ↓pw_i, ↓an_i, ↓ci_i, ↓is_n, ↓is_nn, ↓in_t, ↓in_l, ↓in_s, ↓ix_l, ↓ix_t, ↓ix_s, ↓sl_l, ↓sl_t, ↓sl_s, ↓kn_i, ↓kp_i, ↓kr1, ↓kr2, ↓ke_l, ↓kz_l, ↓kz_t, ↓klr1, ↓klr2, ↓gt_e, ↓gs_n, ↓gs_c, nc_0, nc_1, nc_2, nc_3, nc_4, nc_5, nc_6, nc_7, nc_8, nc_9, nc_10, nc_11, nc_12, eq_ii, eq_ss, eq_nn, eq_bb, eq_st, eq_ts, eq_si, eq_is, eq_it, eq_ti, cmp_i, cmp_b, cmp_n, sc_i, sc_s, sc_b, sc_n, flat_i, flat_s, flat_b, flat_n, tru_n, tru_b, tru_i, tru_t, tru_l, items_t, items_l, len_t, len_l, iter_t, iter_l, isN_n, isN_i, isN_s, isN_t, isN_l, isN_b, at_0, at_1, at_2, at_3, ib_tn, ib_tb, ib_ti, ib_ts, ib_tt, ib_tl, ib_sn, ib_sb, ib_si, ib_ss, ib_st, ib_sl, ib_in, ib_ib, ib_ii, ib_is, ib_it, ib_il, ib_bn, ib_bb, ib_bi, ib_bs, ib_bt, ib_bl, na_n, na_b, na_i, na_s, na_t, na_l, List.getElem?_cons_zero, List.getElem?_cons_succ, List.set_cons_zero, List.set_cons_succ, List.map_cons, List.map_nil, List.length_cons, List.length_nil, List.replicate_succ, List.replicate_zero, List.cons_append, List.nil_append, List.append_nil, List.isEmpty_nil, List.isEmpty_cons, List.cons.injEq, Option.some.injEq, T.int.injEq, T.str.injEq, T.bl.injEq, T.tup.injEq, T.lst.injEq, T.adr.injEq, Sl.fz.injEq, Sl.ow.injEq, exists_eq_left, exists_eq_left', exists_eq_right, exists_eq_right', exists_eq, exists_eq', exists_and_left, exists_and_right, exists_const, exists_false, and_true, true_and, and_false, false_and, or_true, true_or, or_false, false_or, not_true_eq_false, not_false_eq_true, if_true, if_false, ite_true, ite_false, Bool.not_true, Bool.not_false, Bool.true_or, Bool.or_true, Bool.false_or, Bool.or_false, Bool.true_and, Bool.and_true, Bool.false_and, Bool.and_false, Bool.false_eq_true, Bool.true_eq_false, eq_self, decide_eq_true_eq, decide_true, decide_false, Bool.decide_eq_true, Bool.not_eq_true, decide_eq_false_iff_not, Bool.and_eq_true, Bool.or_eq_true, Bool.not_eq_true', reduceCtorEq, ne_eq, Nat.le_refl, Nat.reduceAdd, Nat.reduceSub, Nat.reduceLeDiff, Nat.reduceLT, implies_true, forall_const, List.any_cons, List.any_nil, List.all_cons, List.all_nil, wipeP, restore, List.getD_eq_getElem?_getD, Option.getD_some, List.mem_singleton, forall_eq, Int.reduceLT, Int.reduceLE, Int.reduceNeg, Int.reduceSub, Int.reduceAdd, Int.reduceToNat, Int.reduceEq, Int.reduceNe, String.reduceEq, and_self, or_self]
        exact h _ (kg_pick (fun z => by rw [z] at hl; cases hl) (by omega) ha)
    have pick' : ∀ q : Int, 0 ≤ q → q < 3 → LcK (gN 5) pYes (pCall (pfName d) (pCons (pV 0) pNil)) [5] (rngT 0 (1 + q).toNat) [Sl.fz (T.adr d), Sl.fz (T.int (n' : Int)), Sl.fz (T.int r), Sl.no, Sl.no, Sl.no] fun t x ρ1 => ∃ x, t.items = some x ∧ Φ (T.tup [T.str (Str.ofString "pick"), T.tup x]) false := fun q q0 q1 => by
      have e : (1 + q).toNat = q.toNat + 1 := by omega
      rw [e]
      exact pick _ (by omega)
    cases n' with
    | zero =>
      have hr := hn rfl
      simp only [↓reduceIte, ↓sSeq, ↓sAsg, ↓sIf, ↓sRet, ↓sRetN, ↓sExpr, ↓sNext, ↓sBreak, ↓sCont, ↓sAug, ↓sFor, ↓gN, ↓pIx, ↓pC, ↓pTup, ↓pLst, ↓pCons, ↓pNil, ↓pStar, ↓pOp, ↓pTB, ↓pTru, ↓pTAnd, ↓pTOr, ↓pTNot, ↓pAndV, ↓pOrV, ↓pNotV, ↓pIf, ↓pCall, ↓pLen, ↓pIsi, ↓pDget, ↓gDset, ↓gSubT, ↓PEq, ↓PNe, ↓pChain, ↓pNeg, ↓pSl, ↓pNoPart, ↓pPart, ↓pIter, ↓pRng1, ↓pRng2, ↓pEnum, ↓pRev, ↓pZip, ↓pMet, ↓pMet0, ↓pMut, ↓pLc, ↓pLRng1, ↓pLRng2, ↓pYes, ↓pRE, ↓startP, ↓pWords, ↓pSplit, ↓gLt, ↓gLe, ↓gGt, ↓gGe, ↓pV_f0, ↓pV_o0, ↓pRV_f0, ↓pRV_o0, ↓lk_f0, ↓lk_o0, ↓sRV_f0, ↓sRV_o0, ↓pV_f1, ↓pV_o1, ↓pRV_f1, ↓pRV_o1, ↓lk_f1, ↓lk_o1, ↓sRV_f1, ↓sRV_o1, ↓pV_f2, ↓pV_o2, ↓pRV_f2, ↓pRV_o2, ↓lk_f2, ↓lk_o2, ↓sRV_f2, ↓sRV_o2, ↓pV_f3, ↓pV_o3, ↓pRV_f3, ↓pRV_o3, ↓lk_f3, ↓lk_o3, ↓sRV_f3, ↓sRV_o3, ↓pV_f4, ↓pV_o4, ↓pRV_f4, ↓pRV_o4, ↓lk_f4, ↓lk_o4, ↓sRV_f4, ↓sRV_o4, ↓pV_f5, ↓pV_o5, ↓pRV_f5, ↓pRV_o5, ↓lk_f5, ↓lk_o5, ↓sRV_f5, ↓sRV_o5, ↓pV_f6, ↓pV_o6, ↓pRV_f6, ↓pRV_o6, ↓lk_f6, ↓lk_o6, ↓sRV_f6, ↓sRV_o6, ↓pV_f7, ↓pV_o7, ↓pRV_f7, ↓pRV_o7, ↓lk_f7, ↓lk_o7, ↓sRV_f7, ↓sRV_o7, ↓pV_f8, ↓pV_o8, ↓pRV_f8, ↓pRV_o8, ↓lk_f8, ↓lk_o8, ↓sRV_f8, ↓sRV_o8, ↓pV_f9, ↓pV_o9, ↓pRV_f9, ↓pRV_o9, ↓lk_f9, ↓lk_o9, ↓sRV_f9, ↓sRV_o9, ↓pV_f10, ↓pV_o10, ↓pRV_f10, ↓pRV_o10, ↓lk_f10, ↓lk_o10, ↓sRV_f10, ↓sRV_o10, ↓pV_f11, ↓pV_o11, ↓pRV_f11, ↓pRV_o11, ↓lk_f11, ↓lk_o11, ↓sRV_f11, ↓sRV_o11, ↓pV_f12, ↓pV_o12, ↓pRV_f12, ↓pRV_o12, ↓lk_f12, ↓lk_o12, ↓sRV_f12, ↓sRV_o12, ↓pV_f13, ↓pV_o13, ↓pRV_f13, ↓pRV_o13, ↓lk_f13, ↓lk_o13, ↓sRV_f13, ↓sRV_o13, ↓lk_fz, ↓of_fn, ↓of_fb, ↓of_fi, ↓of_fs, ↓of_ft, ↓of_fl, ↓of_ol, ↓of_ff, ↓ad_i, ↓ad_s, ↓ad_l, ↓ad_t, ↓su_i, ↓mu_i, ↓mu_l, ↓mo_i, ↓fd_i, ↓pw_i, ↓an_i, ↓ci_i, ↓is_n, ↓is_nn, ↓in_t, ↓in_l, ↓in_s, ↓ix_l, ↓ix_t, ↓ix_s, ↓sl_l, ↓sl_t, ↓sl_s, ↓kn_i, ↓kp_i, ↓kr1, ↓kr2, ↓ke_l, ↓kz_l, ↓kz_t, ↓klr1, ↓klr2, ↓gt_e, ↓gs_n, ↓gs_c, nc_0, nc_1, nc_2, nc_3, nc_4, nc_5, nc_6, nc_7, nc_8, nc_9, nc_10, nc_11, nc_12, eq_ii, eq_ss, eq_nn, eq_bb, eq_st, eq_ts, eq_si, eq_is, eq_it, eq_ti, cmp_i, cmp_b, cmp_n, sc_i, sc_s, sc_b, sc_n, flat_i, flat_s, flat_b, flat_n, tru_n, tru_b, tru_i, tru_t, tru_l, items_t, items_l, len_t, len_l, iter_t, iter_l, isN_n, isN_i, isN_s, isN_t, isN_l, isN_b, at_0, at_1, at_2, at_3, ib_tn, ib_tb, ib_ti, ib_ts, ib_tt, ib_tl, ib_sn, ib_sb, ib_si, ib_ss, ib_st, ib_sl, ib_in, ib_ib, ib_ii, ib_is, ib_it, ib_il, ib_bn, ib_bb, ib_bi, ib_bs, ib_bt, ib_bl, na_n, na_b, na_i, na_s, na_t, na_l, List.getElem?_cons_zero, List.getElem?_cons_succ, List.set_cons_zero, List.set_cons_succ, List.map_cons, List.map_nil, List.length_cons, List.length_nil, List.replicate_succ, List.replicate_zero, List.cons_append, List.nil_append, List.append_nil, List.isEmpty_nil, List.isEmpty_cons, List.cons.injEq, Option.some.injEq, T.int.injEq, T.str.injEq, T.bl.injEq, T.tup.injEq, T.lst.injEq, T.adr.injEq, Sl.fz.injEq, Sl.ow.injEq, exists_eq_left, exists_eq_left', exists_eq_right, exists_eq_right', exists_eq, exists_eq', exists_and_left, exists_and_right, exists_const, exists_false, and_true, true_and, and_false, false_and, or_true, true_or, or_false, false_or, not_true_eq_false, not_false_eq_true, if_true, if_false, ite_true, ite_false, Bool.not_true, Bool.not_false, Bool.true_or, Bool.or_true, Bool.false_or, Bool.or_false, Bool.true_and, Bool.and_true, Bool.false_and, Bool.and_false, Bool.false_eq_true, Bool.true_eq_false, eq_self, decide_eq_true_eq, decide_true, decide_false, Bool.decide_eq_true, Bool.not_eq_true, decide_eq_false_iff_not, Bool.and_eq_true, Bool.or_eq_true, Bool.not_eq_true', reduceCtorEq, ne_eq, Nat.le_refl, Nat.reduceAdd, Nat.reduceSub, Nat.reduceLeDiff, Nat.reduceLT, implies_true, forall_const, List.any_cons, List.any_nil, List.all_cons, List.all_nil, wipeP, restore, List.getD_eq_getElem?_getD, Option.getD_some, List.mem_singleton, forall_eq, Int.reduceLT, Int.reduceLE, Int.reduceNeg, Int.reduceSub, Int.reduceAdd, Int.reduceToNat, Int.reduceEq, Int.reduceNe, String.reduceEq, and_self, or_self, pDraw, pfInt, hr]
      split
      · exact fun i hi j hj => num i j hi hj
      · exact fun q q0 q1 => ⟨by omega, by omega, pick' q q0 q1⟩
    | succ m =>
      have e9 : ((m + 1 : Nat) : Int) - 1 = (m : Int) := by omega
      obtain ⟨n2, rfl⟩ : ∃ n2, n = n2 + 1 := ⟨n - 1, by omega⟩
      simp only [↓reduceIte, ↓sSeq, ↓sAsg, ↓sIf, ↓sRet, ↓sRetN, ↓sExpr, ↓sNext, ↓sBreak, ↓sCont, ↓sAug, ↓sFor, ↓gN, ↓pIx, ↓pC, ↓pTup, ↓pLst, ↓pCons, ↓pNil, ↓pStar, ↓pOp, ↓pTB, ↓pTru, ↓pTAnd, ↓pTOr, ↓pTNot, ↓pAndV, ↓pOrV, ↓pNotV, ↓pIf, ↓pCall, ↓pLen, ↓pIsi, ↓pDget, ↓gDset, ↓gSubT, ↓PEq, ↓PNe, ↓pChain, ↓pNeg, ↓pSl, ↓pNoPart, ↓pPart, ↓pIter, ↓pRng1, ↓pRng2, ↓pEnum, ↓pRev, ↓pZip, ↓pMet, ↓pMet0, ↓pMut, ↓pLc, ↓pLRng1, ↓pLRng2, ↓pYes, ↓pRE, ↓startP, ↓pWords, ↓pSplit, ↓gLt, ↓gLe, ↓gGt, ↓gGe, ↓pV_f0, ↓pV_o0, ↓pRV_f0, ↓pRV_o0, ↓lk_f0, ↓lk_o0, ↓sRV_f0, ↓sRV_o0, ↓pV_f1, ↓pV_o1, ↓pRV_f1, ↓pRV_o1, ↓lk_f1, ↓lk_o1, ↓sRV_f1, ↓sRV_o1, ↓pV_f2, ↓pV_o2, ↓pRV_f2, ↓pRV_o2, ↓lk_f2, ↓lk_o2, ↓sRV_f2, ↓sRV_o2, ↓pV_f3, ↓pV_o3, ↓pRV_f3, ↓pRV_o3, ↓lk_f3, ↓lk_o3, ↓sRV_f3, ↓sRV_o3, ↓pV_f4, ↓pV_o4, ↓pRV_f4, ↓pRV_o4, ↓lk_f4, ↓lk_o4, ↓sRV_f4, ↓sRV_o4, ↓pV_f5, ↓pV_o5, ↓pRV_f5, ↓pRV_o5, ↓lk_f5, ↓lk_o5, ↓sRV_f5, ↓sRV_o5, ↓pV_f6, ↓pV_o6, ↓pRV_f6, ↓pRV_o6, ↓lk_f6, ↓lk_o6, ↓sRV_f6, ↓sRV_o6, ↓pV_f7, ↓pV_o7, ↓pRV_f7, ↓pRV_o7, ↓lk_f7, ↓lk_o7, ↓sRV_f7, ↓sRV_o7, ↓pV_f8, ↓pV_o8, ↓pRV_f8, ↓pRV_o8, ↓lk_f8, ↓lk_o8, ↓sRV_f8, ↓sRV_o8, ↓pV_f9, ↓pV_o9, ↓pRV_f9, ↓pRV_o9, ↓lk_f9, ↓lk_o9, ↓sRV_f9, ↓sRV_o9, ↓pV_f10, ↓pV_o10, ↓pRV_f10, ↓pRV_o10, ↓lk_f10, ↓lk_o10, ↓sRV_f10, ↓sRV_o10, ↓pV_f11, ↓pV_o11, ↓pRV_f11, ↓pRV_o11, ↓lk_f11, ↓lk_o11, ↓sRV_f11, ↓sRV_o11, ↓pV_f12, ↓pV_o12, ↓pRV_f12, ↓pRV_o12, ↓lk_f12, ↓lk_o12, ↓sRV_f12, ↓sRV_o12, ↓pV_f13, ↓pV_o13, ↓pRV_f13, ↓pRV_o13, ↓lk_f13, ↓lk_o13, ↓sRV_f13, ↓sRV_o13, ↓lk_fz, ↓of_fn, ↓of_fb, ↓of_fi, ↓of_fs, ↓of_ft, ↓of_fl, ↓of_ol, ↓of_ff, ↓ad_i, ↓ad_s, ↓ad_l, ↓ad_t, ↓su_i, ↓mu_i, ↓mu_l, ↓mo_i, ↓fd_i, ↓pw_i, ↓an_i, ↓ci_i, ↓is_n, ↓is_nn, ↓in_t, ↓in_l, ↓in_s, ↓ix_l, ↓ix_t, ↓ix_s, ↓sl_l, ↓sl_t, ↓sl_s, ↓kn_i, ↓kp_i, ↓kr1, ↓kr2, ↓ke_l, ↓kz_l, ↓kz_t, ↓klr1, ↓klr2, ↓gt_e, ↓gs_n, ↓gs_c, nc_0, nc_1, nc_2, nc_3, nc_4, nc_5, nc_6, nc_7, nc_8, nc_9, nc_10, nc_11, nc_12, eq_ii, eq_ss, eq_nn, eq_bb, eq_st, eq_ts, eq_si, eq_is, eq_it, eq_ti, cmp_i, cmp_b, cmp_n, sc_i, sc_s, sc_b, sc_n, flat_i, flat_s, flat_b, flat_n, tru_n, tru_b, tru_i, tru_t, tru_l, items_t, items_l, len_t, len_l, iter_t, iter_l, isN_n, isN_i, isN_s, isN_t, isN_l, isN_b, at_0, at_1, at_2, at_3, ib_tn, ib_tb, ib_ti, ib_ts, ib_tt, ib_tl, ib_sn, ib_sb, ib_si, ib_ss, ib_st, ib_sl, ib_in, ib_ib, ib_ii, ib_is, ib_it, ib_il, ib_bn, ib_bb, ib_bi, ib_bs, ib_bt, ib_bl, na_n, na_b, na_i, na_s, na_t, na_l, List.getElem?_cons_zero, List.getElem?_cons_succ, List.set_cons_zero, List.set_cons_succ, List.map_cons, List.map_nil, List.length_cons, List.length_nil, List.replicate_succ, List.replicate_zero, List.cons_append, List.nil_append, List.append_nil, List.isEmpty_nil, List.isEmpty_cons, List.cons.injEq, Option.some.injEq, T.int.injEq, T.str.injEq, T.bl.injEq, T.tup.injEq, T.lst.injEq, T.adr.injEq, Sl.fz.injEq, Sl.ow.injEq, exists_eq_left, exists_eq_left', exists_eq_right, exists_eq_right', exists_eq, exists_eq', exists_and_left, exists_and_right, exists_const, exists_false, and_true, true_and, and_false, false_and, or_true, true_or, or_false, false_or, not_true_eq_false, not_false_eq_true, if_true, if_false, ite_true, ite_false, Bool.not_true, Bool.not_false, Bool.true_or, Bool.or_true, Bool.false_or, Bool.or_false, Bool.true_and, Bool.and_true, Bool.false_and, Bool.and_false, Bool.false_eq_true, Bool.true_eq_false, eq_self, decide_eq_true_eq, decide_true, decide_false, Bool.decide_eq_true, Bool.not_eq_true, decide_eq_false_iff_not, Bool.and_eq_true, Bool.or_eq_true, Bool.not_eq_true', reduceCtorEq, ne_eq, Nat.le_refl, Nat.reduceAdd, Nat.reduceSub, Nat.reduceLeDiff, Nat.reduceLT, implies_true, forall_const, List.any_cons, List.any_nil, List.all_cons, List.all_nil, wipeP, restore, List.getD_eq_getElem?_getD, Option.getD_some, List.mem_singleton, forall_eq, Int.reduceLT, Int.reduceLE, Int.reduceNeg, Int.reduceSub, Int.reduceAdd, Int.reduceToNat, Int.reduceEq, Int.reduceNe, String.reduceEq, and_self, or_self, pDraw, pfInt, pfFields0, pfFields, pfKind0, pfKind, e9]
      split
      · exact fun i hi j hj => num i j hi hj
      split
      · exact fun q q0 q1 => ⟨by omega, by omega, pick' q q0 q1⟩
      split
      · intro q q0 q1
        exact ⟨m, _, ⟨rfl, rfl⟩, by omega, by omega, by omega, fun l hl ha => h _ (kg_fld (.inl rfl) (by omega) ha)⟩
      split
      · intro q q0 q1
        exact ⟨m, _, ⟨rfl, rfl⟩, by omega, by omega, by omega, fun l hl ha => h _ (kg_fld (.inr rfl) (by omega) ha)⟩
      · refine ⟨m, rfl, by omega, fun t ht => ?_⟩
        split
        · exact h _ (kg_opt ht)
        · exact fun i hi => h _ (kg_row ht hi)
/-! ways -/
def wb : Nat → Nat
  | 0 => 59
  | n + 1 => 30 + 2 * wb n
theorem wb_le (n : Nat) : 59 ≤ wb n := by
  cases n with
  | zero => exact Nat.le_refl _
  | succ n =>
    have : 59 ≤ wb n := wb_le n
    show 59 ≤ 30 + 2 * wb n
    omega
def WG (n : Nat) (t : T) : Prop := ∃ s, Wt (n + 1) t s ∧ s.length ≤ wb n
theorem wt_up : ∀ (n : Nat) (t : T) (s : List Str), Wt n t s → Wt (n + 1) t s
  | 0, _, _, h => h.elim
  | n + 1, t, s, h => by
    rcases h with ⟨w, h⟩ | ⟨w, u, v, h⟩ | ⟨w, k, v, s', hw, rfl, hv, hk, rfl⟩ | ⟨w, k, s', hw, rfl, hk, rfl⟩ | ⟨w, l, hw, rfl, hl, rfl⟩
    · exact .inl ⟨w, h⟩
    · exact .inr (.inl ⟨w, u, v, h⟩)
    · exact .inr (.inr (.inl ⟨w, k, v, s', hw, rfl, hv, wt_up n k s' hk, rfl⟩))
    · exact .inr (.inr (.inr (.inl ⟨w, k, s', hw, rfl, wt_up n k s' hk, rfl⟩)))
    · exact .inr (.inr (.inr (.inr ⟨w, l, hw, rfl, fun p hp => ⟨(hl p hp).1, (hl p hp).2.1, wt_up n _ _ (hl p hp).2.2⟩, rfl⟩)))
theorem wt_le {n m : Nat} (h : n ≤ m) {t : T} {s : List Str} (k : Wt n t s) : Wt m t s := by
  obtain ⟨j, rfl⟩ := Nat.exists_eq_add_of_le h
  induction j with
  | zero => exact k
  | succ j ih => exact wt_up _ _ _ (ih (by omega))
def TG (n : Nat) (p : Tr) : Prop := Ed p.1.1 p.1.2 ∧ Ed p.2.1.1 p.2.1.2 ∧ Wt (n + 1) p.2.2.1 p.2.2.2 ∧ p.2.2.2.length ≤ wb n
theorem fm_trs {l : List Tr} {b : Nat} (h : ∀ p ∈ l, p.2.2.2.length ≤ b) : (l.flatMap trS).length ≤ l.length * (b + 5) := by
  induction l with
  | nil => simp
  | cons p l ih =>
    have h1 := h p List.mem_cons_self
    have ih := ih fun q hq => h q (List.mem_cons_of_mem _ hq)
    rw [List.flatMap_cons, List.length_append, trs_len, List.length_cons, Nat.add_mul]
    omega
theorem wg_word {n : Nat} {w : Str} (hw : w = w_same ∨ w = w_rank ∨ w = w_clip) : WG n (.tup [.str w]) :=
  ⟨_, .inl ⟨w, hw, rfl, rfl⟩, by show 1 ≤ _; have := wb_le n; omega⟩
theorem gd2 {t : T} (h : Gd 2 t) : (vt t).length ≤ 29 := h.2
theorem wg_two {n : Nat} {w : Str} {u v : T} (hw : w = w_table ∨ w = w_apart) (hu : Gd 2 u) (hv : Gd 2 v) : WG n (.tup [.str w, u, v]) := by
  refine ⟨_, .inr (.inl ⟨w, u, v, hw, rfl, hu, hv, rfl⟩), ?_⟩
  have := wb_le n
  have := gd2 hu
  have := gd2 hv
  rw [List.length_cons, List.length_append]
  omega
theorem wg_some {n : Nat} {w : Str} {t v : T} (hw : w = w_some ∨ w = w_must) (h : WG n t) (hv : Gd 2 v) : WG (n + 1) (.tup [.str w, t, v]) := by
  obtain ⟨s, h1, h2⟩ := h
  refine ⟨_, .inr (.inr (.inl ⟨w, t, v, s, hw, rfl, hv, h1, rfl⟩)), ?_⟩
  have := gd2 hv
  rw [List.length_cons, List.length_append]
  show _ ≤ 30 + 2 * wb n
  omega
theorem wg_opt {n : Nat} {w : Str} {t : T} (hw : w = w_opt ∨ w = w_each) (h : WG n t) : WG (n + 1) (.tup [.str w, t]) := by
  obtain ⟨s, h1, h2⟩ := h
  refine ⟨_, .inr (.inr (.inr (.inl ⟨w, t, s, hw, rfl, h1, rfl⟩))), ?_⟩
  rw [List.length_cons]
  show _ ≤ 30 + 2 * wb n
  omega
theorem wg_arms {n : Nat} {w : Str} {l : List Tr} (hw : w = w_arms ∨ w = w_parts) (hl : l.length ≤ 2) (h : ∀ p ∈ l, TG n p) : WG (n + 1) (.tup [.str w, .tup (l.map trT)]) := by
  refine ⟨_, .inr (.inr (.inr (.inr ⟨w, l, hw, rfl, fun p hp => ⟨(h p hp).1, (h p hp).2.1, (h p hp).2.2.1⟩, rfl⟩))), ?_⟩
  have h1 := fm_trs (l := l) fun p hp => (h p hp).2.2.2
  have h2 : l.length * (wb n + 5) ≤ 2 * (wb n + 5) := Nat.mul_le_mul_right _ hl
  rw [List.length_cons, List.length_cons, List.length_append, List.length_singleton]
  show _ ≤ 30 + 2 * wb n
  omega
def pfWay (d : Addr) (n : Nat) : PSp := fun ts Φ => ∃ m : Nat, ts = [.adr d, .int (m : Int)] ∧ m ≤ n ∧ ∀ t, WG m t → Φ t false
def pfTrio (d : Addr) (n : Nat) : PSp := fun ts Φ => ∃ (w : Str) (m : Nat), ts = [.adr d, .str w, .int (m : Int)] ∧ m ≤ n ∧ ∀ p : Tr, TG m p → Φ (trT p) false
def pfTrio0 (d : Addr) : Nat → PSp
  | 0 => fun _ _ => False
  | n + 1 => pfTrio d n
def pfWay0 (d : Addr) : Nat → PSp
  | 0 => fun _ _ => False
  | n + 1 => pfWay d n
theorem ok_any_trio {d l : Addr} {k : Nat} {n : Nat} (D : Df K mg "_law_any_trio" s_any_trio)
    (C_any_name : CalQ P w K mg base (wd d l 3) "_law_any_name" k ["_law_d"] (pfName d))
    (C_any_place : CalQ P w K mg base (wd d l 3) "_law_any_place" k ["_law_d"] (pfPlace d))
    (C_any_way : CalQ P w K mg base (wd d l 3) "_law_any_way" k ["_law_d", "_law_deep"] (pfWay d n)) (m_range : mg "range" = none) :
    CalQ P w K mg base (wd d l 3) "_law_any_trio" (k + 1) ["_law_d", "_law_word", "_law_deep"] (pfTrio d n) := by
  refine CalQ.mk D sc_any_trio (fun _ _ _ _ _ _ us h => match us, h with | [_, _, _], _ => rfl) (fun ts Φ h => by first | (obtain ⟨rfl, _⟩ := h; rfl) | (obtain ⟨_, rfl, _⟩ := h; rfl) | (obtain ⟨_, _, rfl, _⟩ := h; rfl) | (obtain ⟨_, _, _, rfl, _⟩ := h; rfl) | (obtain ⟨_, _, _, _, rfl, _⟩ := h; rfl)) (fun f cdv A outer s H E hr => ?_)
  refine ⟨_, qss_cons (qs_setLc (i := 3) rfl (own := [("_law_k", 4)]) sc_any_trio.nd rfl rfl (sw_true rfl rfl rfl (by decide +kernel)) (by decide) (qi_range1 (by rfl) m_range qe_int) (blkOk_by (N := ["_law_d", "_law_word", "_law_deep", "_law_ends", "_law_k"]) (sc := defScope s_any_trio) (by decide +kernel)) (fun _ _ _ _ _ => (qg_name (pg_name (i := 4) sc_any_trio.nd rfl (.inl rfl)))) (fun _ _ _ _ _ => qts_nil) (fun _ _ _ _ _ => (qe_if (qt_cmp (oq_eq hr.units) (qe_name (pv 1)) qe_str (nomark _)) (qe_call C_any_name (hr.mono (by omega)) (by rfl) (qa_cons (qe_name (pv 0)) qa_nil)) (qe_call C_any_place (hr.mono (by omega)) (by rfl) (qa_cons (qe_name (pv 0)) qa_nil)))))
    (qss_one (qs_ret (qe_tup (qa_cons (qe_ix (qr_name (pv 3)) qe_int (fun _ _ => rfl)) (qa_cons (qe_ix (qr_name (pv 3)) qe_int (fun _ _ => rfl)) (qa_cons (qe_call C_any_way (hr.mono (by omega)) (by rfl) (qa_cons (qe_name (pv 0)) (qa_cons (qe_name (pv 2)) qa_nil))) qa_nil)))))), ?_⟩
  intro ts Φ h
  obtain ⟨w, m, rfl, hm, h⟩ := h
  simp only [↓reduceIte, ↓sSeq, ↓sAsg, ↓sIf, ↓sRet, ↓sRetN, ↓sExpr, ↓sNext, ↓sBreak, ↓sCont, ↓sAug, ↓sFor, ↓gN, ↓pIx, ↓pC, ↓pTup, ↓pLst, ↓pCons, ↓pNil, ↓pStar, ↓pOp, ↓pTB, ↓pTru, ↓pTAnd, ↓pTOr, ↓pTNot, ↓pAndV, ↓pOrV, ↓pNotV, ↓pIf, ↓pCall, ↓pLen, ↓pIsi, ↓pDget, ↓gDset, ↓gSubT, ↓PEq, ↓PNe, ↓pChain, ↓pNeg, ↓pSl, ↓pNoPart, ↓pPart, ↓pIter, ↓pRng1, ↓pRng2, ↓pEnum, ↓pRev, ↓pZip, ↓pMet, ↓pMet0, ↓pMut, ↓pLc, ↓pLRng1, ↓pLRng2, ↓pYes, ↓pRE, ↓startP, ↓pWords, ↓pSplit, ↓gLt, ↓gLe, ↓gGt, ↓gGe, ↓pV_f0, ↓pV_o0, ↓pRV_f0, ↓pRV_o0, ↓lk_f0, ↓lk_o0, ↓sRV_f0, ↓sRV_o0, ↓pV_f1, ↓pV_o1, ↓pRV_f1, ↓pRV_o1, ↓lk_f1, ↓lk_o1, ↓sRV_f1, ↓sRV_o1, ↓pV_f2, ↓pV_o2, ↓pRV_f2, ↓pRV_o2, ↓lk_f2, ↓lk_o2, ↓sRV_f2, ↓sRV_o2, ↓pV_f3, ↓pV_o3, ↓pRV_f3, ↓pRV_o3, ↓lk_f3, ↓lk_o3, ↓sRV_f3, ↓sRV_o3, ↓pV_f4, ↓pV_o4, ↓pRV_f4, ↓pRV_o4, ↓lk_f4, ↓lk_o4, ↓sRV_f4, ↓sRV_o4, ↓pV_f5, ↓pV_o5, ↓pRV_f5, ↓pRV_o5, ↓lk_f5, ↓lk_o5, ↓sRV_f5, ↓sRV_o5, ↓pV_f6, ↓pV_o6, ↓pRV_f6, ↓pRV_o6, ↓lk_f6, ↓lk_o6, ↓sRV_f6, ↓sRV_o6, ↓pV_f7, ↓pV_o7, ↓pRV_f7, ↓pRV_o7, ↓lk_f7, ↓lk_o7, ↓sRV_f7, ↓sRV_o7, ↓pV_f8, ↓pV_o8, ↓pRV_f8, ↓pRV_o8, ↓lk_f8, ↓lk_o8, ↓sRV_f8, ↓sRV_o8, ↓pV_f9, ↓pV_o9, ↓pRV_f9, ↓pRV_o9, ↓lk_f9, ↓lk_o9, ↓sRV_f9, ↓sRV_o9, ↓pV_f10, ↓pV_o10, ↓pRV_f10, ↓pRV_o10, ↓lk_f10, ↓lk_o10, ↓sRV_f10, ↓sRV_o10, ↓pV_f11, ↓pV_o11, ↓pRV_f11, ↓pRV_o11, ↓lk_f11, ↓lk_o11, ↓sRV_f11, ↓sRV_o11, ↓pV_f12, ↓pV_o12, ↓pRV_f12, ↓pRV_o12, ↓lk_f12, ↓lk_o12, ↓sRV_f12, ↓sRV_o12, ↓pV_f13, ↓pV_o13, ↓pRV_f13, ↓pRV_o13, ↓lk_f13, ↓lk_o13, ↓sRV_f13, ↓sRV_o13, ↓lk_fz, ↓of_fn, ↓of_fb, ↓of_fi, ↓of_fs, ↓of_ft, ↓of_fl, ↓of_ol, ↓of_ff, ↓ad_i, ↓ad_s, ↓ad_l, ↓ad_t, ↓su_i, ↓mu_i, ↓mu_l, ↓mo_i, ↓fd_i, ↓pw_i, ↓an_i, ↓ci_i, ↓is_n, ↓is_nn, ↓in_t, ↓in_l, ↓in_s, ↓ix_l, ↓ix_t, ↓ix_s, ↓sl_l, ↓sl_t, ↓sl_s, ↓kn_i, ↓kp_i, ↓kr1, ↓kr2, ↓ke_l, ↓kz_l, ↓kz_t, ↓klr1, ↓klr2, ↓gt_e, ↓gs_n, ↓gs_c, nc_0, nc_1, nc_2, nc_3, nc_4, nc_5, nc_6, nc_7, nc_8, nc_9, nc_10, nc_11, nc_12, eq_ii, eq_ss, eq_nn, eq_bb, eq_st, eq_ts, eq_si, eq_is, eq_it, eq_ti, cmp_i, cmp_b, cmp_n, sc_i, sc_s, sc_b, sc_n, flat_i, flat_s, flat_b, flat_n, tru_n, tru_b, tru_i, tru_t, tru_l, items_t, items_l, len_t, len_l, iter_t, iter_l, isN_n, isN_i, isN_s, isN_t, isN_l, isN_b, at_0, at_1, at_2, at_3, ib_tn, ib_tb, ib_ti, ib_ts, ib_tt, ib_tl, ib_sn, ib_sb, ib_si, ib_ss, ib_st, ib_sl, ib_in, ib_ib, ib_ii, ib_is, ib_it, ib_il, ib_bn, ib_bb, ib_bi, ib_bs, ib_bt, ib_bl, na_n, na_b, na_i, na_s, na_t, na_l, List.getElem?_cons_zero, List.getElem?_cons_succ, List.set_cons_zero, List.set_cons_succ, List.map_cons, List.map_nil, List.length_cons, List.length_nil, List.replicate_succ, List.replicate_zero, List.cons_append, List.nil_append, List.append_nil, List.isEmpty_nil, List.isEmpty_cons, List.cons.injEq, Option.some.injEq, T.int.injEq, T.str.injEq, T.bl.injEq, T.tup.injEq, T.lst.injEq, T.adr.injEq, Sl.fz.injEq, Sl.ow.injEq, exists_eq_left, exists_eq_left', exists_eq_right, exists_eq_right', exists_eq, exists_eq', exists_and_left, exists_and_right, exists_const, exists_false, and_true, true_and, and_false, false_and, or_true, true_or, or_false, false_or, not_true_eq_false, not_false_eq_true, if_true, if_false, ite_true, ite_false, Bool.not_true, Bool.not_false, Bool.true_or, Bool.or_true, Bool.false_or, Bool.or_false, Bool.true_and, Bool.and_true, Bool.false_and, Bool.and_false, Bool.false_eq_true, Bool.true_eq_false, eq_self, decide_eq_true_eq, decide_true, decide_false, Bool.decide_eq_true, Bool.not_eq_true, decide_eq_false_iff_not, Bool.and_eq_true, Bool.or_eq_true, Bool.not_eq_true', reduceCtorEq, ne_eq, Nat.le_refl, Nat.reduceAdd, Nat.reduceSub, Nat.reduceLeDiff, Nat.reduceLT, implies_true, forall_const, List.any_cons, List.any_nil, List.all_cons, List.all_nil, wipeP, restore, List.getD_eq_getElem?_getD, Option.getD_some, List.mem_singleton, forall_eq, Int.reduceLT, Int.reduceLE, Int.reduceNeg, Int.reduceSub, Int.reduceAdd, Int.reduceToNat, Int.reduceEq, Int.reduceNe, String.reduceEq, and_self, or_self]
  refine ⟨by decide, by decide, by rw [rng_len]; decide, by simp, fun i acc ρ => ρ = [Sl.fz (T.adr d), Sl.fz (T.str w), Sl.fz (T.int (m : Int)), Sl.no, Sl.no] ∧ acc.length = i ∧ ∀ t ∈ acc, ∃ e, Ed t e, ⟨rfl, rfl, fun t h => by cases h⟩, ?_, ?_⟩
  · rintro i t acc ρ2 e hacc ⟨rfl, hl, ha⟩
    obtain ⟨hi, rfl⟩ := rng_get e
    have step : ∀ t e, Ed t e → (acc ++ [t]).length = i + 1 ∧ ∀ u ∈ acc ++ [t], ∃ e, Ed u e := fun t e ht => by
      refine ⟨by rw [List.length_append, hl]; rfl, fun u hu => ?_⟩
      rcases List.mem_append.mp hu with hu | hu
      · exact ha u hu
      · rw [List.mem_singleton.mp hu]
        exact ⟨e, ht⟩
    simp only [↓reduceIte, ↓sSeq, ↓sAsg, ↓sIf, ↓sRet, ↓sRetN, ↓sExpr, ↓sNext, ↓sBreak, ↓sCont, ↓sAug, ↓sFor, ↓gN, ↓pIx, ↓pC, ↓pTup, ↓pLst, ↓pCons, ↓pNil, ↓pStar, ↓pOp, ↓pTB, ↓pTru, ↓pTAnd, ↓pTOr, ↓pTNot, ↓pAndV, ↓pOrV, ↓pNotV, ↓pIf, ↓pCall, ↓pLen, ↓pIsi, ↓pDget, ↓gDset, ↓gSubT, ↓PEq, ↓PNe, ↓pChain, ↓pNeg, ↓pSl, ↓pNoPart, ↓pPart, ↓pIter, ↓pRng1, ↓pRng2, ↓pEnum, ↓pRev, ↓pZip, ↓pMet, ↓pMet0, ↓pMut, ↓pLc, ↓pLRng1, ↓pLRng2, ↓pYes, ↓pRE, ↓startP, ↓pWords, ↓pSplit, ↓gLt, ↓gLe, ↓gGt, ↓gGe, ↓pV_f0, ↓pV_o0, ↓pRV_f0, ↓pRV_o0, ↓lk_f0, ↓lk_o0, ↓sRV_f0, ↓sRV_o0, ↓pV_f1, ↓pV_o1, ↓pRV_f1, ↓pRV_o1, ↓lk_f1, ↓lk_o1, ↓sRV_f1, ↓sRV_o1, ↓pV_f2, ↓pV_o2, ↓pRV_f2, ↓pRV_o2, ↓lk_f2, ↓lk_o2, ↓sRV_f2, ↓sRV_o2, ↓pV_f3, ↓pV_o3, ↓pRV_f3, ↓pRV_o3, ↓lk_f3, ↓lk_o3, ↓sRV_f3, ↓sRV_o3, ↓pV_f4, ↓pV_o4, ↓pRV_f4, ↓pRV_o4, ↓lk_f4, ↓lk_o4, ↓sRV_f4, ↓sRV_o4, ↓pV_f5, ↓pV_o5, ↓pRV_f5, ↓pRV_o5, ↓lk_f5, ↓lk_o5, ↓sRV_f5, ↓sRV_o5, ↓pV_f6, ↓pV_o6, ↓pRV_f6, ↓pRV_o6, ↓lk_f6, ↓lk_o6, ↓sRV_f6, ↓sRV_o6, ↓pV_f7, ↓pV_o7, ↓pRV_f7, ↓pRV_o7, ↓lk_f7, ↓lk_o7, ↓sRV_f7, ↓sRV_o7, ↓pV_f8, ↓pV_o8, ↓pRV_f8, ↓pRV_o8, ↓lk_f8, ↓lk_o8, ↓sRV_f8, ↓sRV_o8, ↓pV_f9, ↓pV_o9, ↓pRV_f9, ↓pRV_o9, ↓lk_f9, ↓lk_o9, ↓sRV_f9, ↓sRV_o9, ↓pV_f10, ↓pV_o10, ↓pRV_f10, ↓pRV_o10, ↓lk_f10, ↓lk_o10, ↓sRV_f10, ↓sRV_o10, ↓pV_f11, ↓pV_o11, ↓pRV_f11, ↓pRV_o11, ↓lk_f11, ↓lk_o11, ↓sRV_f11, ↓sRV_o11, ↓pV_f12, ↓pV_o12, ↓pRV_f12, ↓pRV_o12, ↓lk_f12, ↓lk_o12, ↓sRV_f12, ↓sRV_o12, ↓pV_f13, ↓pV_o13, ↓pRV_f13, ↓pRV_o13, ↓lk_f13, ↓lk_o13, ↓sRV_f13, ↓sRV_o13, ↓lk_fz, ↓of_fn, ↓of_fb, ↓of_fi, ↓of_fs, ↓of_ft, ↓of_fl, ↓of_ol, ↓of_ff, ↓ad_i, ↓ad_s, ↓ad_l, ↓ad_t, ↓su_i, ↓mu_i, ↓mu_l, ↓mo_i, ↓fd_i, ↓pw_i, ↓an_i, ↓ci_i, ↓is_n, ↓is_nn, ↓in_t, ↓in_l, ↓in_s, ↓ix_l, ↓ix_t, ↓ix_s, ↓sl_l, ↓sl_t, ↓sl_s, ↓kn_i, ↓kp_i, ↓kr1, ↓kr2, ↓ke_l, ↓kz_l, ↓kz_t, ↓klr1, ↓klr2, ↓gt_e, ↓gs_n, ↓gs_c, nc_0, nc_1, nc_2, nc_3, nc_4, nc_5, nc_6, nc_7, nc_8, nc_9, nc_10, nc_11, nc_12, eq_ii, eq_ss, eq_nn, eq_bb, eq_st, eq_ts, eq_si, eq_is, eq_it, eq_ti, cmp_i, cmp_b, cmp_n, sc_i, sc_s, sc_b, sc_n, flat_i, flat_s, flat_b, flat_n, tru_n, tru_b, tru_i, tru_t, tru_l, items_t, items_l, len_t, len_l, iter_t, iter_l, isN_n, isN_i, isN_s, isN_t, isN_l, isN_b, at_0, at_1, at_2, at_3, ib_tn, ib_tb, ib_ti, ib_ts, ib_tt, ib_tl, ib_sn, ib_sb, ib_si, ib_ss, ib_st, ib_sl, ib_in, ib_ib, ib_ii, ib_is, ib_it, ib_il, ib_bn, ib_bb, ib_bi, ib_bs, ib_bt, ib_bl, na_n, na_b, na_i, na_s, na_t, na_l, List.getElem?_cons_zero, List.getElem?_cons_succ, List.set_cons_zero, List.set_cons_succ, List.map_cons, List.map_nil, List.length_cons, List.length_nil, List.replicate_succ, List.replicate_zero, List.cons_append, List.nil_append, List.append_nil, List.isEmpty_nil, List.isEmpty_cons, List.cons.injEq, Option.some.injEq, T.int.injEq, T.str.injEq, T.bl.injEq, T.tup.injEq, T.lst.injEq, T.adr.injEq, Sl.fz.injEq, Sl.ow.injEq, exists_eq_left, exists_eq_left', exists_eq_right, exists_eq_right', exists_eq, exists_eq', exists_and_left, exists_and_right, exists_const, exists_false, and_true, true_and, and_false, false_and, or_true, true_or, or_false, false_or, not_true_eq_false, not_false_eq_true, if_true, if_false, ite_true, ite_false, Bool.not_true, Bool.not_false, Bool.true_or, Bool.or_true, Bool.false_or, Bool.or_false, Bool.true_and, Bool.and_true, Bool.false_and, Bool.and_false, Bool.false_eq_true, Bool.true_eq_false, eq_self, decide_eq_true_eq, decide_true, decide_false, Bool.decide_eq_true, Bool.not_eq_true, decide_eq_false_iff_not, Bool.and_eq_true, Bool.or_eq_true, Bool.not_eq_true', reduceCtorEq, ne_eq, Nat.le_refl, Nat.reduceAdd, Nat.reduceSub, Nat.reduceLeDiff, Nat.reduceLT, implies_true, forall_const, List.any_cons, List.any_nil, List.all_cons, List.all_nil, wipeP, restore, List.getD_eq_getElem?_getD, Option.getD_some, List.mem_singleton, forall_eq, Int.reduceLT, Int.reduceLE, Int.reduceNeg, Int.reduceSub, Int.reduceAdd, Int.reduceToNat, Int.reduceEq, Int.reduceNe, String.reduceEq, and_self, or_self, pfName, pfPlace]
    split
    · exact fun x hx => step _ x (.inr (.inr ⟨rfl, hx⟩))
    · exact fun t e ht => step t e ht
  · rintro acc ρ2 hacc ⟨rfl, hl, ha⟩
    rw [rng_len] at hl
    obtain ⟨t1, t2, rfl⟩ : ∃ t1 t2, acc = [t1, t2] := by
      match acc, hl with
      | [a, b], _ => exact ⟨a, b, rfl⟩
    obtain ⟨e1, h1⟩ := ha t1 (by simp)
    obtain ⟨e2, h2⟩ := ha t2 (by simp)
    simp only [↓reduceIte, ↓sSeq, ↓sAsg, ↓sIf, ↓sRet, ↓sRetN, ↓sExpr, ↓sNext, ↓sBreak, ↓sCont, ↓sAug, ↓sFor, ↓gN, ↓pIx, ↓pC, ↓pTup, ↓pLst, ↓pCons, ↓pNil, ↓pStar, ↓pOp, ↓pTB, ↓pTru, ↓pTAnd, ↓pTOr, ↓pTNot, ↓pAndV, ↓pOrV, ↓pNotV, ↓pIf, ↓pCall, ↓pLen, ↓pIsi, ↓pDget, ↓gDset, ↓gSubT, ↓PEq, ↓PNe, ↓pChain, ↓pNeg, ↓pSl, ↓pNoPart, ↓pPart, ↓pIter, ↓pRng1, ↓pRng2, ↓pEnum, ↓pRev, ↓pZip, ↓pMet, ↓pMet0, ↓pMut, ↓pLc, ↓pLRng1, ↓pLRng2, ↓pYes, ↓pRE, ↓startP, ↓pWords, ↓pSplit, ↓gLt, ↓gLe, ↓gGt, ↓gGe, ↓pV_f0, ↓pV_o0, ↓pRV_f0, ↓pRV_o0, ↓lk_f0, ↓lk_o0, ↓sRV_f0, ↓sRV_o0, ↓pV_f1, ↓pV_o1, ↓pRV_f1, ↓pRV_o1, ↓lk_f1, ↓lk_o1, ↓sRV_f1, ↓sRV_o1, ↓pV_f2, ↓pV_o2, ↓pRV_f2, ↓pRV_o2, ↓lk_f2, ↓lk_o2, ↓sRV_f2, ↓sRV_o2, ↓pV_f3, ↓pV_o3, ↓pRV_f3, ↓pRV_o3, ↓lk_f3, ↓lk_o3, ↓sRV_f3, ↓sRV_o3, ↓pV_f4, ↓pV_o4, ↓pRV_f4, ↓pRV_o4, ↓lk_f4, ↓lk_o4, ↓sRV_f4, ↓sRV_o4, ↓pV_f5, ↓pV_o5, ↓pRV_f5, ↓pRV_o5, ↓lk_f5, ↓lk_o5, ↓sRV_f5, ↓sRV_o5, ↓pV_f6, ↓pV_o6, ↓pRV_f6, ↓pRV_o6, ↓lk_f6, ↓lk_o6, ↓sRV_f6, ↓sRV_o6, ↓pV_f7, ↓pV_o7, ↓pRV_f7, ↓pRV_o7, ↓lk_f7, ↓lk_o7, ↓sRV_f7, ↓sRV_o7, ↓pV_f8, ↓pV_o8, ↓pRV_f8, ↓pRV_o8, ↓lk_f8, ↓lk_o8, ↓sRV_f8, ↓sRV_o8, ↓pV_f9, ↓pV_o9, ↓pRV_f9, ↓pRV_o9, ↓lk_f9, ↓lk_o9, ↓sRV_f9, ↓sRV_o9, ↓pV_f10, ↓pV_o10, ↓pRV_f10, ↓pRV_o10, ↓lk_f10, ↓lk_o10, ↓sRV_f10, ↓sRV_o10, ↓pV_f11, ↓pV_o11, ↓pRV_f11, ↓pRV_o11, ↓lk_f11, ↓lk_o11, ↓sRV_f11, ↓sRV_o11, ↓pV_f12, ↓pV_o12, ↓pRV_f12, ↓pRV_o12, ↓lk_f12, ↓lk_o12, ↓sRV_f12, ↓sRV_o12, ↓pV_f13, ↓pV_o13, ↓pRV_f13, ↓pRV_o13, ↓lk_f13, ↓lk_o13, ↓sRV_f13, ↓sRV_o13, ↓lk_fz, ↓of_fn, ↓of_fb, ↓of_fi, ↓of_fs, ↓of_ft, ↓of_fl, ↓of_ol, ↓of_ff, ↓ad_i, ↓ad_s, ↓ad_l, ↓ad_t, ↓su_i, ↓mu_i, ↓mu_l, ↓mo_i, ↓fd_i, ↓pw_i, ↓an_i, ↓ci_i, ↓is_n, ↓is_nn, ↓in_t, ↓in_l, ↓in_s, ↓ix_l, ↓ix_t, ↓ix_s, ↓sl_l, ↓sl_t, ↓sl_s, ↓kn_i, ↓kp_i, ↓kr1, ↓kr2, ↓ke_l, ↓kz_l, ↓kz_t, ↓klr1, ↓klr2, ↓gt_e, ↓gs_n, ↓gs_c, nc_0, nc_1, nc_2, nc_3, nc_4, nc_5, nc_6, nc_7, nc_8, nc_9, nc_10, nc_11, nc_12, eq_ii, eq_ss, eq_nn, eq_bb, eq_st, eq_ts, eq_si, eq_is, eq_it, eq_ti, cmp_i, cmp_b, cmp_n, sc_i, sc_s, sc_b, sc_n, flat_i, flat_s, flat_b, flat_n, tru_n, tru_b, tru_i, tru_t, tru_l, items_t, items_l, len_t, len_l, iter_t, iter_l, isN_n, isN_i, isN_s, isN_t, isN_l, isN_b, at_0, at_1, at_2, at_3, ib_tn, ib_tb, ib_ti, ib_ts, ib_tt, ib_tl, ib_sn, ib_sb, ib_si, ib_ss, ib_st, ib_sl, ib_in, ib_ib, ib_ii, ib_is, ib_it, ib_il, ib_bn, ib_bb, ib_bi, ib_bs, ib_bt, ib_bl, na_n, na_b, na_i, na_s, na_t, na_l, List.getElem?_cons_zero, List.getElem?_cons_succ, List.set_cons_zero, List.set_cons_succ, List.map_cons, List.map_nil, List.length_cons, List.length_nil, List.replicate_succ, List.replicate_zero, List.cons_append, List.nil_append, List.append_nil, List.isEmpty_nil, List.isEmpty_cons, List.cons.injEq, Option.some.injEq, T.int.injEq, T.str.injEq, T.bl.injEq, T.tup.injEq, T.lst.injEq, T.adr.injEq, Sl.fz.injEq, Sl.ow.injEq, exists_eq_left, exists_eq_left', exists_eq_right, exists_eq_right', exists_eq, exists_eq', exists_and_left, exists_and_right, exists_const, exists_false, and_true, true_and, and_false, false_and, or_true, true_or, or_false, false_or, not_true_eq_false, not_false_eq_true, if_true, if_false, ite_true, ite_false, Bool.not_true, Bool.not_false, Bool.true_or, Bool.or_true, Bool.false_or, Bool.or_false, Bool.true_and, Bool.and_true, Bool.false_and, Bool.and_false, Bool.false_eq_true, Bool.true_eq_false, eq_self, decide_eq_true_eq, decide_true, decide_false, Bool.decide_eq_true, Bool.not_eq_true, decide_eq_false_iff_not, Bool.and_eq_true, Bool.or_eq_true, Bool.not_eq_true', reduceCtorEq, ne_eq, Nat.le_refl, Nat.reduceAdd, Nat.reduceSub, Nat.reduceLeDiff, Nat.reduceLT, implies_true, forall_const, List.any_cons, List.any_nil, List.all_cons, List.all_nil, wipeP, restore, List.getD_eq_getElem?_getD, Option.getD_some, List.mem_singleton, forall_eq, Int.reduceLT, Int.reduceLE, Int.reduceNeg, Int.reduceSub, Int.reduceAdd, Int.reduceToNat, Int.reduceEq, Int.reduceNe, String.reduceEq, and_self, or_self, pfWay]
    refine ⟨m, rfl, hm, ?_⟩
    rintro t ⟨s, hs, hb⟩
    exact h ((t1, e1), (t2, e2), t, s) ⟨h1, h2, hs, hb⟩
theorem ok_any_way {d l : Addr} {k : Nat} {n : Nat} (D : Df K mg "_law_any_way" s_any_way)
    (C_draw : CalQ P w K mg base (wd d l 3) "_law_draw" k ["_law_d", "_law_many"] (pDraw d))
    (C_any_value : CalQ P w K mg base (wd d l 3) "_law_any_value" k ["_law_d", "_law_deep"] (pfValue d 2))
    (C_any_trio : CalQ P w K mg base (wd d l 3) "_law_any_trio" k ["_law_d", "_law_word", "_law_deep"] (pfTrio0 d n))
    (C_any_way : CalQ P w K mg base (wd d l 3) "_law_any_way" k ["_law_d", "_law_deep"] (pfWay0 d n)) (m_tuple : mg "tuple" = none) (m_range : mg "range" = none) :
    CalQ P w K mg base (wd d l 3) "_law_any_way" (k + 1) ["_law_d", "_law_deep"] (pfWay d n) := by
  refine CalQ.mk D sc_any_way (fun _ _ _ _ _ _ us h => match us, h with | [_, _], _ => rfl) (fun ts Φ h => by first | (obtain ⟨rfl, _⟩ := h; rfl) | (obtain ⟨_, rfl, _⟩ := h; rfl) | (obtain ⟨_, _, rfl, _⟩ := h; rfl) | (obtain ⟨_, _, _, rfl, _⟩ := h; rfl) | (obtain ⟨_, _, _, _, rfl, _⟩ := h; rfl)) (fun f cdv A outer s H E hr => ?_)
  refine ⟨_, qss_cons (qs_asg (qe_op oq_sub (qe_dget (qe_name (pv 0)) qe_int (fun _ _ => rfl)) qe_int) (qg_dset (qe_name (pv 0)) qe_int))
    (qss_cons (qs_set (i := 2) sc_any_way.nd rfl (.inl rfl) (qe_call C_draw (hr.mono (by omega)) (by rfl) (qa_cons (qe_name (pv 0)) (qa_cons qe_int qa_nil))))
    (qss_cons (qs_if (QW.qt (qw_or (qt_cmp (oq_eq hr.units) (qe_name (pv 1)) qe_int (nomark _)) (qw_or (qt_cmp oq_le (qe_dget (qe_name (pv 0)) qe_int (fun _ _ => rfl)) qe_int (nomark _)) (qw_or1 (QW.qt (qw_and (qt_cmp oq_le qe_int (qe_name (pv 2)) (nomark _)) (qw_and (qt_cmp oq_lt (qe_name (pv 2)) qe_int (nomark _)) (qw_and1 (qt_cmp oq_le (qe_dget (qe_name (pv 0)) qe_int (fun _ _ => rfl)) qe_int (nomark _))))))))))
    (qss_one (qs_set (i := 2) sc_any_way.nd rfl (.inl rfl) (qe_op oq_fdiv (qe_name (pv 2)) qe_int)))
    (qss_nil))
    (qss_cons (qs_if (qt_cmp oq_lt (qe_name (pv 2)) qe_int (nomark _))
    (qss_one (qs_ret (qe_tup (qa_cons (qe_ix (qr_of (qe_lst (qa_cons qe_str (qa_cons qe_str (qa_cons qe_str qa_nil))))) (qe_name (pv 2)) (fun _ _ => rfl)) qa_nil))))
    (qss_nil))
    (qss_cons (qs_if (qt_cmp oq_lt (qe_name (pv 2)) qe_int (nomark _))
    (qss_cons (qs_set (i := 3) sc_any_way.nd rfl (.inl rfl) (qe_call C_any_value (hr.mono (by omega)) (by rfl) (qa_cons (qe_name (pv 0)) (qa_cons qe_int qa_nil))))
      (qss_one (qs_ret (qe_tup (qa_cons (qe_ix (qr_of (qe_lst (qa_cons qe_str (qa_cons qe_str qa_nil)))) (qe_op oq_sub (qe_name (pv 2)) qe_int) (fun _ _ => rfl)) (qa_cons (qe_name (pv 3)) (qa_cons (qe_call C_any_value (hr.mono (by omega)) (by rfl) (qa_cons (qe_name (pv 0)) (qa_cons qe_int qa_nil))) qa_nil)))))))
    (qss_nil))
    (qss_cons (qs_if (qt_cmp oq_ge (qe_name (pv 2)) qe_int (nomark _))
    (qss_cons (qs_set (i := 4) sc_any_way.nd rfl (.inr rfl) (qe_ix (qr_of (qe_lst (qa_cons qe_str (qa_cons qe_str qa_nil)))) (qe_op oq_sub (qe_name (pv 2)) qe_int) (fun _ _ => rfl)))
      (qss_one (qs_ret (qe_tup (qa_cons (qe_name (pv 4)) (qa_cons (qe_callTy cq_tuple (by rfl) m_tuple (by decide +kernel) (qa_cons (qe_lc rfl (own := [("_law_k", 6)]) sc_any_way.nd (by decide) (qi_range1 (by rfl) m_range (qe_call C_draw (hr.mono (by omega)) (by rfl) (qa_cons (qe_name (pv 0)) (qa_cons qe_int qa_nil)))) (blkOk_by (N := ["_law_d", "_law_deep", "_law_shape", "_law_first", "_law_word", "_law_inner", "_law_k"]) (sc := defScope s_any_way) (by decide +kernel)) (fun _ _ _ _ _ => (qg_name (pg_name (i := 6) sc_any_way.nd rfl (.inl rfl)))) (fun _ _ _ _ _ => qts_nil) (fun _ _ _ _ _ => (qe_call C_any_trio (hr.mono (by omega)) (by rfl) (qa_cons (qe_name (pv 0)) (qa_cons (qe_name (pv 4)) (qa_cons (qe_op oq_sub (qe_name (pv 1)) qe_int) qa_nil)))))) qa_nil)) qa_nil))))))
    (qss_nil))
    (qss_cons (qs_asg (qe_op oq_sub (qe_dget (qe_name (pv 0)) qe_int (fun _ _ => rfl)) qe_int) (qg_dset (qe_name (pv 0)) qe_int))
    (qss_cons (qs_set (i := 5) sc_any_way.nd rfl (.inl rfl) (qe_call C_any_way (hr.mono (by omega)) (by rfl) (qa_cons (qe_name (pv 0)) (qa_cons (qe_op oq_sub (qe_name (pv 1)) qe_int) qa_nil))))
    (qss_cons (qs_if (qt_cmp oq_lt (qe_name (pv 2)) qe_int (nomark _))
    (qss_one (qs_ret (qe_tup (qa_cons (qe_ix (qr_of (qe_lst (qa_cons qe_str (qa_cons qe_str qa_nil)))) (qe_op oq_sub (qe_name (pv 2)) qe_int) (fun _ _ => rfl)) (qa_cons (qe_name (pv 5)) (qa_cons (qe_call C_any_value (hr.mono (by omega)) (by rfl) (qa_cons (qe_name (pv 0)) (qa_cons qe_int qa_nil))) qa_nil))))))
    (qss_nil))
    (qss_one (qs_ret (qe_tup (qa_cons (qe_ix (qr_of (qe_lst (qa_cons qe_str (qa_cons qe_str qa_nil)))) (qe_op oq_sub (qe_name (pv 2)) qe_int) (fun _ _ => rfl)) (qa_cons (qe_name (pv 5)) qa_nil))))))))))))), ?_⟩
  intro ts Φ h
  obtain ⟨n', rfl, hle, h⟩ := h
  refine seq3_by (fun ρ => ∃ r : Int, ρ = [Sl.fz (T.adr d), Sl.fz (T.int (n' : Int)), Sl.fz (T.int r), Sl.no, Sl.no, Sl.no, Sl.no] ∧ 0 ≤ r ∧ r < 11 ∧ (n' = 0 → r < 4)) (fun nx hnx => ?_) ?_
  · simp only [↓reduceIte, ↓sSeq, ↓sAsg, ↓sIf, ↓sRet, ↓sRetN, ↓sExpr, ↓sNext, ↓sBreak, ↓sCont, ↓sAug, ↓sFor, ↓gN, ↓pIx, ↓pC, ↓pTup, ↓pLst, ↓pCons, ↓pNil, ↓pStar, ↓pOp, ↓pTB, ↓pTru, ↓pTAnd, ↓pTOr, ↓pTNot, ↓pAndV, ↓pOrV, ↓pNotV, ↓pIf, ↓pCall, ↓pLen, ↓pIsi, ↓pDget, ↓gDset, ↓gSubT, ↓PEq, ↓PNe, ↓pChain, ↓pNeg, ↓pSl, ↓pNoPart, ↓pPart, ↓pIter, ↓pRng1, ↓pRng2, ↓pEnum, ↓pRev, ↓pZip, ↓pMet, ↓pMet0, ↓pMut, ↓pLc, ↓pLRng1, ↓pLRng2, ↓pYes, ↓pRE, ↓startP, ↓pWords, ↓pSplit, ↓gLt, ↓gLe, ↓gGt, ↓gGe, ↓pV_f0, ↓pV_o0, ↓pRV_f0, ↓pRV_o0, ↓lk_f0, ↓lk_o0, ↓sRV_f0, ↓sRV_o0, ↓pV_f1, ↓pV_o1, ↓pRV_f1, ↓pRV_o1, ↓lk_f1, ↓lk_o1, ↓sRV_f1, ↓sRV_o1, ↓pV_f2, ↓pV_o2, ↓pRV_f2, ↓pRV_o2, ↓lk_f2, ↓lk_o2, ↓sRV_f2, ↓sRV_o2, ↓pV_f3, ↓pV_o3, ↓pRV_f3, ↓pRV_o3, ↓lk_f3, ↓lk_o3, ↓sRV_f3, ↓sRV_o3, ↓pV_f4, ↓pV_o4, ↓pRV_f4, ↓pRV_o4, ↓lk_f4, ↓lk_o4, ↓sRV_f4, ↓sRV_o4, ↓pV_f5, ↓pV_o5, ↓pRV_f5, ↓pRV_o5, ↓lk_f5, ↓lk_o5, ↓sRV_f5, ↓sRV_o5, ↓pV_f6, ↓pV_o6, ↓pRV_f6, ↓pRV_o6, ↓lk_f6, ↓lk_o6, ↓sRV_f6, ↓sRV_o6, ↓pV_f7, ↓pV_o7, ↓pRV_f7, ↓pRV_o7, ↓lk_f7, ↓lk_o7, ↓sRV_f7, ↓sRV_o7, ↓pV_f8, ↓pV_o8, ↓pRV_f8, ↓pRV_o8, ↓lk_f8, ↓lk_o8, ↓sRV_f8, ↓sRV_o8, ↓pV_f9, ↓pV_o9, ↓pRV_f9, ↓pRV_o9, ↓lk_f9, ↓lk_o9, ↓sRV_f9, ↓sRV_o9, ↓pV_f10, ↓pV_o10, ↓pRV_f10, ↓pRV_o10, ↓lk_f10, ↓lk_o10, ↓sRV_f10, ↓sRV_o10, ↓pV_f11, ↓pV_o11, ↓pRV_f11, ↓pRV_o11, ↓lk_f11, ↓lk_o11, ↓sRV_f11, ↓sRV_o11, ↓pV_f12, ↓pV_o12, ↓pRV_f12, ↓pRV_o12, ↓lk_f12, ↓lk_o12, ↓sRV_f12, ↓sRV_o12, ↓pV_f13, ↓pV_o13, ↓pRV_f13, ↓pRV_o13, ↓lk_f13, ↓lk_o13, ↓sRV_f13, ↓sRV_o13, ↓lk_fz, ↓of_fn, ↓of_fb, ↓of_fi, ↓of_fs, ↓of_ft, ↓of_fl, ↓of_ol, ↓of_ff, ↓ad_i, ↓ad_s, ↓ad_l, ↓ad_t, ↓su_i, ↓mu_i, ↓mu_l, ↓mo_i, ↓fd_i, ↓pw_i, ↓an_i, ↓ci_i, ↓is_n, ↓is_nn, ↓in_t, ↓in_l, ↓in_s, ↓ix_l, ↓ix_t, ↓ix_s, ↓sl_l, ↓sl_t, ↓sl_s, ↓kn_i, ↓kp_i, ↓kr1, ↓kr2, ↓ke_l, ↓kz_l, ↓kz_t, ↓klr1, ↓klr2, ↓gt_e, ↓gs_n, ↓gs_c, nc_0, nc_1, nc_2, nc_3, nc_4, nc_5, nc_6, nc_7, nc_8, nc_9, nc_10, nc_11, nc_12, eq_ii, eq_ss, eq_nn, eq_bb, eq_st, eq_ts, eq_si, eq_is, eq_it, eq_ti, cmp_i, cmp_b, cmp_n, sc_i, sc_s, sc_b, sc_n, flat_i, flat_s, flat_b, flat_n, tru_n, tru_b, tru_i, tru_t, tru_l, items_t, items_l, len_t, len_l, iter_t, iter_l, isN_n, isN_i, isN_s, isN_t, isN_l, isN_b, at_0, at_1, at_2, at_3, ib_tn, ib_tb, ib_ti, ib_ts, ib_tt, ib_tl, ib_sn, ib_sb, ib_si, ib_ss, ib_st, ib_sl, ib_in, ib_ib, ib_ii, ib_is, ib_it, ib_il, ib_bn, ib_bb, ib_bi, ib_bs, ib_bt, ib_bl, na_n, na_b, na_i, na_s, na_t, na_l, List.getElem?_cons_zero, List.getElem?_cons_succ, List.set_cons_zero, List.set_cons_succ, List.map_cons, List.map_nil, List.length_cons, List.length_nil, List.replicate_succ, List.replicate_zero, List.cons_append, List.nil_append, List.append_nil, List.isEmpty_nil, List.isEmpty_cons, List.cons.injEq, Option.some.injEq, T.int.injEq, T.str.injEq, T.bl.injEq, T.tup.injEq, T.lst.injEq, T.adr.injEq, Sl.fz.injEq, Sl.ow.injEq, exists_eq_left, exists_eq_left', exists_eq_right, exists_eq_right', exists_eq, exists_eq', exists_and_left, exists_and_right, exists_const, exists_false, and_true, true_and, and_false, false_and, or_true, true_or, or_false, false_or, not_true_eq_false, not_false_eq_true, if_true, if_false, ite_true, ite_false, Bool.not_true, Bool.not_false, Bool.true_or, Bool.or_true, Bool.false_or, Bool.or_false, Bool.true_and, Bool.and_true, Bool.false_and, Bool.and_false, Bool.false_eq_true, Bool.true_eq_false, eq_self, decide_eq_true_eq, decide_true, decide_false, Bool.decide_eq_true, Bool.not_eq_true, decide_eq_false_iff_not, Bool.and_eq_true, Bool.or_eq_true, Bool.not_eq_true', reduceCtorEq, ne_eq, Nat.le_refl, Nat.reduceAdd, Nat.reduceSub, Nat.reduceLeDiff, Nat.reduceLT, implies_true, forall_const, List.any_cons, List.any_nil, List.all_cons, List.all_nil, wipeP, restore, List.getD_eq_getElem?_getD, Option.getD_some, List.mem_singleton, forall_eq, Int.reduceLT, Int.reduceLE, Int.reduceNeg, Int.reduceSub, Int.reduceAdd, Int.reduceToNat, Int.reduceEq, Int.reduceNe, String.reduceEq, and_self, or_self, pDraw]
    intro r r0 r1
    have lowr : (CDiv r 3 ∨ CDivW r 3) ∧ nx [Sl.fz (T.adr d), Sl.fz (T.int (n' : Int)), Sl.fz (T.int (r / 3)), Sl.no, Sl.no, Sl.no, Sl.no] := by
      refine ⟨.inl ?_, hnx _ ⟨_, rfl, by omega, by omega, fun _ => by omega⟩⟩
      unfold CDiv
      omega
    split
    · exact lowr
    rename_i hn
    have same : nx [Sl.fz (T.adr d), Sl.fz (T.int (n' : Int)), Sl.fz (T.int r), Sl.no, Sl.no, Sl.no, Sl.no] := hnx _ ⟨r, rfl, r0, r1, fun z => absurd (by rw [z]; rfl) hn⟩
    intro v
    split
    · exact lowr
    split
    · split
      · intro v
        split
        · exact lowr
        · exact same
      · exact same
    · exact same
  · rintro ρ ⟨r, rfl, r0, r1, hn⟩
    have words : ∀ n, (∀ t, WG n t → Φ t false) → r < 3 → ∃ t, atI [T.str (Str.ofString "same"), T.str (Str.ofString "rank"), T.str (Str.ofString "clip")] r = some t ∧ Φ (T.tup [t]) false := fun n h hr => by
      refine pick_all r0 (by show r < 3; omega) fun t ht => ?_
      simp only [List.mem_cons, List.not_mem_nil, or_false] at ht
      rcases ht with rfl | rfl | rfl
      · exact h _ (wg_word (.inl rfl))
      · exact h _ (wg_word (.inr (.inl rfl)))
      · exact h _ (wg_word (.inr (.inr rfl)))
    have two : ∀ n, (∀ t, WG n t → Φ t false) → ¬ r < 3 → r < 5 → ∀ t, Gd 2 t → ∃ t_1, atI [T.str (Str.ofString "table"), T.str (Str.ofString "apart")] (r - 3) = some t_1 ∧ ∀ (t_2 : T), Gd 2 t_2 → Φ (T.tup [t_1, t, t_2]) false := fun n h hr hr2 u hu => by
      refine pick_all (by omega) (by show r - 3 < 2; omega) fun t ht v hv => ?_
      simp only [List.mem_cons, List.not_mem_nil, or_false] at ht
      rcases ht with rfl | rfl
      · exact h _ (wg_two (.inl rfl) hu hv)
      · exact h _ (wg_two (.inr rfl) hu hv)
    cases n' with
    | zero =>
      have hr : ¬ 9 ≤ r := by have := hn rfl; omega
      have hr2 : r < 5 := by have := hn rfl; omega
      simp only [↓reduceIte, ↓sSeq, ↓sAsg, ↓sIf, ↓sRet, ↓sRetN, ↓sExpr, ↓sNext, ↓sBreak, ↓sCont, ↓sAug, ↓sFor, ↓gN, ↓pIx, ↓pC, ↓pTup, ↓pLst, ↓pCons, ↓pNil, ↓pStar, ↓pOp, ↓pTB, ↓pTru, ↓pTAnd, ↓pTOr, ↓pTNot, ↓pAndV, ↓pOrV, ↓pNotV, ↓pIf, ↓pCall, ↓pLen, ↓pIsi, ↓pDget, ↓gDset, ↓gSubT, ↓PEq, ↓PNe, ↓pChain, ↓pNeg, ↓pSl, ↓pNoPart, ↓pPart, ↓pIter, ↓pRng1, ↓pRng2, ↓pEnum, ↓pRev, ↓pZip, ↓pMet, ↓pMet0, ↓pMut, ↓pLc, ↓pLRng1, ↓pLRng2, ↓pYes, ↓pRE, ↓startP, ↓pWords, ↓pSplit, ↓gLt, ↓gLe, ↓gGt, ↓gGe, ↓pV_f0, ↓pV_o0, ↓pRV_f0, ↓pRV_o0, ↓lk_f0, ↓lk_o0, ↓sRV_f0, ↓sRV_o0, ↓pV_f1, ↓pV_o1, ↓pRV_f1, ↓pRV_o1, ↓lk_f1, ↓lk_o1, ↓sRV_f1, ↓sRV_o1, ↓pV_f2, ↓pV_o2, ↓pRV_f2, ↓pRV_o2, ↓lk_f2, ↓lk_o2, ↓sRV_f2, ↓sRV_o2, ↓pV_f3, ↓pV_o3, ↓pRV_f3, ↓pRV_o3, ↓lk_f3, ↓lk_o3, ↓sRV_f3, ↓sRV_o3, ↓pV_f4, ↓pV_o4, ↓pRV_f4, ↓pRV_o4, ↓lk_f4, ↓lk_o4, ↓sRV_f4, ↓sRV_o4, ↓pV_f5, ↓pV_o5, ↓pRV_f5, ↓pRV_o5, ↓lk_f5, ↓lk_o5, ↓sRV_f5, ↓sRV_o5, ↓pV_f6, ↓pV_o6, ↓pRV_f6, ↓pRV_o6, ↓lk_f6, ↓lk_o6, ↓sRV_f6, ↓sRV_o6, ↓pV_f7, ↓pV_o7, ↓pRV_f7, ↓pRV_o7, ↓lk_f7, ↓lk_o7, ↓sRV_f7, ↓sRV_o7, ↓pV_f8, ↓pV_o8, ↓pRV_f8, ↓pRV_o8, ↓lk_f8, ↓lk_o8, ↓sRV_f8, ↓sRV_o8, ↓pV_f9, ↓pV_o9, ↓pRV_f9, ↓pRV_o9, ↓lk_f9, ↓lk_o9, ↓sRV_f9, ↓sRV_o9, ↓pV_f10, ↓pV_o10, ↓pRV_f10, ↓pRV_o10, ↓lk_f10, ↓lk_o10, ↓sRV_f10, ↓sRV_o10, ↓pV_f11, ↓pV_o11, ↓pRV_f11, ↓pRV_o11, ↓lk_f11, ↓lk_o11, ↓sRV_f11, ↓sRV_o11, ↓pV_f12, ↓pV_o12, ↓pRV_f12, ↓pRV_o12, ↓lk_f12, ↓lk_o12, ↓sRV_f12, ↓sRV_o12, ↓pV_f13, ↓pV_o13, ↓pRV_f13, ↓pRV_o13, ↓lk_f13, ↓lk_o13, ↓sRV_f13, ↓sRV_o13, ↓lk_fz, ↓of_fn, ↓of_fb, ↓of_fi, ↓of_fs, ↓of_ft, ↓of_fl, ↓of_ol, ↓of_ff, ↓ad_i, ↓ad_s, ↓ad_l, ↓ad_t, ↓su_i, ↓mu_i, ↓mu_l, ↓mo_i, ↓fd_i, ↓pw_i, ↓an_i, ↓ci_i, ↓is_n, ↓is_nn, ↓in_t, ↓in_l, ↓in_s, ↓ix_l, ↓ix_t, ↓ix_s, ↓sl_l, ↓sl_t, ↓sl_s, ↓kn_i, ↓kp_i, ↓kr1, ↓kr2, ↓ke_l, ↓kz_l, ↓kz_t, ↓klr1, ↓klr2, ↓gt_e, ↓gs_n, ↓gs_c, nc_0, nc_1, nc_2, nc_3, nc_4, nc_5, nc_6, nc_7, nc_8, nc_9, nc_10, nc_11, nc_12, eq_ii, eq_ss, eq_nn, eq_bb, eq_st, eq_ts, eq_si, eq_is, eq_it, eq_ti, cmp_i, cmp_b, cmp_n, sc_i, sc_s, sc_b, sc_n, flat_i, flat_s, flat_b, flat_n, tru_n, tru_b, tru_i, tru_t, tru_l, items_t, items_l, len_t, len_l, iter_t, iter_l, isN_n, isN_i, isN_s, isN_t, isN_l, isN_b, at_0, at_1, at_2, at_3, ib_tn, ib_tb, ib_ti, ib_ts, ib_tt, ib_tl, ib_sn, ib_sb, ib_si, ib_ss, ib_st, ib_sl, ib_in, ib_ib, ib_ii, ib_is, ib_it, ib_il, ib_bn, ib_bb, ib_bi, ib_bs, ib_bt, ib_bl, na_n, na_b, na_i, na_s, na_t, na_l, List.getElem?_cons_zero, List.getElem?_cons_succ, List.set_cons_zero, List.set_cons_succ, List.map_cons, List.map_nil, List.length_cons, List.length_nil, List.replicate_succ, List.replicate_zero, List.cons_append, List.nil_append, List.append_nil, List.isEmpty_nil, List.isEmpty_cons, List.cons.injEq, Option.some.injEq, T.int.injEq, T.str.injEq, T.bl.injEq, T.tup.injEq, T.lst.injEq, T.adr.injEq, Sl.fz.injEq, Sl.ow.injEq, exists_eq_left, exists_eq_left', exists_eq_right, exists_eq_right', exists_eq, exists_eq', exists_and_left, exists_and_right, exists_const, exists_false, and_true, true_and, and_false, false_and, or_true, true_or, or_false, false_or, not_true_eq_false, not_false_eq_true, if_true, if_false, ite_true, ite_false, Bool.not_true, Bool.not_false, Bool.true_or, Bool.or_true, Bool.false_or, Bool.or_false, Bool.true_and, Bool.and_true, Bool.false_and, Bool.and_false, Bool.false_eq_true, Bool.true_eq_false, eq_self, decide_eq_true_eq, decide_true, decide_false, Bool.decide_eq_true, Bool.not_eq_true, decide_eq_false_iff_not, Bool.and_eq_true, Bool.or_eq_true, Bool.not_eq_true', reduceCtorEq, ne_eq, Nat.le_refl, Nat.reduceAdd, Nat.reduceSub, Nat.reduceLeDiff, Nat.reduceLT, implies_true, forall_const, List.any_cons, List.any_nil, List.all_cons, List.all_nil, wipeP, restore, List.getD_eq_getElem?_getD, Option.getD_some, List.mem_singleton, forall_eq, Int.reduceLT, Int.reduceLE, Int.reduceNeg, Int.reduceSub, Int.reduceAdd, Int.reduceToNat, Int.reduceEq, Int.reduceNe, String.reduceEq, and_self, or_self, pDraw, pfValue, hr, hr2]
      split
      · rename_i h3
        exact words 0 h h3
      · rename_i h3
        exact two 0 h h3 hr2
    | succ m =>
      have e9 : ((m + 1 : Nat) : Int) - 1 = (m : Int) := by omega
      obtain ⟨n2, rfl⟩ : ∃ n2, n = n2 + 1 := ⟨n - 1, by omega⟩
      simp only [↓reduceIte, ↓sSeq, ↓sAsg, ↓sIf, ↓sRet, ↓sRetN, ↓sExpr, ↓sNext, ↓sBreak, ↓sCont, ↓sAug, ↓sFor, ↓gN, ↓pIx, ↓pC, ↓pTup, ↓pLst, ↓pCons, ↓pNil, ↓pStar, ↓pOp, ↓pTB, ↓pTru, ↓pTAnd, ↓pTOr, ↓pTNot, ↓pAndV, ↓pOrV, ↓pNotV, ↓pIf, ↓pCall, ↓pLen, ↓pIsi, ↓pDget, ↓gDset, ↓gSubT, ↓PEq, ↓PNe, ↓pChain, ↓pNeg, ↓pSl, ↓pNoPart, ↓pPart, ↓pIter, ↓pRng1, ↓pRng2, ↓pEnum, ↓pRev, ↓pZip, ↓pMet, ↓pMet0, ↓pMut, ↓pLc, ↓pLRng1, ↓pLRng2, ↓pYes, ↓pRE, ↓startP, ↓pWords, ↓pSplit, ↓gLt, ↓gLe, ↓gGt, ↓gGe, ↓pV_f0, ↓pV_o0, ↓pRV_f0, ↓pRV_o0, ↓lk_f0, ↓lk_o0, ↓sRV_f0, ↓sRV_o0, ↓pV_f1, ↓pV_o1, ↓pRV_f1, ↓pRV_o1, ↓lk_f1, ↓lk_o1, ↓sRV_f1, ↓sRV_o1, ↓pV_f2, ↓pV_o2, ↓pRV_f2, ↓pRV_o2, ↓lk_f2, ↓lk_o2, ↓sRV_f2, ↓sRV_o2, ↓pV_f3, ↓pV_o3, ↓pRV_f3, ↓pRV_o3, ↓lk_f3, ↓lk_o3, ↓sRV_f3, ↓sRV_o3, ↓pV_f4, ↓pV_o4, ↓pRV_f4, ↓pRV_o4, ↓lk_f4, ↓lk_o4, ↓sRV_f4, ↓sRV_o4, ↓pV_f5, ↓pV_o5, ↓pRV_f5, ↓pRV_o5, ↓lk_f5, ↓lk_o5, ↓sRV_f5, ↓sRV_o5, ↓pV_f6, ↓pV_o6, ↓pRV_f6, ↓pRV_o6, ↓lk_f6, ↓lk_o6, ↓sRV_f6, ↓sRV_o6, ↓pV_f7, ↓pV_o7, ↓pRV_f7, ↓pRV_o7, ↓lk_f7, ↓lk_o7, ↓sRV_f7, ↓sRV_o7, ↓pV_f8, ↓pV_o8, ↓pRV_f8, ↓pRV_o8, ↓lk_f8, ↓lk_o8, ↓sRV_f8, ↓sRV_o8, ↓pV_f9, ↓pV_o9, ↓pRV_f9, ↓pRV_o9, ↓lk_f9, ↓lk_o9, ↓sRV_f9, ↓sRV_o9, ↓pV_f10, ↓pV_o10, ↓pRV_f10, ↓pRV_o10, ↓lk_f10, ↓lk_o10, ↓sRV_f10, ↓sRV_o10, ↓pV_f11, ↓pV_o11, ↓pRV_f11, ↓pRV_o11, ↓lk_f11, ↓lk_o11, ↓sRV_f11, ↓sRV_o11, ↓pV_f12, ↓pV_o12, ↓pRV_f12, ↓pRV_o12, ↓lk_f12, ↓lk_o12, ↓sRV_f12, ↓sRV_o12, ↓pV_f13, ↓pV_o13, ↓pRV_f13, ↓pRV_o13, ↓lk_f13, ↓lk_o13, ↓sRV_f13, ↓sRV_o13, ↓lk_fz, ↓of_fn, ↓of_fb, ↓of_fi, ↓of_fs, ↓of_ft, ↓of_fl, ↓of_ol, ↓of_ff, ↓ad_i, ↓ad_s, ↓ad_l, ↓ad_t, ↓su_i, ↓mu_i, ↓mu_l, ↓mo_i, ↓fd_i, ↓pw_i, ↓an_i, ↓ci_i, ↓is_n, ↓is_nn, ↓in_t, ↓in_l, ↓in_s, ↓ix_l, ↓ix_t, ↓ix_s, ↓sl_l, ↓sl_t, ↓sl_s, ↓kn_i, ↓kp_i, ↓kr1, ↓kr2, ↓ke_l, ↓kz_l, ↓kz_t, ↓klr1, ↓klr2, ↓gt_e, ↓gs_n, ↓gs_c, nc_0, nc_1, nc_2, nc_3, nc_4, nc_5, nc_6, nc_7, nc_8, nc_9, nc_10, nc_11, nc_12, eq_ii, eq_ss, eq_nn, eq_bb, eq_st, eq_ts, eq_si, eq_is, eq_it, eq_ti, cmp_i, cmp_b, cmp_n, sc_i, sc_s, sc_b, sc_n, flat_i, flat_s, flat_b, flat_n, tru_n, tru_b, tru_i, tru_t, tru_l, items_t, items_l, len_t, len_l, iter_t, iter_l, isN_n, isN_i, isN_s, isN_t, isN_l, isN_b, at_0, at_1, at_2, at_3, ib_tn, ib_tb, ib_ti, ib_ts, ib_tt, ib_tl, ib_sn, ib_sb, ib_si, ib_ss, ib_st, ib_sl, ib_in, ib_ib, ib_ii, ib_is, ib_it, ib_il, ib_bn, ib_bb, ib_bi, ib_bs, ib_bt, ib_bl, na_n, na_b, na_i, na_s, na_t, na_l, List.getElem?_cons_zero, List.getElem?_cons_succ, List.set_cons_zero, List.set_cons_succ, List.map_cons, List.map_nil, List.length_cons, List.length_nil, List.replicate_succ, List.replicate_zero, List.cons_append, List.nil_append, List.append_nil, List.isEmpty_nil, List.isEmpty_cons, List.cons.injEq, Option.some.injEq, T.int.injEq, T.str.injEq, T.bl.injEq, T.tup.injEq, T.lst.injEq, T.adr.injEq, Sl.fz.injEq, Sl.ow.injEq, exists_eq_left, exists_eq_left', exists_eq_right, exists_eq_right', exists_eq, exists_eq', exists_and_left, exists_and_right, exists_const, exists_false, and_true, true_and, and_false, false_and, or_true, true_or, or_false, false_or, not_true_eq_false, not_false_eq_true, if_true, if_false, ite_true, ite_false, Bool.not_true, Bool.not_false, Bool.true_or, Bool.or_true, Bool.false_or, Bool.or_false, Bool.true_and, Bool.and_true, Bool.false_and, Bool.and_false, Bool.false_eq_true, Bool.true_eq_false, eq_self, decide_eq_true_eq, decide_true, decide_false, Bool.decide_eq_true, Bool.not_eq_true, decide_eq_false_iff_not, Bool.and_eq_true, Bool.or_eq_true, Bool.not_eq_true', reduceCtorEq, ne_eq, Nat.le_refl, Nat.reduceAdd, Nat.reduceSub, Nat.reduceLeDiff, Nat.reduceLT, implies_true, forall_const, List.any_cons, List.any_nil, List.all_cons, List.all_nil, wipeP, restore, List.getD_eq_getElem?_getD, Option.getD_some, List.mem_singleton, forall_eq, Int.reduceLT, Int.reduceLE, Int.reduceNeg, Int.reduceSub, Int.reduceAdd, Int.reduceToNat, Int.reduceEq, Int.reduceNe, String.reduceEq, and_self, or_self, pDraw, pfValue, pfTrio0, pfTrio, pfWay0, pfWay, e9]
      split
      · rename_i h3
        exact words _ h h3
      split
      · rename_i h3 h5
        exact two _ h h3 h5
      split
      · refine pick_all (by omega) (by show r - 9 < 2; omega) fun t ht q q0 q1 => ⟨by omega, by omega, ?_⟩
        obtain ⟨w, rfl, hw⟩ : ∃ w, t = .str w ∧ (w = w_arms ∨ w = w_parts) := by
          simp only [List.mem_cons, List.not_mem_nil, or_false] at ht
          rcases ht with rfl | rfl
          · exact ⟨_, rfl, .inl rfl⟩
          · exact ⟨_, rfl, .inr rfl⟩
        refine ⟨by rw [rng_len]; omega, by simp, fun i acc ρ => ρ = [Sl.fz (T.adr d), Sl.fz (T.int ((m + 1 : Nat) : Int)), Sl.fz (T.int r), Sl.no, Sl.fz (T.str w), Sl.no, Sl.no] ∧ ∃ l : List Tr, acc = l.map trT ∧ l.length = i ∧ ∀ p ∈ l, TG m p, ⟨rfl, [], rfl, rfl, fun t h => by cases h⟩, ?_, ?_⟩
        · rintro i t acc ρ2 e hacc ⟨rfl, l, rfl, hl, ha⟩
          obtain ⟨hi, rfl⟩ := rng_get e
          simp only [↓reduceIte, ↓sSeq, ↓sAsg, ↓sIf, ↓sRet, ↓sRetN, ↓sExpr, ↓sNext, ↓sBreak, ↓sCont, ↓sAug, ↓sFor, ↓gN, ↓pIx, ↓pC, ↓pTup, ↓pLst, ↓pCons, ↓pNil, ↓pStar, ↓pOp, ↓pTB, ↓pTru, ↓pTAnd, ↓pTOr, ↓pTNot, ↓pAndV, ↓pOrV, ↓pNotV, ↓pIf, ↓pCall, ↓pLen, ↓pIsi, ↓pDget, ↓gDset, ↓gSubT, ↓PEq, ↓PNe, ↓pChain, ↓pNeg, ↓pSl, ↓pNoPart, ↓pPart, ↓pIter, ↓pRng1, ↓pRng2, ↓pEnum, ↓pRev, ↓pZip, ↓pMet, ↓pMet0, ↓pMut, ↓pLc, ↓pLRng1, ↓pLRng2, ↓pYes, ↓pRE, ↓startP, ↓pWords, ↓pSplit, ↓gLt, ↓gLe, ↓gGt, ↓gGe, ↓pV_f0, ↓pV_o0, ↓pRV_f0, ↓pRV_o0, ↓lk_f0, ↓lk_o0, ↓sRV_f0, ↓sRV_o0, ↓pV_f1, ↓pV_o1, ↓pRV_f1, ↓pRV_o1, ↓lk_f1, ↓lk_o1, ↓sRV_f1, ↓sRV_o1, ↓pV_f2, ↓pV_o2, ↓pRV_f2, ↓pRV_o2, ↓lk_f2, ↓lk_o2, ↓sRV_f2, ↓sRV_o2, ↓pV_f3, ↓pV_o3, ↓pRV_f3, ↓pRV_o3, ↓lk_f3, ↓lk_o3, ↓sRV_f3, ↓sRV_o3, ↓pV_f4, ↓pV_o4, ↓pRV_f4, ↓pRV_o4, ↓lk_f4, ↓lk_o4, ↓sRV_f4, ↓sRV_o4, ↓pV_f5, ↓pV_o5, ↓pRV_f5, ↓pRV_o5, ↓lk_f5, ↓lk_o5, ↓sRV_f5, ↓sRV_o5, ↓pV_f6, ↓pV_o6, ↓pRV_f6, ↓pRV_o6, ↓lk_f6, ↓lk_o6, ↓sRV_f6, ↓sRV_o6, ↓pV_f7, ↓pV_o7, ↓pRV_f7, ↓pRV_o7, ↓lk_f7, ↓lk_o7, ↓sRV_f7, ↓sRV_o7, ↓pV_f8, ↓pV_o8, ↓pRV_f8, ↓pRV_o8, ↓lk_f8, ↓lk_o8, ↓sRV_f8, ↓sRV_o8, ↓pV_f9, ↓pV_o9, ↓pRV_f9, ↓pRV_o9, ↓lk_f9, ↓lk_o9, ↓sRV_f9, ↓sRV_o9, ↓pV_f10, ↓pV_o10, ↓pRV_f10, ↓pRV_o10, ↓lk_f10, ↓lk_o10, ↓sRV_f10, ↓sRV_o10, ↓pV_f11, ↓pV_o11, ↓pRV_f11, ↓pRV_o11, ↓lk_f11, ↓lk_o11, ↓sRV_f11, ↓sRV_o11, ↓pV_f12, ↓pV_o12, ↓pRV_f12, ↓pRV_o12, ↓lk_f12, ↓lk_o12, ↓sRV_f12, ↓sRV_o12, ↓pV_f13, ↓pV_o13, ↓pRV_f13, ↓pRV_o13, ↓lk_f13, ↓lk_o13, ↓sRV_f13, ↓sRV_o13, ↓lk_fz, ↓of_fn, ↓of_fb, ↓of_fi, ↓of_fs, ↓of_ft, ↓of_fl, ↓of_ol, ↓of_ff, ↓ad_i, ↓ad_s, ↓ad_l, ↓ad_t, ↓su_i, ↓mu_i, ↓mu_l, ↓mo_i, ↓fd_i, ↓pw_i, ↓an_i, ↓ci_i, ↓is_n, ↓is_nn, ↓in_t, ↓in_l, ↓in_s, ↓ix_l, ↓ix_t, ↓ix_s, ↓sl_l, ↓sl_t, ↓sl_s, ↓kn_i, ↓kp_i, ↓kr1, ↓kr2, ↓ke_l, ↓kz_l, ↓kz_t, ↓klr1, ↓klr2, ↓gt_e, ↓gs_n, ↓gs_c, nc_0, nc_1, nc_2, nc_3, nc_4, nc_5, nc_6, nc_7, nc_8, nc_9, nc_10, nc_11, nc_12, eq_ii, eq_ss, eq_nn, eq_bb, eq_st, eq_ts, eq_si, eq_is, eq_it, eq_ti, cmp_i, cmp_b, cmp_n, sc_i, sc_s, sc_b, sc_n, flat_i, flat_s, flat_b, flat_n, tru_n, tru_b, tru_i, tru_t, tru_l, items_t, items_l, len_t, len_l, iter_t, iter_l, isN_n, isN_i, isN_s, isN_t, isN_l, isN_b, at_0, at_1, at_2, at_3, ib_tn, ib_tb, ib_ti, ib_ts, ib_tt, ib_tl, ib_sn, ib_sb, ib_si, ib_ss, ib_st, ib_sl, ib_in, ib_ib, ib_ii, ib_is, ib_it, ib_il, ib_bn, ib_bb, ib_bi, ib_bs, ib_bt, ib_bl, na_n, na_b, na_i, na_s, na_t, na_l, List.getElem?_cons_zero, List.getElem?_cons_succ, List.set_cons_zero, List.set_cons_succ, List.map_cons, List.map_nil, List.length_cons, List.length_nil, List.replicate_succ, List.replicate_zero, List.cons_append, List.nil_append, List.append_nil, List.isEmpty_nil, List.isEmpty_cons, List.cons.injEq, Option.some.injEq, T.int.injEq, T.str.injEq, T.bl.injEq, T.tup.injEq, T.lst.injEq, T.adr.injEq, Sl.fz.injEq, Sl.ow.injEq, exists_eq_left, exists_eq_left', exists_eq_right, exists_eq_right', exists_eq, exists_eq', exists_and_left, exists_and_right, exists_const, exists_false, and_true, true_and, and_false, false_and, or_true, true_or, or_false, false_or, not_true_eq_false, not_false_eq_true, if_true, if_false, ite_true, ite_false, Bool.not_true, Bool.not_false, Bool.true_or, Bool.or_true, Bool.false_or, Bool.or_false, Bool.true_and, Bool.and_true, Bool.false_and, Bool.and_false, Bool.false_eq_true, Bool.true_eq_false, eq_self, decide_eq_true_eq, decide_true, decide_false, Bool.decide_eq_true, Bool.not_eq_true, decide_eq_false_iff_not, Bool.and_eq_true, Bool.or_eq_true, Bool.not_eq_true', reduceCtorEq, ne_eq, Nat.le_refl, Nat.reduceAdd, Nat.reduceSub, Nat.reduceLeDiff, Nat.reduceLT, implies_true, forall_const, List.any_cons, List.any_nil, List.all_cons, List.all_nil, wipeP, restore, List.getD_eq_getElem?_getD, Option.getD_some, List.mem_singleton, forall_eq, Int.reduceLT, Int.reduceLE, Int.reduceNeg, Int.reduceSub, Int.reduceAdd, Int.reduceToNat, Int.reduceEq, Int.reduceNe, String.reduceEq, and_self, or_self, pfTrio, e9]
          refine ⟨_, m, ⟨rfl, rfl⟩, by omega, fun p hp => ?_⟩
          refine ⟨l ++ [p], by rw [List.map_append]; rfl, by rw [List.length_append, hl]; rfl, fun u hu => ?_⟩
          rcases List.mem_append.mp hu with hu | hu
          · exact ha u hu
          · rw [List.mem_singleton.mp hu]
            exact hp
        · rintro acc ρ2 hacc ⟨rfl, l, rfl, hl, ha⟩
          rw [rng_len] at hl
          simp only [↓reduceIte, ↓sSeq, ↓sAsg, ↓sIf, ↓sRet, ↓sRetN, ↓sExpr, ↓sNext, ↓sBreak, ↓sCont, ↓sAug, ↓sFor, ↓gN, ↓pIx, ↓pC, ↓pTup, ↓pLst, ↓pCons, ↓pNil, ↓pStar, ↓pOp, ↓pTB, ↓pTru, ↓pTAnd, ↓pTOr, ↓pTNot, ↓pAndV, ↓pOrV, ↓pNotV, ↓pIf, ↓pCall, ↓pLen, ↓pIsi, ↓pDget, ↓gDset, ↓gSubT, ↓PEq, ↓PNe, ↓pChain, ↓pNeg, ↓pSl, ↓pNoPart, ↓pPart, ↓pIter, ↓pRng1, ↓pRng2, ↓pEnum, ↓pRev, ↓pZip, ↓pMet, ↓pMet0, ↓pMut, ↓pLc, ↓pLRng1, ↓pLRng2, ↓pYes, ↓pRE, ↓startP, ↓pWords, ↓pSplit, ↓gLt, ↓gLe, ↓gGt, ↓gGe, ↓pV_f0, ↓pV_o0, ↓pRV_f0, ↓pRV_o0, ↓lk_f0, ↓lk_o0, ↓sRV_f0, ↓sRV_o0, ↓pV_f1, ↓pV_o1, ↓pRV_f1, ↓pRV_o1, ↓lk_f1, ↓lk_o1, ↓sRV_f1, ↓sRV_o1, ↓pV_f2, ↓pV_o2, ↓pRV_f2, ↓pRV_o2, ↓lk_f2, ↓lk_o2, ↓sRV_f2, ↓sRV_o2, ↓pV_f3, ↓pV_o3, ↓pRV_f3, ↓pRV_o3, ↓lk_f3, ↓lk_o3, ↓sRV_f3, ↓sRV_o3, ↓pV_f4, ↓pV_o4, ↓pRV_f4, ↓pRV_o4, ↓lk_f4, ↓lk_o4, ↓sRV_f4, ↓sRV_o4, ↓pV_f5, ↓pV_o5, ↓pRV_f5, ↓pRV_o5, ↓lk_f5, ↓lk_o5, ↓sRV_f5, ↓sRV_o5, ↓pV_f6, ↓pV_o6, ↓pRV_f6, ↓pRV_o6, ↓lk_f6, ↓lk_o6, ↓sRV_f6, ↓sRV_o6, ↓pV_f7, ↓pV_o7, ↓pRV_f7, ↓pRV_o7, ↓lk_f7, ↓lk_o7, ↓sRV_f7, ↓sRV_o7, ↓pV_f8, ↓pV_o8, ↓pRV_f8, ↓pRV_o8, ↓lk_f8, ↓lk_o8, ↓sRV_f8, ↓sRV_o8, ↓pV_f9, ↓pV_o9, ↓pRV_f9, ↓pRV_o9, ↓lk_f9, ↓lk_o9, ↓sRV_f9, ↓sRV_o9, ↓pV_f10, ↓pV_o10, ↓pRV_f10, ↓pRV_o10, ↓lk_f10, ↓lk_o10, ↓sRV_f10, ↓sRV_o10, ↓pV_f11, ↓pV_o11, ↓pRV_f11, ↓pRV_o11, ↓lk_f11, ↓lk_o11, ↓sRV_f11, ↓sRV_o11, ↓pV_f12, ↓pV_o12, ↓pRV_f12, ↓pRV_o12, ↓lk_f12, ↓lk_o12, ↓sRV_f12, ↓sRV_o12, ↓pV_f13, ↓pV_o13, ↓pRV_f13, ↓pRV_o13, ↓lk_f13, ↓lk_o13, ↓sRV_f13, ↓sRV_o13, ↓lk_fz, ↓of_fn, ↓of_fb, ↓of_fi, ↓of_fs, ↓of_ft, ↓of_fl, ↓of_ol, ↓of_ff, ↓ad_i, ↓ad_s, ↓ad_l, ↓ad_t, ↓su_i, ↓mu_i, ↓mu_l, ↓mo_i, ↓fd_i, ↓pw_i, ↓an_i, ↓ci_i, ↓is_n, ↓is_nn, ↓in_t, ↓in_l, ↓in_s, ↓ix_l, ↓ix_t, ↓ix_s, ↓sl_l, ↓sl_t, ↓sl_s, ↓kn_i, ↓kp_i, ↓kr1, ↓kr2, ↓ke_l, ↓kz_l, ↓kz_t, ↓klr1, ↓klr2, ↓gt_e, ↓gs_n, ↓gs_c, nc_0, nc_1, nc_2, nc_3, nc_4, nc_5, nc_6, nc_7, nc_8, nc_9, nc_10, nc_11, nc_12, eq_ii, eq_ss, eq_nn, eq_bb, eq_st, eq_ts, eq_si, eq_is, eq_it, eq_ti, cmp_i, cmp_b, cmp_n, sc_i, sc_s, sc_b, sc_n, flat_i, flat_s, flat_b, flat_n, tru_n, tru_b, tru_i, tru_t, tru_l, items_t, items_l, len_t, len_l, iter_t, iter_l, isN_n, isN_i, isN_s, isN_t, isN_l, isN_b, at_0, at_1, at_2, at_3, ib_tn, ib_tb, ib_ti, ib_ts, ib_tt, ib_tl, ib_sn, ib_sb, ib_si, ib_ss, ib_st, ib_sl, ib_in, ib_ib, ib_ii, ib_is, ib_it, ib_il, ib_bn, ib_bb, ib_bi, ib_bs, ib_bt, ib_bl, na_n, na_b, na_i, na_s, na_t, na_l, List.getElem?_cons_zero, List.getElem?_cons_succ, List.set_cons_zero, List.set_cons_succ, List.map_cons, List.map_nil, List.length_cons, List.length_nil, List.replicate_succ, List.replicate_zero, List.cons_append, List.nil_append, List.append_nil, List.isEmpty_nil, List.isEmpty_cons, List.cons.injEq, Option.some.injEq, T.int.injEq, T.str.injEq, T.bl.injEq, T.tup.injEq, T.lst.injEq, T.adr.injEq, Sl.fz.injEq, Sl.ow.injEq, exists_eq_left, exists_eq_left', exists_eq_right, exists_eq_right', exists_eq, exists_eq', exists_and_left, exists_and_right, exists_const, exists_false, and_true, true_and, and_false, false_and, or_true, true_or, or_false, false_or, not_true_eq_false, not_false_eq_true, if_true, if_false, ite_true, ite_false, Bool.not_true, Bool.not_false, Bool.true_or, Bool.or_true, Bool.false_or, Bool.or_false, Bool.true_and, Bool.and_true, Bool.false_and, Bool.and_false, Bool.false_eq_true, Bool.true_eq_false, eq_self, decide_eq_true_eq, decide_true, decide_false, Bool.decide_eq_true, Bool.not_eq_true, decide_eq_false_iff_not, Bool.and_eq_true, Bool.or_eq_true, Bool.not_eq_true', reduceCtorEq, ne_eq, Nat.le_refl, Nat.reduceAdd, Nat.reduceSub, Nat.reduceLeDiff, Nat.reduceLT, implies_true, forall_const, List.any_cons, List.any_nil, List.all_cons, List.all_nil, wipeP, restore, List.getD_eq_getElem?_getD, Option.getD_some, List.mem_singleton, forall_eq, Int.reduceLT, Int.reduceLE, Int.reduceNeg, Int.reduceSub, Int.reduceAdd, Int.reduceToNat, Int.reduceEq, Int.reduceNe, String.reduceEq, and_self, or_self]
          exact h _ (wg_arms hw (by omega) ha)
      · refine ⟨m, rfl, by omega, fun t ht => ?_⟩
        split
        · refine pick_all (by omega) (by show r - 5 < 2; omega) fun u hu v hv => ?_
          simp only [List.mem_cons, List.not_mem_nil, or_false] at hu
          rcases hu with rfl | rfl
          · exact h _ (wg_some (.inl rfl) ht hv)
          · exact h _ (wg_some (.inr rfl) ht hv)
        · refine pick_all (by omega) (by show r - 7 < 2; omega) fun u hu => ?_
          simp only [List.mem_cons, List.not_mem_nil, or_false] at hu
          rcases hu with rfl | rfl
          · exact h _ (wg_opt (.inl rfl) ht)
          · exact h _ (wg_opt (.inr rfl) ht)
end
end Y

namespace Y
open PySem PySem.Spec PyProof.Rows L2 RT RZ TL PySem.NumText
/-! ### deep kinds and ways -/
def KD (t : T) : Prop := ∃ s, Kt 20 t s ∧ s.length ≤ 1000
def WD (t : T) : Prop := ∃ s, Wt 20 t s ∧ s.length ≤ 2000
def pfDK (d : Addr) : PSp := fun ts Φ => ts = [.adr d] ∧ ∀ t, KD t → Φ t false
def pfDW (d : Addr) : PSp := fun ts Φ => ts = [.adr d] ∧ ∀ t, WD t → Φ t false
def KL (n b : Nat) (t : T) : Prop := ∃ s, Kt n t s ∧ s.length ≤ b
def WL (n b : Nat) (t : T) : Prop := ∃ s, Wt n t s ∧ s.length ≤ b
theorem kl_opt {n b : Nat} {t : T} (h : KL n b t) : KL (n + 1) (b + 20) (.tup [.str w_opt, t]) := by
  obtain ⟨s, h1, h2⟩ := h
  refine ⟨_, .inr (.inr (.inl ⟨t, s, rfl, h1, rfl⟩)), ?_⟩
  rw [List.length_cons]
  omega
theorem kl_row {n b : Nat} {t : T} {i : Int} (h : KL n b t) (hi : ib i) : KL (n + 1) (b + 20) (.tup [.str w_row, t, .int i]) := by
  obtain ⟨s, h1, h2⟩ := h
  refine ⟨_, .inr (.inr (.inr (.inl ⟨t, i, s, rfl, hi, h1, rfl⟩))), ?_⟩
  rw [List.length_cons, List.length_cons, List.length_cons]
  omega
theorem kl_fld {n b : Nat} {t : T} {w x : Str} {l : List Fd} (hw : w = w_one ∨ w = w_rec) (h : KL (n + 1) b t) (hx : isNm x = true) (hl : l.length ≤ 1) (hf : ∀ p ∈ l, FG 0 p) : KL (n + 2) (b + 20) (.tup [.str w, .tup (l.map fpT ++ [.tup [.str x, t]])]) := by
  obtain ⟨s, h1, h2⟩ := h
  have hall : ∀ p ∈ l ++ [(x, t, s)], isNm p.1 = true ∧ Kt (n + 1) p.2.1 p.2.2 := fun p hp => by
    rcases List.mem_append.mp hp with hp | hp
    · exact ⟨(hf p hp).1, kt_le (by omega) (hf p hp).2.1⟩
    · rw [List.mem_singleton.mp hp]
      exact ⟨hx, h1⟩
  refine ⟨_, .inr (.inr (.inr (.inr ⟨w, l ++ [(x, t, s)], hw, by rw [List.map_append]; rfl, hall, rfl⟩))), ?_⟩
  have e1 := fm_fps (l := l) fun p hp => (hf p hp).2.2
  have e2 : l.length * (kb 0 + 3) ≤ 1 * (kb 0 + 3) := Nat.mul_le_mul_right _ hl
  have e3 : kb 0 = 8 := rfl
  rw [List.length_cons, List.length_cons, List.length_append, List.length_singleton, List.flatMap_append, List.length_append, List.flatMap_singleton, fps_len]
  show _ + (s.length + 3) + 1 + 1 + 1 ≤ _
  omega
theorem wl_some {n b : Nat} {w : Str} {t v : T} (hw : w = w_some ∨ w = w_must) (h : WL n b t) (hv : Gd 2 v) : WL (n + 1) (b + 80) (.tup [.str w, t, v]) := by
  obtain ⟨s, h1, h2⟩ := h
  refine ⟨_, .inr (.inr (.inl ⟨w, t, v, s, hw, rfl, hv, h1, rfl⟩)), ?_⟩
  have := gd2 hv
  rw [List.length_cons, List.length_append]
  omega
theorem wl_opt {n b : Nat} {w : Str} {t : T} (hw : w = w_opt ∨ w = w_each) (h : WL n b t) : WL (n + 1) (b + 80) (.tup [.str w, t]) := by
  obtain ⟨s, h1, h2⟩ := h
  refine ⟨_, .inr (.inr (.inr (.inl ⟨w, t, s, hw, rfl, h1, rfl⟩))), ?_⟩
  rw [List.length_cons]
  omega
theorem wl_arms {n b : Nat} {w : Str} {t : T} {p : Tr} {l : List Tr} (hw : w = w_arms ∨ w = w_parts) (h : WL (n + 1) b t) (hp : TG 0 p) (hl : l.length ≤ 1) (hf : ∀ p ∈ l, TG 0 p) : WL (n + 2) (b + 80) (.tup [.str w, .tup (.tup [p.1.1, p.2.1.1, t] :: l.map trT)]) := by
  obtain ⟨s, h1, h2⟩ := h
  have hall : ∀ q ∈ (p.1, p.2.1, t, s) :: l, Ed q.1.1 q.1.2 ∧ Ed q.2.1.1 q.2.1.2 ∧ Wt (n + 1) q.2.2.1 q.2.2.2 := fun q hq => by
    rcases List.mem_cons.mp hq with rfl | hq
    · exact ⟨hp.1, hp.2.1, h1⟩
    · exact ⟨(hf q hq).1, (hf q hq).2.1, wt_le (by omega) (hf q hq).2.2.1⟩
  refine ⟨_, .inr (.inr (.inr (.inr ⟨w, (p.1, p.2.1, t, s) :: l, hw, rfl, hall, rfl⟩))), ?_⟩
  have e1 := fm_trs (l := l) fun p hp => (hf p hp).2.2.2
  have e2 : l.length * (wb 0 + 5) ≤ 1 * (wb 0 + 5) := Nat.mul_le_mul_right _ hl
  have e3 : wb 0 = 59 := rfl
  rw [List.length_cons, List.length_cons, List.length_append, List.length_singleton, List.flatMap_cons, List.length_append, trs_len]
  show (s.length + 5) + _ + 1 + 1 + 1 ≤ _
  omega
theorem cut_tl {α : Type} (t : α) (l : List α) : cutT (t :: l) (some 1) none = l := by
  have e1 : HT.sIx (t :: l).length 0 (some 1) = 1 := by
    unfold HT.sIx
    rw [List.length_cons]
    simp
    try omega
  have e2 : HT.sIx (t :: l).length (t :: l).length none = (t :: l).length := rfl
  unfold cutT
  rw [e1, e2]
  show l.take (l.length + 1 - 1) = l
  rw [Nat.add_sub_cancel, List.take_length]
theorem cut_two {α : Type} (a b c : α) : cutT [a, b, c] none (some 2) = [a, b] := rfl
section
variable {P : Program} {w : World} {K : PySem.W.Frag} {mg : Str → Option Value} {base : Heap}
theorem ok_deep_kind {d l : Addr} {k : Nat}  (D : Df K mg "_law_deep_kind" s_deep_kind)
    (C_draw : CalQ P w K mg base (wd d l 3) "_law_draw" k ["_law_d", "_law_many"] (pDraw d))
    (C_any_kind : CalQ P w K mg base (wd d l 3) "_law_any_kind" k ["_law_d", "_law_deep"] (pfKind d 4))
    (C_any_int : CalQ P w K mg base (wd d l 3) "_law_any_int" k ["_law_d"] (pfInt d))
    (C_any_fields : CalQ P w K mg base (wd d l 3) "_law_any_fields" k ["_law_d", "_law_deep", "_law_size"] (pfFields d 0))
    (C_any_name : CalQ P w K mg base (wd d l 3) "_law_any_name" k ["_law_d"] (pfName d)) (m_range : mg "range" = none) :
    CalQ P w K mg base (wd d l 3) "_law_deep_kind" (k + 1) ["_law_d"] (pfDK d) := by
  refine CalQ.mk D sc_deep_kind (fun _ _ _ _ _ _ us h => match us, h with | [_], _ => rfl) (fun ts Φ h => by first | (obtain ⟨rfl, _⟩ := h; rfl) | (obtain ⟨_, rfl, _⟩ := h; rfl) | (obtain ⟨_, _, rfl, _⟩ := h; rfl) | (obtain ⟨_, _, _, rfl, _⟩ := h; rfl) | (obtain ⟨_, _, _, _, rfl, _⟩ := h; rfl)) (fun f cdv A outer s H E hr => ?_)
  refine ⟨_, qss_cons (qs_asg qe_int (qg_dset (qe_name (pv 0)) qe_int))
    (qss_cons (qs_asg qe_int (qg_dset (qe_name (pv 0)) qe_int))
    (qss_cons (qs_set (i := 1) sc_deep_kind.nd rfl (.inl rfl) (qe_call C_draw (hr.mono (by omega)) (by rfl) (qa_cons (qe_name (pv 0)) (qa_cons qe_int qa_nil))))
    (qss_cons (qs_if (qt_cmp oq_lt (qe_name (pv 1)) qe_int (nomark _))
    (qss_one (qs_ret (qe_call C_any_kind (hr.mono (by omega)) (by rfl) (qa_cons (qe_name (pv 0)) (qa_cons qe_int qa_nil)))))
    (qss_nil))
    (qss_cons (qs_set (i := 2) sc_deep_kind.nd rfl (.inl rfl) (qe_call C_any_kind (hr.mono (by omega)) (by rfl) (qa_cons (qe_name (pv 0)) (qa_cons qe_int qa_nil))))
    (qss_cons (qs_if (qt_cmp (oq_eq hr.units) (qe_name (pv 1)) qe_int (nomark _))
    (qss_cons (qs_for (passes_of rfl) rfl (qi_range1 (by rfl) m_range (qe_op oq_add qe_int (qe_call C_draw (hr.mono (by omega)) (by rfl) (qa_cons (qe_name (pv 0)) (qa_cons qe_int qa_nil))))) (qg_name (pg_name (i := 3) sc_deep_kind.nd rfl (.inl rfl)))
      (qss_one (qs_set (i := 2) sc_deep_kind.nd rfl (.inl rfl) (qe_if (qt_cmp (oq_eq hr.units) (qe_call C_draw (hr.mono (by omega)) (by rfl) (qa_cons (qe_name (pv 0)) (qa_cons qe_int qa_nil))) qe_int (nomark _)) (qe_tup (qa_cons qe_str (qa_cons (qe_name (pv 2)) qa_nil))) (qe_tup (qa_cons qe_str (qa_cons (qe_name (pv 2)) (qa_cons (qe_call C_any_int (hr.mono (by omega)) (by rfl) (qa_cons (qe_name (pv 0)) qa_nil)) qa_nil))))))))
      (qss_one (qs_retV (pv 2))))
    (qss_nil))
    (qss_cons (qs_for (passes_of rfl) rfl (qi_range1 (by rfl) m_range (qe_op oq_add qe_int (qe_call C_draw (hr.mono (by omega)) (by rfl) (qa_cons (qe_name (pv 0)) (qa_cons qe_int qa_nil))))) (qg_name (pg_name (i := 3) sc_deep_kind.nd rfl (.inl rfl)))
    (qss_cons (qs_set (i := 4) sc_deep_kind.nd rfl (.inl rfl) (qe_call C_any_fields (hr.mono (by omega)) (by rfl) (qa_cons (qe_name (pv 0)) (qa_cons qe_int (qa_cons (qe_call C_draw (hr.mono (by omega)) (by rfl) (qa_cons (qe_name (pv 0)) (qa_cons qe_int qa_nil))) qa_nil)))))
      (qss_one (qs_set (i := 2) sc_deep_kind.nd rfl (.inl rfl) (qe_tup (qa_cons (qe_ix (qr_of (qe_lst (qa_cons qe_str (qa_cons qe_str qa_nil)))) (qe_call C_draw (hr.mono (by omega)) (by rfl) (qa_cons (qe_name (pv 0)) (qa_cons qe_int qa_nil))) (fun _ _ => rfl)) (qa_cons (qe_op oq_add (qe_name (pv 4)) (qe_tup (qa_cons (qe_tup (qa_cons (qe_call C_any_name (hr.mono (by omega)) (by rfl) (qa_cons (qe_name (pv 0)) qa_nil)) (qa_cons (qe_name (pv 2)) qa_nil))) qa_nil))) qa_nil)))))))
    (qss_one (qs_retV (pv 2))))))))), ?_⟩
  intro ts Φ h
  obtain ⟨rfl, h⟩ := h
  simp only [↓reduceIte, ↓sSeq, ↓sAsg, ↓sIf, ↓sRet, ↓sRetN, ↓sExpr, ↓sNext, ↓sBreak, ↓sCont, ↓sAug, ↓sFor, ↓gN, ↓pIx, ↓pC, ↓pTup, ↓pLst, ↓pCons, ↓pNil, ↓pStar, ↓pOp, ↓pTB, ↓pTru, ↓pTAnd, ↓pTOr, ↓pTNot, ↓pAndV, ↓pOrV, ↓pNotV, ↓pIf, ↓pCall, ↓pLen, ↓pIsi, ↓pDget, ↓gDset, ↓gSubT, ↓PEq, ↓PNe, ↓pChain, ↓pNeg, ↓pSl, ↓pNoPart, ↓pPart, ↓pIter, ↓pRng1, ↓pRng2, ↓pEnum, ↓pRev, ↓pZip, ↓pMet, ↓pMet0, ↓pMut, ↓pLc, ↓pLRng1, ↓pLRng2, ↓pYes, ↓pRE, ↓startP, ↓pWords, ↓pSplit, ↓gLt, ↓gLe, ↓gGt, ↓gGe, ↓pV_f0, ↓pV_o0, ↓pRV_f0, ↓pRV_o0, ↓lk_f0, ↓lk_o0, ↓sRV_f0, ↓sRV_o0, ↓pV_f1, ↓pV_o1, ↓pRV_f1, ↓pRV_o1, ↓lk_f1, ↓lk_o1, ↓sRV_f1, ↓sRV_o1, ↓pV_f2, ↓pV_o2, ↓pRV_f2, ↓pRV_o2, ↓lk_f2, ↓lk_o2, ↓sRV_f2, ↓sRV_o2, ↓pV_f3, ↓pV_o3, ↓pRV_f3, ↓pRV_o3, ↓lk_f3, ↓lk_o3, ↓sRV_f3, ↓sRV_o3, ↓pV_f4, ↓pV_o4, ↓pRV_f4, ↓pRV_o4, ↓lk_f4, ↓lk_o4, ↓sRV_f4, ↓sRV_o4, ↓pV_f5, ↓pV_o5, ↓pRV_f5, ↓pRV_o5, ↓lk_f5, ↓lk_o5, ↓sRV_f5, ↓sRV_o5, ↓pV_f6, ↓pV_o6, ↓pRV_f6, ↓pRV_o6, ↓lk_f6, ↓lk_o6, ↓sRV_f6, ↓sRV_o6, ↓pV_f7, ↓pV_o7, ↓pRV_f7, ↓pRV_o7, ↓lk_f7, ↓lk_o7, ↓sRV_f7, ↓sRV_o7, ↓pV_f8, ↓pV_o8, ↓pRV_f8, ↓pRV_o8, ↓lk_f8, ↓lk_o8, ↓sRV_f8, ↓sRV_o8, ↓pV_f9, ↓pV_o9, ↓pRV_f9, ↓pRV_o9, ↓lk_f9, ↓lk_o9, ↓sRV_f9, ↓sRV_o9, ↓pV_f10, ↓pV_o10, ↓pRV_f10, ↓pRV_o10, ↓lk_f10, ↓lk_o10, ↓sRV_f10, ↓sRV_o10, ↓pV_f11, ↓pV_o11, ↓pRV_f11, ↓pRV_o11, ↓lk_f11, ↓lk_o11, ↓sRV_f11, ↓sRV_o11, ↓pV_f12, ↓pV_o12, ↓pRV_f12, ↓pRV_o12, ↓lk_f12, ↓lk_o12, ↓sRV_f12, ↓sRV_o12, ↓pV_f13, ↓pV_o13, ↓pRV_f13, ↓pRV_o13, ↓lk_f13, ↓lk_o13, ↓sRV_f13, ↓sRV_o13, ↓lk_fz, ↓of_fn, ↓of_fb, ↓of_fi, ↓of_fs, ↓of_ft, ↓of_fl, ↓of_ol, ↓of_ff, ↓ad_i, ↓ad_s, ↓ad_l, ↓ad_t, ↓su_i, ↓mu_i, ↓mu_l, ↓mo_i, ↓fd_i, ↓pw_i, ↓an_i, ↓ci_i, ↓is_n, ↓is_nn, ↓in_t, ↓in_l, ↓in_s, ↓ix_l, ↓ix_t, ↓ix_s, ↓sl_l, ↓sl_t, ↓sl_s, ↓kn_i, ↓kp_i, ↓kr1, ↓kr2, ↓ke_l, ↓kz_l, ↓kz_t, ↓klr1, ↓klr2, ↓gt_e, ↓gs_n, ↓gs_c, nc_0, nc_1, nc_2, nc_3, nc_4, nc_5, nc_6, nc_7, nc_8, nc_9, nc_10, nc_11, nc_12, eq_ii, eq_ss, eq_nn, eq_bb, eq_st, eq_ts, eq_si, eq_is, eq_it, eq_ti, cmp_i, cmp_b, cmp_n, sc_i, sc_s, sc_b, sc_n, flat_i, flat_s, flat_b, flat_n, tru_n, tru_b, tru_i, tru_t, tru_l, items_t, items_l, len_t, len_l, iter_t, iter_l, isN_n, isN_i, isN_s, isN_t, isN_l, isN_b, at_0, at_1, at_2, at_3, ib_tn, ib_tb, ib_ti, ib_ts, ib_tt, ib_tl, ib_sn, ib_sb, ib_si, ib_ss, ib_st, ib_sl, ib_in, ib_ib, ib_ii, ib_is, ib_it, ib_il, ib_bn, ib_bb, ib_bi, ib_bs, ib_bt, ib_bl, na_n, na_b, na_i, na_s, na_t, na_l, List.getElem?_cons_zero, List.getElem?_cons_succ, List.set_cons_zero, List.set_cons_succ, List.map_cons, List.map_nil, List.length_cons, List.length_nil, List.replicate_succ, List.replicate_zero, List.cons_append, List.nil_append, List.append_nil, List.isEmpty_nil, List.isEmpty_cons, List.cons.injEq, Option.some.injEq, T.int.injEq, T.str.injEq, T.bl.injEq, T.tup.injEq, T.lst.injEq, T.adr.injEq, Sl.fz.injEq, Sl.ow.injEq, exists_eq_left, exists_eq_left', exists_eq_right, exists_eq_right', exists_eq, exists_eq', exists_and_left, exists_and_right, exists_const, exists_false, and_true, true_and, and_false, false_and, or_true, true_or, or_false, false_or, not_true_eq_false, not_false_eq_true, if_true, if_false, ite_true, ite_false, Bool.not_true, Bool.not_false, Bool.true_or, Bool.or_true, Bool.false_or, Bool.or_false, Bool.true_and, Bool.and_true, Bool.false_and, Bool.and_false, Bool.false_eq_true, Bool.true_eq_false, eq_self, decide_eq_true_eq, decide_true, decide_false, Bool.decide_eq_true, Bool.not_eq_true, decide_eq_false_iff_not, Bool.and_eq_true, Bool.or_eq_true, Bool.not_eq_true', reduceCtorEq, ne_eq, Nat.le_refl, Nat.reduceAdd, Nat.reduceSub, Nat.reduceLeDiff, Nat.reduceLT, implies_true, forall_const, List.any_cons, List.any_nil, List.all_cons, List.all_nil, wipeP, restore, List.getD_eq_getElem?_getD, Option.getD_some, List.mem_singleton, forall_eq, Int.reduceLT, Int.reduceLE, Int.reduceNeg, Int.reduceSub, Int.reduceAdd, Int.reduceToNat, Int.reduceEq, Int.reduceNe, String.reduceEq, and_self, or_self, pDraw, pfKind]
  intro r r0 r1
  split
  · refine ⟨4, rfl, by omega, fun t ht => ?_⟩
    obtain ⟨s, h1, h2⟩ := ht
    have e : kb 4 = 263 := rfl
    exact h t ⟨s, kt_le (by omega) h1, by omega⟩
  · refine ⟨1, rfl, by omega, fun t ht => ?_⟩
    obtain ⟨s, h1, h2⟩ := ht
    have e : kb 1 = 25 := rfl
    have hK : KL 2 25 t := ⟨s, h1, by omega⟩
    have fin : ∀ n b t, n ≤ 20 → b ≤ 1000 → KL n b t → Φ t false := fun n b t h1 h2 ⟨s, h3, h4⟩ => h t ⟨s, kt_le h1 h3, by omega⟩
    split
    · intro q q0 q1
      refine ⟨by omega, by omega, fun i ρ => ∃ t a b, ρ = [Sl.fz (T.adr d), Sl.fz (T.int r), Sl.fz t, a, b] ∧ KL (i + 2) (25 + i * 20) t, ⟨_, _, _, rfl, hK⟩, ?_, ?_⟩
      · rintro i u ρ2 e ⟨t, a, b, rfl, ht⟩
        obtain ⟨hi, rfl⟩ := rng_get e
        have e5 : 25 + (i + 1) * 20 = 25 + i * 20 + 20 := by omega
        simp only [↓reduceIte, ↓sSeq, ↓sAsg, ↓sIf, ↓sRet, ↓sRetN, ↓sExpr, ↓sNext, ↓sBreak, ↓sCont, ↓sAug, ↓sFor, ↓gN, ↓pIx, ↓pC, ↓pTup, ↓pLst, ↓pCons, ↓pNil, ↓pStar, ↓pOp, ↓pTB, ↓pTru, ↓pTAnd, ↓pTOr, ↓pTNot, ↓pAndV, ↓pOrV, ↓pNotV, ↓pIf, ↓pCall, ↓pLen, ↓pIsi, ↓pDget, ↓gDset, ↓gSubT, ↓PEq, ↓PNe, ↓pChain, ↓pNeg, ↓pSl, ↓pNoPart, ↓pPart, ↓pIter, ↓pRng1, ↓pRng2, ↓pEnum, ↓pRev, ↓pZip, ↓pMet, ↓pMet0, ↓pMut, ↓pLc, ↓pLRng1, ↓pLRng2, ↓pYes, ↓pRE, ↓startP, ↓pWords, ↓pSplit, ↓gLt, ↓gLe, ↓gGt, ↓gGe, ↓pV_f0, ↓pV_o0, ↓pRV_f0, ↓pRV_o0, ↓lk_f0, ↓lk_o0, ↓sRV_f0, ↓sRV_o0, ↓pV_f1, ↓pV_o1, ↓pRV_f1, ↓pRV_o1, ↓lk_f1, ↓lk_o1, ↓sRV_f1, ↓sRV_o1, ↓pV_f2, ↓pV_o2, ↓pRV_f2, ↓pRV_o2, ↓lk_f2, ↓lk_o2, ↓sRV_f2, ↓sRV_o2, ↓pV_f3, ↓pV_o3, ↓pRV_f3, ↓pRV_o3, ↓lk_f3, ↓lk_o3, ↓sRV_f3, ↓sRV_o3, ↓pV_f4, ↓pV_o4, ↓pRV_f4, ↓pRV_o4, ↓lk_f4, ↓lk_o4, ↓sRV_f4, ↓sRV_o4, ↓pV_f5, ↓pV_o5, ↓pRV_f5, ↓pRV_o5, ↓lk_f5, ↓lk_o5, ↓sRV_f5, ↓sRV_o5, ↓pV_f6, ↓pV_o6, ↓pRV_f6, ↓pRV_o6, ↓lk_f6, ↓lk_o6, ↓sRV_f6, ↓sRV_o6, ↓pV_f7, ↓pV_o7, ↓pRV_f7, ↓pRV_o7, ↓lk_f7, ↓lk_o7, ↓sRV_f7, ↓sRV_o7, ↓pV_f8, ↓pV_o8, ↓pRV_f8, ↓pRV_o8, ↓lk_f8, ↓lk_o8, ↓sRV_f8, ↓sRV_o8, ↓pV_f9, ↓pV_o9, ↓pRV_f9, ↓pRV_o9, ↓lk_f9, ↓lk_o9, ↓sRV_f9, ↓sRV_o9, ↓pV_f10, ↓pV_o10, ↓pRV_f10, ↓pRV_o10, ↓lk_f10, ↓lk_o10, ↓sRV_f10, ↓sRV_o10, ↓pV_f11, ↓pV_o11, ↓pRV_f11, ↓pRV_o11, ↓lk_f11, ↓lk_o11, ↓sRV_f11, ↓sRV_o11, ↓pV_f12, ↓pV_o12, ↓pRV_f12, ↓pRV_o12, ↓lk_f12, ↓lk_o12, ↓sRV_f12, ↓sRV_o12, ↓pV_f13, ↓pV_o13, ↓pRV_f13, ↓pRV_o13, ↓lk_f13, ↓lk_o13, ↓sRV_f13, ↓sRV_o13, ↓lk_fz, ↓of_fn, ↓of_fb, ↓of_fi, ↓of_fs, ↓of_ft, ↓of_fl, ↓of_ol, ↓of_ff, ↓ad_i, ↓ad_s, ↓ad_l, ↓ad_t, ↓su_i, ↓mu_i, ↓mu_l, ↓mo_i, ↓fd_i, ↓pw_i, ↓an_i, ↓ci_i, ↓is_n, ↓is_nn, ↓in_t, ↓in_l, ↓in_s, ↓ix_l, ↓ix_t, ↓ix_s, ↓sl_l, ↓sl_t, ↓sl_s, ↓kn_i, ↓kp_i, ↓kr1, ↓kr2, ↓ke_l, ↓kz_l, ↓kz_t, ↓klr1, ↓klr2, ↓gt_e, ↓gs_n, ↓gs_c, nc_0, nc_1, nc_2, nc_3, nc_4, nc_5, nc_6, nc_7, nc_8, nc_9, nc_10, nc_11, nc_12, eq_ii, eq_ss, eq_nn, eq_bb, eq_st, eq_ts, eq_si, eq_is, eq_it, eq_ti, cmp_i, cmp_b, cmp_n, sc_i, sc_s, sc_b, sc_n, flat_i, flat_s, flat_b, flat_n, tru_n, tru_b, tru_i, tru_t, tru_l, items_t, items_l, len_t, len_l, iter_t, iter_l, isN_n, isN_i, isN_s, isN_t, isN_l, isN_b, at_0, at_1, at_2, at_3, ib_tn, ib_tb, ib_ti, ib_ts, ib_tt, ib_tl, ib_sn, ib_sb, ib_si, ib_ss, ib_st, ib_sl, ib_in, ib_ib, ib_ii, ib_is, ib_it, ib_il, ib_bn, ib_bb, ib_bi, ib_bs, ib_bt, ib_bl, na_n, na_b, na_i, na_s, na_t, na_l, List.getElem?_cons_zero, List.getElem?_cons_succ, List.set_cons_zero, List.set_cons_succ, List.map_cons, List.map_nil, List.length_cons, List.length_nil, List.replicate_succ, List.replicate_zero, List.cons_append, List.nil_append, List.append_nil, List.isEmpty_nil, List.isEmpty_cons, List.cons.injEq, Option.some.injEq, T.int.injEq, T.str.injEq, T.bl.injEq, T.tup.injEq, T.lst.injEq, T.adr.injEq, Sl.fz.injEq, Sl.ow.injEq, exists_eq_left, exists_eq_left', exists_eq_right, exists_eq_right', exists_eq, exists_eq', exists_and_left, exists_and_right, exists_const, exists_false, and_true, true_and, and_false, false_and, or_true, true_or, or_false, false_or, not_true_eq_false, not_false_eq_true, if_true, if_false, ite_true, ite_false, Bool.not_true, Bool.not_false, Bool.true_or, Bool.or_true, Bool.false_or, Bool.or_false, Bool.true_and, Bool.and_true, Bool.false_and, Bool.and_false, Bool.false_eq_true, Bool.true_eq_false, eq_self, decide_eq_true_eq, decide_true, decide_false, Bool.decide_eq_true, Bool.not_eq_true, decide_eq_false_iff_not, Bool.and_eq_true, Bool.or_eq_true, Bool.not_eq_true', reduceCtorEq, ne_eq, Nat.le_refl, Nat.reduceAdd, Nat.reduceSub, Nat.reduceLeDiff, Nat.reduceLT, implies_true, forall_const, List.any_cons, List.any_nil, List.all_cons, List.all_nil, wipeP, restore, List.getD_eq_getElem?_getD, Option.getD_some, List.mem_singleton, forall_eq, Int.reduceLT, Int.reduceLE, Int.reduceNeg, Int.reduceSub, Int.reduceAdd, Int.reduceToNat, Int.reduceEq, Int.reduceNe, String.reduceEq, and_self, or_self, pDraw, pfInt]
        intro x x0 x1
        rw [e5]
        split
        · exact kl_opt ht
        · intro j hj
          exact kl_row ht hj
      · rintro ρ2 ⟨t, a, b, rfl, ht⟩
        rw [rng_len] at ht
        simp only [↓reduceIte, ↓sSeq, ↓sAsg, ↓sIf, ↓sRet, ↓sRetN, ↓sExpr, ↓sNext, ↓sBreak, ↓sCont, ↓sAug, ↓sFor, ↓gN, ↓pIx, ↓pC, ↓pTup, ↓pLst, ↓pCons, ↓pNil, ↓pStar, ↓pOp, ↓pTB, ↓pTru, ↓pTAnd, ↓pTOr, ↓pTNot, ↓pAndV, ↓pOrV, ↓pNotV, ↓pIf, ↓pCall, ↓pLen, ↓pIsi, ↓pDget, ↓gDset, ↓gSubT, ↓PEq, ↓PNe, ↓pChain, ↓pNeg, ↓pSl, ↓pNoPart, ↓pPart, ↓pIter, ↓pRng1, ↓pRng2, ↓pEnum, ↓pRev, ↓pZip, ↓pMet, ↓pMet0, ↓pMut, ↓pLc, ↓pLRng1, ↓pLRng2, ↓pYes, ↓pRE, ↓startP, ↓pWords, ↓pSplit, ↓gLt, ↓gLe, ↓gGt, ↓gGe, ↓pV_f0, ↓pV_o0, ↓pRV_f0, ↓pRV_o0, ↓lk_f0, ↓lk_o0, ↓sRV_f0, ↓sRV_o0, ↓pV_f1, ↓pV_o1, ↓pRV_f1, ↓pRV_o1, ↓lk_f1, ↓lk_o1, ↓sRV_f1, ↓sRV_o1, ↓pV_f2, ↓pV_o2, ↓pRV_f2, ↓pRV_o2, ↓lk_f2, ↓lk_o2, ↓sRV_f2, ↓sRV_o2, ↓pV_f3, ↓pV_o3, ↓pRV_f3, ↓pRV_o3, ↓lk_f3, ↓lk_o3, ↓sRV_f3, ↓sRV_o3, ↓pV_f4, ↓pV_o4, ↓pRV_f4, ↓pRV_o4, ↓lk_f4, ↓lk_o4, ↓sRV_f4, ↓sRV_o4, ↓pV_f5, ↓pV_o5, ↓pRV_f5, ↓pRV_o5, ↓lk_f5, ↓lk_o5, ↓sRV_f5, ↓sRV_o5, ↓pV_f6, ↓pV_o6, ↓pRV_f6, ↓pRV_o6, ↓lk_f6, ↓lk_o6, ↓sRV_f6, ↓sRV_o6, ↓pV_f7, ↓pV_o7, ↓pRV_f7, ↓pRV_o7, ↓lk_f7, ↓lk_o7, ↓sRV_f7, ↓sRV_o7, ↓pV_f8, ↓pV_o8, ↓pRV_f8, ↓pRV_o8, ↓lk_f8, ↓lk_o8, ↓sRV_f8, ↓sRV_o8, ↓pV_f9, ↓pV_o9, ↓pRV_f9, ↓pRV_o9, ↓lk_f9, ↓lk_o9, ↓sRV_f9, ↓sRV_o9, ↓pV_f10, ↓pV_o10, ↓pRV_f10, ↓pRV_o10, ↓lk_f10, ↓lk_o10, ↓sRV_f10, ↓sRV_o10, ↓pV_f11, ↓pV_o11, ↓pRV_f11, ↓pRV_o11, ↓lk_f11, ↓lk_o11, ↓sRV_f11, ↓sRV_o11, ↓pV_f12, ↓pV_o12, ↓pRV_f12, ↓pRV_o12, ↓lk_f12, ↓lk_o12, ↓sRV_f12, ↓sRV_o12, ↓pV_f13, ↓pV_o13, ↓pRV_f13, ↓pRV_o13, ↓lk_f13, ↓lk_o13, ↓sRV_f13, ↓sRV_o13, ↓lk_fz, ↓of_fn, ↓of_fb, ↓of_fi, ↓of_fs, ↓of_ft, ↓of_fl, ↓of_ol, ↓of_ff, ↓ad_i, ↓ad_s, ↓ad_l, ↓ad_t, ↓su_i, ↓mu_i, ↓mu_l, ↓mo_i, ↓fd_i, ↓pw_i, ↓an_i, ↓ci_i, ↓is_n, ↓is_nn, ↓in_t, ↓in_l, ↓in_s, ↓ix_l, ↓ix_t, ↓ix_s, ↓sl_l, ↓sl_t, ↓sl_s, ↓kn_i, ↓kp_i, ↓kr1, ↓kr2, ↓ke_l, ↓kz_l, ↓kz_t, ↓klr1, ↓klr2, ↓gt_e, ↓gs_n, ↓gs_c, nc_0, nc_1, nc_2, nc_3, nc_4, nc_5, nc_6, nc_7, nc_8, nc_9, nc_10, nc_11, nc_12, eq_ii, eq_ss, eq_nn, eq_bb, eq_st, eq_ts, eq_si, eq_is, eq_it, eq_ti, cmp_i, cmp_b, cmp_n, sc_i, sc_s, sc_b, sc_n, flat_i, flat_s, flat_b, flat_n, tru_n, tru_b, tru_i, tru_t, tru_l, items_t, items_l, len_t, len_l, iter_t, iter_l, isN_n, isN_i, isN_s, isN_t, isN_l, isN_b, at_0, at_1, at_2, at_3, ib_tn, ib_tb, ib_ti, ib_ts, ib_tt, ib_tl, ib_sn, ib_sb, ib_si, ib_ss, ib_st, ib_sl, ib_in, ib_ib, ib_ii, ib_is, ib_it, ib_il, ib_bn, ib_bb, ib_bi, ib_bs, ib_bt, ib_bl, na_n, na_b, na_i, na_s, na_t, na_l, List.getElem?_cons_zero, List.getElem?_cons_succ, List.set_cons_zero, List.set_cons_succ, List.map_cons, List.map_nil, List.length_cons, List.length_nil, List.replicate_succ, List.replicate_zero, List.cons_append, List.nil_append, List.append_nil, List.isEmpty_nil, List.isEmpty_cons, List.cons.injEq, Option.some.injEq, T.int.injEq, T.str.injEq, T.bl.injEq, T.tup.injEq, T.lst.injEq, T.adr.injEq, Sl.fz.injEq, Sl.ow.injEq, exists_eq_left, exists_eq_left', exists_eq_right, exists_eq_right', exists_eq, exists_eq', exists_and_left, exists_and_right, exists_const, exists_false, and_true, true_and, and_false, false_and, or_true, true_or, or_false, false_or, not_true_eq_false, not_false_eq_true, if_true, if_false, ite_true, ite_false, Bool.not_true, Bool.not_false, Bool.true_or, Bool.or_true, Bool.false_or, Bool.or_false, Bool.true_and, Bool.and_true, Bool.false_and, Bool.and_false, Bool.false_eq_true, Bool.true_eq_false, eq_self, decide_eq_true_eq, decide_true, decide_false, Bool.decide_eq_true, Bool.not_eq_true, decide_eq_false_iff_not, Bool.and_eq_true, Bool.or_eq_true, Bool.not_eq_true', reduceCtorEq, ne_eq, Nat.le_refl, Nat.reduceAdd, Nat.reduceSub, Nat.reduceLeDiff, Nat.reduceLT, implies_true, forall_const, List.any_cons, List.any_nil, List.all_cons, List.all_nil, wipeP, restore, List.getD_eq_getElem?_getD, Option.getD_some, List.mem_singleton, forall_eq, Int.reduceLT, Int.reduceLE, Int.reduceNeg, Int.reduceSub, Int.reduceAdd, Int.reduceToNat, Int.reduceEq, Int.reduceNe, String.reduceEq, and_self, or_self]
        exact fin _ _ t (by omega) (by omega) ht
    · intro q q0 q1
      refine ⟨by omega, by omega, fun i ρ => ∃ t a b, ρ = [Sl.fz (T.adr d), Sl.fz (T.int r), Sl.fz t, a, b] ∧ KL (i + 2) (25 + i * 20) t, ⟨_, _, _, rfl, hK⟩, ?_, ?_⟩
      · rintro i u ρ2 e ⟨t, a, b, rfl, ht⟩
        obtain ⟨hi, rfl⟩ := rng_get e
        have e5 : 25 + (i + 1) * 20 = 25 + i * 20 + 20 := by omega
        simp only [↓reduceIte, ↓sSeq, ↓sAsg, ↓sIf, ↓sRet, ↓sRetN, ↓sExpr, ↓sNext, ↓sBreak, ↓sCont, ↓sAug, ↓sFor, ↓gN, ↓pIx, ↓pC, ↓pTup, ↓pLst, ↓pCons, ↓pNil, ↓pStar, ↓pOp, ↓pTB, ↓pTru, ↓pTAnd, ↓pTOr, ↓pTNot, ↓pAndV, ↓pOrV, ↓pNotV, ↓pIf, ↓pCall, ↓pLen, ↓pIsi, ↓pDget, ↓gDset, ↓gSubT, ↓PEq, ↓PNe, ↓pChain, ↓pNeg, ↓pSl, ↓pNoPart, ↓pPart, ↓pIter, ↓pRng1, ↓pRng2, ↓pEnum, ↓pRev, ↓pZip, ↓pMet, ↓pMet0, ↓pMut, ↓pLc, ↓pLRng1, ↓pLRng2, ↓pYes, ↓pRE, ↓startP, ↓pWords, ↓pSplit, ↓gLt, ↓gLe, ↓gGt, ↓gGe, ↓pV_f0, ↓pV_o0, ↓pRV_f0, ↓pRV_o0, ↓lk_f0, ↓lk_o0, ↓sRV_f0, ↓sRV_o0, ↓pV_f1, ↓pV_o1, ↓pRV_f1, ↓pRV_o1, ↓lk_f1, ↓lk_o1, ↓sRV_f1, ↓sRV_o1, ↓pV_f2, ↓pV_o2, ↓pRV_f2, ↓pRV_o2, ↓lk_f2, ↓lk_o2, ↓sRV_f2, ↓sRV_o2, ↓pV_f3, ↓pV_o3, ↓pRV_f3, ↓pRV_o3, ↓lk_f3, ↓lk_o3, ↓sRV_f3, ↓sRV_o3, ↓pV_f4, ↓pV_o4, ↓pRV_f4, ↓pRV_o4, ↓lk_f4, ↓lk_o4, ↓sRV_f4, ↓sRV_o4, ↓pV_f5, ↓pV_o5, ↓pRV_f5, ↓pRV_o5, ↓lk_f5, ↓lk_o5, ↓sRV_f5, ↓sRV_o5, ↓pV_f6, ↓pV_o6, ↓pRV_f6, ↓pRV_o6, ↓lk_f6, ↓lk_o6, ↓sRV_f6, ↓sRV_o6, ↓pV_f7, ↓pV_o7, ↓pRV_f7, ↓pRV_o7, ↓lk_f7, ↓lk_o7, ↓sRV_f7, ↓sRV_o7, ↓pV_f8, ↓pV_o8, ↓pRV_f8, ↓pRV_o8, ↓lk_f8, ↓lk_o8, ↓sRV_f8, ↓sRV_o8, ↓pV_f9, ↓pV_o9, ↓pRV_f9, ↓pRV_o9, ↓lk_f9, ↓lk_o9, ↓sRV_f9, ↓sRV_o9, ↓pV_f10, ↓pV_o10, ↓pRV_f10, ↓pRV_o10, ↓lk_f10, ↓lk_o10, ↓sRV_f10, ↓sRV_o10, ↓pV_f11, ↓pV_o11, ↓pRV_f11, ↓pRV_o11, ↓lk_f11, ↓lk_o11, ↓sRV_f11, ↓sRV_o11, ↓pV_f12, ↓pV_o12, ↓pRV_f12, ↓pRV_o12, ↓lk_f12, ↓lk_o12, ↓sRV_f12, ↓sRV_o12, ↓pV_f13, ↓pV_o13, ↓pRV_f13, ↓pRV_o13, ↓lk_f13, ↓lk_o13, ↓sRV_f13, ↓sRV_o13, ↓lk_fz, ↓of_fn, ↓of_fb, ↓of_fi, ↓of_fs, ↓of_ft, ↓of_fl, ↓of_ol, ↓of_ff, ↓ad_i, ↓ad_s, ↓ad_l, ↓ad_t, ↓su_i, ↓mu_i, ↓mu_l, ↓mo_i, ↓fd_i, ↓pw_i, ↓an_i, ↓ci_i, ↓is_n, ↓is_nn, ↓in_t, ↓in_l, ↓in_s, ↓ix_l, ↓ix_t, ↓ix_s, ↓sl_l, ↓sl_t, ↓sl_s, ↓kn_i, ↓kp_i, ↓kr1, ↓kr2, ↓ke_l, ↓kz_l, ↓kz_t, ↓klr1, ↓klr2, ↓gt_e, ↓gs_n, ↓gs_c, nc_0, nc_1, nc_2, nc_3, nc_4, nc_5, nc_6, nc_7, nc_8, nc_9, nc_10, nc_11, nc_12, eq_ii, eq_ss, eq_nn, eq_bb, eq_st, eq_ts, eq_si, eq_is, eq_it, eq_ti, cmp_i, cmp_b, cmp_n, sc_i, sc_s, sc_b, sc_n, flat_i, flat_s, flat_b, flat_n, tru_n, tru_b, tru_i, tru_t, tru_l, items_t, items_l, len_t, len_l, iter_t, iter_l, isN_n, isN_i, isN_s, isN_t, isN_l, isN_b, at_0, at_1, at_2, at_3, ib_tn, ib_tb, ib_ti, ib_ts, ib_tt, ib_tl, ib_sn, ib_sb, ib_si, ib_ss, ib_st, ib_sl, ib_in, ib_ib, ib_ii, ib_is, ib_it, ib_il, ib_bn, ib_bb, ib_bi, ib_bs, ib_bt, ib_bl, na_n, na_b, na_i, na_s, na_t, na_l, List.getElem?_cons_zero, List.getElem?_cons_succ, List.set_cons_zero, List.set_cons_succ, List.map_cons, List.map_nil, List.length_cons, List.length_nil, List.replicate_succ, List.replicate_zero, List.cons_append, List.nil_append, List.append_nil, List.isEmpty_nil, List.isEmpty_cons, List.cons.injEq, Option.some.injEq, T.int.injEq, T.str.injEq, T.bl.injEq, T.tup.injEq, T.lst.injEq, T.adr.injEq, Sl.fz.injEq, Sl.ow.injEq, exists_eq_left, exists_eq_left', exists_eq_right, exists_eq_right', exists_eq, exists_eq', exists_and_left, exists_and_right, exists_const, exists_false, and_true, true_and, and_false, false_and, or_true, true_or, or_false, false_or, not_true_eq_false, not_false_eq_true, if_true, if_false, ite_true, ite_false, Bool.not_true, Bool.not_false, Bool.true_or, Bool.or_true, Bool.false_or, Bool.or_false, Bool.true_and, Bool.and_true, Bool.false_and, Bool.and_false, Bool.false_eq_true, Bool.true_eq_false, eq_self, decide_eq_true_eq, decide_true, decide_false, Bool.decide_eq_true, Bool.not_eq_true, decide_eq_false_iff_not, Bool.and_eq_true, Bool.or_eq_true, Bool.not_eq_true', reduceCtorEq, ne_eq, Nat.le_refl, Nat.reduceAdd, Nat.reduceSub, Nat.reduceLeDiff, Nat.reduceLT, implies_true, forall_const, List.any_cons, List.any_nil, List.all_cons, List.all_nil, wipeP, restore, List.getD_eq_getElem?_getD, Option.getD_some, List.mem_singleton, forall_eq, Int.reduceLT, Int.reduceLE, Int.reduceNeg, Int.reduceSub, Int.reduceAdd, Int.reduceToNat, Int.reduceEq, Int.reduceNe, String.reduceEq, and_self, or_self, pDraw, pfFields, pfName]
        rw [e5]
        intro x x0 x1
        refine ⟨0, x, ⟨rfl, rfl⟩, by omega, by omega, by omega, fun l hl hf y y0 y1 => ?_⟩
        refine pick_all y0 (by show y < 2; omega) fun u hu n hn => ?_
        refine ⟨by rw [List.length_map]; omega, ?_⟩
        simp only [List.mem_cons, List.not_mem_nil, or_false] at hu
        rcases hu with rfl | rfl
        · exact kl_fld (.inl rfl) ht hn (by omega) hf
        · exact kl_fld (.inr rfl) ht hn (by omega) hf
      · rintro ρ2 ⟨t, a, b, rfl, ht⟩
        rw [rng_len] at ht
        simp only [↓reduceIte, ↓sSeq, ↓sAsg, ↓sIf, ↓sRet, ↓sRetN, ↓sExpr, ↓sNext, ↓sBreak, ↓sCont, ↓sAug, ↓sFor, ↓gN, ↓pIx, ↓pC, ↓pTup, ↓pLst, ↓pCons, ↓pNil, ↓pStar, ↓pOp, ↓pTB, ↓pTru, ↓pTAnd, ↓pTOr, ↓pTNot, ↓pAndV, ↓pOrV, ↓pNotV, ↓pIf, ↓pCall, ↓pLen, ↓pIsi, ↓pDget, ↓gDset, ↓gSubT, ↓PEq, ↓PNe, ↓pChain, ↓pNeg, ↓pSl, ↓pNoPart, ↓pPart, ↓pIter, ↓pRng1, ↓pRng2, ↓pEnum, ↓pRev, ↓pZip, ↓pMet, ↓pMet0, ↓pMut, ↓pLc, ↓pLRng1, ↓pLRng2, ↓pYes, ↓pRE, ↓startP, ↓pWords, ↓pSplit, ↓gLt, ↓gLe, ↓gGt, ↓gGe, ↓pV_f0, ↓pV_o0, ↓pRV_f0, ↓pRV_o0, ↓lk_f0, ↓lk_o0, ↓sRV_f0, ↓sRV_o0, ↓pV_f1, ↓pV_o1, ↓pRV_f1, ↓pRV_o1, ↓lk_f1, ↓lk_o1, ↓sRV_f1, ↓sRV_o1, ↓pV_f2, ↓pV_o2, ↓pRV_f2, ↓pRV_o2, ↓lk_f2, ↓lk_o2, ↓sRV_f2, ↓sRV_o2, ↓pV_f3, ↓pV_o3, ↓pRV_f3, ↓pRV_o3, ↓lk_f3, ↓lk_o3, ↓sRV_f3, ↓sRV_o3, ↓pV_f4, ↓pV_o4, ↓pRV_f4, ↓pRV_o4, ↓lk_f4, ↓lk_o4, ↓sRV_f4, ↓sRV_o4, ↓pV_f5, ↓pV_o5, ↓pRV_f5, ↓pRV_o5, ↓lk_f5, ↓lk_o5, ↓sRV_f5, ↓sRV_o5, ↓pV_f6, ↓pV_o6, ↓pRV_f6, ↓pRV_o6, ↓lk_f6, ↓lk_o6, ↓sRV_f6, ↓sRV_o6, ↓pV_f7, ↓pV_o7, ↓pRV_f7, ↓pRV_o7, ↓lk_f7, ↓lk_o7, ↓sRV_f7, ↓sRV_o7, ↓pV_f8, ↓pV_o8, ↓pRV_f8, ↓pRV_o8, ↓lk_f8, ↓lk_o8, ↓sRV_f8, ↓sRV_o8, ↓pV_f9, ↓pV_o9, ↓pRV_f9, ↓pRV_o9, ↓lk_f9, ↓lk_o9, ↓sRV_f9, ↓sRV_o9, ↓pV_f10, ↓pV_o10, ↓pRV_f10, ↓pRV_o10, ↓lk_f10, ↓lk_o10, ↓sRV_f10, ↓sRV_o10, ↓pV_f11, ↓pV_o11, ↓pRV_f11, ↓pRV_o11, ↓lk_f11, ↓lk_o11, ↓sRV_f11, ↓sRV_o11, ↓pV_f12, ↓pV_o12, ↓pRV_f12, ↓pRV_o12, ↓lk_f12, ↓lk_o12, ↓sRV_f12, ↓sRV_o12, ↓pV_f13, ↓pV_o13, ↓pRV_f13, ↓pRV_o13, ↓lk_f13, ↓lk_o13, ↓sRV_f13, ↓sRV_o13, ↓lk_fz, ↓of_fn, ↓of_fb, ↓of_fi, ↓of_fs, ↓of_ft, ↓of_fl, ↓of_ol, ↓of_ff, ↓ad_i, ↓ad_s, ↓ad_l, ↓ad_t, ↓su_i, ↓mu_i, ↓mu_l, ↓mo_i, ↓fd_i, ↓pw_i, ↓an_i, ↓ci_i, ↓is_n, ↓is_nn, ↓in_t, ↓in_l, ↓in_s, ↓ix_l, ↓ix_t, ↓ix_s, ↓sl_l, ↓sl_t, ↓sl_s, ↓kn_i, ↓kp_i, ↓kr1, ↓kr2, ↓ke_l, ↓kz_l, ↓kz_t, ↓klr1, ↓klr2, ↓gt_e, ↓gs_n, ↓gs_c, nc_0, nc_1, nc_2, nc_3, nc_4, nc_5, nc_6, nc_7, nc_8, nc_9, nc_10, nc_11, nc_12, eq_ii, eq_ss, eq_nn, eq_bb, eq_st, eq_ts, eq_si, eq_is, eq_it, eq_ti, cmp_i, cmp_b, cmp_n, sc_i, sc_s, sc_b, sc_n, flat_i, flat_s, flat_b, flat_n, tru_n, tru_b, tru_i, tru_t, tru_l, items_t, items_l, len_t, len_l, iter_t, iter_l, isN_n, isN_i, isN_s, isN_t, isN_l, isN_b, at_0, at_1, at_2, at_3, ib_tn, ib_tb, ib_ti, ib_ts, ib_tt, ib_tl, ib_sn, ib_sb, ib_si, ib_ss, ib_st, ib_sl, ib_in, ib_ib, ib_ii, ib_is, ib_it, ib_il, ib_bn, ib_bb, ib_bi, ib_bs, ib_bt, ib_bl, na_n, na_b, na_i, na_s, na_t, na_l, List.getElem?_cons_zero, List.getElem?_cons_succ, List.set_cons_zero, List.set_cons_succ, List.map_cons, List.map_nil, List.length_cons, List.length_nil, List.replicate_succ, List.replicate_zero, List.cons_append, List.nil_append, List.append_nil, List.isEmpty_nil, List.isEmpty_cons, List.cons.injEq, Option.some.injEq, T.int.injEq, T.str.injEq, T.bl.injEq, T.tup.injEq, T.lst.injEq, T.adr.injEq, Sl.fz.injEq, Sl.ow.injEq, exists_eq_left, exists_eq_left', exists_eq_right, exists_eq_right', exists_eq, exists_eq', exists_and_left, exists_and_right, exists_const, exists_false, and_true, true_and, and_false, false_and, or_true, true_or, or_false, false_or, not_true_eq_false, not_false_eq_true, if_true, if_false, ite_true, ite_false, Bool.not_true, Bool.not_false, Bool.true_or, Bool.or_true, Bool.false_or, Bool.or_false, Bool.true_and, Bool.and_true, Bool.false_and, Bool.and_false, Bool.false_eq_true, Bool.true_eq_false, eq_self, decide_eq_true_eq, decide_true, decide_false, Bool.decide_eq_true, Bool.not_eq_true, decide_eq_false_iff_not, Bool.and_eq_true, Bool.or_eq_true, Bool.not_eq_true', reduceCtorEq, ne_eq, Nat.le_refl, Nat.reduceAdd, Nat.reduceSub, Nat.reduceLeDiff, Nat.reduceLT, implies_true, forall_const, List.any_cons, List.any_nil, List.all_cons, List.all_nil, wipeP, restore, List.getD_eq_getElem?_getD, Option.getD_some, List.mem_singleton, forall_eq, Int.reduceLT, Int.reduceLE, Int.reduceNeg, Int.reduceSub, Int.reduceAdd, Int.reduceToNat, Int.reduceEq, Int.reduceNe, String.reduceEq, and_self, or_self]
        exact fin _ _ t (by omega) (by omega) ht
theorem ok_deep_way {d l : Addr} {k : Nat}  (D : Df K mg "_law_deep_way" s_deep_way)
    (C_draw : CalQ P w K mg base (wd d l 3) "_law_draw" k ["_law_d", "_law_many"] (pDraw d))
    (C_any_way : CalQ P w K mg base (wd d l 3) "_law_any_way" k ["_law_d", "_law_deep"] (pfWay d 4))
    (C_any_value : CalQ P w K mg base (wd d l 3) "_law_any_value" k ["_law_d", "_law_deep"] (pfValue d 2))
    (C_any_trio : CalQ P w K mg base (wd d l 3) "_law_any_trio" k ["_law_d", "_law_word", "_law_deep"] (pfTrio d 0)) (m_range : mg "range" = none) (m_tuple : mg "tuple" = none) :
    CalQ P w K mg base (wd d l 3) "_law_deep_way" (k + 1) ["_law_d"] (pfDW d) := by
  refine CalQ.mk D sc_deep_way (fun _ _ _ _ _ _ us h => match us, h with | [_], _ => rfl) (fun ts Φ h => by first | (obtain ⟨rfl, _⟩ := h; rfl) | (obtain ⟨_, rfl, _⟩ := h; rfl) | (obtain ⟨_, _, rfl, _⟩ := h; rfl) | (obtain ⟨_, _, _, rfl, _⟩ := h; rfl) | (obtain ⟨_, _, _, _, rfl, _⟩ := h; rfl)) (fun f cdv A outer s H E hr => ?_)
  refine ⟨_, qss_cons (qs_asg qe_int (qg_dset (qe_name (pv 0)) qe_int))
    (qss_cons (qs_asg qe_int (qg_dset (qe_name (pv 0)) qe_int))
    (qss_cons (qs_set (i := 1) sc_deep_way.nd rfl (.inl rfl) (qe_call C_draw (hr.mono (by omega)) (by rfl) (qa_cons (qe_name (pv 0)) (qa_cons qe_int qa_nil))))
    (qss_cons (qs_if (qt_cmp oq_lt (qe_name (pv 1)) qe_int (nomark _))
    (qss_one (qs_ret (qe_call C_any_way (hr.mono (by omega)) (by rfl) (qa_cons (qe_name (pv 0)) (qa_cons qe_int qa_nil)))))
    (qss_nil))
    (qss_cons (qs_set (i := 2) sc_deep_way.nd rfl (.inl rfl) (qe_call C_any_way (hr.mono (by omega)) (by rfl) (qa_cons (qe_name (pv 0)) (qa_cons qe_int qa_nil))))
    (qss_cons (qs_if (qt_cmp (oq_eq hr.units) (qe_name (pv 1)) qe_int (nomark _))
    (qss_cons (qs_for (passes_of rfl) rfl (qi_range1 (by rfl) m_range (qe_op oq_add qe_int (qe_call C_draw (hr.mono (by omega)) (by rfl) (qa_cons (qe_name (pv 0)) (qa_cons qe_int qa_nil))))) (qg_name (pg_name (i := 3) sc_deep_way.nd rfl (.inl rfl)))
      (qss_cons (qs_set (i := 4) sc_deep_way.nd rfl (.inr rfl) (qe_ix (qr_of (qe_lst (qa_cons qe_str (qa_cons qe_str (qa_cons qe_str (qa_cons qe_str qa_nil)))))) (qe_call C_draw (hr.mono (by omega)) (by rfl) (qa_cons (qe_name (pv 0)) (qa_cons qe_int qa_nil))) (fun _ _ => rfl)))
        (qss_one (qs_set (i := 2) sc_deep_way.nd rfl (.inl rfl) (qe_if (qt_cmp (oq_in hr.units65) (qe_name (pv 4)) (qe_lst (qa_cons qe_str (qa_cons qe_str qa_nil))) rfl) (qe_tup (qa_cons (qe_name (pv 4)) (qa_cons (qe_name (pv 2)) (qa_cons (qe_call C_any_value (hr.mono (by omega)) (by rfl) (qa_cons (qe_name (pv 0)) (qa_cons qe_int qa_nil))) qa_nil)))) (qe_tup (qa_cons (qe_name (pv 4)) (qa_cons (qe_name (pv 2)) qa_nil))))))))
      (qss_one (qs_retV (pv 2))))
    (qss_nil))
    (qss_cons (qs_for (passes_of rfl) rfl (qi_range1 (by rfl) m_range (qe_op oq_add qe_int (qe_call C_draw (hr.mono (by omega)) (by rfl) (qa_cons (qe_name (pv 0)) (qa_cons qe_int qa_nil))))) (qg_name (pg_name (i := 3) sc_deep_way.nd rfl (.inl rfl)))
    (qss_cons (qs_set (i := 4) sc_deep_way.nd rfl (.inr rfl) (qe_ix (qr_of (qe_lst (qa_cons qe_str (qa_cons qe_str qa_nil)))) (qe_call C_draw (hr.mono (by omega)) (by rfl) (qa_cons (qe_name (pv 0)) (qa_cons qe_int qa_nil))) (fun _ _ => rfl)))
      (qss_cons (qs_setLc (i := 5) rfl (own := [("_law_turn", 6)]) sc_deep_way.nd rfl rfl (sw_true rfl rfl rfl (by decide +kernel)) (by decide) (qi_range1 (by rfl) m_range (qe_op oq_add qe_int (qe_call C_draw (hr.mono (by omega)) (by rfl) (qa_cons (qe_name (pv 0)) (qa_cons qe_int qa_nil))))) (blkOk_by (N := ["_law_d", "_law_shape", "_law_way", "_law_k", "_law_word", "_law_trios", "_law_turn"]) (sc := defScope s_deep_way) (by decide +kernel)) (fun _ _ _ _ _ => (qg_name (pg_name (i := 6) sc_deep_way.nd rfl (.inl rfl)))) (fun _ _ _ _ _ => qts_nil) (fun _ _ _ _ _ => (qe_call C_any_trio (hr.mono (by omega)) (by rfl) (qa_cons (qe_name (pv 0)) (qa_cons (qe_name (pv 4)) (qa_cons qe_int qa_nil))))))
      (qss_one (qs_set (i := 2) sc_deep_way.nd rfl (.inl rfl) (qe_tup (qa_cons (qe_name (pv 4)) (qa_cons (qe_op oq_add (qe_tup (qa_cons (qe_op oq_add (qe_slice (qr_of (qe_ix (qr_name (pv 5)) qe_int (fun _ _ => rfl))) qo_none (qo_some qe_int)) (qe_tup (qa_cons (qe_name (pv 2)) qa_nil))) qa_nil)) (qe_callTy cq_tuple (by rfl) m_tuple (by decide +kernel) (qa_cons (qe_slice (qr_name (pv 5)) (qo_some qe_int) qo_none) qa_nil))) qa_nil))))))))
    (qss_one (qs_retV (pv 2))))))))), ?_⟩
  intro ts Φ h
  obtain ⟨rfl, h⟩ := h
  simp only [↓reduceIte, ↓sSeq, ↓sAsg, ↓sIf, ↓sRet, ↓sRetN, ↓sExpr, ↓sNext, ↓sBreak, ↓sCont, ↓sAug, ↓sFor, ↓gN, ↓pIx, ↓pC, ↓pTup, ↓pLst, ↓pCons, ↓pNil, ↓pStar, ↓pOp, ↓pTB, ↓pTru, ↓pTAnd, ↓pTOr, ↓pTNot, ↓pAndV, ↓pOrV, ↓pNotV, ↓pIf, ↓pCall, ↓pLen, ↓pIsi, ↓pDget, ↓gDset, ↓gSubT, ↓PEq, ↓PNe, ↓pChain, ↓pNeg, ↓pSl, ↓pNoPart, ↓pPart, ↓pIter, ↓pRng1, ↓pRng2, ↓pEnum, ↓pRev, ↓pZip, ↓pMet, ↓pMet0, ↓pMut, ↓pLc, ↓pLRng1, ↓pLRng2, ↓pYes, ↓pRE, ↓startP, ↓pWords, ↓pSplit, ↓gLt, ↓gLe, ↓gGt, ↓gGe, ↓pV_f0, ↓pV_o0, ↓pRV_f0, ↓pRV_o0, ↓lk_f0, ↓lk_o0, ↓sRV_f0, ↓sRV_o0, ↓pV_f1, ↓pV_o1, ↓pRV_f1, ↓pRV_o1, ↓lk_f1, ↓lk_o1, ↓sRV_f1, ↓sRV_o1, ↓pV_f2, ↓pV_o2, ↓pRV_f2, ↓pRV_o2, ↓lk_f2, ↓lk_o2, ↓sRV_f2, ↓sRV_o2, ↓pV_f3, ↓pV_o3, ↓pRV_f3, ↓pRV_o3, ↓lk_f3, ↓lk_o3, ↓sRV_f3, ↓sRV_o3, ↓pV_f4, ↓pV_o4, ↓pRV_f4, ↓pRV_o4, ↓lk_f4, ↓lk_o4, ↓sRV_f4, ↓sRV_o4, ↓pV_f5, ↓pV_o5, ↓pRV_f5, ↓pRV_o5, ↓lk_f5, ↓lk_o5, ↓sRV_f5, ↓sRV_o5, ↓pV_f6, ↓pV_o6, ↓pRV_f6, ↓pRV_o6, ↓lk_f6, ↓lk_o6, ↓sRV_f6, ↓sRV_o6, ↓pV_f7, ↓pV_o7, ↓pRV_f7, ↓pRV_o7, ↓lk_f7, ↓lk_o7, ↓sRV_f7, ↓sRV_o7, ↓pV_f8, ↓pV_o8, ↓pRV_f8, ↓pRV_o8, ↓lk_f8, ↓lk_o8, ↓sRV_f8, ↓sRV_o8, ↓pV_f9, ↓pV_o9, ↓pRV_f9, ↓pRV_o9, ↓lk_f9, ↓lk_o9, ↓sRV_f9, ↓sRV_o9, ↓pV_f10, ↓pV_o10, ↓pRV_f10, ↓pRV_o10, ↓lk_f10, ↓lk_o10, ↓sRV_f10, ↓sRV_o10, ↓pV_f11, ↓pV_o11, ↓pRV_f11, ↓pRV_o11, ↓lk_f11, ↓lk_o11, ↓sRV_f11, ↓sRV_o11, ↓pV_f12, ↓pV_o12, ↓pRV_f12, ↓pRV_o12, ↓lk_f12, ↓lk_o12, ↓sRV_f12, ↓sRV_o12, ↓pV_f13, ↓pV_o13, ↓pRV_f13, ↓pRV_o13, ↓lk_f13, ↓lk_o13, ↓sRV_f13, ↓sRV_o13, ↓lk_fz, ↓of_fn, ↓of_fb, ↓of_fi, ↓of_fs, ↓of_ft, ↓of_fl, ↓of_ol, ↓of_ff, ↓ad_i, ↓ad_s, ↓ad_l, ↓ad_t, ↓su_i, ↓mu_i, ↓mu_l, ↓mo_i, ↓fd_i, ↓pw_i, ↓an_i, ↓ci_i, ↓is_n, ↓is_nn, ↓in_t, ↓in_l, ↓in_s, ↓ix_l, ↓ix_t, ↓ix_s, ↓sl_l, ↓sl_t, ↓sl_s, ↓kn_i, ↓kp_i, ↓kr1, ↓kr2, ↓ke_l, ↓kz_l, ↓kz_t, ↓klr1, ↓klr2, ↓gt_e, ↓gs_n, ↓gs_c, nc_0, nc_1, nc_2, nc_3, nc_4, nc_5, nc_6, nc_7, nc_8, nc_9, nc_10, nc_11, nc_12, eq_ii, eq_ss, eq_nn, eq_bb, eq_st, eq_ts, eq_si, eq_is, eq_it, eq_ti, cmp_i, cmp_b, cmp_n, sc_i, sc_s, sc_b, sc_n, flat_i, flat_s, flat_b, flat_n, tru_n, tru_b, tru_i, tru_t, tru_l, items_t, items_l, len_t, len_l, iter_t, iter_l, isN_n, isN_i, isN_s, isN_t, isN_l, isN_b, at_0, at_1, at_2, at_3, ib_tn, ib_tb, ib_ti, ib_ts, ib_tt, ib_tl, ib_sn, ib_sb, ib_si, ib_ss, ib_st, ib_sl, ib_in, ib_ib, ib_ii, ib_is, ib_it, ib_il, ib_bn, ib_bb, ib_bi, ib_bs, ib_bt, ib_bl, na_n, na_b, na_i, na_s, na_t, na_l, List.getElem?_cons_zero, List.getElem?_cons_succ, List.set_cons_zero, List.set_cons_succ, List.map_cons, List.map_nil, List.length_cons, List.length_nil, List.replicate_succ, List.replicate_zero, List.cons_append, List.nil_append, List.append_nil, List.isEmpty_nil, List.isEmpty_cons, List.cons.injEq, Option.some.injEq, T.int.injEq, T.str.injEq, T.bl.injEq, T.tup.injEq, T.lst.injEq, T.adr.injEq, Sl.fz.injEq, Sl.ow.injEq, exists_eq_left, exists_eq_left', exists_eq_right, exists_eq_right', exists_eq, exists_eq', exists_and_left, exists_and_right, exists_const, exists_false, and_true, true_and, and_false, false_and, or_true, true_or, or_false, false_or, not_true_eq_false, not_false_eq_true, if_true, if_false, ite_true, ite_false, Bool.not_true, Bool.not_false, Bool.true_or, Bool.or_true, Bool.false_or, Bool.or_false, Bool.true_and, Bool.and_true, Bool.false_and, Bool.and_false, Bool.false_eq_true, Bool.true_eq_false, eq_self, decide_eq_true_eq, decide_true, decide_false, Bool.decide_eq_true, Bool.not_eq_true, decide_eq_false_iff_not, Bool.and_eq_true, Bool.or_eq_true, Bool.not_eq_true', reduceCtorEq, ne_eq, Nat.le_refl, Nat.reduceAdd, Nat.reduceSub, Nat.reduceLeDiff, Nat.reduceLT, implies_true, forall_const, List.any_cons, List.any_nil, List.all_cons, List.all_nil, wipeP, restore, List.getD_eq_getElem?_getD, Option.getD_some, List.mem_singleton, forall_eq, Int.reduceLT, Int.reduceLE, Int.reduceNeg, Int.reduceSub, Int.reduceAdd, Int.reduceToNat, Int.reduceEq, Int.reduceNe, String.reduceEq, and_self, or_self, pDraw, pfWay]
  intro r r0 r1
  split
  · refine ⟨4, rfl, by omega, fun t ht => ?_⟩
    obtain ⟨s, h1, h2⟩ := ht
    have e : wb 4 = 1394 := rfl
    exact h t ⟨s, wt_le (by omega) h1, by omega⟩
  · refine ⟨1, rfl, by omega, fun t ht => ?_⟩
    obtain ⟨s, h1, h2⟩ := ht
    have e : wb 1 = 148 := rfl
    have hK : WL 2 148 t := ⟨s, h1, by omega⟩
    have fin : ∀ n b t, n ≤ 20 → b ≤ 2000 → WL n b t → Φ t false := fun n b t h1 h2 ⟨s, h3, h4⟩ => h t ⟨s, wt_le h1 h3, by omega⟩
    split
    · intro q q0 q1
      refine ⟨by omega, by omega, fun i ρ => ∃ t a b, ρ = [Sl.fz (T.adr d), Sl.fz (T.int r), Sl.fz t, a, b, Sl.no, Sl.no] ∧ WL (i + 2) (148 + i * 80) t, ⟨_, _, _, rfl, hK⟩, ?_, ?_⟩
      · rintro i u ρ2 e ⟨t, a, b, rfl, ht⟩
        obtain ⟨hi, rfl⟩ := rng_get e
        have e5 : 148 + (i + 1) * 80 = 148 + i * 80 + 80 := by omega
        simp only [↓reduceIte, ↓sSeq, ↓sAsg, ↓sIf, ↓sRet, ↓sRetN, ↓sExpr, ↓sNext, ↓sBreak, ↓sCont, ↓sAug, ↓sFor, ↓gN, ↓pIx, ↓pC, ↓pTup, ↓pLst, ↓pCons, ↓pNil, ↓pStar, ↓pOp, ↓pTB, ↓pTru, ↓pTAnd, ↓pTOr, ↓pTNot, ↓pAndV, ↓pOrV, ↓pNotV, ↓pIf, ↓pCall, ↓pLen, ↓pIsi, ↓pDget, ↓gDset, ↓gSubT, ↓PEq, ↓PNe, ↓pChain, ↓pNeg, ↓pSl, ↓pNoPart, ↓pPart, ↓pIter, ↓pRng1, ↓pRng2, ↓pEnum, ↓pRev, ↓pZip, ↓pMet, ↓pMet0, ↓pMut, ↓pLc, ↓pLRng1, ↓pLRng2, ↓pYes, ↓pRE, ↓startP, ↓pWords, ↓pSplit, ↓gLt, ↓gLe, ↓gGt, ↓gGe, ↓pV_f0, ↓pV_o0, ↓pRV_f0, ↓pRV_o0, ↓lk_f0, ↓lk_o0, ↓sRV_f0, ↓sRV_o0, ↓pV_f1, ↓pV_o1, ↓pRV_f1, ↓pRV_o1, ↓lk_f1, ↓lk_o1, ↓sRV_f1, ↓sRV_o1, ↓pV_f2, ↓pV_o2, ↓pRV_f2, ↓pRV_o2, ↓lk_f2, ↓lk_o2, ↓sRV_f2, ↓sRV_o2, ↓pV_f3, ↓pV_o3, ↓pRV_f3, ↓pRV_o3, ↓lk_f3, ↓lk_o3, ↓sRV_f3, ↓sRV_o3, ↓pV_f4, ↓pV_o4, ↓pRV_f4, ↓pRV_o4, ↓lk_f4, ↓lk_o4, ↓sRV_f4, ↓sRV_o4, ↓pV_f5, ↓pV_o5, ↓pRV_f5, ↓pRV_o5, ↓lk_f5, ↓lk_o5, ↓sRV_f5, ↓sRV_o5, ↓pV_f6, ↓pV_o6, ↓pRV_f6, ↓pRV_o6, ↓lk_f6, ↓lk_o6, ↓sRV_f6, ↓sRV_o6, ↓pV_f7, ↓pV_o7, ↓pRV_f7, ↓pRV_o7, ↓lk_f7, ↓lk_o7, ↓sRV_f7, ↓sRV_o7, ↓pV_f8, ↓pV_o8, ↓pRV_f8, ↓pRV_o8, ↓lk_f8, ↓lk_o8, ↓sRV_f8, ↓sRV_o8, ↓pV_f9, ↓pV_o9, ↓pRV_f9, ↓pRV_o9, ↓lk_f9, ↓lk_o9, ↓sRV_f9, ↓sRV_o9, ↓pV_f10, ↓pV_o10, ↓pRV_f10, ↓pRV_o10, ↓lk_f10, ↓lk_o10, ↓sRV_f10, ↓sRV_o10, ↓pV_f11, ↓pV_o11, ↓pRV_f11, ↓pRV_o11, ↓lk_f11, ↓lk_o11, ↓sRV_f11, ↓sRV_o11, ↓pV_f12, ↓pV_o12, ↓pRV_f12, ↓pRV_o12, ↓lk_f12, ↓lk_o12, ↓sRV_f12, ↓sRV_o12, ↓pV_f13, ↓pV_o13, ↓pRV_f13, ↓pRV_o13, ↓lk_f13, ↓lk_o13, ↓sRV_f13, ↓sRV_o13, ↓lk_fz, ↓of_fn, ↓of_fb, ↓of_fi, ↓of_fs, ↓of_ft, ↓of_fl, ↓of_ol, ↓of_ff, ↓ad_i, ↓ad_s, ↓ad_l, ↓ad_t, ↓su_i, ↓mu_i, ↓mu_l, ↓mo_i, ↓fd_i, ↓pw_i, ↓an_i, ↓ci_i, ↓is_n, ↓is_nn, ↓in_t, ↓in_l, ↓in_s, ↓ix_l, ↓ix_t, ↓ix_s, ↓sl_l, ↓sl_t, ↓sl_s, ↓kn_i, ↓kp_i, ↓kr1, ↓kr2, ↓ke_l, ↓kz_l, ↓kz_t, ↓klr1, ↓klr2, ↓gt_e, ↓gs_n, ↓gs_c, nc_0, nc_1, nc_2, nc_3, nc_4, nc_5, nc_6, nc_7, nc_8, nc_9, nc_10, nc_11, nc_12, eq_ii, eq_ss, eq_nn, eq_bb, eq_st, eq_ts, eq_si, eq_is, eq_it, eq_ti, cmp_i, cmp_b, cmp_n, sc_i, sc_s, sc_b, sc_n, flat_i, flat_s, flat_b, flat_n, tru_n, tru_b, tru_i, tru_t, tru_l, items_t, items_l, len_t, len_l, iter_t, iter_l, isN_n, isN_i, isN_s, isN_t, isN_l, isN_b, at_0, at_1, at_2, at_3, ib_tn, ib_tb, ib_ti, ib_ts, ib_tt, ib_tl, ib_sn, ib_sb, ib_si, ib_ss, ib_st, ib_sl, ib_in, ib_ib, ib_ii, ib_is, ib_it, ib_il, ib_bn, ib_bb, ib_bi, ib_bs, ib_bt, ib_bl, na_n, na_b, na_i, na_s, na_t, na_l, List.getElem?_cons_zero, List.getElem?_cons_succ, List.set_cons_zero, List.set_cons_succ, List.map_cons, List.map_nil, List.length_cons, List.length_nil, List.replicate_succ, List.replicate_zero, List.cons_append, List.nil_append, List.append_nil, List.isEmpty_nil, List.isEmpty_cons, List.cons.injEq, Option.some.injEq, T.int.injEq, T.str.injEq, T.bl.injEq, T.tup.injEq, T.lst.injEq, T.adr.injEq, Sl.fz.injEq, Sl.ow.injEq, exists_eq_left, exists_eq_left', exists_eq_right, exists_eq_right', exists_eq, exists_eq', exists_and_left, exists_and_right, exists_const, exists_false, and_true, true_and, and_false, false_and, or_true, true_or, or_false, false_or, not_true_eq_false, not_false_eq_true, if_true, if_false, ite_true, ite_false, Bool.not_true, Bool.not_false, Bool.true_or, Bool.or_true, Bool.false_or, Bool.or_false, Bool.true_and, Bool.and_true, Bool.false_and, Bool.and_false, Bool.false_eq_true, Bool.true_eq_false, eq_self, decide_eq_true_eq, decide_true, decide_false, Bool.decide_eq_true, Bool.not_eq_true, decide_eq_false_iff_not, Bool.and_eq_true, Bool.or_eq_true, Bool.not_eq_true', reduceCtorEq, ne_eq, Nat.le_refl, Nat.reduceAdd, Nat.reduceSub, Nat.reduceLeDiff, Nat.reduceLT, implies_true, forall_const, List.any_cons, List.any_nil, List.all_cons, List.all_nil, wipeP, restore, List.getD_eq_getElem?_getD, Option.getD_some, List.mem_singleton, forall_eq, Int.reduceLT, Int.reduceLE, Int.reduceNeg, Int.reduceSub, Int.reduceAdd, Int.reduceToNat, Int.reduceEq, Int.reduceNe, String.reduceEq, and_self, or_self, pDraw]
        intro x x0 x1
        rw [e5]
        refine pick_all x0 (by show x < 4; omega) fun u hu => ?_
        simp only [List.mem_cons, List.not_mem_nil, or_false] at hu
        rcases hu with rfl | rfl | rfl | rfl
        · simp only [↓reduceIte, ↓sSeq, ↓sAsg, ↓sIf, ↓sRet, ↓sRetN, ↓sExpr, ↓sNext, ↓sBreak, ↓sCont, ↓sAug, ↓sFor, ↓gN, ↓pIx, ↓pC, ↓pTup, ↓pLst, ↓pCons, ↓pNil, ↓pStar, ↓pOp, ↓pTB, ↓pTru, ↓pTAnd, ↓pTOr, ↓pTNot, ↓pAndV, ↓pOrV, ↓pNotV, ↓pIf, ↓pCall, ↓pLen, ↓pIsi, ↓pDget, ↓gDset, ↓gSubT, ↓PEq, ↓PNe, ↓pChain, ↓pNeg, ↓pSl, ↓pNoPart, ↓pPart, ↓pIter, ↓pRng1, ↓pRng2, ↓pEnum, ↓pRev, ↓pZip, ↓pMet, ↓pMet0, ↓pMut, ↓pLc, ↓pLRng1, ↓pLRng2, ↓pYes, ↓pRE, ↓startP, ↓pWords, ↓pSplit, ↓gLt, ↓gLe, ↓gGt, ↓gGe, ↓pV_f0, ↓pV_o0, ↓pRV_f0, ↓pRV_o0, ↓lk_f0, ↓lk_o0, ↓sRV_f0, ↓sRV_o0, ↓pV_f1, ↓pV_o1, ↓pRV_f1, ↓pRV_o1, ↓lk_f1, ↓lk_o1, ↓sRV_f1, ↓sRV_o1, ↓pV_f2, ↓pV_o2, ↓pRV_f2, ↓pRV_o2, ↓lk_f2, ↓lk_o2, ↓sRV_f2, ↓sRV_o2, ↓pV_f3, ↓pV_o3, ↓pRV_f3, ↓pRV_o3, ↓lk_f3, ↓lk_o3, ↓sRV_f3, ↓sRV_o3, ↓pV_f4, ↓pV_o4, ↓pRV_f4, ↓pRV_o4, ↓lk_f4, ↓lk_o4, ↓sRV_f4, ↓sRV_o4, ↓pV_f5, ↓pV_o5, ↓pRV_f5, ↓pRV_o5, ↓lk_f5, ↓lk_o5, ↓sRV_f5, ↓sRV_o5, ↓pV_f6, ↓pV_o6, ↓pRV_f6, ↓pRV_o6, ↓lk_f6, ↓lk_o6, ↓sRV_f6, ↓sRV_o6, ↓pV_f7, ↓pV_o7, ↓pRV_f7, ↓pRV_o7, ↓lk_f7, ↓lk_o7, ↓sRV_f7, ↓sRV_o7, ↓pV_f8, ↓pV_o8, ↓pRV_f8, ↓pRV_o8, ↓lk_f8, ↓lk_o8, ↓sRV_f8, ↓sRV_o8, ↓pV_f9, ↓pV_o9, ↓pRV_f9, ↓pRV_o9, ↓lk_f9, ↓lk_o9, ↓sRV_f9, ↓sRV_o9, ↓pV_f10, ↓pV_o10, ↓pRV_f10, ↓pRV_o10, ↓lk_f10, ↓lk_o10, ↓sRV_f10, ↓sRV_o10, ↓pV_f11, ↓pV_o11, ↓pRV_f11, ↓pRV_o11, ↓lk_f11, ↓lk_o11, ↓sRV_f11, ↓sRV_o11, ↓pV_f12, ↓pV_o12, ↓pRV_f12, ↓pRV_o12, ↓lk_f12, ↓lk_o12, ↓sRV_f12, ↓sRV_o12, ↓pV_f13, ↓pV_o13, ↓pRV_f13, ↓pRV_o13, ↓lk_f13, ↓lk_o13, ↓sRV_f13, ↓sRV_o13, ↓lk_fz, ↓of_fn, ↓of_fb, ↓of_fi, ↓of_fs, ↓of_ft, ↓of_fl, ↓of_ol, ↓of_ff, ↓ad_i, ↓ad_s, ↓ad_l, ↓ad_t, ↓su_i, ↓mu_i, ↓mu_l, ↓mo_i, ↓fd_i, ↓pw_i, ↓an_i, ↓ci_i, ↓is_n, ↓is_nn, ↓in_t, ↓in_l, ↓in_s, ↓ix_l, ↓ix_t, ↓ix_s, ↓sl_l, ↓sl_t, ↓sl_s, ↓kn_i, ↓kp_i, ↓kr1, ↓kr2, ↓ke_l, ↓kz_l, ↓kz_t, ↓klr1, ↓klr2, ↓gt_e, ↓gs_n, ↓gs_c, nc_0, nc_1, nc_2, nc_3, nc_4, nc_5, nc_6, nc_7, nc_8, nc_9, nc_10, nc_11, nc_12, eq_ii, eq_ss, eq_nn, eq_bb, eq_st, eq_ts, eq_si, eq_is, eq_it, eq_ti, cmp_i, cmp_b, cmp_n, sc_i, sc_s, sc_b, sc_n, flat_i, flat_s, flat_b, flat_n, tru_n, tru_b, tru_i, tru_t, tru_l, items_t, items_l, len_t, len_l, iter_t, iter_l, isN_n, isN_i, isN_s, isN_t, isN_l, isN_b, at_0, at_1, at_2, at_3, ib_tn, ib_tb, ib_ti, ib_ts, ib_tt, ib_tl, ib_sn, ib_sb, ib_si, ib_ss, ib_st, ib_sl, ib_in, ib_ib, ib_ii, ib_is, ib_it, ib_il, ib_bn, ib_bb, ib_bi, ib_bs, ib_bt, ib_bl, na_n, na_b, na_i, na_s, na_t, na_l, List.getElem?_cons_zero, List.getElem?_cons_succ, List.set_cons_zero, List.set_cons_succ, List.map_cons, List.map_nil, List.length_cons, List.length_nil, List.replicate_succ, List.replicate_zero, List.cons_append, List.nil_append, List.append_nil, List.isEmpty_nil, List.isEmpty_cons, List.cons.injEq, Option.some.injEq, T.int.injEq, T.str.injEq, T.bl.injEq, T.tup.injEq, T.lst.injEq, T.adr.injEq, Sl.fz.injEq, Sl.ow.injEq, exists_eq_left, exists_eq_left', exists_eq_right, exists_eq_right', exists_eq, exists_eq', exists_and_left, exists_and_right, exists_const, exists_false, and_true, true_and, and_false, false_and, or_true, true_or, or_false, false_or, not_true_eq_false, not_false_eq_true, if_true, if_false, ite_true, ite_false, Bool.not_true, Bool.not_false, Bool.true_or, Bool.or_true, Bool.false_or, Bool.or_false, Bool.true_and, Bool.and_true, Bool.false_and, Bool.and_false, Bool.false_eq_true, Bool.true_eq_false, eq_self, decide_eq_true_eq, decide_true, decide_false, Bool.decide_eq_true, Bool.not_eq_true, decide_eq_false_iff_not, Bool.and_eq_true, Bool.or_eq_true, Bool.not_eq_true', reduceCtorEq, ne_eq, Nat.le_refl, Nat.reduceAdd, Nat.reduceSub, Nat.reduceLeDiff, Nat.reduceLT, implies_true, forall_const, List.any_cons, List.any_nil, List.all_cons, List.all_nil, wipeP, restore, List.getD_eq_getElem?_getD, Option.getD_some, List.mem_singleton, forall_eq, Int.reduceLT, Int.reduceLE, Int.reduceNeg, Int.reduceSub, Int.reduceAdd, Int.reduceToNat, Int.reduceEq, Int.reduceNe, String.reduceEq, and_self, or_self, str_inj, pfValue]
          intro v hv
          exact wl_some (.inl rfl) ht hv
        · simp only [↓reduceIte, ↓sSeq, ↓sAsg, ↓sIf, ↓sRet, ↓sRetN, ↓sExpr, ↓sNext, ↓sBreak, ↓sCont, ↓sAug, ↓sFor, ↓gN, ↓pIx, ↓pC, ↓pTup, ↓pLst, ↓pCons, ↓pNil, ↓pStar, ↓pOp, ↓pTB, ↓pTru, ↓pTAnd, ↓pTOr, ↓pTNot, ↓pAndV, ↓pOrV, ↓pNotV, ↓pIf, ↓pCall, ↓pLen, ↓pIsi, ↓pDget, ↓gDset, ↓gSubT, ↓PEq, ↓PNe, ↓pChain, ↓pNeg, ↓pSl, ↓pNoPart, ↓pPart, ↓pIter, ↓pRng1, ↓pRng2, ↓pEnum, ↓pRev, ↓pZip, ↓pMet, ↓pMet0, ↓pMut, ↓pLc, ↓pLRng1, ↓pLRng2, ↓pYes, ↓pRE, ↓startP, ↓pWords, ↓pSplit, ↓gLt, ↓gLe, ↓gGt, ↓gGe, ↓pV_f0, ↓pV_o0, ↓pRV_f0, ↓pRV_o0, ↓lk_f0, ↓lk_o0, ↓sRV_f0, ↓sRV_o0, ↓pV_f1, ↓pV_o1, ↓pRV_f1, ↓pRV_o1, ↓lk_f1, ↓lk_o1, ↓sRV_f1, ↓sRV_o1, ↓pV_f2, ↓pV_o2, ↓pRV_f2, ↓pRV_o2, ↓lk_f2, ↓lk_o2, ↓sRV_f2, ↓sRV_o2, ↓pV_f3, ↓pV_o3, ↓pRV_f3, ↓pRV_o3, ↓lk_f3, ↓lk_o3, ↓sRV_f3, ↓sRV_o3, ↓pV_f4, ↓pV_o4, ↓pRV_f4, ↓pRV_o4, ↓lk_f4, ↓lk_o4, ↓sRV_f4, ↓sRV_o4, ↓pV_f5, ↓pV_o5, ↓pRV_f5, ↓pRV_o5, ↓lk_f5, ↓lk_o5, ↓sRV_f5, ↓sRV_o5, ↓pV_f6, ↓pV_o6, ↓pRV_f6, ↓pRV_o6, ↓lk_f6, ↓lk_o6, ↓sRV_f6, ↓sRV_o6, ↓pV_f7, ↓pV_o7, ↓pRV_f7, ↓pRV_o7, ↓lk_f7, ↓lk_o7, ↓sRV_f7, ↓sRV_o7, ↓pV_f8, ↓pV_o8, ↓pRV_f8, ↓pRV_o8, ↓lk_f8, ↓lk_o8, ↓sRV_f8, ↓sRV_o8, ↓pV_f9, ↓pV_o9, ↓pRV_f9, ↓pRV_o9, ↓lk_f9, ↓lk_o9, ↓sRV_f9, ↓sRV_o9, ↓pV_f10, ↓pV_o10, ↓pRV_f10, ↓pRV_o10, ↓lk_f10, ↓lk_o10, ↓sRV_f10, ↓sRV_o10, ↓pV_f11, ↓pV_o11, ↓pRV_f11, ↓pRV_o11, ↓lk_f11, ↓lk_o11, ↓sRV_f11, ↓sRV_o11, ↓pV_f12, ↓pV_o12, ↓pRV_f12, ↓pRV_o12, ↓lk_f12, ↓lk_o12, ↓sRV_f12, ↓sRV_o12, ↓pV_f13, ↓pV_o13, ↓pRV_f13, ↓pRV_o13, ↓lk_f13, ↓lk_o13, ↓sRV_f13, ↓sRV_o13, ↓lk_fz, ↓of_fn, ↓of_fb, ↓of_fi, ↓of_fs, ↓of_ft, ↓of_fl, ↓of_ol, ↓of_ff, ↓ad_i, ↓ad_s, ↓ad_l, ↓ad_t, ↓su_i, ↓mu_i, ↓mu_l, ↓mo_i, ↓fd_i, ↓pw_i, ↓an_i, ↓ci_i, ↓is_n, ↓is_nn, ↓in_t, ↓in_l, ↓in_s, ↓ix_l, ↓ix_t, ↓ix_s, ↓sl_l, ↓sl_t, ↓sl_s, ↓kn_i, ↓kp_i, ↓kr1, ↓kr2, ↓ke_l, ↓kz_l, ↓kz_t, ↓klr1, ↓klr2, ↓gt_e, ↓gs_n, ↓gs_c, nc_0, nc_1, nc_2, nc_3, nc_4, nc_5, nc_6, nc_7, nc_8, nc_9, nc_10, nc_11, nc_12, eq_ii, eq_ss, eq_nn, eq_bb, eq_st, eq_ts, eq_si, eq_is, eq_it, eq_ti, cmp_i, cmp_b, cmp_n, sc_i, sc_s, sc_b, sc_n, flat_i, flat_s, flat_b, flat_n, tru_n, tru_b, tru_i, tru_t, tru_l, items_t, items_l, len_t, len_l, iter_t, iter_l, isN_n, isN_i, isN_s, isN_t, isN_l, isN_b, at_0, at_1, at_2, at_3, ib_tn, ib_tb, ib_ti, ib_ts, ib_tt, ib_tl, ib_sn, ib_sb, ib_si, ib_ss, ib_st, ib_sl, ib_in, ib_ib, ib_ii, ib_is, ib_it, ib_il, ib_bn, ib_bb, ib_bi, ib_bs, ib_bt, ib_bl, na_n, na_b, na_i, na_s, na_t, na_l, List.getElem?_cons_zero, List.getElem?_cons_succ, List.set_cons_zero, List.set_cons_succ, List.map_cons, List.map_nil, List.length_cons, List.length_nil, List.replicate_succ, List.replicate_zero, List.cons_append, List.nil_append, List.append_nil, List.isEmpty_nil, List.isEmpty_cons, List.cons.injEq, Option.some.injEq, T.int.injEq, T.str.injEq, T.bl.injEq, T.tup.injEq, T.lst.injEq, T.adr.injEq, Sl.fz.injEq, Sl.ow.injEq, exists_eq_left, exists_eq_left', exists_eq_right, exists_eq_right', exists_eq, exists_eq', exists_and_left, exists_and_right, exists_const, exists_false, and_true, true_and, and_false, false_and, or_true, true_or, or_false, false_or, not_true_eq_false, not_false_eq_true, if_true, if_false, ite_true, ite_false, Bool.not_true, Bool.not_false, Bool.true_or, Bool.or_true, Bool.false_or, Bool.or_false, Bool.true_and, Bool.and_true, Bool.false_and, Bool.and_false, Bool.false_eq_true, Bool.true_eq_false, eq_self, decide_eq_true_eq, decide_true, decide_false, Bool.decide_eq_true, Bool.not_eq_true, decide_eq_false_iff_not, Bool.and_eq_true, Bool.or_eq_true, Bool.not_eq_true', reduceCtorEq, ne_eq, Nat.le_refl, Nat.reduceAdd, Nat.reduceSub, Nat.reduceLeDiff, Nat.reduceLT, implies_true, forall_const, List.any_cons, List.any_nil, List.all_cons, List.all_nil, wipeP, restore, List.getD_eq_getElem?_getD, Option.getD_some, List.mem_singleton, forall_eq, Int.reduceLT, Int.reduceLE, Int.reduceNeg, Int.reduceSub, Int.reduceAdd, Int.reduceToNat, Int.reduceEq, Int.reduceNe, String.reduceEq, and_self, or_self, str_inj, pfValue]
          intro v hv
          exact wl_some (.inr rfl) ht hv
        · simp only [↓reduceIte, ↓sSeq, ↓sAsg, ↓sIf, ↓sRet, ↓sRetN, ↓sExpr, ↓sNext, ↓sBreak, ↓sCont, ↓sAug, ↓sFor, ↓gN, ↓pIx, ↓pC, ↓pTup, ↓pLst, ↓pCons, ↓pNil, ↓pStar, ↓pOp, ↓pTB, ↓pTru, ↓pTAnd, ↓pTOr, ↓pTNot, ↓pAndV, ↓pOrV, ↓pNotV, ↓pIf, ↓pCall, ↓pLen, ↓pIsi, ↓pDget, ↓gDset, ↓gSubT, ↓PEq, ↓PNe, ↓pChain, ↓pNeg, ↓pSl, ↓pNoPart, ↓pPart, ↓pIter, ↓pRng1, ↓pRng2, ↓pEnum, ↓pRev, ↓pZip, ↓pMet, ↓pMet0, ↓pMut, ↓pLc, ↓pLRng1, ↓pLRng2, ↓pYes, ↓pRE, ↓startP, ↓pWords, ↓pSplit, ↓gLt, ↓gLe, ↓gGt, ↓gGe, ↓pV_f0, ↓pV_o0, ↓pRV_f0, ↓pRV_o0, ↓lk_f0, ↓lk_o0, ↓sRV_f0, ↓sRV_o0, ↓pV_f1, ↓pV_o1, ↓pRV_f1, ↓pRV_o1, ↓lk_f1, ↓lk_o1, ↓sRV_f1, ↓sRV_o1, ↓pV_f2, ↓pV_o2, ↓pRV_f2, ↓pRV_o2, ↓lk_f2, ↓lk_o2, ↓sRV_f2, ↓sRV_o2, ↓pV_f3, ↓pV_o3, ↓pRV_f3, ↓pRV_o3, ↓lk_f3, ↓lk_o3, ↓sRV_f3, ↓sRV_o3, ↓pV_f4, ↓pV_o4, ↓pRV_f4, ↓pRV_o4, ↓lk_f4, ↓lk_o4, ↓sRV_f4, ↓sRV_o4, ↓pV_f5, ↓pV_o5, ↓pRV_f5, ↓pRV_o5, ↓lk_f5, ↓lk_o5, ↓sRV_f5, ↓sRV_o5, ↓pV_f6, ↓pV_o6, ↓pRV_f6, ↓pRV_o6, ↓lk_f6, ↓lk_o6, ↓sRV_f6, ↓sRV_o6, ↓pV_f7, ↓pV_o7, ↓pRV_f7, ↓pRV_o7, ↓lk_f7, ↓lk_o7, ↓sRV_f7, ↓sRV_o7, ↓pV_f8, ↓pV_o8, ↓pRV_f8, ↓pRV_o8, ↓lk_f8, ↓lk_o8, ↓sRV_f8, ↓sRV_o8, ↓pV_f9, ↓pV_o9, ↓pRV_f9, ↓pRV_o9, ↓lk_f9, ↓lk_o9, ↓sRV_f9, ↓sRV_o9, ↓pV_f10, ↓pV_o10, ↓pRV_f10, ↓pRV_o10, ↓lk_f10, ↓lk_o10, ↓sRV_f10, ↓sRV_o10, ↓pV_f11, ↓pV_o11, ↓pRV_f11, ↓pRV_o11, ↓lk_f11, ↓lk_o11, ↓sRV_f11, ↓sRV_o11, ↓pV_f12, ↓pV_o12, ↓pRV_f12, ↓pRV_o12, ↓lk_f12, ↓lk_o12, ↓sRV_f12, ↓sRV_o12, ↓pV_f13, ↓pV_o13, ↓pRV_f13, ↓pRV_o13, ↓lk_f13, ↓lk_o13, ↓sRV_f13, ↓sRV_o13, ↓lk_fz, ↓of_fn, ↓of_fb, ↓of_fi, ↓of_fs, ↓of_ft, ↓of_fl, ↓of_ol, ↓of_ff, ↓ad_i, ↓ad_s, ↓ad_l, ↓ad_t, ↓su_i, ↓mu_i, ↓mu_l, ↓mo_i, ↓fd_i, ↓pw_i, ↓an_i, ↓ci_i, ↓is_n, ↓is_nn, ↓in_t, ↓in_l, ↓in_s, ↓ix_l, ↓ix_t, ↓ix_s, ↓sl_l, ↓sl_t, ↓sl_s, ↓kn_i, ↓kp_i, ↓kr1, ↓kr2, ↓ke_l, ↓kz_l, ↓kz_t, ↓klr1, ↓klr2, ↓gt_e, ↓gs_n, ↓gs_c, nc_0, nc_1, nc_2, nc_3, nc_4, nc_5, nc_6, nc_7, nc_8, nc_9, nc_10, nc_11, nc_12, eq_ii, eq_ss, eq_nn, eq_bb, eq_st, eq_ts, eq_si, eq_is, eq_it, eq_ti, cmp_i, cmp_b, cmp_n, sc_i, sc_s, sc_b, sc_n, flat_i, flat_s, flat_b, flat_n, tru_n, tru_b, tru_i, tru_t, tru_l, items_t, items_l, len_t, len_l, iter_t, iter_l, isN_n, isN_i, isN_s, isN_t, isN_l, isN_b, at_0, at_1, at_2, at_3, ib_tn, ib_tb, ib_ti, ib_ts, ib_tt, ib_tl, ib_sn, ib_sb, ib_si, ib_ss, ib_st, ib_sl, ib_in, ib_ib, ib_ii, ib_is, ib_it, ib_il, ib_bn, ib_bb, ib_bi, ib_bs, ib_bt, ib_bl, na_n, na_b, na_i, na_s, na_t, na_l, List.getElem?_cons_zero, List.getElem?_cons_succ, List.set_cons_zero, List.set_cons_succ, List.map_cons, List.map_nil, List.length_cons, List.length_nil, List.replicate_succ, List.replicate_zero, List.cons_append, List.nil_append, List.append_nil, List.isEmpty_nil, List.isEmpty_cons, List.cons.injEq, Option.some.injEq, T.int.injEq, T.str.injEq, T.bl.injEq, T.tup.injEq, T.lst.injEq, T.adr.injEq, Sl.fz.injEq, Sl.ow.injEq, exists_eq_left, exists_eq_left', exists_eq_right, exists_eq_right', exists_eq, exists_eq', exists_and_left, exists_and_right, exists_const, exists_false, and_true, true_and, and_false, false_and, or_true, true_or, or_false, false_or, not_true_eq_false, not_false_eq_true, if_true, if_false, ite_true, ite_false, Bool.not_true, Bool.not_false, Bool.true_or, Bool.or_true, Bool.false_or, Bool.or_false, Bool.true_and, Bool.and_true, Bool.false_and, Bool.and_false, Bool.false_eq_true, Bool.true_eq_false, eq_self, decide_eq_true_eq, decide_true, decide_false, Bool.decide_eq_true, Bool.not_eq_true, decide_eq_false_iff_not, Bool.and_eq_true, Bool.or_eq_true, Bool.not_eq_true', reduceCtorEq, ne_eq, Nat.le_refl, Nat.reduceAdd, Nat.reduceSub, Nat.reduceLeDiff, Nat.reduceLT, implies_true, forall_const, List.any_cons, List.any_nil, List.all_cons, List.all_nil, wipeP, restore, List.getD_eq_getElem?_getD, Option.getD_some, List.mem_singleton, forall_eq, Int.reduceLT, Int.reduceLE, Int.reduceNeg, Int.reduceSub, Int.reduceAdd, Int.reduceToNat, Int.reduceEq, Int.reduceNe, String.reduceEq, and_self, or_self, str_inj]
          exact wl_opt (.inl rfl) ht
        · simp only [↓reduceIte, ↓sSeq, ↓sAsg, ↓sIf, ↓sRet, ↓sRetN, ↓sExpr, ↓sNext, ↓sBreak, ↓sCont, ↓sAug, ↓sFor, ↓gN, ↓pIx, ↓pC, ↓pTup, ↓pLst, ↓pCons, ↓pNil, ↓pStar, ↓pOp, ↓pTB, ↓pTru, ↓pTAnd, ↓pTOr, ↓pTNot, ↓pAndV, ↓pOrV, ↓pNotV, ↓pIf, ↓pCall, ↓pLen, ↓pIsi, ↓pDget, ↓gDset, ↓gSubT, ↓PEq, ↓PNe, ↓pChain, ↓pNeg, ↓pSl, ↓pNoPart, ↓pPart, ↓pIter, ↓pRng1, ↓pRng2, ↓pEnum, ↓pRev, ↓pZip, ↓pMet, ↓pMet0, ↓pMut, ↓pLc, ↓pLRng1, ↓pLRng2, ↓pYes, ↓pRE, ↓startP, ↓pWords, ↓pSplit, ↓gLt, ↓gLe, ↓gGt, ↓gGe, ↓pV_f0, ↓pV_o0, ↓pRV_f0, ↓pRV_o0, ↓lk_f0, ↓lk_o0, ↓sRV_f0, ↓sRV_o0, ↓pV_f1, ↓pV_o1, ↓pRV_f1, ↓pRV_o1, ↓lk_f1, ↓lk_o1, ↓sRV_f1, ↓sRV_o1, ↓pV_f2, ↓pV_o2, ↓pRV_f2, ↓pRV_o2, ↓lk_f2, ↓lk_o2, ↓sRV_f2, ↓sRV_o2, ↓pV_f3, ↓pV_o3, ↓pRV_f3, ↓pRV_o3, ↓lk_f3, ↓lk_o3, ↓sRV_f3, ↓sRV_o3, ↓pV_f4, ↓pV_o4, ↓pRV_f4, ↓pRV_o4, ↓lk_f4, ↓lk_o4, ↓sRV_f4, ↓sRV_o4, ↓pV_f5, ↓pV_o5, ↓pRV_f5, ↓pRV_o5, ↓lk_f5, ↓lk_o5, ↓sRV_f5, ↓sRV_o5, ↓pV_f6, ↓pV_o6, ↓pRV_f6, ↓pRV_o6, ↓lk_f6, ↓lk_o6, ↓sRV_f6, ↓sRV_o6, ↓pV_f7, ↓pV_o7, ↓pRV_f7, ↓pRV_o7, ↓lk_f7, ↓lk_o7, ↓sRV_f7, ↓sRV_o7, ↓pV_f8, ↓pV_o8, ↓pRV_f8, ↓pRV_o8, ↓lk_f8, ↓lk_o8, ↓sRV_f8, ↓sRV_o8, ↓pV_f9, ↓pV_o9, ↓pRV_f9, ↓pRV_o9, ↓lk_f9, ↓lk_o9, ↓sRV_f9, ↓sRV_o9, ↓pV_f10, ↓pV_o10, ↓pRV_f10, ↓pRV_o10, ↓lk_f10, ↓lk_o10, ↓sRV_f10, ↓sRV_o10, ↓pV_f11, ↓pV_o11, ↓pRV_f11, ↓pRV_o11, ↓lk_f11, ↓lk_o11, ↓sRV_f11, ↓sRV_o11, ↓pV_f12, ↓pV_o12, ↓pRV_f12, ↓pRV_o12, ↓lk_f12, ↓lk_o12, ↓sRV_f12, ↓sRV_o12, ↓pV_f13, ↓pV_o13, ↓pRV_f13, ↓pRV_o13, ↓lk_f13, ↓lk_o13, ↓sRV_f13, ↓sRV_o13, ↓lk_fz, ↓of_fn, ↓of_fb, ↓of_fi, ↓of_fs, ↓of_ft, ↓of_fl, ↓of_ol, ↓of_ff, ↓ad_i, ↓ad_s, ↓ad_l, ↓ad_t, ↓su_i, ↓mu_i, ↓mu_l, ↓mo_i, ↓fd_i, ↓pw_i, ↓an_i, ↓ci_i, ↓is_n, ↓is_nn, ↓in_t, ↓in_l, ↓in_s, ↓ix_l, ↓ix_t, ↓ix_s, ↓sl_l, ↓sl_t, ↓sl_s, ↓kn_i, ↓kp_i, ↓kr1, ↓kr2, ↓ke_l, ↓kz_l, ↓kz_t, ↓klr1, ↓klr2, ↓gt_e, ↓gs_n, ↓gs_c, nc_0, nc_1, nc_2, nc_3, nc_4, nc_5, nc_6, nc_7, nc_8, nc_9, nc_10, nc_11, nc_12, eq_ii, eq_ss, eq_nn, eq_bb, eq_st, eq_ts, eq_si, eq_is, eq_it, eq_ti, cmp_i, cmp_b, cmp_n, sc_i, sc_s, sc_b, sc_n, flat_i, flat_s, flat_b, flat_n, tru_n, tru_b, tru_i, tru_t, tru_l, items_t, items_l, len_t, len_l, iter_t, iter_l, isN_n, isN_i, isN_s, isN_t, isN_l, isN_b, at_0, at_1, at_2, at_3, ib_tn, ib_tb, ib_ti, ib_ts, ib_tt, ib_tl, ib_sn, ib_sb, ib_si, ib_ss, ib_st, ib_sl, ib_in, ib_ib, ib_ii, ib_is, ib_it, ib_il, ib_bn, ib_bb, ib_bi, ib_bs, ib_bt, ib_bl, na_n, na_b, na_i, na_s, na_t, na_l, List.getElem?_cons_zero, List.getElem?_cons_succ, List.set_cons_zero, List.set_cons_succ, List.map_cons, List.map_nil, List.length_cons, List.length_nil, List.replicate_succ, List.replicate_zero, List.cons_append, List.nil_append, List.append_nil, List.isEmpty_nil, List.isEmpty_cons, List.cons.injEq, Option.some.injEq, T.int.injEq, T.str.injEq, T.bl.injEq, T.tup.injEq, T.lst.injEq, T.adr.injEq, Sl.fz.injEq, Sl.ow.injEq, exists_eq_left, exists_eq_left', exists_eq_right, exists_eq_right', exists_eq, exists_eq', exists_and_left, exists_and_right, exists_const, exists_false, and_true, true_and, and_false, false_and, or_true, true_or, or_false, false_or, not_true_eq_false, not_false_eq_true, if_true, if_false, ite_true, ite_false, Bool.not_true, Bool.not_false, Bool.true_or, Bool.or_true, Bool.false_or, Bool.or_false, Bool.true_and, Bool.and_true, Bool.false_and, Bool.and_false, Bool.false_eq_true, Bool.true_eq_false, eq_self, decide_eq_true_eq, decide_true, decide_false, Bool.decide_eq_true, Bool.not_eq_true, decide_eq_false_iff_not, Bool.and_eq_true, Bool.or_eq_true, Bool.not_eq_true', reduceCtorEq, ne_eq, Nat.le_refl, Nat.reduceAdd, Nat.reduceSub, Nat.reduceLeDiff, Nat.reduceLT, implies_true, forall_const, List.any_cons, List.any_nil, List.all_cons, List.all_nil, wipeP, restore, List.getD_eq_getElem?_getD, Option.getD_some, List.mem_singleton, forall_eq, Int.reduceLT, Int.reduceLE, Int.reduceNeg, Int.reduceSub, Int.reduceAdd, Int.reduceToNat, Int.reduceEq, Int.reduceNe, String.reduceEq, and_self, or_self, str_inj]
          exact wl_opt (.inr rfl) ht
      · rintro ρ2 ⟨t, a, b, rfl, ht⟩
        rw [rng_len] at ht
        simp only [↓reduceIte, ↓sSeq, ↓sAsg, ↓sIf, ↓sRet, ↓sRetN, ↓sExpr, ↓sNext, ↓sBreak, ↓sCont, ↓sAug, ↓sFor, ↓gN, ↓pIx, ↓pC, ↓pTup, ↓pLst, ↓pCons, ↓pNil, ↓pStar, ↓pOp, ↓pTB, ↓pTru, ↓pTAnd, ↓pTOr, ↓pTNot, ↓pAndV, ↓pOrV, ↓pNotV, ↓pIf, ↓pCall, ↓pLen, ↓pIsi, ↓pDget, ↓gDset, ↓gSubT, ↓PEq, ↓PNe, ↓pChain, ↓pNeg, ↓pSl, ↓pNoPart, ↓pPart, ↓pIter, ↓pRng1, ↓pRng2, ↓pEnum, ↓pRev, ↓pZip, ↓pMet, ↓pMet0, ↓pMut, ↓pLc, ↓pLRng1, ↓pLRng2, ↓pYes, ↓pRE, ↓startP, ↓pWords, ↓pSplit, ↓gLt, ↓gLe, ↓gGt, ↓gGe, ↓pV_f0, ↓pV_o0, ↓pRV_f0, ↓pRV_o0, ↓lk_f0, ↓lk_o0, ↓sRV_f0, ↓sRV_o0, ↓pV_f1, ↓pV_o1, ↓pRV_f1, ↓pRV_o1, ↓lk_f1, ↓lk_o1, ↓sRV_f1, ↓sRV_o1, ↓pV_f2, ↓pV_o2, ↓pRV_f2, ↓pRV_o2, ↓lk_f2, ↓lk_o2, ↓sRV_f2, ↓sRV_o2, ↓pV_f3, ↓pV_o3, ↓pRV_f3, ↓pRV_o3, ↓lk_f3, ↓lk_o3, ↓sRV_f3, ↓sRV_o3, ↓pV_f4, ↓pV_o4, ↓pRV_f4, ↓pRV_o4, ↓lk_f4, ↓lk_o4, ↓sRV_f4, ↓sRV_o4, ↓pV_f5, ↓pV_o5, ↓pRV_f5, ↓pRV_o5, ↓lk_f5, ↓lk_o5, ↓sRV_f5, ↓sRV_o5, ↓pV_f6, ↓pV_o6, ↓pRV_f6, ↓pRV_o6, ↓lk_f6, ↓lk_o6, ↓sRV_f6, ↓sRV_o6, ↓pV_f7, ↓pV_o7, ↓pRV_f7, ↓pRV_o7, ↓lk_f7, ↓lk_o7, ↓sRV_f7, ↓sRV_o7, ↓pV_f8, ↓pV_o8, ↓pRV_f8, ↓pRV_o8, ↓lk_f8, ↓lk_o8, ↓sRV_f8, ↓sRV_o8, ↓pV_f9, ↓pV_o9, ↓pRV_f9, ↓pRV_o9, ↓lk_f9, ↓lk_o9, ↓sRV_f9, ↓sRV_o9, ↓pV_f10, ↓pV_o10, ↓pRV_f10, ↓pRV_o10, ↓lk_f10, ↓lk_o10, ↓sRV_f10, ↓sRV_o10, ↓pV_f11, ↓pV_o11, ↓pRV_f11, ↓pRV_o11, ↓lk_f11, ↓lk_o11, ↓sRV_f11, ↓sRV_o11, ↓pV_f12, ↓pV_o12, ↓pRV_f12, ↓pRV_o12, ↓lk_f12, ↓lk_o12, ↓sRV_f12, ↓sRV_o12, ↓pV_f13, ↓pV_o13, ↓pRV_f13, ↓pRV_o13, ↓lk_f13, ↓lk_o13, ↓sRV_f13, ↓sRV_o13, ↓lk_fz, ↓of_fn, ↓of_fb, ↓of_fi, ↓of_fs, ↓of_ft, ↓of_fl, ↓of_ol, ↓of_ff, ↓ad_i, ↓ad_s, ↓ad_l, ↓ad_t, ↓su_i, ↓mu_i, ↓mu_l, ↓mo_i, ↓fd_i, ↓pw_i, ↓an_i, ↓ci_i, ↓is_n, ↓is_nn, ↓in_t, ↓in_l, ↓in_s, ↓ix_l, ↓ix_t, ↓ix_s, ↓sl_l, ↓sl_t, ↓sl_s, ↓kn_i, ↓kp_i, ↓kr1, ↓kr2, ↓ke_l, ↓kz_l, ↓kz_t, ↓klr1, ↓klr2, ↓gt_e, ↓gs_n, ↓gs_c, nc_0, nc_1, nc_2, nc_3, nc_4, nc_5, nc_6, nc_7, nc_8, nc_9, nc_10, nc_11, nc_12, eq_ii, eq_ss, eq_nn, eq_bb, eq_st, eq_ts, eq_si, eq_is, eq_it, eq_ti, cmp_i, cmp_b, cmp_n, sc_i, sc_s, sc_b, sc_n, flat_i, flat_s, flat_b, flat_n, tru_n, tru_b, tru_i, tru_t, tru_l, items_t, items_l, len_t, len_l, iter_t, iter_l, isN_n, isN_i, isN_s, isN_t, isN_l, isN_b, at_0, at_1, at_2, at_3, ib_tn, ib_tb, ib_ti, ib_ts, ib_tt, ib_tl, ib_sn, ib_sb, ib_si, ib_ss, ib_st, ib_sl, ib_in, ib_ib, ib_ii, ib_is, ib_it, ib_il, ib_bn, ib_bb, ib_bi, ib_bs, ib_bt, ib_bl, na_n, na_b, na_i, na_s, na_t, na_l, List.getElem?_cons_zero, List.getElem?_cons_succ, List.set_cons_zero, List.set_cons_succ, List.map_cons, List.map_nil, List.length_cons, List.length_nil, List.replicate_succ, List.replicate_zero, List.cons_append, List.nil_append, List.append_nil, List.isEmpty_nil, List.isEmpty_cons, List.cons.injEq, Option.some.injEq, T.int.injEq, T.str.injEq, T.bl.injEq, T.tup.injEq, T.lst.injEq, T.adr.injEq, Sl.fz.injEq, Sl.ow.injEq, exists_eq_left, exists_eq_left', exists_eq_right, exists_eq_right', exists_eq, exists_eq', exists_and_left, exists_and_right, exists_const, exists_false, and_true, true_and, and_false, false_and, or_true, true_or, or_false, false_or, not_true_eq_false, not_false_eq_true, if_true, if_false, ite_true, ite_false, Bool.not_true, Bool.not_false, Bool.true_or, Bool.or_true, Bool.false_or, Bool.or_false, Bool.true_and, Bool.and_true, Bool.false_and, Bool.and_false, Bool.false_eq_true, Bool.true_eq_false, eq_self, decide_eq_true_eq, decide_true, decide_false, Bool.decide_eq_true, Bool.not_eq_true, decide_eq_false_iff_not, Bool.and_eq_true, Bool.or_eq_true, Bool.not_eq_true', reduceCtorEq, ne_eq, Nat.le_refl, Nat.reduceAdd, Nat.reduceSub, Nat.reduceLeDiff, Nat.reduceLT, implies_true, forall_const, List.any_cons, List.any_nil, List.all_cons, List.all_nil, wipeP, restore, List.getD_eq_getElem?_getD, Option.getD_some, List.mem_singleton, forall_eq, Int.reduceLT, Int.reduceLE, Int.reduceNeg, Int.reduceSub, Int.reduceAdd, Int.reduceToNat, Int.reduceEq, Int.reduceNe, String.reduceEq, and_self, or_self]
        exact fin _ _ t (by omega) (by omega) ht
    · intro q q0 q1
      refine ⟨by omega, by omega, fun i ρ => ∃ t a b c, ρ = [Sl.fz (T.adr d), Sl.fz (T.int r), Sl.fz t, a, b, c, Sl.no] ∧ WL (i + 2) (148 + i * 80) t, ⟨_, _, _, _, rfl, hK⟩, ?_, ?_⟩
      · rintro i' u ρ2 e ⟨t, a, b, c, rfl, ht⟩
        obtain ⟨hi, rfl⟩ := rng_get e
        have e5 : 148 + (i' + 1) * 80 = 148 + i' * 80 + 80 := by omega
        simp only [↓reduceIte, ↓sSeq, ↓sAsg, ↓sIf, ↓sRet, ↓sRetN, ↓sExpr, ↓sNext, ↓sBreak, ↓sCont, ↓sAug, ↓sFor, ↓gN, ↓pIx, ↓pC, ↓pTup, ↓pLst, ↓pCons, ↓pNil, ↓pStar, ↓pOp, ↓pTB, ↓pTru, ↓pTAnd, ↓pTOr, ↓pTNot, ↓pAndV, ↓pOrV, ↓pNotV, ↓pIf, ↓pCall, ↓pLen, ↓pIsi, ↓pDget, ↓gDset, ↓gSubT, ↓PEq, ↓PNe, ↓pChain, ↓pNeg, ↓pSl, ↓pNoPart, ↓pPart, ↓pIter, ↓pRng1, ↓pRng2, ↓pEnum, ↓pRev, ↓pZip, ↓pMet, ↓pMet0, ↓pMut, ↓pLc, ↓pLRng1, ↓pLRng2, ↓pYes, ↓pRE, ↓startP, ↓pWords, ↓pSplit, ↓gLt, ↓gLe, ↓gGt, ↓gGe, ↓pV_f0, ↓pV_o0, ↓pRV_f0, ↓pRV_o0, ↓lk_f0, ↓lk_o0, ↓sRV_f0, ↓sRV_o0, ↓pV_f1, ↓pV_o1, ↓pRV_f1, ↓pRV_o1, ↓lk_f1, ↓lk_o1, ↓sRV_f1, ↓sRV_o1, ↓pV_f2, ↓pV_o2, ↓pRV_f2, ↓pRV_o2, ↓lk_f2, ↓lk_o2, ↓sRV_f2, ↓sRV_o2, ↓pV_f3, ↓pV_o3, ↓pRV_f3, ↓pRV_o3, ↓lk_f3, ↓lk_o3, ↓sRV_f3, ↓sRV_o3, ↓pV_f4, ↓pV_o4, ↓pRV_f4, ↓pRV_o4, ↓lk_f4, ↓lk_o4, ↓sRV_f4, ↓sRV_o4, ↓pV_f5, ↓pV_o5, ↓pRV_f5, ↓pRV_o5, ↓lk_f5, ↓lk_o5, ↓sRV_f5, ↓sRV_o5, ↓pV_f6, ↓pV_o6, ↓pRV_f6, ↓pRV_o6, ↓lk_f6, ↓lk_o6, ↓sRV_f6, ↓sRV_o6, ↓pV_f7, ↓pV_o7, ↓pRV_f7, ↓pRV_o7, ↓lk_f7, ↓lk_o7, ↓sRV_f7, ↓sRV_o7, ↓pV_f8, ↓pV_o8, ↓pRV_f8, ↓pRV_o8, ↓lk_f8, ↓lk_o8, ↓sRV_f8, ↓sRV_o8, ↓pV_f9, ↓pV_o9, ↓pRV_f9, ↓pRV_o9, ↓lk_f9, ↓lk_o9, ↓sRV_f9, ↓sRV_o9, ↓pV_f10, ↓pV_o10, ↓pRV_f10, ↓pRV_o10, ↓lk_f10, ↓lk_o10, ↓sRV_f10, ↓sRV_o10, ↓pV_f11, ↓pV_o11, ↓pRV_f11, ↓pRV_o11, ↓lk_f11, ↓lk_o11, ↓sRV_f11, ↓sRV_o11, ↓pV_f12, ↓pV_o12, ↓pRV_f12, ↓pRV_o12, ↓lk_f12, ↓lk_o12, ↓sRV_f12, ↓sRV_o12, ↓pV_f13, ↓pV_o13, ↓pRV_f13, ↓pRV_o13, ↓lk_f13, ↓lk_o13, ↓sRV_f13, ↓sRV_o13, ↓lk_fz, ↓of_fn, ↓of_fb, ↓of_fi, ↓of_fs, ↓of_ft, ↓of_fl, ↓of_ol, ↓of_ff, ↓ad_i, ↓ad_s, ↓ad_l, ↓ad_t, ↓su_i, ↓mu_i, ↓mu_l, ↓mo_i, ↓fd_i, ↓pw_i, ↓an_i, ↓ci_i, ↓is_n, ↓is_nn, ↓in_t, ↓in_l, ↓in_s, ↓ix_l, ↓ix_t, ↓ix_s, ↓sl_l, ↓sl_t, ↓sl_s, ↓kn_i, ↓kp_i, ↓kr1, ↓kr2, ↓ke_l, ↓kz_l, ↓kz_t, ↓klr1, ↓klr2, ↓gt_e, ↓gs_n, ↓gs_c, nc_0, nc_1, nc_2, nc_3, nc_4, nc_5, nc_6, nc_7, nc_8, nc_9, nc_10, nc_11, nc_12, eq_ii, eq_ss, eq_nn, eq_bb, eq_st, eq_ts, eq_si, eq_is, eq_it, eq_ti, cmp_i, cmp_b, cmp_n, sc_i, sc_s, sc_b, sc_n, flat_i, flat_s, flat_b, flat_n, tru_n, tru_b, tru_i, tru_t, tru_l, items_t, items_l, len_t, len_l, iter_t, iter_l, isN_n, isN_i, isN_s, isN_t, isN_l, isN_b, at_0, at_1, at_2, at_3, ib_tn, ib_tb, ib_ti, ib_ts, ib_tt, ib_tl, ib_sn, ib_sb, ib_si, ib_ss, ib_st, ib_sl, ib_in, ib_ib, ib_ii, ib_is, ib_it, ib_il, ib_bn, ib_bb, ib_bi, ib_bs, ib_bt, ib_bl, na_n, na_b, na_i, na_s, na_t, na_l, List.getElem?_cons_zero, List.getElem?_cons_succ, List.set_cons_zero, List.set_cons_succ, List.map_cons, List.map_nil, List.length_cons, List.length_nil, List.replicate_succ, List.replicate_zero, List.cons_append, List.nil_append, List.append_nil, List.isEmpty_nil, List.isEmpty_cons, List.cons.injEq, Option.some.injEq, T.int.injEq, T.str.injEq, T.bl.injEq, T.tup.injEq, T.lst.injEq, T.adr.injEq, Sl.fz.injEq, Sl.ow.injEq, exists_eq_left, exists_eq_left', exists_eq_right, exists_eq_right', exists_eq, exists_eq', exists_and_left, exists_and_right, exists_const, exists_false, and_true, true_and, and_false, false_and, or_true, true_or, or_false, false_or, not_true_eq_false, not_false_eq_true, if_true, if_false, ite_true, ite_false, Bool.not_true, Bool.not_false, Bool.true_or, Bool.or_true, Bool.false_or, Bool.or_false, Bool.true_and, Bool.and_true, Bool.false_and, Bool.and_false, Bool.false_eq_true, Bool.true_eq_false, eq_self, decide_eq_true_eq, decide_true, decide_false, Bool.decide_eq_true, Bool.not_eq_true, decide_eq_false_iff_not, Bool.and_eq_true, Bool.or_eq_true, Bool.not_eq_true', reduceCtorEq, ne_eq, Nat.le_refl, Nat.reduceAdd, Nat.reduceSub, Nat.reduceLeDiff, Nat.reduceLT, implies_true, forall_const, List.any_cons, List.any_nil, List.all_cons, List.all_nil, wipeP, restore, List.getD_eq_getElem?_getD, Option.getD_some, List.mem_singleton, forall_eq, Int.reduceLT, Int.reduceLE, Int.reduceNeg, Int.reduceSub, Int.reduceAdd, Int.reduceToNat, Int.reduceEq, Int.reduceNe, String.reduceEq, and_self, or_self, pDraw]
        rw [e5]
        intro x x0 x1
        refine pick_all x0 (by show x < 2; omega) fun u hu => ?_
        obtain ⟨w, rfl, hw⟩ : ∃ w, u = .str w ∧ (w = w_arms ∨ w = w_parts) := by
          simp only [List.mem_cons, List.not_mem_nil, or_false] at hu
          rcases hu with rfl | rfl
          · exact ⟨_, rfl, .inl rfl⟩
          · exact ⟨_, rfl, .inr rfl⟩
        intro y y0 y1
        refine ⟨by omega, by omega, by rw [rng_len]; omega, by simp, fun i acc ρ => ρ = [Sl.fz (T.adr d), Sl.fz (T.int r), Sl.fz t, Sl.fz (T.int (0 + ((i' : Nat) : Int))), Sl.fz (T.str w), c, Sl.no] ∧ ∃ l : List Tr, acc = l.map trT ∧ l.length = i ∧ ∀ p ∈ l, TG 0 p, ⟨rfl, [], rfl, rfl, fun t h => by cases h⟩, ?_, ?_⟩
        · rintro i t acc ρ2 e hacc ⟨rfl, l, rfl, hl, ha⟩
          obtain ⟨hi, rfl⟩ := rng_get e
          simp only [↓reduceIte, ↓sSeq, ↓sAsg, ↓sIf, ↓sRet, ↓sRetN, ↓sExpr, ↓sNext, ↓sBreak, ↓sCont, ↓sAug, ↓sFor, ↓gN, ↓pIx, ↓pC, ↓pTup, ↓pLst, ↓pCons, ↓pNil, ↓pStar, ↓pOp, ↓pTB, ↓pTru, ↓pTAnd, ↓pTOr, ↓pTNot, ↓pAndV, ↓pOrV, ↓pNotV, ↓pIf, ↓pCall, ↓pLen, ↓pIsi, ↓pDget, ↓gDset, ↓gSubT, ↓PEq, ↓PNe, ↓pChain, ↓pNeg, ↓pSl, ↓pNoPart, ↓pPart, ↓pIter, ↓pRng1, ↓pRng2, ↓pEnum, ↓pRev, ↓pZip, ↓pMet, ↓pMet0, ↓pMut, ↓pLc, ↓pLRng1, ↓pLRng2, ↓pYes, ↓pRE, ↓startP, ↓pWords, ↓pSplit, ↓gLt, ↓gLe, ↓gGt, ↓gGe, ↓pV_f0, ↓pV_o0, ↓pRV_f0, ↓pRV_o0, ↓lk_f0, ↓lk_o0, ↓sRV_f0, ↓sRV_o0, ↓pV_f1, ↓pV_o1, ↓pRV_f1, ↓pRV_o1, ↓lk_f1, ↓lk_o1, ↓sRV_f1, ↓sRV_o1, ↓pV_f2, ↓pV_o2, ↓pRV_f2, ↓pRV_o2, ↓lk_f2, ↓lk_o2, ↓sRV_f2, ↓sRV_o2, ↓pV_f3, ↓pV_o3, ↓pRV_f3, ↓pRV_o3, ↓lk_f3, ↓lk_o3, ↓sRV_f3, ↓sRV_o3, ↓pV_f4, ↓pV_o4, ↓pRV_f4, ↓pRV_o4, ↓lk_f4, ↓lk_o4, ↓sRV_f4, ↓sRV_o4, ↓pV_f5, ↓pV_o5, ↓pRV_f5, ↓pRV_o5, ↓lk_f5, ↓lk_o5, ↓sRV_f5, ↓sRV_o5, ↓pV_f6, ↓pV_o6, ↓pRV_f6, ↓pRV_o6, ↓lk_f6, ↓lk_o6, ↓sRV_f6, ↓sRV_o6, ↓pV_f7, ↓pV_o7, ↓pRV_f7, ↓pRV_o7, ↓lk_f7, ↓lk_o7, ↓sRV_f7, ↓sRV_o7, ↓pV_f8, ↓pV_o8, ↓pRV_f8, ↓pRV_o8, ↓lk_f8, ↓lk_o8, ↓sRV_f8, ↓sRV_o8, ↓pV_f9, ↓pV_o9, ↓pRV_f9, ↓pRV_o9, ↓lk_f9, ↓lk_o9, ↓sRV_f9, ↓sRV_o9, ↓pV_f10, ↓pV_o10, ↓pRV_f10, ↓pRV_o10, ↓lk_f10, ↓lk_o10, ↓sRV_f10, ↓sRV_o10, ↓pV_f11, ↓pV_o11, ↓pRV_f11, ↓pRV_o11, ↓lk_f11, ↓lk_o11, ↓sRV_f11, ↓sRV_o11, ↓pV_f12, ↓pV_o12, ↓pRV_f12, ↓pRV_o12, ↓lk_f12, ↓lk_o12, ↓sRV_f12, ↓sRV_o12, ↓pV_f13, ↓pV_o13, ↓pRV_f13, ↓pRV_o13, ↓lk_f13, ↓lk_o13, ↓sRV_f13, ↓sRV_o13, ↓lk_fz, ↓of_fn, ↓of_fb, ↓of_fi, ↓of_fs, ↓of_ft, ↓of_fl, ↓of_ol, ↓of_ff, ↓ad_i, ↓ad_s, ↓ad_l, ↓ad_t, ↓su_i, ↓mu_i, ↓mu_l, ↓mo_i, ↓fd_i, ↓pw_i, ↓an_i, ↓ci_i, ↓is_n, ↓is_nn, ↓in_t, ↓in_l, ↓in_s, ↓ix_l, ↓ix_t, ↓ix_s, ↓sl_l, ↓sl_t, ↓sl_s, ↓kn_i, ↓kp_i, ↓kr1, ↓kr2, ↓ke_l, ↓kz_l, ↓kz_t, ↓klr1, ↓klr2, ↓gt_e, ↓gs_n, ↓gs_c, nc_0, nc_1, nc_2, nc_3, nc_4, nc_5, nc_6, nc_7, nc_8, nc_9, nc_10, nc_11, nc_12, eq_ii, eq_ss, eq_nn, eq_bb, eq_st, eq_ts, eq_si, eq_is, eq_it, eq_ti, cmp_i, cmp_b, cmp_n, sc_i, sc_s, sc_b, sc_n, flat_i, flat_s, flat_b, flat_n, tru_n, tru_b, tru_i, tru_t, tru_l, items_t, items_l, len_t, len_l, iter_t, iter_l, isN_n, isN_i, isN_s, isN_t, isN_l, isN_b, at_0, at_1, at_2, at_3, ib_tn, ib_tb, ib_ti, ib_ts, ib_tt, ib_tl, ib_sn, ib_sb, ib_si, ib_ss, ib_st, ib_sl, ib_in, ib_ib, ib_ii, ib_is, ib_it, ib_il, ib_bn, ib_bb, ib_bi, ib_bs, ib_bt, ib_bl, na_n, na_b, na_i, na_s, na_t, na_l, List.getElem?_cons_zero, List.getElem?_cons_succ, List.set_cons_zero, List.set_cons_succ, List.map_cons, List.map_nil, List.length_cons, List.length_nil, List.replicate_succ, List.replicate_zero, List.cons_append, List.nil_append, List.append_nil, List.isEmpty_nil, List.isEmpty_cons, List.cons.injEq, Option.some.injEq, T.int.injEq, T.str.injEq, T.bl.injEq, T.tup.injEq, T.lst.injEq, T.adr.injEq, Sl.fz.injEq, Sl.ow.injEq, exists_eq_left, exists_eq_left', exists_eq_right, exists_eq_right', exists_eq, exists_eq', exists_and_left, exists_and_right, exists_const, exists_false, and_true, true_and, and_false, false_and, or_true, true_or, or_false, false_or, not_true_eq_false, not_false_eq_true, if_true, if_false, ite_true, ite_false, Bool.not_true, Bool.not_false, Bool.true_or, Bool.or_true, Bool.false_or, Bool.or_false, Bool.true_and, Bool.and_true, Bool.false_and, Bool.and_false, Bool.false_eq_true, Bool.true_eq_false, eq_self, decide_eq_true_eq, decide_true, decide_false, Bool.decide_eq_true, Bool.not_eq_true, decide_eq_false_iff_not, Bool.and_eq_true, Bool.or_eq_true, Bool.not_eq_true', reduceCtorEq, ne_eq, Nat.le_refl, Nat.reduceAdd, Nat.reduceSub, Nat.reduceLeDiff, Nat.reduceLT, implies_true, forall_const, List.any_cons, List.any_nil, List.all_cons, List.all_nil, wipeP, restore, List.getD_eq_getElem?_getD, Option.getD_some, List.mem_singleton, forall_eq, Int.reduceLT, Int.reduceLE, Int.reduceNeg, Int.reduceSub, Int.reduceAdd, Int.reduceToNat, Int.reduceEq, Int.reduceNe, String.reduceEq, and_self, or_self, pfTrio]
          refine ⟨_, 0, ⟨rfl, rfl⟩, by omega, fun p hp => ?_⟩
          refine ⟨l ++ [p], by rw [List.map_append]; rfl, by rw [List.length_append, hl]; rfl, fun u hu => ?_⟩
          rcases List.mem_append.mp hu with hu | hu
          · exact ha u hu
          · rw [List.mem_singleton.mp hu]
            exact hp
        · rintro acc ρ2 hacc ⟨rfl, l, rfl, hl, ha⟩
          rw [rng_len] at hl
          obtain ⟨p, l, rfl⟩ : ∃ p l', l = p :: l' := by
            cases l with
            | nil => simp at hl; omega
            | cons p l => exact ⟨p, l, rfl⟩
          rw [List.length_cons] at hl
          simp only [↓reduceIte, ↓sSeq, ↓sAsg, ↓sIf, ↓sRet, ↓sRetN, ↓sExpr, ↓sNext, ↓sBreak, ↓sCont, ↓sAug, ↓sFor, ↓gN, ↓pIx, ↓pC, ↓pTup, ↓pLst, ↓pCons, ↓pNil, ↓pStar, ↓pOp, ↓pTB, ↓pTru, ↓pTAnd, ↓pTOr, ↓pTNot, ↓pAndV, ↓pOrV, ↓pNotV, ↓pIf, ↓pCall, ↓pLen, ↓pIsi, ↓pDget, ↓gDset, ↓gSubT, ↓PEq, ↓PNe, ↓pChain, ↓pNeg, ↓pSl, ↓pNoPart, ↓pPart, ↓pIter, ↓pRng1, ↓pRng2, ↓pEnum, ↓pRev, ↓pZip, ↓pMet, ↓pMet0, ↓pMut, ↓pLc, ↓pLRng1, ↓pLRng2, ↓pYes, ↓pRE, ↓startP, ↓pWords, ↓pSplit, ↓gLt, ↓gLe, ↓gGt, ↓gGe, ↓pV_f0, ↓pV_o0, ↓pRV_f0, ↓pRV_o0, ↓lk_f0, ↓lk_o0, ↓sRV_f0, ↓sRV_o0, ↓pV_f1, ↓pV_o1, ↓pRV_f1, ↓pRV_o1, ↓lk_f1, ↓lk_o1, ↓sRV_f1, ↓sRV_o1, ↓pV_f2, ↓pV_o2, ↓pRV_f2, ↓pRV_o2, ↓lk_f2, ↓lk_o2, ↓sRV_f2, ↓sRV_o2, ↓pV_f3, ↓pV_o3, ↓pRV_f3, ↓pRV_o3, ↓lk_f3, ↓lk_o3, ↓sRV_f3, ↓sRV_o3, ↓pV_f4, ↓pV_o4, ↓pRV_f4, ↓pRV_o4, ↓lk_f4, ↓lk_o4, ↓sRV_f4, ↓sRV_o4, ↓pV_f5, ↓pV_o5, ↓pRV_f5, ↓pRV_o5, ↓lk_f5, ↓lk_o5, ↓sRV_f5, ↓sRV_o5, ↓pV_f6, ↓pV_o6, ↓pRV_f6, ↓pRV_o6, ↓lk_f6, ↓lk_o6, ↓sRV_f6, ↓sRV_o6, ↓pV_f7, ↓pV_o7, ↓pRV_f7, ↓pRV_o7, ↓lk_f7, ↓lk_o7, ↓sRV_f7, ↓sRV_o7, ↓pV_f8, ↓pV_o8, ↓pRV_f8, ↓pRV_o8, ↓lk_f8, ↓lk_o8, ↓sRV_f8, ↓sRV_o8, ↓pV_f9, ↓pV_o9, ↓pRV_f9, ↓pRV_o9, ↓lk_f9, ↓lk_o9, ↓sRV_f9, ↓sRV_o9, ↓pV_f10, ↓pV_o10, ↓pRV_f10, ↓pRV_o10, ↓lk_f10, ↓lk_o10, ↓sRV_f10, ↓sRV_o10, ↓pV_f11, ↓pV_o11, ↓pRV_f11, ↓pRV_o11, ↓lk_f11, ↓lk_o11, ↓sRV_f11, ↓sRV_o11, ↓pV_f12, ↓pV_o12, ↓pRV_f12, ↓pRV_o12, ↓lk_f12, ↓lk_o12, ↓sRV_f12, ↓sRV_o12, ↓pV_f13, ↓pV_o13, ↓pRV_f13, ↓pRV_o13, ↓lk_f13, ↓lk_o13, ↓sRV_f13, ↓sRV_o13, ↓lk_fz, ↓of_fn, ↓of_fb, ↓of_fi, ↓of_fs, ↓of_ft, ↓of_fl, ↓of_ol, ↓of_ff, ↓ad_i, ↓ad_s, ↓ad_l, ↓ad_t, ↓su_i, ↓mu_i, ↓mu_l, ↓mo_i, ↓fd_i, ↓pw_i, ↓an_i, ↓ci_i, ↓is_n, ↓is_nn, ↓in_t, ↓in_l, ↓in_s, ↓ix_l, ↓ix_t, ↓ix_s, ↓sl_l, ↓sl_t, ↓sl_s, ↓kn_i, ↓kp_i, ↓kr1, ↓kr2, ↓ke_l, ↓kz_l, ↓kz_t, ↓klr1, ↓klr2, ↓gt_e, ↓gs_n, ↓gs_c, nc_0, nc_1, nc_2, nc_3, nc_4, nc_5, nc_6, nc_7, nc_8, nc_9, nc_10, nc_11, nc_12, eq_ii, eq_ss, eq_nn, eq_bb, eq_st, eq_ts, eq_si, eq_is, eq_it, eq_ti, cmp_i, cmp_b, cmp_n, sc_i, sc_s, sc_b, sc_n, flat_i, flat_s, flat_b, flat_n, tru_n, tru_b, tru_i, tru_t, tru_l, items_t, items_l, len_t, len_l, iter_t, iter_l, isN_n, isN_i, isN_s, isN_t, isN_l, isN_b, at_0, at_1, at_2, at_3, ib_tn, ib_tb, ib_ti, ib_ts, ib_tt, ib_tl, ib_sn, ib_sb, ib_si, ib_ss, ib_st, ib_sl, ib_in, ib_ib, ib_ii, ib_is, ib_it, ib_il, ib_bn, ib_bb, ib_bi, ib_bs, ib_bt, ib_bl, na_n, na_b, na_i, na_s, na_t, na_l, List.getElem?_cons_zero, List.getElem?_cons_succ, List.set_cons_zero, List.set_cons_succ, List.map_cons, List.map_nil, List.length_cons, List.length_nil, List.replicate_succ, List.replicate_zero, List.cons_append, List.nil_append, List.append_nil, List.isEmpty_nil, List.isEmpty_cons, List.cons.injEq, Option.some.injEq, T.int.injEq, T.str.injEq, T.bl.injEq, T.tup.injEq, T.lst.injEq, T.adr.injEq, Sl.fz.injEq, Sl.ow.injEq, exists_eq_left, exists_eq_left', exists_eq_right, exists_eq_right', exists_eq, exists_eq', exists_and_left, exists_and_right, exists_const, exists_false, and_true, true_and, and_false, false_and, or_true, true_or, or_false, false_or, not_true_eq_false, not_false_eq_true, if_true, if_false, ite_true, ite_false, Bool.not_true, Bool.not_false, Bool.true_or, Bool.or_true, Bool.false_or, Bool.or_false, Bool.true_and, Bool.and_true, Bool.false_and, Bool.and_false, Bool.false_eq_true, Bool.true_eq_false, eq_self, decide_eq_true_eq, decide_true, decide_false, Bool.decide_eq_true, Bool.not_eq_true, decide_eq_false_iff_not, Bool.and_eq_true, Bool.or_eq_true, Bool.not_eq_true', reduceCtorEq, ne_eq, Nat.le_refl, Nat.reduceAdd, Nat.reduceSub, Nat.reduceLeDiff, Nat.reduceLT, implies_true, forall_const, List.any_cons, List.any_nil, List.all_cons, List.all_nil, wipeP, restore, List.getD_eq_getElem?_getD, Option.getD_some, List.mem_singleton, forall_eq, Int.reduceLT, Int.reduceLE, Int.reduceNeg, Int.reduceSub, Int.reduceAdd, Int.reduceToNat, Int.reduceEq, Int.reduceNe, String.reduceEq, and_self, or_self, trT, cut_tl, cut_two]
          refine ⟨by rw [List.length_map]; omega, ?_⟩
          exact wl_arms hw ht (ha p List.mem_cons_self) (by omega) fun q hq => ha q (List.mem_cons_of_mem _ hq)
      · rintro ρ2 ⟨t, a, b, c, rfl, ht⟩
        rw [rng_len] at ht
        simp only [↓reduceIte, ↓sSeq, ↓sAsg, ↓sIf, ↓sRet, ↓sRetN, ↓sExpr, ↓sNext, ↓sBreak, ↓sCont, ↓sAug, ↓sFor, ↓gN, ↓pIx, ↓pC, ↓pTup, ↓pLst, ↓pCons, ↓pNil, ↓pStar, ↓pOp, ↓pTB, ↓pTru, ↓pTAnd, ↓pTOr, ↓pTNot, ↓pAndV, ↓pOrV, ↓pNotV, ↓pIf, ↓pCall, ↓pLen, ↓pIsi, ↓pDget, ↓gDset, ↓gSubT, ↓PEq, ↓PNe, ↓pChain, ↓pNeg, ↓pSl, ↓pNoPart, ↓pPart, ↓pIter, ↓pRng1, ↓pRng2, ↓pEnum, ↓pRev, ↓pZip, ↓pMet, ↓pMet0, ↓pMut, ↓pLc, ↓pLRng1, ↓pLRng2, ↓pYes, ↓pRE, ↓startP, ↓pWords, ↓pSplit, ↓gLt, ↓gLe, ↓gGt, ↓gGe, ↓pV_f0, ↓pV_o0, ↓pRV_f0, ↓pRV_o0, ↓lk_f0, ↓lk_o0, ↓sRV_f0, ↓sRV_o0, ↓pV_f1, ↓pV_o1, ↓pRV_f1, ↓pRV_o1, ↓lk_f1, ↓lk_o1, ↓sRV_f1, ↓sRV_o1, ↓pV_f2, ↓pV_o2, ↓pRV_f2, ↓pRV_o2, ↓lk_f2, ↓lk_o2, ↓sRV_f2, ↓sRV_o2, ↓pV_f3, ↓pV_o3, ↓pRV_f3, ↓pRV_o3, ↓lk_f3, ↓lk_o3, ↓sRV_f3, ↓sRV_o3, ↓pV_f4, ↓pV_o4, ↓pRV_f4, ↓pRV_o4, ↓lk_f4, ↓lk_o4, ↓sRV_f4, ↓sRV_o4, ↓pV_f5, ↓pV_o5, ↓pRV_f5, ↓pRV_o5, ↓lk_f5, ↓lk_o5, ↓sRV_f5, ↓sRV_o5, ↓pV_f6, ↓pV_o6, ↓pRV_f6, ↓pRV_o6, ↓lk_f6, ↓lk_o6, ↓sRV_f6, ↓sRV_o6, ↓pV_f7, ↓pV_o7, ↓pRV_f7, ↓pRV_o7, ↓lk_f7, ↓lk_o7, ↓sRV_f7, ↓sRV_o7, ↓pV_f8, ↓pV_o8, ↓pRV_f8, ↓pRV_o8, ↓lk_f8, ↓lk_o8, ↓sRV_f8, ↓sRV_o8, ↓pV_f9, ↓pV_o9, ↓pRV_f9, ↓pRV_o9, ↓lk_f9, ↓lk_o9, ↓sRV_f9, ↓sRV_o9, ↓pV_f10, ↓pV_o10, ↓pRV_f10, ↓pRV_o10, ↓lk_f10, ↓lk_o10, ↓sRV_f10, ↓sRV_o10, ↓pV_f11, ↓pV_o11, ↓pRV_f11, ↓pRV_o11, ↓lk_f11, ↓lk_o11, ↓sRV_f11, ↓sRV_o11, ↓pV_f12, ↓pV_o12, ↓pRV_f12, ↓pRV_o12, ↓lk_f12, ↓lk_o12, ↓sRV_f12, ↓sRV_o12, ↓pV_f13, ↓pV_o13, ↓pRV_f13, ↓pRV_o13, ↓lk_f13, ↓lk_o13, ↓sRV_f13, ↓sRV_o13, ↓lk_fz, ↓of_fn, ↓of_fb, ↓of_fi, ↓of_fs, ↓of_ft, ↓of_fl, ↓of_ol, ↓of_ff, ↓ad_i, ↓ad_s, ↓ad_l, ↓ad_t, ↓su_i, ↓mu_i, ↓mu_l, ↓mo_i, ↓fd_i, ↓pw_i, ↓an_i, ↓ci_i, ↓is_n, ↓is_nn, ↓in_t, ↓in_l, ↓in_s, ↓ix_l, ↓ix_t, ↓ix_s, ↓sl_l, ↓sl_t, ↓sl_s, ↓kn_i, ↓kp_i, ↓kr1, ↓kr2, ↓ke_l, ↓kz_l, ↓kz_t, ↓klr1, ↓klr2, ↓gt_e, ↓gs_n, ↓gs_c, nc_0, nc_1, nc_2, nc_3, nc_4, nc_5, nc_6, nc_7, nc_8, nc_9, nc_10, nc_11, nc_12, eq_ii, eq_ss, eq_nn, eq_bb, eq_st, eq_ts, eq_si, eq_is, eq_it, eq_ti, cmp_i, cmp_b, cmp_n, sc_i, sc_s, sc_b, sc_n, flat_i, flat_s, flat_b, flat_n, tru_n, tru_b, tru_i, tru_t, tru_l, items_t, items_l, len_t, len_l, iter_t, iter_l, isN_n, isN_i, isN_s, isN_t, isN_l, isN_b, at_0, at_1, at_2, at_3, ib_tn, ib_tb, ib_ti, ib_ts, ib_tt, ib_tl, ib_sn, ib_sb, ib_si, ib_ss, ib_st, ib_sl, ib_in, ib_ib, ib_ii, ib_is, ib_it, ib_il, ib_bn, ib_bb, ib_bi, ib_bs, ib_bt, ib_bl, na_n, na_b, na_i, na_s, na_t, na_l, List.getElem?_cons_zero, List.getElem?_cons_succ, List.set_cons_zero, List.set_cons_succ, List.map_cons, List.map_nil, List.length_cons, List.length_nil, List.replicate_succ, List.replicate_zero, List.cons_append, List.nil_append, List.append_nil, List.isEmpty_nil, List.isEmpty_cons, List.cons.injEq, Option.some.injEq, T.int.injEq, T.str.injEq, T.bl.injEq, T.tup.injEq, T.lst.injEq, T.adr.injEq, Sl.fz.injEq, Sl.ow.injEq, exists_eq_left, exists_eq_left', exists_eq_right, exists_eq_right', exists_eq, exists_eq', exists_and_left, exists_and_right, exists_const, exists_false, and_true, true_and, and_false, false_and, or_true, true_or, or_false, false_or, not_true_eq_false, not_false_eq_true, if_true, if_false, ite_true, ite_false, Bool.not_true, Bool.not_false, Bool.true_or, Bool.or_true, Bool.false_or, Bool.or_false, Bool.true_and, Bool.and_true, Bool.false_and, Bool.and_false, Bool.false_eq_true, Bool.true_eq_false, eq_self, decide_eq_true_eq, decide_true, decide_false, Bool.decide_eq_true, Bool.not_eq_true, decide_eq_false_iff_not, Bool.and_eq_true, Bool.or_eq_true, Bool.not_eq_true', reduceCtorEq, ne_eq, Nat.le_refl, Nat.reduceAdd, Nat.reduceSub, Nat.reduceLeDiff, Nat.reduceLT, implies_true, forall_const, List.any_cons, List.any_nil, List.all_cons, List.all_nil, wipeP, restore, List.getD_eq_getElem?_getD, Option.getD_some, List.mem_singleton, forall_eq, Int.reduceLT, Int.reduceLE, Int.reduceNeg, Int.reduceSub, Int.reduceAdd, Int.reduceToNat, Int.reduceEq, Int.reduceNe, String.reduceEq, and_self, or_self]
        exact fin _ _ t (by omega) (by omega) ht
end
end Y

namespace Y
open PySem PySem.Spec PyProof.Rows L2 RT RZ TL PySem.NumText
/-! ### the law -/
def pfExact : PSp := fun ts Φ => ∃ a, ts = [.str a, .str a] ∧ Φ (.bl true) false
def spLaw (K : PySem.W.Frag) : Sp := fun vs H Q _ => ∃ (a : Addr) (ns : List Int), vs = [.ref a] ∧ SqL K H a (ns.map V.int) ∧ ns.length ≤ 63 ∧ ∀ H', Q (.bl true) H'
/-- statements in a draws' world that the first statement made -/
def tDraw (K : PySem.W.Frag) (m : Nat) (p : Addr → Addr → PSt) : TS := fun D σ H => ∃ (d l : Addr) (B F0 : Hp) (ρ : PS') (F : Hp) (Δ : PEnds), Rep K (wd d l m) B F0 ρ σ F H ∧ p d l Δ ρ ∧ EndsOk K (wd d l m) B F0 F Δ D
theorem qss_any {X : Cx} {m : Nat} {st : List Stmt} {p : Addr → Addr → PSt} (h : ∀ d l, QSs X (wd d l m) st (p d l)) : PSs X st (tDraw X.K m p) := ⟨fun pins s σ H D I ⟨d, l, B, F0, ρ, F, Δ, R, hp, k⟩ =>
  let ⟨_, h1, h2⟩ := (h d l).ex
  h1.run pins s σ H D I (h2 B F0 ρ σ F H Δ D R hp k)⟩
/-- the draws' object alone is known -/
theorem rep0 {K : PySem.W.Frag} {d l : Addr} {m n : Nat} {H : Hp} {x : V} (ok : Dz H d l m) : Rep K (wd d l m) (fun _ => none) (fun _ => none) (Sl.no :: Sl.fz (.adr d) :: List.replicate n Sl.no) (some x :: some (.ref d) :: List.replicate n none) (fun _ => none) H := by
  refine ⟨fun a o e => (by cases e), fun a o e => (by cases e), fun a e => absurd rfl e, fun a o e => (by cases e), ok, fun _ _ => rfl, fun _ _ => rfl, (by simp), fun i t e => ?_, fun i t e => ?_, fun i j t u e => ?_⟩
  · match i, e with
    | 0, e => cases e
    | 1, e =>
      have e2 : t = .adr d := (Sl.fz.inj (Option.some.inj e)).symm
      exact ⟨.ref d, rfl, by rw [e2]; rfl⟩
    | i + 2, e =>
      have e : (List.replicate n Sl.no)[i]? = some (Sl.fz t) := e
      rw [List.getElem?_replicate] at e
      split at e <;> cases e
  · match i, e with
    | 0, e => cases e
    | 1, e => cases e
    | i + 2, e =>
      have e : (List.replicate n Sl.no)[i]? = some (Sl.ow t) := e
      rw [List.getElem?_replicate] at e
      split at e <;> cases e
  · match i, e with
    | 0, e => cases e
    | 1, e => cases e
    | i + 2, e =>
      have e : (List.replicate n Sl.no)[i]? = some (Sl.ow t) := e
      rw [List.getElem?_replicate] at e
      split at e <;> cases e
section
variable {P : Program} {w : World} {K : PySem.W.Frag} {mg : Str → Option Value} {base : Heap}
theorem ok_exact {W : Wld} {k : Nat} {pf : PSp} (D : Df K mg "_law_exact" s_exact)
    (C_exact : CalQ P w K mg base (W) "_law_exact" k ["_law_told", "_law_due"] (pf)) (m_isinstance : mg "isinstance" = none) (m_tuple : mg "tuple" = none) (m_len : mg "len" = none) (m_range : mg "range" = none) (m_str : mg "str" = none) (m_bool : mg "bool" = none) (m_int : mg "int" = none) :
    CalQ P w K mg base (W) "_law_exact" (k + 1) ["_law_told", "_law_due"] (pfExact) := by
  refine CalQ.mk D sc_exact (fun _ _ _ _ _ _ us h => match us, h with | [_, _], _ => rfl) (fun ts Φ h => by first | (obtain ⟨rfl, _⟩ := h; rfl) | (obtain ⟨_, rfl, _⟩ := h; rfl) | (obtain ⟨_, _, rfl, _⟩ := h; rfl) | (obtain ⟨_, _, _, rfl, _⟩ := h; rfl) | (obtain ⟨_, _, _, _, rfl, _⟩ := h; rfl)) (fun f cdv A outer s H E hr => ?_)
  refine ⟨_, qss_cons (qs_if (qt_truth (qr_of (qe_isi (is := isB "tuple") (by rfl) m_isinstance (qe_name (pv 1)) (pe_bltn (v := .ty "tuple") (by rfl) m_tuple (by decide +kernel) rfl) (kitN (by decide +kernel)))) (by intro _; rfl))
    (qss_cons (qs_if (QW.qt (qw_or (qt_not (qt_truth (qr_of (qe_isi (is := isB "tuple") (by rfl) m_isinstance (qe_name (pv 0)) (pe_bltn (v := .ty "tuple") (by rfl) m_tuple (by decide +kernel) rfl) (kitN (by decide +kernel)))) (by intro _; rfl))) (qw_or1 (qt_cmp (oq_ne hr.units) (qe_len (by rfl) m_len (qr_name (pv 0))) (qe_len (by rfl) m_len (qr_name (pv 1))) (nomark _)))))
      (qss_one (qs_ret qe_bl))
      (qss_nil))
      (qss_cons (qs_for (passes_of rfl) rfl (qi_range1 (by rfl) m_range (qe_len (by rfl) m_len (qr_name (pv 1)))) (qg_name (pg_name (i := 2) sc_exact.nd rfl (.inl rfl)))
      (qss_one (qs_if (qt_not (qt_truth (qr_of (qe_call C_exact (hr.mono (by omega)) (by rfl) (qa_cons (qe_ix (qr_name (pv 0)) (qe_name (pv 2)) (fun _ _ => rfl)) (qa_cons (qe_ix (qr_name (pv 1)) (qe_name (pv 2)) (fun _ _ => rfl)) qa_nil)))) (by intro _; rfl)))
        (qss_one (qs_ret qe_bl))
        (qss_nil))))
      (qss_one (qs_ret qe_bl))))
    (qss_nil))
    (qss_cons (qs_if (qt_cmp oq_is (qe_name (pv 1)) qe_non (nomark _))
    (qss_one (qs_ret (qe_cmp oq_is (qe_name (pv 0)) qe_non (nomark _))))
    (qss_nil))
    (qss_cons (qs_if (qt_truth (qr_of (qe_isi (is := isB "str") (by rfl) m_isinstance (qe_name (pv 1)) (pe_bltn (v := .ty "str") (by rfl) m_str (by decide +kernel) rfl) (kitN (by decide +kernel)))) (by intro _; rfl))
    (qss_one (qs_ret (qe_and (qe_isi (is := isB "str") (by rfl) m_isinstance (qe_name (pv 0)) (pe_bltn (v := .ty "str") (by rfl) m_str (by decide +kernel) rfl) (kitN (by decide +kernel))) (qe_one (qe_cmp (oq_eq hr.units) (qe_name (pv 0)) (qe_name (pv 1)) (nomark _))))))
    (qss_nil))
    (qss_one (qs_ret (qe_and (qe_isi (is := isB "int") (by rfl) m_isinstance (qe_name (pv 0)) (pe_bltn (v := .ty "int") (by rfl) m_int (by decide +kernel) rfl) (kitN (by decide +kernel))) (qe_and (qe_not (qe_isi (is := isB "bool") (by rfl) m_isinstance (qe_name (pv 0)) (pe_bltn (v := .ty "bool") (by rfl) m_bool (by decide +kernel) rfl) (kitN (by decide +kernel)))) (qe_one (qe_cmp (oq_eq hr.units) (qe_name (pv 0)) (qe_name (pv 1)) (nomark _))))))))), ?_⟩
  intro ts Φ h
  obtain ⟨a, rfl, h⟩ := h
  simp only [↓reduceIte, ↓sSeq, ↓sAsg, ↓sIf, ↓sRet, ↓sRetN, ↓sExpr, ↓sNext, ↓sBreak, ↓sCont, ↓sAug, ↓sFor, ↓gN, ↓pIx, ↓pC, ↓pTup, ↓pLst, ↓pCons, ↓pNil, ↓pStar, ↓pOp, ↓pTB, ↓pTru, ↓pTAnd, ↓pTOr, ↓pTNot, ↓pAndV, ↓pOrV, ↓pNotV, ↓pIf, ↓pCall, ↓pLen, ↓pIsi, ↓pDget, ↓gDset, ↓gSubT, ↓PEq, ↓PNe, ↓pChain, ↓pNeg, ↓pSl, ↓pNoPart, ↓pPart, ↓pIter, ↓pRng1, ↓pRng2, ↓pEnum, ↓pRev, ↓pZip, ↓pMet, ↓pMet0, ↓pMut, ↓pLc, ↓pLRng1, ↓pLRng2, ↓pYes, ↓pRE, ↓startP, ↓pWords, ↓pSplit, ↓gLt, ↓gLe, ↓gGt, ↓gGe, ↓pV_f0, ↓pV_o0, ↓pRV_f0, ↓pRV_o0, ↓lk_f0, ↓lk_o0, ↓sRV_f0, ↓sRV_o0, ↓pV_f1, ↓pV_o1, ↓pRV_f1, ↓pRV_o1, ↓lk_f1, ↓lk_o1, ↓sRV_f1, ↓sRV_o1, ↓pV_f2, ↓pV_o2, ↓pRV_f2, ↓pRV_o2, ↓lk_f2, ↓lk_o2, ↓sRV_f2, ↓sRV_o2, ↓pV_f3, ↓pV_o3, ↓pRV_f3, ↓pRV_o3, ↓lk_f3, ↓lk_o3, ↓sRV_f3, ↓sRV_o3, ↓pV_f4, ↓pV_o4, ↓pRV_f4, ↓pRV_o4, ↓lk_f4, ↓lk_o4, ↓sRV_f4, ↓sRV_o4, ↓pV_f5, ↓pV_o5, ↓pRV_f5, ↓pRV_o5, ↓lk_f5, ↓lk_o5, ↓sRV_f5, ↓sRV_o5, ↓pV_f6, ↓pV_o6, ↓pRV_f6, ↓pRV_o6, ↓lk_f6, ↓lk_o6, ↓sRV_f6, ↓sRV_o6, ↓pV_f7, ↓pV_o7, ↓pRV_f7, ↓pRV_o7, ↓lk_f7, ↓lk_o7, ↓sRV_f7, ↓sRV_o7, ↓pV_f8, ↓pV_o8, ↓pRV_f8, ↓pRV_o8, ↓lk_f8, ↓lk_o8, ↓sRV_f8, ↓sRV_o8, ↓pV_f9, ↓pV_o9, ↓pRV_f9, ↓pRV_o9, ↓lk_f9, ↓lk_o9, ↓sRV_f9, ↓sRV_o9, ↓pV_f10, ↓pV_o10, ↓pRV_f10, ↓pRV_o10, ↓lk_f10, ↓lk_o10, ↓sRV_f10, ↓sRV_o10, ↓pV_f11, ↓pV_o11, ↓pRV_f11, ↓pRV_o11, ↓lk_f11, ↓lk_o11, ↓sRV_f11, ↓sRV_o11, ↓pV_f12, ↓pV_o12, ↓pRV_f12, ↓pRV_o12, ↓lk_f12, ↓lk_o12, ↓sRV_f12, ↓sRV_o12, ↓pV_f13, ↓pV_o13, ↓pRV_f13, ↓pRV_o13, ↓lk_f13, ↓lk_o13, ↓sRV_f13, ↓sRV_o13, ↓lk_fz, ↓of_fn, ↓of_fb, ↓of_fi, ↓of_fs, ↓of_ft, ↓of_fl, ↓of_ol, ↓of_ff, ↓ad_i, ↓ad_s, ↓ad_l, ↓ad_t, ↓su_i, ↓mu_i, ↓mu_l, ↓mo_i, ↓fd_i, ↓pw_i, ↓an_i, ↓ci_i, ↓is_n, ↓is_nn, ↓in_t, ↓in_l, ↓in_s, ↓ix_l, ↓ix_t, ↓ix_s, ↓sl_l, ↓sl_t, ↓sl_s, ↓kn_i, ↓kp_i, ↓kr1, ↓kr2, ↓ke_l, ↓kz_l, ↓kz_t, ↓klr1, ↓klr2, ↓gt_e, ↓gs_n, ↓gs_c, nc_0, nc_1, nc_2, nc_3, nc_4, nc_5, nc_6, nc_7, nc_8, nc_9, nc_10, nc_11, nc_12, eq_ii, eq_ss, eq_nn, eq_bb, eq_st, eq_ts, eq_si, eq_is, eq_it, eq_ti, cmp_i, cmp_b, cmp_n, sc_i, sc_s, sc_b, sc_n, flat_i, flat_s, flat_b, flat_n, tru_n, tru_b, tru_i, tru_t, tru_l, items_t, items_l, len_t, len_l, iter_t, iter_l, isN_n, isN_i, isN_s, isN_t, isN_l, isN_b, at_0, at_1, at_2, at_3, ib_tn, ib_tb, ib_ti, ib_ts, ib_tt, ib_tl, ib_sn, ib_sb, ib_si, ib_ss, ib_st, ib_sl, ib_in, ib_ib, ib_ii, ib_is, ib_it, ib_il, ib_bn, ib_bb, ib_bi, ib_bs, ib_bt, ib_bl, na_n, na_b, na_i, na_s, na_t, na_l, List.getElem?_cons_zero, List.getElem?_cons_succ, List.set_cons_zero, List.set_cons_succ, List.map_cons, List.map_nil, List.length_cons, List.length_nil, List.replicate_succ, List.replicate_zero, List.cons_append, List.nil_append, List.append_nil, List.isEmpty_nil, List.isEmpty_cons, List.cons.injEq, Option.some.injEq, T.int.injEq, T.str.injEq, T.bl.injEq, T.tup.injEq, T.lst.injEq, T.adr.injEq, Sl.fz.injEq, Sl.ow.injEq, exists_eq_left, exists_eq_left', exists_eq_right, exists_eq_right', exists_eq, exists_eq', exists_and_left, exists_and_right, exists_const, exists_false, and_true, true_and, and_false, false_and, or_true, true_or, or_false, false_or, not_true_eq_false, not_false_eq_true, if_true, if_false, ite_true, ite_false, Bool.not_true, Bool.not_false, Bool.true_or, Bool.or_true, Bool.false_or, Bool.or_false, Bool.true_and, Bool.and_true, Bool.false_and, Bool.and_false, Bool.false_eq_true, Bool.true_eq_false, eq_self, decide_eq_true_eq, decide_true, decide_false, Bool.decide_eq_true, Bool.not_eq_true, decide_eq_false_iff_not, Bool.and_eq_true, Bool.or_eq_true, Bool.not_eq_true', reduceCtorEq, ne_eq, Nat.le_refl, Nat.reduceAdd, Nat.reduceSub, Nat.reduceLeDiff, Nat.reduceLT, implies_true, forall_const, List.any_cons, List.any_nil, List.all_cons, List.all_nil, wipeP, restore, List.getD_eq_getElem?_getD, Option.getD_some, List.mem_singleton, forall_eq, Int.reduceLT, Int.reduceLE, Int.reduceNeg, Int.reduceSub, Int.reduceAdd, Int.reduceToNat, Int.reduceEq, Int.reduceNe, String.reduceEq, and_self, or_self]
  exact h
theorem ok_law {f : Addr} {fd : FuncData} (F : FunD K "law" "law" (defArgs s_law) (defBody s_law) (defScope s_law) [] [] f fd)
    (C_start : Cal P w K mg base "_law_start" 2 ["_law_script", "_law_room", "_law_fronts"] (spStart K))
    (C_deep_kind : ∀ {d l : Addr}, CalQ P w K mg base (wd d l 3) "_law_deep_kind" 69 ["_law_d"] (pfDK d))
    (C_deep_way : ∀ {d l : Addr}, CalQ P w K mg base (wd d l 3) "_law_deep_way" 69 ["_law_d"] (pfDW d))
    (C_exact : ∀ {W : Wld}, CalQ P w K mg base W "_law_exact" 69 ["_law_told", "_law_due"] pfExact)
    (C_kind_text : ∀ {W : Wld}, CalQ P w K mg base W "_law_kind_text" 69 ["_law_kind"] (pfKX 20))
    (C_way_text : ∀ {W : Wld}, CalQ P w K mg base W "_law_way_text" 69 ["_law_way"] (pfWX 20))
    (C_write_kind : ∀ {W : Wld}, CalQ P w K mg base W "write_kind" 69 ["kind"] (pfWK 20))
    (C_write_way : ∀ {W : Wld}, CalQ P w K mg base W "write_way" 69 ["way"] (pfWW 20)) :
    FnOk P w K mg base CX0 70 f fd ["_law_script"] (spLaw K) := by
  obtain ⟨f_start, fd_start, g_start, k_start, b_start, G_start⟩ := C_start
  refine F.ok sc_law (fun vs H Q E h => ?_) (fun cdv A outer s H vs Q E hr h => ?_)
  · obtain ⟨a, ns, rfl, _⟩ := h
    rfl
  · obtain ⟨a, ns, rfl, hS, hlen, q⟩ := h
    refine ⟨_, pss_cons (ps_set (i := 1) sc_law.nd rfl (.inl rfl) (pe_call G_start (hr.mono (by decide)) (by rfl) g_start k_start b_start .nil pass0 (pa_cons (pv 0) (pa_cons pe_int (pa_cons pe_int pa_nil))))) (qss_any (m := 3) (p := fun d l => _) fun d l => qss_cons (qs_set (i := 2) sc_law.nd rfl (.inl rfl) (qe_call C_deep_kind (hr.mono (by omega)) (by rfl) (qa_cons (qe_name (pv 1)) qa_nil)))
      (qss_cons (qs_set (i := 3) sc_law.nd rfl (.inl rfl) (qe_call C_deep_way (hr.mono (by omega)) (by rfl) (qa_cons (qe_name (pv 1)) qa_nil)))
      (qss_cons (qs_if (qt_not (qt_truth (qr_of (qe_call C_exact (hr.mono (by omega)) (by rfl) (qa_cons (qe_call C_write_kind (hr.mono (by omega)) (by rfl) (qa_cons (qe_name (pv 2)) qa_nil)) (qa_cons (qe_call C_kind_text (hr.mono (by omega)) (by rfl) (qa_cons (qe_name (pv 2)) qa_nil)) qa_nil)))) (by intro _; rfl)))
      (qss_one (qs_ret qe_bl))
      (qss_nil))
      (qss_cons (qs_if (qt_not (qt_truth (qr_of (qe_call C_exact (hr.mono (by omega)) (by rfl) (qa_cons (qe_call C_write_way (hr.mono (by omega)) (by rfl) (qa_cons (qe_name (pv 3)) qa_nil)) (qa_cons (qe_call C_way_text (hr.mono (by omega)) (by rfl) (qa_cons (qe_name (pv 3)) qa_nil)) qa_nil)))) (by intro _; rfl)))
      (qss_one (qs_ret qe_bl))
      (qss_nil))
      (qss_cons (qs_set (i := 4) sc_law.nd rfl (.inl rfl) (qe_call C_deep_kind (hr.mono (by omega)) (by rfl) (qa_cons (qe_name (pv 1)) qa_nil)))
      (qss_cons (qs_set (i := 5) sc_law.nd rfl (.inl rfl) (qe_call C_deep_way (hr.mono (by omega)) (by rfl) (qa_cons (qe_name (pv 1)) qa_nil)))
      (qss_cons (qs_if (qt_not (qt_truth (qr_of (qe_call C_exact (hr.mono (by omega)) (by rfl) (qa_cons (qe_call C_write_kind (hr.mono (by omega)) (by rfl) (qa_cons (qe_name (pv 4)) qa_nil)) (qa_cons (qe_call C_kind_text (hr.mono (by omega)) (by rfl) (qa_cons (qe_name (pv 4)) qa_nil)) qa_nil)))) (by intro _; rfl)))
      (qss_one (qs_ret qe_bl))
      (qss_nil))
      (qss_cons (qs_if (qt_not (qt_truth (qr_of (qe_call C_exact (hr.mono (by omega)) (by rfl) (qa_cons (qe_call C_write_way (hr.mono (by omega)) (by rfl) (qa_cons (qe_name (pv 5)) qa_nil)) (qa_cons (qe_call C_way_text (hr.mono (by omega)) (by rfl) (qa_cons (qe_name (pv 5)) qa_nil)) qa_nil)))) (by intro _; rfl)))
      (qss_one (qs_ret qe_bl))
      (qss_nil))
      (qss_one (qs_ret (qe_and (qe_cmp (oq_eq hr.units) (qe_call C_write_kind (hr.mono (by omega)) (by rfl) (qa_cons (qe_name (pv 2)) qa_nil)) (qe_call C_kind_text (hr.mono (by omega)) (by rfl) (qa_cons (qe_name (pv 2)) qa_nil)) (nomark _)) (qe_one (qe_cmp (oq_eq hr.units) (qe_call C_write_way (hr.mono (by omega)) (by rfl) (qa_cons (qe_name (pv 3)) qa_nil)) (qe_call C_way_text (hr.mono (by omega)) (by rfl) (qa_cons (qe_name (pv 3)) qa_nil)) (nomark _)))))))))))))), ?_⟩
    refine ⟨_, rfl, a, ns, 30, 12, rfl, hS, by omega, fun H1 d l s1 n1 hD1 => ?_⟩
    refine ⟨d, l, _, _, _, _, { nx := fun _ => False, rt := fun τ f => τ = .bl true ∧ f = false }, rep0 (n := 4) ⟨[30, 12, 0], rfl, hD1⟩, ?_, ⟨fun _ _ _ _ _ _ h => h.elim, fun τ f v ρ σ F' H' R le vr h => ?_, fun _ _ _ _ _ _ h => h.elim, fun _ _ _ _ _ _ h => h.elim⟩⟩
    · have judgeK : ∀ t, KD t → ∃ s, Kt 20 t s ∧ s.length ≤ 100000 := fun t ⟨s, h1, h2⟩ => ⟨s, h1, by omega⟩
      have judgeW : ∀ t, WD t → ∃ s, Wt 20 t s ∧ s.length ≤ 100000 := fun t ⟨s, h1, h2⟩ => ⟨s, h1, by omega⟩
      simp only [↓reduceIte, ↓sSeq, ↓sAsg, ↓sIf, ↓sRet, ↓sRetN, ↓sExpr, ↓sNext, ↓sBreak, ↓sCont, ↓sAug, ↓sFor, ↓gN, ↓pIx, ↓pC, ↓pTup, ↓pLst, ↓pCons, ↓pNil, ↓pStar, ↓pOp, ↓pTB, ↓pTru, ↓pTAnd, ↓pTOr, ↓pTNot, ↓pAndV, ↓pOrV, ↓pNotV, ↓pIf, ↓pCall, ↓pLen, ↓pIsi, ↓pDget, ↓gDset, ↓gSubT, ↓PEq, ↓PNe, ↓pChain, ↓pNeg, ↓pSl, ↓pNoPart, ↓pPart, ↓pIter, ↓pRng1, ↓pRng2, ↓pEnum, ↓pRev, ↓pZip, ↓pMet, ↓pMet0, ↓pMut, ↓pLc, ↓pLRng1, ↓pLRng2, ↓pYes, ↓pRE, ↓startP, ↓pWords, ↓pSplit, ↓gLt, ↓gLe, ↓gGt, ↓gGe, ↓pV_f0, ↓pV_o0, ↓pRV_f0, ↓pRV_o0, ↓lk_f0, ↓lk_o0, ↓sRV_f0, ↓sRV_o0, ↓pV_f1, ↓pV_o1, ↓pRV_f1, ↓pRV_o1, ↓lk_f1, ↓lk_o1, ↓sRV_f1, ↓sRV_o1, ↓pV_f2, ↓pV_o2, ↓pRV_f2, ↓pRV_o2, ↓lk_f2, ↓lk_o2, ↓sRV_f2, ↓sRV_o2, ↓pV_f3, ↓pV_o3, ↓pRV_f3, ↓pRV_o3, ↓lk_f3, ↓lk_o3, ↓sRV_f3, ↓sRV_o3, ↓pV_f4, ↓pV_o4, ↓pRV_f4, ↓pRV_o4, ↓lk_f4, ↓lk_o4, ↓sRV_f4, ↓sRV_o4, ↓pV_f5, ↓pV_o5, ↓pRV_f5, ↓pRV_o5, ↓lk_f5, ↓lk_o5, ↓sRV_f5, ↓sRV_o5, ↓pV_f6, ↓pV_o6, ↓pRV_f6, ↓pRV_o6, ↓lk_f6, ↓lk_o6, ↓sRV_f6, ↓sRV_o6, ↓pV_f7, ↓pV_o7, ↓pRV_f7, ↓pRV_o7, ↓lk_f7, ↓lk_o7, ↓sRV_f7, ↓sRV_o7, ↓pV_f8, ↓pV_o8, ↓pRV_f8, ↓pRV_o8, ↓lk_f8, ↓lk_o8, ↓sRV_f8, ↓sRV_o8, ↓pV_f9, ↓pV_o9, ↓pRV_f9, ↓pRV_o9, ↓lk_f9, ↓lk_o9, ↓sRV_f9, ↓sRV_o9, ↓pV_f10, ↓pV_o10, ↓pRV_f10, ↓pRV_o10, ↓lk_f10, ↓lk_o10, ↓sRV_f10, ↓sRV_o10, ↓pV_f11, ↓pV_o11, ↓pRV_f11, ↓pRV_o11, ↓lk_f11, ↓lk_o11, ↓sRV_f11, ↓sRV_o11, ↓pV_f12, ↓pV_o12, ↓pRV_f12, ↓pRV_o12, ↓lk_f12, ↓lk_o12, ↓sRV_f12, ↓sRV_o12, ↓pV_f13, ↓pV_o13, ↓pRV_f13, ↓pRV_o13, ↓lk_f13, ↓lk_o13, ↓sRV_f13, ↓sRV_o13, ↓lk_fz, ↓of_fn, ↓of_fb, ↓of_fi, ↓of_fs, ↓of_ft, ↓of_fl, ↓of_ol, ↓of_ff, ↓ad_i, ↓ad_s, ↓ad_l, ↓ad_t, ↓su_i, ↓mu_i, ↓mu_l, ↓mo_i, ↓fd_i, ↓pw_i, ↓an_i, ↓ci_i, ↓is_n, ↓is_nn, ↓in_t, ↓in_l, ↓in_s, ↓ix_l, ↓ix_t, ↓ix_s, ↓sl_l, ↓sl_t, ↓sl_s, ↓kn_i, ↓kp_i, ↓kr1, ↓kr2, ↓ke_l, ↓kz_l, ↓kz_t, ↓klr1, ↓klr2, ↓gt_e, ↓gs_n, ↓gs_c, nc_0, nc_1, nc_2, nc_3, nc_4, nc_5, nc_6, nc_7, nc_8, nc_9, nc_10, nc_11, nc_12, eq_ii, eq_ss, eq_nn, eq_bb, eq_st, eq_ts, eq_si, eq_is, eq_it, eq_ti, cmp_i, cmp_b, cmp_n, sc_i, sc_s, sc_b, sc_n, flat_i, flat_s, flat_b, flat_n, tru_n, tru_b, tru_i, tru_t, tru_l, items_t, items_l, len_t, len_l, iter_t, iter_l, isN_n, isN_i, isN_s, isN_t, isN_l, isN_b, at_0, at_1, at_2, at_3, ib_tn, ib_tb, ib_ti, ib_ts, ib_tt, ib_tl, ib_sn, ib_sb, ib_si, ib_ss, ib_st, ib_sl, ib_in, ib_ib, ib_ii, ib_is, ib_it, ib_il, ib_bn, ib_bb, ib_bi, ib_bs, ib_bt, ib_bl, na_n, na_b, na_i, na_s, na_t, na_l, List.getElem?_cons_zero, List.getElem?_cons_succ, List.set_cons_zero, List.set_cons_succ, List.map_cons, List.map_nil, List.length_cons, List.length_nil, List.replicate_succ, List.replicate_zero, List.cons_append, List.nil_append, List.append_nil, List.isEmpty_nil, List.isEmpty_cons, List.cons.injEq, Option.some.injEq, T.int.injEq, T.str.injEq, T.bl.injEq, T.tup.injEq, T.lst.injEq, T.adr.injEq, Sl.fz.injEq, Sl.ow.injEq, exists_eq_left, exists_eq_left', exists_eq_right, exists_eq_right', exists_eq, exists_eq', exists_and_left, exists_and_right, exists_const, exists_false, and_true, true_and, and_false, false_and, or_true, true_or, or_false, false_or, not_true_eq_false, not_false_eq_true, if_true, if_false, ite_true, ite_false, Bool.not_true, Bool.not_false, Bool.true_or, Bool.or_true, Bool.false_or, Bool.or_false, Bool.true_and, Bool.and_true, Bool.false_and, Bool.and_false, Bool.false_eq_true, Bool.true_eq_false, eq_self, decide_eq_true_eq, decide_true, decide_false, Bool.decide_eq_true, Bool.not_eq_true, decide_eq_false_iff_not, Bool.and_eq_true, Bool.or_eq_true, Bool.not_eq_true', reduceCtorEq, ne_eq, Nat.le_refl, Nat.reduceAdd, Nat.reduceSub, Nat.reduceLeDiff, Nat.reduceLT, implies_true, forall_const, List.any_cons, List.any_nil, List.all_cons, List.all_nil, wipeP, restore, List.getD_eq_getElem?_getD, Option.getD_some, List.mem_singleton, forall_eq, Int.reduceLT, Int.reduceLE, Int.reduceNeg, Int.reduceSub, Int.reduceAdd, Int.reduceToNat, Int.reduceEq, Int.reduceNe, String.reduceEq, and_self, or_self, pfDK, pfDW, pfExact, pfKX, pfWX, pfWK, pfWW]
      intro t ht u hu
      obtain ⟨s1, a1, b1⟩ := judgeK t ht
      obtain ⟨s2, a2, b2⟩ := judgeW u hu
      refine ⟨s1, a1, b1, s1, a1, b1, rfl, s2, a2, b2, s2, a2, b2, rfl, fun t3 ht3 u3 hu3 => ?_⟩
      obtain ⟨s3, a3, b3⟩ := judgeK t3 ht3
      obtain ⟨s4, a4, b4⟩ := judgeW u3 hu3
      refine ⟨s3, a3, b3, s3, a3, b3, rfl, s4, a4, b4, s4, a4, b4, rfl, s1, a1, b1, s1, a1, b1, ?_⟩
      rw [if_pos rfl]
      exact ⟨s2, a2, b2, s2, a2, b2, rfl⟩
    · obtain ⟨rfl, rfl⟩ := h
      rw [show v = .bl true from vr]
      exact q H'
end
def ex (K : PySem.W.Frag) : Bool := true
/-! ### the head -/
def dd (x : Str) (st : Stmt) : He.DefD := ⟨(x, none), x, x, defArgs st, defBody st, defScope st, [], []⟩
def fn : List He.DefD := [dd "write_kind" s_write_kind, dd "write_way" s_write_way, dd "_fields_tokens" s_fields_tokens, dd "_kind_tokens" s_kind_tokens, dd "_listed" s_listed, dd "_way_tokens" s_way_tokens, dd "_trios_tokens" s_trios_tokens, dd "_end_token" s_end_token, dd "_value_tokens" s_value_tokens, dd "_law_begin" s_begin, dd "_law_mix" s_mix, dd "_law_draw" s_draw, dd "_law_start" s_start, dd "_law_reserved" s_reserved, dd "_law_any_name" s_any_name, dd "_law_any_int" s_any_int, dd "_law_any_value" s_any_value, dd "_law_any_kind" s_any_kind, dd "_law_any_fields" s_any_fields, dd "_law_any_way" s_any_way, dd "_law_any_trio" s_any_trio, dd "_law_any_place" s_any_place, dd "_law_value_text" s_value_text, dd "_law_kind_text" s_kind_text, dd "_law_fields_text" s_fields_text, dd "_law_way_text" s_way_text, dd "_law_trio_text" s_trio_text, dd "_law_exact" s_exact, dd "_law_deep_kind" s_deep_kind, dd "_law_deep_way" s_deep_way, dd "law" s_law]
def fa : List He.Fa := [.glo "write_kind", .glo "write_way", .glo "_fields_tokens", .glo "_kind_tokens", .glo "_listed", .glo "_way_tokens", .glo "_trios_tokens", .glo "_end_token", .glo "_value_tokens", .glo "_law_begin", .glo "_law_mix", .glo "_law_draw", .glo "_law_start", .glo "_law_reserved", .glo "_law_any_name", .glo "_law_any_int", .glo "_law_any_value", .glo "_law_any_kind", .glo "_law_any_fields", .glo "_law_any_way", .glo "_law_any_trio", .glo "_law_any_place", .glo "_law_value_text", .glo "_law_kind_text", .glo "_law_fields_text", .glo "_law_way_text", .glo "_law_trio_text", .glo "_law_exact", .glo "_law_deep_kind", .glo "_law_deep_way", .glo "law", .free "abs", .free "bool", .free "divmod", .free "enumerate", .free "int", .free "isinstance", .free "len", .free "list", .free "range", .free "str", .free "tuple"]
abbrev R : PySem.W.OpenRow := PySem.W.OpenLaw.row PySem.Challenge.rw_telltrove_k09_kinds_and_ways_written
abbrev hk : PySem.W.Hook := He.hookX 4 fa fn [] [] ex
def ob (s : PySem.W.SharedT) : He.AlX := He.obsX 4 fa fn [] [] ex (HandSHeadRun.getT s)
theorem ob_eq (s : PySem.W.SharedT) : ob s = hk.obs s.abs := He.obsX_eq (HandSHeadRun.getT_eq s)
def loose : List Str := ["write_kind", "write_way", "_fields_tokens", "_kind_tokens", "_listed", "_way_tokens", "_trios_tokens", "_end_token", "_value_tokens", "_law_begin", "_law_mix", "_law_draw", "_law_start", "_law_reserved", "_law_any_name", "_law_any_int", "_law_any_value", "_law_any_kind", "_law_any_fields", "_law_any_way", "_law_any_trio", "_law_any_place", "_law_value_text", "_law_kind_text", "_law_fields_text", "_law_way_text", "_law_trio_text", "_law_exact", "_law_deep_kind", "_law_deep_way"]
theorem run (w : World) : HandSHeadRun.RunEq R (PySem.W.view R.prog [32]) hk ob 3000 loose w := by
  intro os
  kernel_rfl
theorem facts {P : Program} {w : World} {K : PySem.W.Frag} {h : Heap} {hh : Heap} {mg : Str → Option Value} {f : Addr} (X : K.In h) (G : h.Ns mainGlobals mg) (hfa : mg ("law" : Str) = some (.ref f)) (cx : He.SaysX fa fn [] [] ex w hh K) :
    ∃ fd : FuncData, (∀ (s : Shared) (v : Value), BindsTo s fd ⟨[v], []⟩ [("_law_script", v)]) ∧ ∀ base : Heap, K.In base → base.Ns mainGlobals mg → FnOk P w K mg base CX0 70 f fd ["_law_script"] (spLaw K) := by
  have c : He.SaysD fa fn K := congrArg (fun z : He.AlT => z.1) cx.t
  have G0 : ∀ (i : Nat) (x : Str) (st : Stmt), fn[i]? = some (dd x st) → fa[i]? = some (.glo x) → Df K mg x st := fun i x st h1 h2 => by
    obtain ⟨fd, F⟩ := c.def_ i (d := dd x st) h1
    exact ⟨_, fd, F, He.glo_ok X G (c.fact i (f := .glo x) h2)⟩
  have Fr : ∀ (i : Nat) (x : Str), fa[i]? = some (.free x) → mg x = none := fun i x h2 => He.free_ok X G (c.fact i (f := .free x) h2)
  have m_abs := Fr 31 "abs" rfl
  have m_bool := Fr 32 "bool" rfl
  have m_divmod := Fr 33 "divmod" rfl
  have m_enumerate := Fr 34 "enumerate" rfl
  have m_int := Fr 35 "int" rfl
  have m_isinstance := Fr 36 "isinstance" rfl
  have m_len := Fr 37 "len" rfl
  have m_list := Fr 38 "list" rfl
  have m_range := Fr 39 "range" rfl
  have m_str := Fr 40 "str" rfl
  have m_tuple := Fr 41 "tuple" rfl
  have D_write_kind := G0 0 "write_kind" s_write_kind rfl rfl
  have D_write_way := G0 1 "write_way" s_write_way rfl rfl
  have D_fields_tokens := G0 2 "_fields_tokens" s_fields_tokens rfl rfl
  have D_kind_tokens := G0 3 "_kind_tokens" s_kind_tokens rfl rfl
  have D_listed := G0 4 "_listed" s_listed rfl rfl
  have D_way_tokens := G0 5 "_way_tokens" s_way_tokens rfl rfl
  have D_trios_tokens := G0 6 "_trios_tokens" s_trios_tokens rfl rfl
  have D_end_token := G0 7 "_end_token" s_end_token rfl rfl
  have D_value_tokens := G0 8 "_value_tokens" s_value_tokens rfl rfl
  have D_begin := G0 9 "_law_begin" s_begin rfl rfl
  have D_mix := G0 10 "_law_mix" s_mix rfl rfl
  have D_draw := G0 11 "_law_draw" s_draw rfl rfl
  have D_start := G0 12 "_law_start" s_start rfl rfl
  have D_reserved := G0 13 "_law_reserved" s_reserved rfl rfl
  have D_any_name := G0 14 "_law_any_name" s_any_name rfl rfl
  have D_any_int := G0 15 "_law_any_int" s_any_int rfl rfl
  have D_any_value := G0 16 "_law_any_value" s_any_value rfl rfl
  have D_any_kind := G0 17 "_law_any_kind" s_any_kind rfl rfl
  have D_any_fields := G0 18 "_law_any_fields" s_any_fields rfl rfl
  have D_any_way := G0 19 "_law_any_way" s_any_way rfl rfl
  have D_any_trio := G0 20 "_law_any_trio" s_any_trio rfl rfl
  have D_any_place := G0 21 "_law_any_place" s_any_place rfl rfl
  have D_value_text := G0 22 "_law_value_text" s_value_text rfl rfl
  have D_kind_text := G0 23 "_law_kind_text" s_kind_text rfl rfl
  have D_fields_text := G0 24 "_law_fields_text" s_fields_text rfl rfl
  have D_way_text := G0 25 "_law_way_text" s_way_text rfl rfl
  have D_trio_text := G0 26 "_law_trio_text" s_trio_text rfl rfl
  have D_exact := G0 27 "_law_exact" s_exact rfl rfl
  have D_deep_kind := G0 28 "_law_deep_kind" s_deep_kind rfl rfl
  have D_deep_way := G0 29 "_law_deep_way" s_deep_way rfl rfl
  obtain ⟨fd, F⟩ := c.def_ 30 (d := dd "law" s_law) rfl
  have e := hfa.symm.trans (He.glo_ok X G (c.fact 30 (f := .glo "law") rfl))
  cases e
  have b := FunD.bindsA (ps := ["_law_script"]) F fun _ _ _ _ _ _ us hl => match us, hl with | [_], _ => rfl
  refine ⟨fd, fun s v => b s [v] rfl, fun base _ _ => ?_⟩
  have C_mix := ok_mix (P := P) (w := w) (base := base) D_mix m_int
  have C_draw0 := ok_draw D_draw C_mix m_int m_len m_abs m_divmod
  have C_begin := ok_begin (P := P) (w := w) (base := base) D_begin m_list
  have C_start := ok_start D_start C_begin
  have C_exact : ∀ {W : Wld}, CalQ P w K mg base W "_law_exact" 1 ["_law_told", "_law_due"] pfExact := fun {W} => ok_exact D_exact (CalQ.rec0 (k := 0) D_exact fun _ _ _ _ _ _ us h => match us, h with | [_, _], _ => rfl) m_isinstance m_tuple m_len m_range m_str m_bool m_int
  have C_listed : ∀ {W : Wld}, CalQ P w K mg base W "_listed" 1 ["items"] pfListed := fun {W} => ok_listed D_listed m_enumerate
  have C_vt : ∀ {W : Wld} (n : Nat), CalQ P w K mg base W "_value_tokens" (n + 2) ["value"] (pfVT n) := fun {W} n => by
    induction n with
    | zero => exact vt_step (k := 1) (n := 0) D_value_tokens C_listed (CalQ.rec0 D_value_tokens fun _ _ _ _ _ _ us h => match us, h with | [_], _ => rfl) m_isinstance m_tuple m_str
    | succ n ih => exact vt_step (k := n + 2) (n := n + 1) D_value_tokens (C_listed.mono (by omega)) ih m_isinstance m_tuple m_str
  have C_end : ∀ {W : Wld}, CalQ P w K mg base W "_end_token" 1 ["end"] pfEnd := fun {W} => ok_end_token D_end_token m_str
  have C_kt : ∀ {W : Wld} (n : Nat), CalQ P w K mg base W "_kind_tokens" (2 * n + 2) ["kind"] (pfKT n) := fun {W} n => by
    induction n with
    | zero => exact (CalQ.rec0 D_kind_tokens fun _ _ _ _ _ _ us h => match us, h with | [_], _ => rfl).imp fun ts Φ h => (let ⟨_, _, _, h, _⟩ := h; h.elim)
    | succ n ih =>
      have C_ft := ok_fields_tokens (k := 2 * n + 2) (n := n) D_fields_tokens ih
      exact ok_kind_tokens (k := 2 * n + 3) (n := n) D_kind_tokens (C_listed.mono (by omega)) (ih.mono (by omega)) C_ft m_str
  have C_wt : ∀ {W : Wld} (n : Nat), CalQ P w K mg base W "_way_tokens" (2 * n + 4) ["way"] (pfWT n) := fun {W} n => by
    induction n with
    | zero => exact (CalQ.rec0 D_way_tokens fun _ _ _ _ _ _ us h => match us, h with | [_], _ => rfl).imp fun ts Φ h => (let ⟨_, _, _, h, _⟩ := h; h.elim)
    | succ n ih =>
      have C_tt := ok_trios_tokens (k := 2 * n + 4) (n := n) D_trios_tokens ih (C_end.mono (by omega))
      exact ok_way_tokens (k := 2 * n + 5) (n := n) D_way_tokens ((C_vt 2).mono (by omega)) (ih.mono (by omega)) C_tt
  have C_wk : ∀ {W : Wld}, CalQ P w K mg base W "write_kind" 69 ["kind"] (pfWK 20) := fun {W} => ok_write_kind (k := 68) (n := 20) D_write_kind ((C_kt 20).mono (by omega))
  have C_ww : ∀ {W : Wld}, CalQ P w K mg base W "write_way" 69 ["way"] (pfWW 20) := fun {W} => ok_write_way (k := 68) (n := 20) D_write_way ((C_wt 20).mono (by omega))
  have C_vx : ∀ {W : Wld} (n : Nat), CalQ P w K mg base W "_law_value_text" (n + 1) ["_law_value"] (pfVX n) := fun {W} n => by
    induction n with
    | zero => exact ok_value_text (k := 0) (n := 0) D_value_text (CalQ.rec0 D_value_text fun _ _ _ _ _ _ us h => match us, h with | [_], _ => rfl) m_isinstance m_tuple m_str
    | succ n ih => exact ok_value_text (k := n + 1) (n := n + 1) D_value_text ih m_isinstance m_tuple m_str
  have C_kx : ∀ {W : Wld} (n : Nat), CalQ P w K mg base W "_law_kind_text" (2 * n + 2) ["_law_kind"] (pfKX n) := fun {W} n => by
    induction n with
    | zero => exact (CalQ.rec0 D_kind_text fun _ _ _ _ _ _ us h => match us, h with | [_], _ => rfl).imp fun ts Φ h => (let ⟨_, _, _, h, _⟩ := h; h.elim)
    | succ n ih =>
      have C_ft := ok_fields_text (k := 2 * n + 2) (n := n) D_fields_text ih
      exact ok_kind_text (k := 2 * n + 3) (n := n) D_kind_text (ih.mono (by omega)) C_ft m_str
  have C_wx : ∀ {W : Wld} (n : Nat), CalQ P w K mg base W "_law_way_text" (2 * n + 3) ["_law_way"] (pfWX n) := fun {W} n => by
    induction n with
    | zero => exact (CalQ.rec0 D_way_text fun _ _ _ _ _ _ us h => match us, h with | [_], _ => rfl).imp fun ts Φ h => (let ⟨_, _, _, h, _⟩ := h; h.elim)
    | succ n ih =>
      have C_tt := ok_trio_text (k := 2 * n + 3) (n := n) D_trio_text ih m_str
      exact ok_way_text (k := 2 * n + 4) (n := n) D_way_text ((C_vx 2).mono (by omega)) (ih.mono (by omega)) C_tt m_len
  have C_draw : ∀ {d l : Addr}, CalQ P w K mg base (wd d l 3) "_law_draw" 2 ["_law_d", "_law_many"] (pDraw d) := fun {d l} => cq_draw d l 3 C_draw0
  have C_res : ∀ {d l : Addr}, CalQ P w K mg base (wd d l 3) "_law_reserved" 1 [] pfReserved := fun {d l} => ok_reserved D_reserved
  have C_int : ∀ {d l : Addr}, CalQ P w K mg base (wd d l 3) "_law_any_int" 3 ["_law_d"] (pfInt d) := fun {d l} => ok_any_int D_any_int C_draw
  have C_name : ∀ {d l : Addr}, CalQ P w K mg base (wd d l 3) "_law_any_name" 3 ["_law_d"] (pfName d) := fun {d l} => ok_any_name (k := 2) D_any_name C_draw (C_res.mono (by omega)) m_range
  have C_place : ∀ {d l : Addr}, CalQ P w K mg base (wd d l 3) "_law_any_place" 4 ["_law_d"] (pfPlace d) := fun {d l} => ok_any_place (k := 3) D_any_place (C_draw.mono (by omega)) C_int
  have C_value : ∀ {d l : Addr} (n : Nat), CalQ P w K mg base (wd d l 3) "_law_any_value" (n + 4) ["_law_d", "_law_deep"] (pfValue d n) := fun {d l} n => by
    induction n with
    | zero => exact ok_any_value (k := 3) (n := 0) D_any_value (C_draw.mono (by omega)) C_int C_name (CalQ.rec0 D_any_value fun _ _ _ _ _ _ us h => match us, h with | [_, _], _ => rfl) m_tuple m_range
    | succ n ih => exact ok_any_value (k := n + 4) (n := n + 1) D_any_value (C_draw.mono (by omega)) (C_int.mono (by omega)) (C_name.mono (by omega)) ih m_tuple m_range
  have C_kind : ∀ {d l : Addr} (n : Nat), CalQ P w K mg base (wd d l 3) "_law_any_kind" (2 * n + 4) ["_law_d", "_law_deep"] (pfKind d n) := fun {d l} n => by
    induction n with
    | zero => exact ok_any_kind (k := 3) (n := 0) D_any_kind (C_draw.mono (by omega)) C_int C_name (CalQ.rec0 D_any_fields fun _ _ _ _ _ _ us h => match us, h with | [_, _, _], _ => rfl) (CalQ.rec0 D_any_kind fun _ _ _ _ _ _ us h => match us, h with | [_, _], _ => rfl) m_tuple m_range
    | succ n ih =>
      have C_f := ok_any_fields (k := 2 * n + 4) (n := n) D_any_fields ih (C_name.mono (by omega)) m_tuple m_range
      exact ok_any_kind (k := 2 * n + 5) (n := n + 1) D_any_kind (C_draw.mono (by omega)) (C_int.mono (by omega)) (C_name.mono (by omega)) C_f (ih.mono (by omega)) m_tuple m_range
  have C_fields : ∀ {d l : Addr}, CalQ P w K mg base (wd d l 3) "_law_any_fields" 5 ["_law_d", "_law_deep", "_law_size"] (pfFields d 0) := fun {d l} => ok_any_fields (k := 4) (n := 0) D_any_fields (C_kind 0) (C_name.mono (by omega)) m_tuple m_range
  have C_way : ∀ {d l : Addr} (n : Nat), CalQ P w K mg base (wd d l 3) "_law_any_way" (2 * n + 7) ["_law_d", "_law_deep"] (pfWay d n) := fun {d l} n => by
    induction n with
    | zero => exact ok_any_way (k := 6) (n := 0) D_any_way (C_draw.mono (by omega)) (C_value 2) (CalQ.rec0 D_any_trio fun _ _ _ _ _ _ us h => match us, h with | [_, _, _], _ => rfl) (CalQ.rec0 D_any_way fun _ _ _ _ _ _ us h => match us, h with | [_, _], _ => rfl) m_tuple m_range
    | succ n ih =>
      have C_t := ok_any_trio (k := 2 * n + 7) (n := n) D_any_trio (C_name.mono (by omega)) (C_place.mono (by omega)) ih m_range
      exact ok_any_way (k := 2 * n + 8) (n := n + 1) D_any_way (C_draw.mono (by omega)) ((C_value 2).mono (by omega)) C_t (ih.mono (by omega)) m_tuple m_range
  have C_trio : ∀ {d l : Addr}, CalQ P w K mg base (wd d l 3) "_law_any_trio" 8 ["_law_d", "_law_word", "_law_deep"] (pfTrio d 0) := fun {d l} => ok_any_trio (k := 7) (n := 0) D_any_trio (C_name.mono (by omega)) (C_place.mono (by omega)) (C_way 0) m_range
  have C_dk : ∀ {d l : Addr}, CalQ P w K mg base (wd d l 3) "_law_deep_kind" 69 ["_law_d"] (pfDK d) := fun {d l} => ok_deep_kind (k := 68) D_deep_kind (C_draw.mono (by omega)) ((C_kind 4).mono (by omega)) (C_int.mono (by omega)) (C_fields.mono (by omega)) (C_name.mono (by omega)) m_range
  have C_dw : ∀ {d l : Addr}, CalQ P w K mg base (wd d l 3) "_law_deep_way" 69 ["_law_d"] (pfDW d) := fun {d l} => ok_deep_way (k := 68) D_deep_way (C_draw.mono (by omega)) ((C_way 4).mono (by omega)) ((C_value 2).mono (by omega)) (C_trio.mono (by omega)) m_range m_tuple
  exact ok_law F C_start C_dk C_dw (C_exact.mono (by omega)) ((C_kx 20).mono (by omega)) ((C_wx 20).mono (by omega)) C_wk C_ww
end Y
open PySem PySem.W PySem.Calls PyProof.Rows
theorem PySem.Challenge.cw_telltrove_k09_kinds_and_ways_written_holds : PySem.Challenge.rw_telltrove_k09_kinds_and_ways_written.Holds := by
  w_on; o_law
  refine HandSHeadRun.head_any (r := OpenLaw.row PySem.Challenge.rw_telltrove_k09_kinds_and_ways_written) (q := view (OpenLaw.row PySem.Challenge.rw_telltrove_k09_kinds_and_ways_written).prog [32]) (H := Y.hk) (ob := Y.ob) (M := 3000) (loose := Y.loose) (d := HandSHeadRun.topDef (OpenLaw.row PySem.Challenge.rw_telltrove_k09_kinds_and_ways_written).prog 32) (kwd := []) Y.ob_eq
    (by kernel_rfl) (fun s => by kernel_rfl) Y.run (by kernel_rfl) (by kernel_rfl) (by kernel_rfl) (by rfl) (by first | assumption | decide +kernel) (by decide +kernel) ⟨rfl, rfl, rfl, rfl, rfl, by decide +kernel⟩ ?hw ?hc
  case hw => w_witness2
  case hc =>
    refine L2.walk_ofE (l := PySem.Challenge.rw_telltrove_k09_kinds_and_ways_written) (n := 63) (k := 70) (x := "_law_script") (CX := L2.CX0) rfl (by decide) (by kernel_rfl) ⟨rfl, by decide, by decide⟩ ?F (fun _ _ _ _ z => z)
    intro w mg fa h YY G hmg0
    obtain ⟨K, KX, c⟩ := YY
    have hmg : mg ("law" : PySem.Str) = some (.ref fa) := by
      have e : (HandSHeadRun.topDef (OpenLaw.row PySem.Challenge.rw_telltrove_k09_kinds_and_ways_written).prog 32).name = ("law" : PySem.Str) := by kernel_rfl
      rw [← e]
      exact hmg0
    obtain ⟨fd, hb, hF⟩ := Y.facts (P := (PySem.Challenge.rw_telltrove_k09_kinds_and_ways_written).prog) (w := w) KX G hmg c
    exact ⟨K, fd, Y.spLaw K, KX, hb, fun H a ns hl _ hS => ⟨a, ns, rfl, hS, hl, fun _ => rfl⟩, hF⟩

