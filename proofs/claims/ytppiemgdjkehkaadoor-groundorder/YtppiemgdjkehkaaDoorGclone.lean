/- Contracts: Clone of rows; a list turned round, as a new one. -/
import Derived.Test.YtppiemgdjkehkaaDoorGback
namespace Go.Proofs.YtppiemgdjkehkaaDoor
open Go.RowKit Go.Sort

theorem none_nil {w : World} {n c : Nat} {L : List Int} (h : IsInts w ⟨none, n, c⟩ L) : n = 0 ∧ L = [] := by
  have h0 : n = 0 := by
    by_cases q : n = 0
    · exact q
    · obtain ⟨ad, e, -, -⟩ := h.lies (by simp only; omega)
      cases e
  have := h.len
  exact ⟨h0, List.length_eq_zero_iff.1 (by simp only at this; omega)⟩
set_option maxHeartbeats 1000000 in
set_option maxRecDepth 100000 in
theorem clone_ints (x : Sl) (L : List Int) (w : World) (h : IsInts w x L) (hs : L.length ≤ 1000000) :
    Calls Tryd.prog 12 #[.slice x.A x.n x.c] w fun e w' => (∃ y : Sl, e = .returned (.slice y.A y.n y.c) ∧ Row3 w' w.heap.size y L) ∧ Below w.heap.size w w' := by
  obtain ⟨A, n, c⟩ := x
  cases A with
  | none =>
    obtain ⟨rfl, rfl⟩ := none_nil h
    have he : ∀ w : World, (binOp .eql 27 (.slice none 0 c) (.slice none 0 0)).run Tryd.prog w = .ok (.bool true) w := fun _ => rfl
    clear h
    go_enter Tryd.func12, Tryd.ntmps12
    go_wp2_with fail
    go_ret
    exact ⟨⟨⟨none, 0, 0⟩, rfl, Row3.nil _ _⟩, Below.refl _ _⟩
  | some ad =>
    have hn := h.len
    simp only at hn
    obtain ⟨i0, hi, hz0, hz1, hz2⟩ := info_parts Tryd.info3
    have hrow : (w.alloc (.cells #[] 3)).ownsRow w.heap.size 3 1 (.slice (some ⟨w.heap.size, 0, none⟩) 0 0) 0 [] := by
      have := World.ownsRow_lit (base := w.heap.size) (e := 3) (size := 1) w #[] 0 (Nat.le_refl _) (by unfold maxLen; omega) (by simp)
      simpa using this
    have HR := Lib.hid hrow
    have HC : Hid (∀ j u, (I L)[j]? = some u → (w.alloc (.cells #[] 3)).cell? (ad.add j) = some u) := Lib.hid (fun j u hj => by
      have hjl : j < L.length := by have := (List.getElem?_eq_some_iff.1 hj).1; simpa [I] using this
      obtain ⟨ad', e, hb, hcl⟩ := h.lies (by simp only; omega)
      simp only [Option.some.injEq] at e
      subst e
      rw [(below1 w _).cell (by rw [add_block]; exact hb), hcl j (by simp only; omega)]
      simp only [I, List.getElem?_map, List.getElem?_eq_getElem hjl, Option.map_some, Option.some.injEq] at hj
      rw [← hj]
      unfold i64f
      rw [List.getD_eq_getElem?_getD, List.getElem?_eq_getElem hjl]
      rfl)
    have he : ∀ w : World, (binOp .eql 27 (.slice (some ad) n c) (.slice none 0 0)).run Tryd.prog w = .ok (.bool false) w := fun _ => rfl
    have HN := Lib.hid hn
    have n6 : n ≤ 1000000 := by omega
    clear h hs hn hrow
    go_enter Tryd.func12, Tryd.ntmps12
    go_wp2_with (at_builtin; refine wpList_append_own _ rfl _ _ 27 rfl w.heap.size 3 i0 (.int .i64 0) 1 8 Tryd.underlying27 hi hz0 hz1 hz2 rfl (by decide) _ _ _ rfl HR.out ad n c (I L) rfl ?c0 ?c1 ?c2 ?c3 ?c4 ?c5 ?_)
    case c0 => rw [HN.out]; simp [I]
    case c1 => exact HC.out
    case c2 => intro u hu; simp only [I, List.mem_map] at hu; obtain ⟨z, _, rfl⟩ := hu; rfl
    case c3 => unfold maxLen; omega
    case c4 => omega
    case c5 => simp
    intro v' w7 hown' hgrow _
    have HB := Lib.hid ((below1 w (.cells #[] 3)).grown hgrow (by simp) (own_ge HR.out))
    obtain ⟨Y, kY, rfl⟩ := slice_row hown'
    have HO : Hid (Row3 w7 w.heap.size ⟨Y, n, kY⟩ L) := Lib.hid (by unfold Row3; rw [← HN.out]; exact hown')
    clear hown' hgrow HC HR
    go_wp2_with fail
    go_ret
    exact ⟨⟨⟨Y, n, kY⟩, rfl, HO.out⟩, HB.out⟩

/-- The rows that a slice of rows leads to. -/
theorem rows_list {w : World} {x : Sl} {R : List (List Int)} (h : IsRows w x R) : ∃ xs : List Sl, xs.length = R.length ∧ (∀ (j : Nat) (u : Value), (xs.map slV)[j]? = some u → ∃ ad, x.A = some ad ∧ ad.block < w.heap.size ∧ w.cell? (ad.add j) = some u) ∧ ∀ (k : Nat) (y : Sl) (r : List Int), xs[k]? = some y → R[k]? = some r → IsInts w y r := by
  have hn := h.len
  have key : ∀ m, m ≤ x.n → ∃ xs : List Sl, xs.length = m ∧ (∀ (j : Nat) (u : Value), (xs.map slV)[j]? = some u → ∃ ad, x.A = some ad ∧ ad.block < w.heap.size ∧ w.cell? (ad.add j) = some u) ∧ ∀ (k : Nat) (y : Sl) (r : List Int), xs[k]? = some y → R[k]? = some r → IsInts w y r := by
    intro m
    induction m with
    | zero => exact fun _ => ⟨[], rfl, (fun j u h => by simp at h), (fun k y r h => by simp at h)⟩
    | succ m ih =>
      intro hm
      obtain ⟨xs, h1, h2, h3⟩ := ih (by omega)
      obtain ⟨ad, e, hb, hc⟩ := h.lies (by omega)
      obtain ⟨u, hu1, hu2⟩ := hc m (by omega)
      refine ⟨xs ++ [u], by simp [h1], fun j v hj => ?_, fun k y r hk hr => ?_⟩
      · by_cases hjm : j < m
        · refine h2 j v ?_
          rw [List.map_append, List.getElem?_append_left (by simp [h1, hjm])] at hj
          exact hj
        · have hj1 : j < m + 1 := by have := (List.getElem?_eq_some_iff.1 hj).1; simpa [h1] using this
          obtain rfl : j = m := by omega
          rw [List.map_append, List.getElem?_append_right (by simp [h1]), List.length_map, h1, Nat.sub_self] at hj
          simp at hj
          subst hj
          exact ⟨ad, e, hb, hu1⟩
      · by_cases hkm : k < m
        · refine h3 k y r ?_ hr
          rw [List.getElem?_append_left (by omega)] at hk
          exact hk
        · have hk1 : k < m + 1 := by have := (List.getElem?_eq_some_iff.1 hk).1; simpa [h1] using this
          obtain rfl : k = m := by omega
          rw [List.getElem?_append_right (by omega), h1, Nat.sub_self] at hk
          simp at hk
          subst hk
          rw [List.getD_eq_getElem?_getD, hr] at hu2
          exact hu2
  rw [← hn]
  exact key x.n (Nat.le_refl _)
theorem none_nil_rows {w : World} {n c : Nat} {R : List (List Int)} (h : IsRows w ⟨none, n, c⟩ R) : n = 0 ∧ R = [] := by
  have h0 : n = 0 := by
    by_cases q : n = 0
    · exact q
    · obtain ⟨ad, e, -, -⟩ := h.lies (by simp only; omega)
      cases e
  have := h.len
  exact ⟨h0, List.length_eq_zero_iff.1 (by simp only at this; omega)⟩
/-- A new row of old rows. -/
def RowsO (w0 w : World) (b : Nat) (y : Sl) (R : List (List Int)) : Prop := ∃ xs : List Sl, xs.length = R.length ∧ w.ownsRow b 27 1 (.slice y.A y.n y.c) R.length (xs.map slV) ∧ ∀ (k : Nat) (z : Sl) (r : List Int), xs[k]? = some z → R[k]? = some r → IsInts w0 z r
theorem slV_one : ∀ {xs : List Sl} {u : Value}, u ∈ xs.map slV → u.oneCell' = true := by
  intro xs u hu
  simp only [List.mem_map] at hu
  obtain ⟨z, _, rfl⟩ := hu
  rfl
set_option maxHeartbeats 1000000 in
set_option maxRecDepth 100000 in
theorem clone_rows (x : Sl) (R : List (List Int)) (w0 w : World) (h : IsRows w0 x R) (hb0 : Below w0.heap.size w0 w) (hs : R.length ≤ 1000000) :
    Calls Tryd.prog 14 #[.slice x.A x.n x.c] w fun e w' => (∃ y : Sl, e = .returned (.slice y.A y.n y.c) ∧ RowsO w0 w' w.heap.size y R) ∧ Below w.heap.size w w' := by
  obtain ⟨A, n, c⟩ := x
  cases A with
  | none =>
    obtain ⟨rfl, rfl⟩ := none_nil_rows h
    have he : ∀ w : World, (binOp .eql 28 (.slice none 0 c) (.slice none 0 0)).run Tryd.prog w = .ok (.bool true) w := fun _ => rfl
    clear h hb0
    go_enter Tryd.func14, Tryd.ntmps14
    go_wp2_with fail
    go_ret
    exact ⟨⟨⟨none, 0, 0⟩, rfl, [], rfl, World.ownsRow_nil _ _ _ _, fun k z r h => by cases h⟩, Below.refl _ _⟩
  | some ad =>
    have hn := h.len
    simp only at hn
    obtain ⟨xs, hxl, hxc, hxr⟩ := rows_list h
    obtain ⟨i0, hi, hz0, hz1, hz2⟩ := info_parts infoSl'
    have hrow : (w.alloc (.cells #[] 27)).ownsRow w.heap.size 27 1 (.slice (some ⟨w.heap.size, 0, none⟩) 0 0) 0 [] := by
      have := World.ownsRow_lit (base := w.heap.size) (e := 27) (size := 1) w #[] 0 (Nat.le_refl _) (by unfold maxLen; omega) (by simp)
      simpa using this
    have HR := Lib.hid hrow
    have HC : Hid (∀ j u, (xs.map slV)[j]? = some u → (w.alloc (.cells #[] 27)).cell? (ad.add j) = some u) := Lib.hid (fun j u hj => by
      obtain ⟨ad', e, hb, hcl⟩ := hxc j u hj
      simp only [Option.some.injEq] at e
      subst e
      have hb' := Nat.lt_of_lt_of_le hb hb0.size
      exact ((below1 w _).cell (by rw [add_block]; exact hb')).trans ((hb0.cell (by rw [add_block]; exact hb)).trans hcl))
    have he : ∀ w : World, (binOp .eql 28 (.slice (some ad) n c) (.slice none 0 0)).run Tryd.prog w = .ok (.bool false) w := fun _ => rfl
    have HN := Lib.hid hn
    have HX := Lib.hid (And.intro hxl hxr)
    have n6 : n ≤ 1000000 := by omega
    clear h hs hn hrow hxl hxc hxr hb0
    go_enter Tryd.func14, Tryd.ntmps14
    go_wp2_with (at_builtin; refine wpList_append_own _ rfl _ _ 28 rfl w.heap.size 27 i0 (.slice none 0 0) 1 24 Tryd.underlying28 hi hz0 hz1 hz2 rfl (by decide) _ _ _ rfl HR.out ad n c (xs.map slV) rfl ?c0 ?c1 ?c2 ?c3 ?c4 ?c5 ?_)
    case c0 => rw [HN.out]; simp [HX.out.1]
    case c1 => exact HC.out
    case c2 => intro u hu; exact slV_one hu
    case c3 => unfold maxLen; omega
    case c4 => omega
    case c5 => simp
    intro v' w7 hown' hgrow _
    have HB := Lib.hid ((below1 w (.cells #[] 27)).grown hgrow (by simp) (own_ge HR.out))
    obtain ⟨Y, kY, rfl⟩ := slice_row hown'
    have HO : Hid (RowsO w0 w7 w.heap.size ⟨Y, n, kY⟩ R) := Lib.hid ⟨xs, HX.out.1, by rw [← HN.out]; exact hown', HX.out.2⟩
    clear hown' hgrow HC HR HX
    go_wp2_with fail
    go_ret
    exact ⟨⟨⟨Y, n, kY⟩, rfl, HO.out⟩, HB.out⟩
/-- Rows turned round in place. -/
theorem turn_rows (y : Sl) (R : List (List Int)) (b : Nat) (w0 w : World) (h : RowsO w0 w b y R) (hs : R.length ≤ 1000000) :
    Calls Tryd.prog 15 #[.slice y.A y.n y.c] w fun e w' => e = .returned (.tuple #[]) ∧ (∃ xs : List Sl, xs.length = R.length ∧ w'.ownsRow b 27 1 (.slice y.A y.n y.c) R.length (xs.reverse.map slV) ∧ ∀ (k : Nat) (z : Sl) (r : List Int), xs[k]? = some z → R[k]? = some r → IsInts w0 z r) ∧ Below b w w' := by
  obtain ⟨A, n, c⟩ := y
  obtain ⟨xs, hl, hO, hR⟩ := h
  simp only at hO ⊢
  rcases hO.2 with ⟨e1, h0⟩ | ⟨g, cap, cur, e1, hbg, -⟩
  · simp only [Value.slice.injEq] at e1
    obtain ⟨rfl, rfl, rfl⟩ := e1
    have hx0 : xs = [] := List.length_eq_zero_iff.1 (by omega)
    subst hx0
    refine (reverse_rows0 0 w none).mono ?_
    rintro e w' ⟨rfl, rfl⟩
    exact ⟨rfl, ⟨[], hl, hO, hR⟩, Below.refl _ _⟩
  · simp only [Value.slice.injEq] at e1
    obtain ⟨rfl, rfl, rfl⟩ := e1
    refine (reverse_rows g R.length c b xs w hl hs hbg hO).mono ?_
    rintro e w' ⟨rfl, h2, b2⟩
    exact ⟨rfl, ⟨xs, hl, h2, hR⟩, b2⟩

/-- A list turned round. -/
theorem back_any (x : Sl) (L : List Int) (w : World) (h : IsInts w x L) (hs : L.length ≤ 1000000) :
    Calls Tryd.prog 11 #[.slice x.A x.n x.c] w fun e w' => (∃ y : Sl, e = .returned (.slice y.A y.n y.c) ∧ Row3 w' w.heap.size y L.reverse) ∧ Below w.heap.size w w' := by
  have CC := Lib.hid (clone_ints x L w h hs)
  clear h
  go_enter Tryd.func11, Tryd.ntmps11
  go_wp2_with fail
  refine CC.out.mono ?_
  rintro e w1 ⟨⟨⟨Y, n, c⟩, rfl, hy⟩, b1⟩
  have B1 := Lib.hid b1
  unfold Row3 at hy
  simp only at hy
  rcases hy.2 with ⟨e1, h0⟩ | ⟨g, cap, cur, e1, hb, -⟩
  · simp only [Value.slice.injEq] at e1
    obtain ⟨rfl, rfl, rfl⟩ := e1
    obtain rfl : L = [] := List.length_eq_zero_iff.1 h0
    have CR := Lib.hid (reverse_ints0 0 w1 none)
    clear hy b1 CC
    go_wp2_with fail
    refine CR.out.mono ?_
    rintro e w2 ⟨rfl, rfl⟩
    go_wp2_with fail
    go_ret
    exact ⟨⟨⟨none, 0, 0⟩, rfl, Row3.nil _ _⟩, B1.out⟩
  · simp only [Value.slice.injEq] at e1
    obtain ⟨rfl, rfl, rfl⟩ := e1
    have CR := Lib.hid (reverse_ints g L.length c w.heap.size L w1 rfl hs hb hy)
    obtain ⟨n, hn⟩ : ∃ n, n = L.length := ⟨_, rfl⟩
    have HN := Lib.hid hn
    rw [← hn] at CR ⊢
    clear hy b1 CC hn
    go_wp2_with fail
    refine CR.out.mono ?_
    rintro e w2 ⟨rfl, h2, b2⟩
    have H2 := Lib.hid h2
    have B2 := Lib.hid (B1.out.trans b2)
    clear h2 b2 CR
    go_wp2_with fail
    go_ret
    refine ⟨⟨⟨some ⟨g, 0, none⟩, n, c⟩, rfl, ?_⟩, B2.out⟩
    have h3 := H2.out
    unfold Row3
    rw [List.length_reverse, ← HN.out]
    exact h3
end Go.Proofs.YtppiemgdjkehkaaDoor
