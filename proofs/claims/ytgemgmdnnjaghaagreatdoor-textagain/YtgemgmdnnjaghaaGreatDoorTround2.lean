/- What is printed is parsed to the same model: pure. -/
import Derived.Test.YtgemgmdnnjaghaaGreatDoorTround
namespace Go.Proofs.YtgemgmdnnjaghaaGreatDoor
open Go.RowKit

theorem rise_low {d : List Int} (h : riseTo d d.length) : ∀ i, i < d.length → d.getD 0 0 + (i : Int) ≤ d.getD i 0 := by
  intro i
  induction i with
  | zero => intro _; simp
  | succ i ih =>
    intro hi
    have h1 := ih (by omega)
    have h2 := h (i + 1) (by omega) hi
    rw [Nat.add_sub_cancel] at h2
    omega
theorem rise_high {d : List Int} (h : riseTo d d.length) (i : Nat) : ∀ j, i + j < d.length → d.getD i 0 + (j : Int) ≤ d.getD (i + j) 0 := by
  intro j
  induction j with
  | zero => intro _; simp
  | succ j ih =>
    intro hj
    have h1 := ih (by omega)
    have h2 := h (i + (j + 1)) (by omega) hj
    rw [show i + (j + 1) - 1 = i + j by omega] at h2
    omega
theorem range_all {d : List Int} (h : riseTo d d.length) (h0 : 0 < d.length) (ha : allB d = true) : rangeL (d.getD 0 0) (d.getD (d.length - 1) 0) = d := by
  unfold allB at ha
  have ha' : d.getD (d.length - 1) 0 - d.getD 0 0 = (d.length : Int) - 1 := by simpa using ha
  apply List.ext_getElem
  · rw [len_rangeL]
    omega
  · intro i h1 h2
    have lo := rise_low h i h2
    have hi := rise_high h i (d.length - 1 - i) (by omega)
    rw [show i + (d.length - 1 - i) = d.length - 1 by omega] at hi
    have e : d.getD i 0 = d[i] := by rw [List.getD_eq_getElem?_getD, List.getElem?_eq_getElem h2]; rfl
    rw [e] at lo hi
    have hx : (rangeL (d.getD 0 0) (d.getD (d.length - 1) 0))[i] = d.getD 0 0 + (i : Int) := by simp [rangeL]
    rw [hx]
    omega
theorem dom_reads {d : List Int} (h : mayListB d = true) (r : List Tok) : domP 0 (domK d ++ r) = .ok (d, r) := by
  obtain ⟨h0, hr, hs, he, hm, hw⟩ := may_bounds h
  unfold domP
  by_cases ha : allB d = true
  · have hlo := hm _ (at_mem (l := d) (i := 0) h0)
    have hhi := hm _ (at_mem (l := d) (i := d.length - 1) (by omega))
    have hle := rise_low hr (d.length - 1) (by omega)
    have hwd := hw _ (at_mem (l := d) (i := d.length - 1) (by omega)) _ (at_mem (l := d) (i := 0) h0)
    have hre : rangeErr (d.getD 0 0) (d.getD (d.length - 1) 0) = 0 := by
      unfold rangeErr
      rw [if_pos ⟨hlo, hhi⟩, if_neg (by omega), if_neg hwd]
    have hk : domK d = [tN (d.getD 0 0), tD, tN (d.getD (d.length - 1) 0)] := by unfold domK; rw [if_pos ha]
    have hros : rosP 0 (domK d ++ r) = .ok ((d, 0), r) := by
      rw [hk]
      unfold rosP
      rw [if_neg (show (aheadT 0 ([tN (d.getD 0 0), tD, tN (d.getD (d.length - 1) 0)] ++ r)).text ≠ [123] from itoa_ne _ 123 (by decide) (by decide))]
      rw [show takeP 0 2 ([tN (d.getD 0 0), tD, tN (d.getD (d.length - 1) 0)] ++ r) = .ok (tN (d.getD 0 0), tD :: tN (d.getD (d.length - 1) 0) :: r) from rfl]
      simp only
      rw [show wantP 0 [46, 46] (tD :: tN (d.getD (d.length - 1) 0) :: r) = .ok (tN (d.getD (d.length - 1) 0) :: r) from rfl]
      simp only
      rw [show takeP 0 2 (tN (d.getD (d.length - 1) 0) :: r) = .ok (tN (d.getD (d.length - 1) 0), r) from rfl]
      simp only
      rw [hre, if_pos rfl, range_all hr h0 ha]
    rw [hros]
    rfl
  · have hk : domK d = brK 123 125 (d.map fun n => [tN n]) := by unfold domK; rw [if_neg ha]
    have hl : listP 0 [123] [125] (numP 0) (domK d ++ r) = .ok (d, r) := by
      rw [hk]
      exact list_reads (k := fun n => [tN n]) (first := 123) (last := 125) (by decide) d (fun n _ r => numP_reads n r) (fun n _ r => itoa_ne n 125 (by decide) (by decide)) r
    have hros : rosP 0 (domK d ++ r) = .ok ((d, 0), r) := by
      unfold rosP
      rw [if_pos (by rw [hk]; rfl), hl]
      simp only
      rw [ofL_ok d he, hs, he]
    rw [hros]
    rfl
theorem var_reads {m : ModL} {p : Bs × List Int} {s : Tok} (hl : m.names.length < 256) (hn : mayNameB p.1 = true) (hf : p.1 ∉ m.names) (hd : mayListB p.2 = true) (r : List Tok) : varP 0 m s (domK p.2 ++ [tS 58, tW p.1, tS 59] ++ r) = .ok ({ m with names := m.names ++ [p.1], doms := m.doms ++ [p.2] }, r) := by
  unfold varP
  rw [if_neg (by omega), List.append_assoc, dom_reads hd]
  simp only
  rw [show wantP 0 [58] ([tS 58, tW p.1, tS 59] ++ r) = .ok (tW p.1 :: tS 59 :: r) from rfl]
  simp only
  have hnn : newNameP 0 m.names (tW p.1 :: tS 59 :: r) = .ok (p.1, tS 59 :: r) := by
    unfold newNameP
    rw [show takeP 0 1 (tW p.1 :: tS 59 :: r) = .ok (tW p.1, tS 59 :: r) from rfl]
    simp only
    rw [if_neg (by rw [hn]; decide), if_neg hf]
  rw [hnn]
  simp only
  rw [show wantP 0 [59] (tS 59 :: r) = .ok r from rfl]
theorem words_all : ((List.range 23).map fun k : Nat => foundF (wordP (txt (ents.getD k noEnt).word))) = (List.range 23).map fun k => (ents.getD k noEnt, true) := by kernel_rfl
theorem word_in {k : Nat} (h : k < 23) : foundF (wordP (txt (ents.getD k noEnt).word)) = (ents.getD k noEnt, true) := List.map_inj_left.1 words_all k (List.mem_range.2 h)
theorem nums_all : ((List.range 23).map fun k : Nat => (ents.getD k noEnt).k) = (List.range 23).map fun k => k + 1 := by kernel_rfl
theorem num_in {k : Nat} (h : k < 23) : (ents.getD k noEnt).k = k + 1 := List.map_inj_left.1 nums_all k (List.mem_range.2 h)
theorem con_reads {m : ModL} {c : ConL} {s : Tok} (hl : m.cons.length < 1024) (hm : ∀ b ∈ m.names, mayNameB b = true) (hn : m.names.Nodup) (h : ConOK m.names.length c) (r : List Tok) : conP 0 m s (tW (entOf c).word :: (brK 40 41 (partsK m.names c 0 (entOf c).shape) ++ [tS 59]) ++ r) = .ok ({ m with cons := m.cons ++ [c] }, r) := by
  obtain ⟨k, hk, hkd, he, _⟩ := ent_in h
  obtain ⟨f1, f2, f3⟩ := con_fin h
  have hw : foundF (wordP (txt (entOf c).word)) = (entOf c, true) := by rw [he]; exact word_in hk
  have hnum : (((entOf c).k : Nat) : Int) = c.kind := by rw [he, num_in hk, hkd]
  have hsh : (foundF (kindP c.kind)).1.shape = (entOf c).shape := rfl
  unfold conP
  rw [if_neg (by omega), List.cons_append]
  rw [show ∀ X, takeP 0 1 (tW (entOf c).word :: X) = .ok (tW (entOf c).word, X) from fun _ => rfl]
  simp only
  rw [hw, if_neg (by simp)]
  unfold brK
  simp only [List.cons_append, List.append_assoc, List.nil_append]
  rw [show ∀ X, wantP 0 [40] (tS 40 :: X) = .ok X from fun _ => rfl]
  simp only
  rw [hnum, hsh, parts_reads hm hn h _ _ _ f1 f3, f2]
  simp only
  rw [show ∀ X, wantP 0 [41] (tS 41 :: X) = .ok X from fun _ => rfl]
  simp only
  rw [if_neg (by rw [h.right]; simp), show ∀ X, wantP 0 [59] (tS 59 :: X) = .ok X from fun _ => rfl]
theorem item_var {m : ModL} {p : Bs × List Int} (hl : m.names.length < 256) (hn : mayNameB p.1 = true) (hf : p.1 ∉ m.names) (hd : mayListB p.2 = true) (f : Nat) (r : List Tok) : itemsP 0 (f + 1) m (varK p ++ r) = itemsP 0 f { m with names := m.names ++ [p.1], doms := m.doms ++ [p.2] } r := by
  simp only [itemsP, varK, List.cons_append]
  rw [show ∀ X, takeP 0 1 (tW [118, 97, 114] :: X) = .ok (tW [118, 97, 114], X) from fun _ => rfl]
  simp only
  rw [if_pos trivial, var_reads hl hn hf hd r]
theorem item_con {m : ModL} {c : ConL} (hl : m.cons.length < 1024) (hm : ∀ b ∈ m.names, mayNameB b = true) (hn : m.names.Nodup) (h : ConOK m.names.length c) (f : Nat) (r : List Tok) : itemsP 0 (f + 1) m (conK m.names c ++ r) = itemsP 0 f { m with cons := m.cons ++ [c] } r := by
  have hr := con_reads (s := tW [99, 111, 110, 115, 116, 114, 97, 105, 110, 116]) hl hm hn h r
  simp only [itemsP, conK, List.cons_append]
  rw [show ∀ X, takeP 0 1 (tW [99, 111, 110, 115, 116, 114, 97, 105, 110, 116] :: X) = .ok (tW [99, 111, 110, 115, 116, 114, 97, 105, 110, 116], X) from fun _ => rfl]
  simp only
  rw [if_neg (by decide), if_pos trivial]
  simp only [List.cons_append] at hr
  rw [hr]
theorem items_vars : ∀ (L : List (Bs × List Int)) (m : ModL) (f : Nat) (ts : List Tok), m.names.length + L.length ≤ 256 → (m.names ++ L.map (·.1)).Nodup → (∀ p ∈ L, mayNameB p.1 = true ∧ mayListB p.2 = true) → itemsP 0 (f + L.length) m ((L.map varK).flatten ++ ts) = itemsP 0 f { m with names := m.names ++ L.map (·.1), doms := m.doms ++ L.map (·.2) } ts
  | [], m, f, ts, _, _, _ => by simp
  | p :: L, m, f, ts, h1, h2, h3 => by
    have hp := h3 p (by simp)
    have hf : p.1 ∉ m.names := by
      intro hin
      have := (List.nodup_append.1 h2).2.2 p.1 hin p.1 (by simp)
      exact this rfl
    simp only [List.map_cons, List.flatten_cons, List.append_assoc, List.length_cons]
    rw [show f + (L.length + 1) = (f + L.length) + 1 by omega, item_var (by simp at h1; omega) hp.1 hf hp.2]
    rw [items_vars L _ f ts (by simp at h1 ⊢; omega) (by simpa using h2) (fun q hq => h3 q (by simp [hq]))]
    simp
theorem items_cons {names : List Bs} (hm : ∀ b ∈ names, mayNameB b = true) (hn : names.Nodup) : ∀ (L : List ConL) (m : ModL) (f : Nat) (ts : List Tok), m.names = names → m.cons.length + L.length ≤ 1024 → (∀ c ∈ L, ConOK names.length c) → itemsP 0 (f + L.length) m ((L.map (conK names)).flatten ++ ts) = itemsP 0 f { m with cons := m.cons ++ L } ts
  | [], m, f, ts, _, _, _ => by simp
  | c :: L, m, f, ts, h0, h1, h3 => by
    subst h0
    simp only [List.map_cons, List.flatten_cons, List.append_assoc, List.length_cons]
    rw [show f + (L.length + 1) = (f + L.length) + 1 by omega, item_con (by simp at h1; omega) hm hn (h3 c (by simp))]
    have ih := items_cons hm hn L { m with cons := m.cons ++ [c] } f ts rfl (by simp at h1 ⊢; omega) (fun q hq => h3 q (by simp [hq]))
    simp only [List.append_assoc, List.cons_append, List.nil_append] at ih
    exact ih
theorem item_goal {m m0 : ModL} (h : ModOK m) (h0 : m0 = { m with goal := 0, obj := 0 }) (f : Nat) : itemsP 0 (f + 1) m0 (goalK m) = .ok m := by
  subst h0
  have hgb := h.goal
  unfold goalK
  by_cases g1 : m.goal = 1
  · have hp := goal_place hgb (.inl g1)
    rw [if_pos g1]
    have hpl := placeP_reads h.nodup hp.1 hp.2 [tS 59]
    show (match goalP 0 { m with goal := 0, obj := 0 } [tW [109, 105, 110, 105, 109, 105, 122, 101], tW (nmV m.names m.obj), tS 59] with | Except.error f => Except.error f | Except.ok (m2, r2) => if r2 = [] then Except.ok m2 else Except.error ((aheadT 0 r2).at_, (6 : Int)) : Except Flt ModL) = .ok m
    have hg : goalP 0 { m with goal := 0, obj := 0 } [tW [109, 105, 110, 105, 109, 105, 122, 101], tW (nmV m.names m.obj), tS 59] = .ok (m, []) := by
      unfold goalP
      rw [show takeP 0 1 [tW [109, 105, 110, 105, 109, 105, 122, 101], tW (nmV m.names m.obj), tS 59] = .ok (tW [109, 105, 110, 105, 109, 105, 122, 101], [tW (nmV m.names m.obj), tS 59]) from rfl]
      simp only
      rw [if_neg (by decide), if_pos trivial, hpl]
      simp only
      rw [show wantP 0 [59] [tS 59] = .ok [] from rfl]
      obtain ⟨a, b, c, g, o⟩ := m
      simp only at g1
      subst g1
      rfl
    rw [hg]
    rfl
  · by_cases g2 : m.goal = 2
    · have hp := goal_place hgb (.inr g2)
      rw [if_neg g1, if_pos g2]
      have hpl := placeP_reads h.nodup hp.1 hp.2 [tS 59]
      show (match goalP 0 { m with goal := 0, obj := 0 } [tW [109, 97, 120, 105, 109, 105, 122, 101], tW (nmV m.names m.obj), tS 59] with | Except.error f => Except.error f | Except.ok (m2, r2) => if r2 = [] then Except.ok m2 else Except.error ((aheadT 0 r2).at_, (6 : Int)) : Except Flt ModL) = .ok m
      have hg : goalP 0 { m with goal := 0, obj := 0 } [tW [109, 97, 120, 105, 109, 105, 122, 101], tW (nmV m.names m.obj), tS 59] = .ok (m, []) := by
        unfold goalP
        rw [show takeP 0 1 [tW [109, 97, 120, 105, 109, 105, 122, 101], tW (nmV m.names m.obj), tS 59] = .ok (tW [109, 97, 120, 105, 109, 105, 122, 101], [tW (nmV m.names m.obj), tS 59]) from rfl]
        simp only
        rw [if_neg (by decide), if_neg (by decide), if_pos trivial, hpl]
        simp only
        rw [show wantP 0 [59] [tS 59] = .ok [] from rfl]
        obtain ⟨a, b, c, g, o⟩ := m
        simp only at g2
        subst g2
        rfl
      rw [hg]
      rfl
    · rw [if_neg g1, if_neg g2]
      obtain ⟨a, b, c, g, o⟩ := m
      simp only at g1 g2
      unfold goalB at hgb
      simp only at hgb
      have hg0 : g = 0 ∧ o = 0 := by
        by_cases e : g = 0
        · subst e
          exact ⟨rfl, by simpa using hgb⟩
        · have e1 : (g == 0) = false := by simpa using e
          have e2 : (g == 1 || g == 2) = false := by simp; omega
          rw [e1, e2] at hgb
          cases hgb
      obtain ⟨rfl, rfl⟩ := hg0
      rfl
theorem items_print {m : ModL} (h : ModOK m) (f : Nat) : itemsP 0 (f + 1 + m.cons.length + m.names.length) noMod (printK m) = .ok m := by
  have hz1 : (m.names.zip m.doms).map (·.1) = m.names := List.map_fst_zip (by rw [h.len]; exact Nat.le_refl _)
  have hz2 : (m.names.zip m.doms).map (·.2) = m.doms := List.map_snd_zip (by rw [h.len]; exact Nat.le_refl _)
  have hzl : (m.names.zip m.doms).length = m.names.length := by rw [List.length_zip, h.len, Nat.min_self]
  unfold printK linesK
  simp only [List.flatten_append, List.flatten_cons, List.flatten_nil, List.append_nil]
  have h1 := items_vars (m.names.zip m.doms) noMod (f + 1 + m.cons.length) ((m.cons.map (conK m.names)).flatten ++ goalK m) (by rw [hzl]; simp [noMod]; exact h.n256) (by rw [hz1]; simpa [noMod] using h.nodup) (fun p hp => ⟨h.may _ (zip_mem hp).1, h.dom _ (zip_mem hp).2⟩)
  rw [hzl, hz1, hz2] at h1
  rw [h1, items_cons h.may h.nodup m.cons _ (f + 1) (goalK m) (by simp [noMod]) (by simp [noMod]; exact h.c1024) h.con]
  exact item_goal h (by simp [noMod]) f
theorem sum_len {α : Type} : ∀ (L : List (List α)), (∀ l ∈ L, 1 ≤ l.length) → L.length ≤ L.flatten.length
  | [], _ => by simp
  | l :: L, h => by
    have := sum_len L (fun x hx => h x (by simp [hx]))
    have := h l (by simp)
    simp only [List.flatten_cons, List.length_append, List.length_cons]
    omega
theorem printK_len {m : ModL} (h : ModOK m) : 1 + m.cons.length + m.names.length ≤ (printK m).length := by
  have hzl : (m.names.zip m.doms).length = m.names.length := by rw [List.length_zip, h.len, Nat.min_self]
  have := sum_len (linesK m) (fun l hl => by
    unfold linesK at hl
    rcases List.mem_append.1 hl with hl | hl
    · obtain ⟨p, _, rfl⟩ := List.mem_map.1 hl
      simp [varK]
    · rcases List.mem_append.1 hl with hl | hl
      · obtain ⟨c, _, rfl⟩ := List.mem_map.1 hl
        simp [conK]
      · have : l = goalK m := by simpa using hl
        rw [this]
        unfold goalK
        split
        · simp
        · split <;> simp)
  unfold printK
  refine Nat.le_trans ?_ this
  unfold linesK
  simp only [List.length_append, List.length_map, List.length_singleton, hzl]
  omega
/-- What is printed is parsed again to the same model. -/
theorem round_trip {m : ModL} (h : checkE m = (-1, 0)) (hl : (printT m).length ≤ 1048576) : parseA (printT m) = (m, 0, 0) := by
  have hm := mod_ok h
  obtain ⟨l, h1, h2⟩ := print_lex hm (fun c hc => (con_fin (hm.con c hc)).1) 0
  rw [parseA_lex h1 hl]
  have hlen : l.length = (printK m).length := by rw [← h2]; simp
  have hk := printK_len hm
  have hp := items_print hm ((printK m).length - (1 + m.cons.length + m.names.length))
  rw [show (printK m).length - (1 + m.cons.length + m.names.length) + 1 + m.cons.length + m.names.length = (printK m).length by omega, ← hlen] at hp
  have : itemsP (printT m).length l.length noMod l = .ok m := by
    refine items_alike (en := 0) hp ?_
    rw [← h2]
    unfold eraL
    rw [List.map_map]
    apply List.map_congr_left
    intro t _
    rfl
  rw [this]
  rfl
end Go.Proofs.YtgemgmdnnjaghaaGreatDoor
