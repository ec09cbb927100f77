/- The law's empty: a text of blanks and comments alone. -/
import Derived.Test.YtancjkanmjdkkaaDoorLines
import Derived.Test.YtancjkanmjdkkaaDoorShelf
import Derived.Test.YtancjkanmjdkkaaDoorShelfs
import Derived.Test.YtancjkanmjdkkaaDoorRef2
namespace Go.Proofs.YtancjkanmjdkkaaDoor
open Go.RowKit

theorem trim_any (s : ByteArray) (w : World) (hs : s.size ≤ 9223372036854775807) :
    Calls Tryd.prog 23 #[.string s, .string ⟨#[32, 9, 13]⟩] w fun e w' => e = .returned (.string ⟨(Lib.trimS (bl s) [32, 9, 13]).toArray⟩) ∧ Below w.heap.size w w' :=
  Any.strings_Trim_laid Tryd.lays160 (by kernel_rfl) s ⟨#[32, 9, 13]⟩ w hs (by decide) (ascii_of_all (by decide))

set_option maxHeartbeats 2000000 in
set_option maxRecDepth 100000 in
theorem empty_true (s : ByteArray) (m : Int) (w : World) (hs : s.size ≤ 1048576) (hm : w.cell? ⟨0, 0, none⟩ = some (.int .i64 m)) (he : emp false (bl s) = true) :
    Calls Tryd.prog 14 #[.string s] w fun e w' => e = .returned (.bool true) ∧ Below w.heap.size w w' := by
  have C1 := Lib.hid (Tryd.strings_Split s ⟨#[10]⟩ m w (by omega) hm (by decide))
  obtain ⟨h1, h2⟩ := splitB_lines s
  obtain ⟨h3, h4⟩ := lines_len (bl s)
  rw [bl_len] at h3
  rw [(emp_lines (bl s)).1] at he
  obtain ⟨P, hP⟩ : ∃ P, Lib.splitB ⟨#[10]⟩ 0 (Lib.countB s ⟨#[10]⟩) s = P := ⟨_, rfl⟩
  rw [hP] at C1 h1
  rw [h2] at C1
  have hlen : (linesL (bl s)).length = P.length := by rw [← h1, List.length_map]
  rw [hlen] at C1 h3
  have hall : ∀ i (hi : i < P.length), lineOK (bl P[i]) = true ∧ (P[i]).size ≤ s.size := by
    intro i hi
    have hmem : bl P[i] ∈ linesL (bl s) := by
      rw [← h1]
      exact List.mem_map_of_mem (List.getElem_mem hi)
    refine ⟨List.all_eq_true.1 he _ hmem, ?_⟩
    have := h4 _ hmem
    rw [bl_len, bl_len] at this
    exact this
  have HALL := Lib.hid hall
  clear hall h1 h2 h4 he hP hlen
  go_enter Tryd.func14, Tryd.ntmps14
  go_wp2_with fail
  refine C1.out.mono ?_
  rintro e w1 ⟨rfl, hw1⟩
  have HC : Hid (∀ i (hi : i < P.length), w1.cell? ⟨w.heap.size, i, none⟩ = some (.string P[i])) := Lib.hid (by
    intro i hi
    rw [hw1]
    unfold World.cell?
    rw [heap_alloc_new]
    simp [hi])
  have HB1 : Hid (Below w.heap.size w w1) := Lib.hid (by rw [hw1]; exact (Below.refl _ _).alloc (Nat.le_refl _) _)
  have hlt1 : w.heap.size < w1.heap.size := by rw [hw1]; simp
  clear hw1 C1
  go_wp2_with fail
  go_loopw [9] (fun i wr => ∃ k : Nat, k ≤ P.length ∧ i = .int .i64 (k : Nat) ∧ Hid (Below w1.heap.size w1 wr)) (fun i _ => meas P.length i)
  case atStart => exact ⟨0, Nat.zero_le _, rfl, Lib.hid (Below.refl _ _)⟩
  case round =>
    obtain ⟨k, hk, rfl, HB⟩ := hrel
    by_cases hlt : k < P.length
    · have x0 := (HB.out.cell (p := ⟨w.heap.size, k, none⟩) hlt1).trans (HC.out k hlt)
      obtain ⟨hok, hsz⟩ := HALL.out k hlt
      obtain ⟨L, hL⟩ : ∃ L, P[k] = L := ⟨_, rfl⟩
      rw [hL] at x0 hok hsz
      clear hL
      have C2 := Lib.hid (Tryd.strings_IndexByte L 37)
      change Hid (∀ w, Calls Tryd.prog 22 #[.string L, .int .u8 37] w fun e w' => e = .returned (.int .i64 (Lib.indexByte (bl L) 37)) ∧ w' = w) at C2
      have hltI : (k : Int) < (P.length : Int) := by omega
      unfold lineOK at hok
      rcases line_cut (bl L) with ⟨hi, ht⟩ | ⟨i, hi, hil, ht⟩
      · rw [hi] at C2
        rw [ht] at hok
        have C3 := Lib.hid (fun W => trim_any L W (by omega))
        rw [trim_blank hok] at C3
        clear hi ht hok
        go_wp2_with fail
        refine (C2.out _).mono ?_
        rintro e w2 ⟨rfl, rfl⟩
        go_wp2_with fail
        refine (C3.out _).mono ?_
        rintro e w3 ⟨rfl, b3⟩
        have HB3 := Lib.hid (HB.out.trans (b3.mono HB.out.size))
        clear b3
        go_wp2_with fail
        go_roundw
        case rel => exact ⟨k + 1, by omega, by go_num, HB3⟩
        case measure => simp [meas, intOf]; omega
      · rw [hi] at C2
        have hbl : bl (L.extract 0 i) = (bl L).takeWhile (· != 37) := by rw [bl_extract, List.drop_zero, Nat.sub_zero, ht]
        rw [bl_len] at hil
        have C3 := Lib.hid (fun W => trim_any (L.extract 0 i) W (by rw [← bl_len, hbl]; have := tw_len (· != 37) (bl L); rw [bl_len] at this; omega))
        rw [hbl, trim_blank hok] at C3
        clear hi ht hok hbl
        go_wp2_with fail
        refine (C2.out _).mono ?_
        rintro e w2 ⟨rfl, rfl⟩
        go_wp2_with fail
        refine (C3.out _).mono ?_
        rintro e w3 ⟨rfl, b3⟩
        have HB3 := Lib.hid (HB.out.trans (b3.mono HB.out.size))
        clear b3
        go_wp2_with fail
        go_roundw
        case rel => exact ⟨k + 1, by omega, by go_num, HB3⟩
        case measure => simp [meas, intOf]; omega
    · go_wp2_with fail
      go_ret
      exact ⟨rfl, HB1.out.trans (HB.out.mono HB1.out.size)⟩
end Go.Proofs.YtancjkanmjdkkaaDoor
