/- Contract of New. -/
import Derived.Test.YtegiaonlneamfaaDoorBack
import Derived.Test.YtegiaonlneamfaaDoorInf
import Derived.Laws.MakeOwn
namespace Go.Proofs.YtegiaonlneamfaaDoor
open Go.RowKit

def zeroVr : Vr := ⟨0, none, 0, 0, [], 0⟩
def mixV (ds : List Vr) (k : Nat) : List Vr := ds.take k ++ List.replicate (ds.length - k) zeroVr

theorem mixV_len (ds : List Vr) (k : Nat) (hk : k ≤ ds.length) : (mixV ds k).length = ds.length := by simp [mixV]; omega
theorem mixV_all (ds : List Vr) : mixV ds ds.length = ds := by simp [mixV]
theorem mixV_get (ds : List Vr) (k : Nat) (hk : k < ds.length) : (mixV ds k)[k]? = some zeroVr := by
  unfold mixV
  have h1 : (ds.take k).length = k := by simp; omega
  rw [List.getElem?_append_right (by omega), h1, Nat.sub_self, List.getElem?_replicate, if_pos (by omega)]
theorem mixV_set (ds : List Vr) (k : Nat) (v : Vr) (hv : ds[k]? = some v) : (mixV ds k).set k v = mixV ds (k + 1) := by
  obtain ⟨hk, e⟩ := List.getElem?_eq_some_iff.1 hv
  unfold mixV
  have h1 : (ds.take k).length = k := by simp; omega
  rw [List.set_append, if_neg (by omega), h1, Nat.sub_self, List.take_succ_eq_append_getElem hk, show ds.length - k = ds.length - (k + 1) + 1 by omega, List.replicate_succ, List.set_cons_zero, e]
  simp

theorem flat_set3 (vs : List Vr) (i : Nat) (v u : Vr) (hu : vs[i]? = some u) (hs : u.since = v.since) :
    ((((vs.flatMap Vr.cells).toArray.setIfInBounds (i * 4) (.int .i64 v.s)).setIfInBounds (i * 4 + 1) (.slice v.A v.n v.c)).setIfInBounds (i * 4 + 2) (.int .i64 (v.L.length : Nat))) = ((vs.set i v).flatMap Vr.cells).toArray := by
  have hi : i < vs.length := (List.getElem?_eq_some_iff.1 hu).1
  rw [← flat_set vs i v hi]
  have hl := flat_len Vr.cells 4 vr_len vs
  apply Array.ext_getElem?
  intro k
  rw [Array.getElem?_setIfInBounds (i := i * 4 + 3)]
  by_cases hk : i * 4 + 3 = k
  · subst hk
    rw [if_pos rfl, if_pos (by simp [hl]; omega)]
    simp only [Array.getElem?_setIfInBounds, Array.size_setIfInBounds, List.size_toArray, hl, List.getElem?_toArray]
    rw [if_neg (by omega), if_neg (by omega), if_neg (by omega), flat_get _ 4 vr_len vs i 3 (by omega), hu, ← hs]
    rfl
  · rw [if_neg hk]

theorem made_vars (n : Nat) : madeCells (Value.agg #[.int .i64 0, .slice none 0 0, .int .i64 0, .int .i64 0]).cells (n * 4) = ((List.replicate n zeroVr).flatMap Vr.cells).toArray := by
  apply Array.ext_getElem?
  intro k
  obtain ⟨q, r, hr, rfl⟩ : ∃ q r, r < 4 ∧ k = q * 4 + r := ⟨k / 4, k % 4, by omega, by omega⟩
  have e : ((List.replicate n zeroVr).flatMap Vr.cells).toArray[q * 4 + r]? = ((List.replicate n zeroVr).flatMap Vr.cells)[q * 4 + r]? := List.getElem?_toArray
  rw [e, flat_get _ 4 vr_len _ q r hr, List.getElem?_replicate]
  simp only [madeCells, Value.cells, Array.getElem?_map]
  by_cases hq : q < n
  · have h2 : (Array.range (n * 4))[q * 4 + r]? = some (q * 4 + r) := by rw [Array.getElem?_eq_getElem (by simp; omega)]; simp
    rw [h2, if_pos hq]
    have h3 : (q * 4 + r) % 4 = r := by omega
    match r, hr with
    | 0, _ => simp [zeroVr, Vr.cells]
    | 1, _ => simp [h3, zeroVr, Vr.cells]
    | 2, _ => simp [h3, zeroVr, Vr.cells]
    | 3, _ => simp [h3, zeroVr, Vr.cells]
  · have h2 : (Array.range (n * 4))[q * 4 + r]? = none := by rw [Array.getElem?_eq_none]; simp; omega
    rw [h2, if_neg hq]
    rfl

/-- A row of domains. -/
def DomsAt (w : World) (A : Option Addr) (ds : List Vr) : Prop :=
  (0 < ds.length → ∃ g, A = some ⟨g, 0, none⟩ ∧ g < w.heap.size ∧ ∀ k v, ds[k]? = some v → w.cell? ⟨g, k * 3, none⟩ = some (.int .i64 v.s) ∧ w.cell? ⟨g, k * 3 + 1, none⟩ = some (.slice v.A v.n v.c) ∧ w.cell? ⟨g, k * 3 + 2, none⟩ = some (.int .i64 (v.L.length : Nat))) ∧
  ∀ v ∈ ds, IsDom w v.dom v.L

theorem DomsAt.below {w w' : World} {A : Option Addr} {ds : List Vr} (h : DomsAt w A ds) (hb : Below w.heap.size w w') : DomsAt w' A ds := by
  refine ⟨fun hn => ?_, fun v hv => (h.2 v hv).below hb⟩
  obtain ⟨g, e, hg, hc⟩ := h.1 hn
  refine ⟨g, e, Nat.lt_of_lt_of_le hg hb.size, fun k v hv => ?_⟩
  obtain ⟨h1, h2, h3⟩ := hc k v hv
  exact ⟨(hb.cell (by exact hg)).trans h1, (hb.cell (by exact hg)).trans h2, (hb.cell (by exact hg)).trans h3⟩

/-- The three cells of a variable's domain, written. -/
abbrev put3 (w : World) (V i : Nat) (v : Vr) : World := ((w.setCell ⟨V, i * 4, none⟩ (.int .i64 v.s)).setCell ⟨V, i * 4 + 1, none⟩ (.slice v.A v.n v.c)).setCell ⟨V, i * 4 + 2, none⟩ (.int .i64 (v.L.length : Nat))

theorem put3_blk {w : World} {V : Nat} {vs : List Vr} (h : Blk w V (vs.flatMap Vr.cells).toArray 71) (i : Nat) (v u : Vr) (hu : vs[i]? = some u) (hs : u.since = v.since) : Blk (put3 w V i v) V ((vs.set i v).flatMap Vr.cells).toArray 71 := by
  rw [← flat_set3 vs i v u hu hs]
  exact ((h.set _ _).set _ _).set _ _

theorem put3_below {B : Nat} {a w : World} (h : Below B a w) (V i : Nat) (hV : B ≤ V) (v : Vr) : Below B a (put3 w V i v) := by
  refine ⟨h.os, h.tape, h.output, by simpa [put3, World.setCell] using h.size, fun k hk => ?_⟩
  have hne : k ≠ V := by omega
  rw [← h.block k hk]
  exact ((heap_setCell_other _ _ k _ hne).trans (heap_setCell_other _ _ k _ hne)).trans (heap_setCell_other _ _ k _ hne)

def newSto (V : Nat) (ds : List Vr) : Sto := ⟨V, ds, .slice none 0 0, [], 0, .slice none 0 0, []⟩

/-- What New gives. -/
def GivesStore (w : World) (ds : List Vr) (e : Ending) (w' : World) : Prop :=
  ∃ S V, e = .returned (ptr S) ∧ IsStore w.heap.size w' S (newSto V ds) ∧ Below w.heap.size w w'

theorem new_end {w wr : World} {ds : List Vr} (hds : ∀ v ∈ ds, IsDom w v.dom v.L) (hB : Blk wr w.heap.size (ds.flatMap Vr.cells).toArray 71) (hb : Below w.heap.size w wr) :
    GivesStore w ds (.returned (ptr wr.heap.size)) (wr.alloc (.cells #[.slice (some ⟨w.heap.size, 0, none⟩) ds.length ds.length, .slice none 0 0, .int .i64 0, .slice none 0 0] 74)) := by
  have K := below1 wr (.cells #[.slice (some ⟨w.heap.size, 0, none⟩) ds.length ds.length, .slice none 0 0, .int .i64 0, .slice none 0 0] 74)
  have hb2 := hb.trans (K.mono hb.size)
  exact ⟨_, w.heap.size, rfl, ⟨Blk.new wr _ 74, hB.below K, Row.nil _ _ _ _, Row.nil _ _ _ _, hb.size, Nat.le_refl _, fun v hv => (hds v hv).below hb2, fun e he => absurd he List.not_mem_nil, fun e he => absurd he List.not_mem_nil⟩, hb2⟩

set_option maxHeartbeats 2000000 in
theorem new_store (A : Option Addr) (ds : List Vr) (n c : Nat) (w : World) (hn : n = ds.length) (h : DomsAt w A ds) (hs : ∀ v ∈ ds, v.since = 0) (hbig : n ≤ 1000000) : Calls Tryd.prog 7 #[.slice A n c] w (GivesStore w ds) := by
  obtain ⟨i0, hi, hz0, hz1, hz2⟩ := info_parts info71
  have hmk : ∀ W : World, (Instr.makeSlice 69 (.int .i64 (n : Nat)) (.int .i64 (n : Nat))).run Tryd.prog W = .ok (.slice (some ⟨W.heap.size, 0, none⟩) n n) (W.alloc (.cells ((List.replicate n zeroVr).flatMap Vr.cells).toArray 71)) := by
    intro W
    have := run_make (P := Tryd.prog) W 69 71 i0 _ Tryd.underlying69 hi hz0 .i64 .i64 (n : Nat) (n : Nat) (by omega) (by omega) (by rw [hz2]; omega) (by omega)
    rw [this, hz1, Int.toNat_natCast, made_vars]
  have H := Lib.hid h
  have Hs := Lib.hid hs
  have Hn := Lib.hid hn
  have B0 := Blk.new w ((List.replicate n zeroVr).flatMap Vr.cells).toArray 71
  have HB0 : Hid (Blk (w.alloc (.cells ((List.replicate n zeroVr).flatMap Vr.cells).toArray 71)) w.heap.size ((mixV ds 0).flatMap Vr.cells).toArray 71) := Lib.hid (by
    have : mixV ds 0 = List.replicate n zeroVr := by simp [mixV, hn]
    rw [this]; exact B0)
  have HK0 := Lib.hid (below1 w (.cells ((List.replicate n zeroVr).flatMap Vr.cells).toArray 71))
  clear h hs hn B0 hi hz0 hz1 hz2
  generalize ((List.replicate n zeroVr).flatMap Vr.cells).toArray = arr at *
  go_enter Tryd.func7, Tryd.ntmps7
  go_wp2_with fail
  go_loopw [11] (fun i wr => ∃ k : Nat, k ≤ n ∧ i = .int .i64 (k : Nat) ∧ Hid (Blk wr w.heap.size ((mixV ds k).flatMap Vr.cells).toArray 71) ∧ Hid (Below w.heap.size w wr)) (fun i _ => n - (intOf i).toNat)
  case atStart => exact ⟨0, by omega, rfl, HB0, HK0⟩
  case round =>
    clear HB0 HK0
    obtain ⟨wo, rfl⟩ : ∃ wo, wo = wr := ⟨_, rfl⟩
    obtain ⟨k, hk, rfl, HB, HK⟩ := hrel
    by_cases hlt : k < n
    · obtain ⟨g, rfl, hg, hc⟩ := H.out.1 (by rw [← Hn.out]; omega)
      obtain ⟨v, hv⟩ : ∃ v, ds[k]? = some v := ⟨_, List.getElem?_eq_getElem (by rw [← Hn.out]; exact hlt)⟩
      obtain ⟨y0, y1, y2⟩ := hc k v hv
      have y0 := (HK.out.cell (by exact hg)).trans y0
      have y1 := (HK.out.cell (by exact hg)).trans y1
      have y2 := (HK.out.cell (by exact hg)).trans y2
      have hm := mixV_get ds k (by rw [← Hn.out]; exact hlt)
      have K1 := below1 wo (.cells #[.int .i64 v.s, .slice v.A v.n v.c, .int .i64 (v.L.length : Nat)] 48)
      have HB1 := Lib.hid (HB.out.below K1)
      have HK1 := Lib.hid (HK.out.trans (K1.mono HK.out.size))
      obtain ⟨v0, v1, v2, -⟩ := vr_cell HB1.out hm
      have f0 := HB1.out.free (k * 4)
      have f1 := HB1.out.free (k * 4 + 1)
      have f2 := HB1.out.free (k * 4 + 2)
      have HBn : Hid (Blk (put3 (wo.alloc (.cells #[.int .i64 v.s, .slice v.A v.n v.c, .int .i64 (v.L.length : Nat)] 48)) w.heap.size k v) w.heap.size ((mixV ds (k + 1)).flatMap Vr.cells).toArray 71) := Lib.hid (by
        have := put3_blk HB1.out k v zeroVr hm (by rw [Hs.out v (List.mem_of_getElem? hv)]; rfl)
        rwa [mixV_set ds k v hv] at this)
      have HKn := Lib.hid (put3_below HK1.out w.heap.size k (Nat.le_refl _) v)
      have hlt' : (k : Int) < (n : Nat) := by omega
      clear hg hc hv hm K1 HB HK
      go_wp2_with fail
      go_roundw
      case rel => exact ⟨k + 1, by omega, by go_num, HBn, HKn⟩
      case measure => simp [intOf]; omega
    · have e : k = ds.length := by rw [← Hn.out]; omega
      have HE : Hid (GivesStore w ds (.returned (ptr wo.heap.size)) (wo.alloc (.cells #[.slice (some ⟨w.heap.size, 0, none⟩) n n, .slice none 0 0, .int .i64 0, .slice none 0 0] 74))) := Lib.hid (by
        have := new_end H.out.2 (by have := HB.out; rw [e, mixV_all] at this; exact this) HK.out
        rwa [← Hn.out] at this)
      clear HB HK e
      go_wp2_with fail
      go_ret
      exact HE.out
end Go.Proofs.YtegiaonlneamfaaDoor
