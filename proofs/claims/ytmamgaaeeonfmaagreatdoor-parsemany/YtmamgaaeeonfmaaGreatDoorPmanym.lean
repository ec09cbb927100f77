/- The texts of ParseMany, and what is told of them: pure. -/
import Derived.Test.YtmamgaaeeonfmaaGreatDoorPera
import Derived.Test.YtmamgaaeeonfmaaGreatDoorPright
namespace Go.Proofs.YtmamgaaeeonfmaaGreatDoor
open Go.RowKit

def ltA (i : Nat) : UInt8 := UInt8.ofNat (97 + i / 16)
def ltB (i : Nat) : UInt8 := UInt8.ofNat (97 + i % 16)
/-- A variable's name. -/
def nmI (i : Nat) : Bs := [120, ltA i, ltB i]
def vtx (i : Nat) : Bs := [118, 97, 114, 32, 49, 46, 46, 50, 58, 32, 120, ltA i, ltB i, 59]
def ctx : Bs := [99, 111, 110, 115, 116, 114, 97, 105, 110, 116, 32, 99, 105, 114, 99, 117, 105, 116, 40, 91, 120, 97, 97, 93, 41, 59]
def stx : Bs := [115, 111, 108, 118, 101, 32, 115, 97, 116, 105, 115, 102, 121, 59]
def vtoks (i p : Nat) : List Tok := [⟨1, [118, 97, 114], 0, p⟩, ⟨2, [49], 1, p + 4⟩, ⟨3, [46, 46], 0, p + 5⟩, ⟨2, [50], 2, p + 7⟩, ⟨3, [58], 0, p + 8⟩, ⟨1, nmI i, 0, p + 10⟩, ⟨3, [59], 0, p + 13⟩]
def ctoks (p : Nat) : List Tok := [⟨1, [99, 111, 110, 115, 116, 114, 97, 105, 110, 116], 0, p⟩, ⟨1, [99, 105, 114, 99, 117, 105, 116], 0, p + 11⟩, ⟨3, [40], 0, p + 18⟩, ⟨3, [91], 0, p + 19⟩, ⟨1, [120, 97, 97], 0, p + 20⟩, ⟨3, [93], 0, p + 23⟩, ⟨3, [41], 0, p + 24⟩, ⟨3, [59], 0, p + 25⟩]
def stoks (p : Nat) : List Tok := [⟨1, [115, 111, 108, 118, 101], 0, p⟩, ⟨1, [115, 97, 116, 105, 115, 102, 121], 0, p + 6⟩, ⟨3, [59], 0, p + 13⟩]
def preT (l : List Tok) : Res → Res
  | .ok r => .ok (l ++ r)
  | .error e => .error e
theorem preT_cons (t : Tok) (l : List Tok) (r : Res) : preT (t :: l) r = Res.pre t (preT l r) := by cases r <;> rfl
theorem preT_nil (r : Res) : preT [] r = r := by cases r <;> rfl
theorem preT_app (a b : List Tok) (r : Res) : preT a (preT b r) = preT (a ++ b) r := by cases r <;> simp [preT]

theorem letters_all : ((List.range 260).all fun i => partB (ltA i) && partB (ltB i)) = true := by kernel_rfl
theorem mletters (i : Nat) (h : i < 260) : partB (ltA i) = true ∧ partB (ltB i) = true := by
  have := List.all_eq_true.1 letters_all i (List.mem_range.2 h)
  simpa using this
theorem item_name (i : Nat) (h : i < 260) (rest : Bs) : item (120 :: ltA i :: ltB i :: 59 :: rest) = .tok 1 3 0 := by
  obtain ⟨h1, h2⟩ := mletters i h
  have hw : wordN (120 :: ltA i :: ltB i :: 59 :: rest) = 3 := by
    rw [wordN_cons, if_pos (by decide), List.takeWhile_cons, if_pos h1, List.takeWhile_cons, if_pos h2, List.takeWhile_cons, if_neg (by decide)]
    rfl
  rw [item_cons, if_neg (by decide), if_neg (by decide), if_pos (by decide), hw]
theorem lexL_var (i : Nat) (h : i < 260) (rest : Bs) (p : Nat) : lexL (vtx i ++ rest) p = preT (vtoks i p) (lexL rest (p + 14)) := by
  unfold vtx vtoks
  simp only [preT_cons, preT_nil, List.cons_append, List.nil_append]
  rw [lexL_tok (k := 1) (n := 3) (v := 0) (by simp) (by rfl)]
  simp only [List.drop_succ_cons, List.drop_zero, List.take_succ_cons, List.take_zero]
  rw [lexL_blank (by decide), lexL_tok (k := 2) (n := 1) (v := 1) (by simp) (by rfl)]
  simp only [List.drop_succ_cons, List.drop_zero, List.take_succ_cons, List.take_zero]
  rw [lexL_tok (k := 3) (n := 2) (v := 0) (by simp) (by rfl)]
  simp only [List.drop_succ_cons, List.drop_zero, List.take_succ_cons, List.take_zero]
  rw [lexL_tok (k := 2) (n := 1) (v := 2) (by simp) (by rfl)]
  simp only [List.drop_succ_cons, List.drop_zero, List.take_succ_cons, List.take_zero]
  rw [lexL_tok (k := 3) (n := 1) (v := 0) (by simp) (by rfl)]
  simp only [List.drop_succ_cons, List.drop_zero, List.take_succ_cons, List.take_zero]
  rw [lexL_blank (by decide), lexL_tok (k := 1) (n := 3) (v := 0) (by simp) (item_name i h rest)]
  simp only [List.drop_succ_cons, List.drop_zero, List.take_succ_cons, List.take_zero]
  rw [lexL_tok (k := 3) (n := 1) (v := 0) (by simp) (by rfl)]
  simp only [List.drop_succ_cons, List.drop_zero, List.take_succ_cons, List.take_zero]
  rfl
theorem lexL_con (rest : Bs) (p : Nat) : lexL (ctx ++ rest) p = preT (ctoks p) (lexL rest (p + 26)) := by
  unfold ctx ctoks
  simp only [preT_cons, preT_nil, List.cons_append, List.nil_append]
  rw [lexL_tok (k := 1) (n := 10) (v := 0) (by simp) (by rfl)]
  simp only [List.drop_succ_cons, List.drop_zero, List.take_succ_cons, List.take_zero]
  rw [lexL_blank (by decide), lexL_tok (k := 1) (n := 7) (v := 0) (by simp) (by rfl)]
  simp only [List.drop_succ_cons, List.drop_zero, List.take_succ_cons, List.take_zero]
  rw [lexL_tok (k := 3) (n := 1) (v := 0) (by simp) (by rfl)]
  simp only [List.drop_succ_cons, List.drop_zero, List.take_succ_cons, List.take_zero]
  rw [lexL_tok (k := 3) (n := 1) (v := 0) (by simp) (by rfl)]
  simp only [List.drop_succ_cons, List.drop_zero, List.take_succ_cons, List.take_zero]
  rw [lexL_tok (k := 1) (n := 3) (v := 0) (by simp) (by rfl)]
  simp only [List.drop_succ_cons, List.drop_zero, List.take_succ_cons, List.take_zero]
  rw [lexL_tok (k := 3) (n := 1) (v := 0) (by simp) (by rfl)]
  simp only [List.drop_succ_cons, List.drop_zero, List.take_succ_cons, List.take_zero]
  rw [lexL_tok (k := 3) (n := 1) (v := 0) (by simp) (by rfl)]
  simp only [List.drop_succ_cons, List.drop_zero, List.take_succ_cons, List.take_zero]
  rw [lexL_tok (k := 3) (n := 1) (v := 0) (by simp) (by rfl)]
  simp only [List.drop_succ_cons, List.drop_zero, List.take_succ_cons, List.take_zero]
theorem lexL_sol (p : Nat) : lexL stx p = .ok (stoks p) := by
  have h : lexL stx p = preT (stoks p) (.ok []) := by
    unfold stx stoks
    simp only [preT_cons, preT_nil]
    rw [lexL_tok (k := 1) (n := 5) (v := 0) (by simp) (by rfl)]
    simp only [List.drop_succ_cons, List.drop_zero, List.take_succ_cons, List.take_zero]
    rw [lexL_blank (by decide), lexL_tok (k := 1) (n := 7) (v := 0) (by simp) (by rfl)]
    simp only [List.drop_succ_cons, List.drop_zero, List.take_succ_cons, List.take_zero]
    rw [lexL_tok (k := 3) (n := 1) (v := 0) (by simp) (by rfl)]
    simp only [List.drop_succ_cons, List.drop_zero, List.take_succ_cons, List.take_zero]
    rw [lexL_nil]
  rw [h]
  rfl
/-- Some variables from one on. -/
def vsT : Nat → Nat → Bs
  | _, 0 => []
  | i, c + 1 => vtx i ++ vsT (i + 1) c
def vsK : Nat → Nat → Nat → List Tok
  | _, 0, _ => []
  | i, c + 1, p => vtoks i p ++ vsK (i + 1) c (p + 14)
def csT : Nat → Bs
  | 0 => []
  | c + 1 => ctx ++ csT c
def csK : Nat → Nat → List Tok
  | 0, _ => []
  | c + 1, p => ctoks p ++ csK c (p + 26)
theorem lexL_vs : ∀ (c i : Nat) (rest : Bs) (p : Nat), i + c ≤ 260 → lexL (vsT i c ++ rest) p = preT (vsK i c p) (lexL rest (p + 14 * c))
  | 0, i, rest, p, _ => by simp only [vsT, vsK, preT_nil, List.nil_append, Nat.mul_zero, Nat.add_zero]
  | c + 1, i, rest, p, h => by
    simp only [vsT, vsK]
    rw [List.append_assoc, lexL_var i (by omega), lexL_vs c (i + 1) rest (p + 14) (by omega), preT_app, show p + 14 + 14 * c = p + 14 * (c + 1) by omega]
theorem lexL_cs : ∀ (c : Nat) (rest : Bs) (p : Nat), lexL (csT c ++ rest) p = preT (csK c p) (lexL rest (p + 26 * c))
  | 0, rest, p => by simp only [csT, csK, preT_nil, List.nil_append, Nat.mul_zero, Nat.add_zero]
  | c + 1, rest, p => by
    simp only [csT, csK]
    rw [List.append_assoc, lexL_con, lexL_cs c rest (p + 26), preT_app, show p + 26 + 26 * c = p + 26 * (c + 1) by omega]
def manyT (n k : Nat) : Bs := vsT 0 n ++ (csT k ++ stx)
def manyK (n k : Nat) : List Tok := vsK 0 n 0 ++ (csK k (14 * n) ++ stoks (14 * n + 26 * k))
theorem lex_many {n k : Nat} (h : n ≤ 260) : lexL (manyT n k) 0 = .ok (manyK n k) := by
  unfold manyT manyK
  rw [lexL_vs n 0 _ 0 (by omega), lexL_cs, lexL_sol, Nat.zero_add]
  rfl
theorem vsT_len : ∀ (c i : Nat), (vsT i c).length = 14 * c
  | 0, _ => rfl
  | c + 1, i => by simp only [vsT, List.length_append, vsT_len c]; simp [vtx]; omega
theorem csT_len : ∀ (c : Nat), (csT c).length = 26 * c
  | 0 => rfl
  | c + 1 => by simp only [csT, List.length_append, csT_len c]; simp [ctx]; omega
theorem vsK_len : ∀ (c i p : Nat), (vsK i c p).length = 7 * c
  | 0, _, _ => rfl
  | c + 1, i, p => by simp only [vsK, List.length_append, vsK_len c]; simp [vtoks]; omega
theorem csK_len : ∀ (c p : Nat), (csK c p).length = 8 * c
  | 0, _ => rfl
  | c + 1, p => by simp only [csK, List.length_append, csK_len c]; simp [ctoks]; omega
theorem manyT_len (n k : Nat) : (manyT n k).length = 14 * n + (26 * k + 14) := by
  unfold manyT
  rw [List.length_append, List.length_append, vsT_len, csT_len]
  rfl
theorem manyK_len (n k : Nat) : (manyK n k).length = 7 * n + (8 * k + 3) := by
  unfold manyK
  rw [List.length_append, List.length_append, vsK_len, csK_len]
  rfl

/-- The model so far. -/
def circ : ConL := { noCon with kind := 20, A := [0] }
def mvc (i j : Nat) : ModL := ⟨(List.range i).map nmI, List.replicate i [1, 2], List.replicate j circ, 0, 0⟩
theorem names_may : ((List.range 260).all fun i => mayNameB (nmI i)) = true := by kernel_rfl
theorem nm_inj {i j : Nat} (hi : i < 260) (hj : j < 260) (h : nmI i = nmI j) : i = j := by
  unfold nmI ltA ltB at h
  injection h with _ h
  injection h with h1 h
  injection h with h2 _
  have e1 := congrArg UInt8.toNat h1
  have e2 := congrArg UInt8.toNat h2
  simp only [UInt8.toNat_ofNat'] at e1 e2
  omega
theorem nm_new {i : Nat} (hi : i < 260) : nmI i ∉ (List.range i).map nmI := by
  intro hm
  obtain ⟨j, hj, e⟩ := List.mem_map.1 hm
  have hj := List.mem_range.1 hj
  have := nm_inj (by omega) hi e
  omega
theorem var_step (en i j p : Nat) (hi : i < 256) (ts : List Tok) : varP en (mvc i j) ⟨1, [118, 97, 114], 0, p⟩ ((vtoks i p).tail ++ ts) = .ok (mvc (i + 1) j, ts) := by
  have hm : mayNameB (nmI i) = true := List.all_eq_true.1 names_may i (List.mem_range.2 (by omega))
  have hn := nm_new (i := i) (by omega)
  unfold varP
  rw [if_neg (by simp [mvc]; omega)]
  have hd : domP en ((vtoks i p).tail ++ ts) = .ok ([1, 2], ⟨3, [58], 0, p + 8⟩ :: ⟨1, nmI i, 0, p + 10⟩ :: ⟨3, [59], 0, p + 13⟩ :: ts) := by rfl
  rw [hd]
  have hw : wantP en [58] (⟨3, [58], 0, p + 8⟩ :: ⟨1, nmI i, 0, p + 10⟩ :: ⟨3, [59], 0, p + 13⟩ :: ts) = .ok (⟨1, nmI i, 0, p + 10⟩ :: ⟨3, [59], 0, p + 13⟩ :: ts) := by rfl
  simp only
  rw [hw]
  have hnn : newNameP en (mvc i j).names (⟨1, nmI i, 0, p + 10⟩ :: ⟨3, [59], 0, p + 13⟩ :: ts) = .ok (nmI i, ⟨3, [59], 0, p + 13⟩ :: ts) := by
    unfold newNameP
    rw [show takeP en 1 (⟨1, nmI i, 0, p + 10⟩ :: ⟨3, [59], 0, p + 13⟩ :: ts) = .ok (⟨1, nmI i, 0, p + 10⟩, ⟨3, [59], 0, p + 13⟩ :: ts) from rfl]
    simp only
    rw [if_neg (by rw [hm]; decide), if_neg (show nmI i ∉ (mvc i j).names from hn)]
  simp only
  rw [hnn]
  have hw2 : wantP en [59] (⟨3, [59], 0, p + 13⟩ :: ts) = .ok ts := by rfl
  simp only
  rw [hw2]
  simp only [mvc, List.range_succ, List.map_append, List.map_cons, List.map_nil, List.replicate_succ']
theorem circ_found : foundF (wordP (txt [99, 105, 114, 99, 117, 105, 116])) = (⟨20, [99, 105, 114, 99, 117, 105, 116], [86]⟩, true) := by kernel_rfl
theorem circ_kind : foundF (kindP 20) = (⟨20, [99, 105, 114, 99, 117, 105, 116], [86]⟩, true) := by kernel_rfl
theorem circ_right {n : Nat} (h : 1 ≤ n) : rightE circ (n : Int) = 0 := rightE_more (n := 1) (by kernel_rfl) (by omega)
theorem con_step (en i j p : Nat) (hi : 1 ≤ i) (hj : j < 1024) (ts : List Tok) : conP en (mvc i j) ⟨1, [99, 111, 110, 115, 116, 114, 97, 105, 110, 116], 0, p⟩ ((ctoks p).tail ++ ts) = .ok (mvc i (j + 1), ts) := by
  unfold conP
  rw [if_neg (by simp [mvc]; omega)]
  rw [show takeP en 1 ((ctoks p).tail ++ ts) = .ok (⟨1, [99, 105, 114, 99, 117, 105, 116], 0, p + 11⟩, ⟨3, [40], 0, p + 18⟩ :: ⟨3, [91], 0, p + 19⟩ :: ⟨1, [120, 97, 97], 0, p + 20⟩ :: ⟨3, [93], 0, p + 23⟩ :: ⟨3, [41], 0, p + 24⟩ :: ⟨3, [59], 0, p + 25⟩ :: ts) from rfl]
  simp only
  rw [circ_found, if_neg (by decide)]
  rw [show wantP en [40] (⟨3, [40], 0, p + 18⟩ :: ⟨3, [91], 0, p + 19⟩ :: ⟨1, [120, 97, 97], 0, p + 20⟩ :: ⟨3, [93], 0, p + 23⟩ :: ⟨3, [41], 0, p + 24⟩ :: ⟨3, [59], 0, p + 25⟩ :: ts) = .ok (⟨3, [91], 0, p + 19⟩ :: ⟨1, [120, 97, 97], 0, p + 20⟩ :: ⟨3, [93], 0, p + 23⟩ :: ⟨3, [41], 0, p + 24⟩ :: ⟨3, [59], 0, p + 25⟩ :: ts) from rfl]
  simp only
  rw [show (((20 : Nat)) : Int) = 20 from rfl, circ_kind]
  have hp : placeP en (mvc i j).names (⟨1, [120, 97, 97], 0, p + 20⟩ :: ⟨3, [93], 0, p + 23⟩ :: ⟨3, [41], 0, p + 24⟩ :: ⟨3, [59], 0, p + 25⟩ :: ts) = .ok (0, ⟨3, [93], 0, p + 23⟩ :: ⟨3, [41], 0, p + 24⟩ :: ⟨3, [59], 0, p + 25⟩ :: ts) := by
    obtain ⟨i', rfl⟩ : ∃ i', i = i' + 1 := ⟨i - 1, by omega⟩
    have hl : (mvc (i' + 1) j).names = [120, 97, 97] :: (List.range' 1 i').map nmI := by
      simp only [mvc, List.range_eq_range', List.range'_succ, List.map_cons]
      rfl
    unfold placeP
    rw [show takeP en 1 (⟨1, [120, 97, 97], 0, p + 20⟩ :: ⟨3, [93], 0, p + 23⟩ :: ⟨3, [41], 0, p + 24⟩ :: ⟨3, [59], 0, p + 25⟩ :: ts) = .ok (⟨1, [120, 97, 97], 0, p + 20⟩, ⟨3, [93], 0, p + 23⟩ :: ⟨3, [41], 0, p + 24⟩ :: ⟨3, [59], 0, p + 25⟩ :: ts) from rfl]
    simp only
    rw [hl, if_pos (by simp), List.idxOf_cons_self]
    rfl
  have hps : partsP en (mvc i j).names 0 [86] { noCon with kind := 20 } (⟨3, [91], 0, p + 19⟩ :: ⟨1, [120, 97, 97], 0, p + 20⟩ :: ⟨3, [93], 0, p + 23⟩ :: ⟨3, [41], 0, p + 24⟩ :: ⟨3, [59], 0, p + 25⟩ :: ts) = .ok (circ, ⟨3, [41], 0, p + 24⟩ :: ⟨3, [59], 0, p + 25⟩ :: ts) := by
    simp only [partsP]
    rw [if_neg (by decide)]
    simp only
    have hpp : partP en (mvc i j).names (86 : UInt8).toNat { noCon with kind := 20 } (⟨3, [91], 0, p + 19⟩ :: ⟨1, [120, 97, 97], 0, p + 20⟩ :: ⟨3, [93], 0, p + 23⟩ :: ⟨3, [41], 0, p + 24⟩ :: ⟨3, [59], 0, p + 25⟩ :: ts) = .ok (circ, ⟨3, [41], 0, p + 24⟩ :: ⟨3, [59], 0, p + 25⟩ :: ts) := by
      unfold partP
      rw [if_neg (by decide), if_neg (by decide), if_pos (by decide)]
      have hl : listP en [91] [93] (placeP en (mvc i j).names) (⟨3, [91], 0, p + 19⟩ :: ⟨1, [120, 97, 97], 0, p + 20⟩ :: ⟨3, [93], 0, p + 23⟩ :: ⟨3, [41], 0, p + 24⟩ :: ⟨3, [59], 0, p + 25⟩ :: ts) = .ok ([0], ⟨3, [41], 0, p + 24⟩ :: ⟨3, [59], 0, p + 25⟩ :: ts) := by
        unfold listP
        rw [show wantP en [91] (⟨3, [91], 0, p + 19⟩ :: ⟨1, [120, 97, 97], 0, p + 20⟩ :: ⟨3, [93], 0, p + 23⟩ :: ⟨3, [41], 0, p + 24⟩ :: ⟨3, [59], 0, p + 25⟩ :: ts) = .ok (⟨1, [120, 97, 97], 0, p + 20⟩ :: ⟨3, [93], 0, p + 23⟩ :: ⟨3, [41], 0, p + 24⟩ :: ⟨3, [59], 0, p + 25⟩ :: ts) from rfl]
        simp only
        rw [if_neg (by simp [aheadT]), hp]
        simp only [List.length_cons]
        rfl
      rw [hl]
      rfl
    rw [hpp]
  rw [hps]
  simp only
  have hr : rightE circ ((mvc i j).names.length : Nat) = 0 := by
    have : (mvc i j).names.length = i := by simp [mvc]
    rw [this]
    exact circ_right hi
  rw [show wantP en [41] (⟨3, [41], 0, p + 24⟩ :: ⟨3, [59], 0, p + 25⟩ :: ts) = .ok (⟨3, [59], 0, p + 25⟩ :: ts) from rfl]
  simp only
  rw [if_neg (by rw [hr]; simp), show wantP en [59] (⟨3, [59], 0, p + 25⟩ :: ts) = .ok ts from rfl]
  simp only [mvc, List.replicate_succ']
theorem con_none (en p : Nat) (ts : List Tok) : conP en (mvc 0 0) ⟨1, [99, 111, 110, 115, 116, 114, 97, 105, 110, 116], 0, p⟩ ((ctoks p).tail ++ ts) = .error (p + 20, 7) := by
  unfold conP
  rw [if_neg (by decide)]
  rw [show takeP en 1 ((ctoks p).tail ++ ts) = .ok (⟨1, [99, 105, 114, 99, 117, 105, 116], 0, p + 11⟩, ⟨3, [40], 0, p + 18⟩ :: ⟨3, [91], 0, p + 19⟩ :: ⟨1, [120, 97, 97], 0, p + 20⟩ :: ⟨3, [93], 0, p + 23⟩ :: ⟨3, [41], 0, p + 24⟩ :: ⟨3, [59], 0, p + 25⟩ :: ts) from rfl]
  simp only
  rw [circ_found, if_neg (by decide)]
  rw [show wantP en [40] (⟨3, [40], 0, p + 18⟩ :: ⟨3, [91], 0, p + 19⟩ :: ⟨1, [120, 97, 97], 0, p + 20⟩ :: ⟨3, [93], 0, p + 23⟩ :: ⟨3, [41], 0, p + 24⟩ :: ⟨3, [59], 0, p + 25⟩ :: ts) = .ok (⟨3, [91], 0, p + 19⟩ :: ⟨1, [120, 97, 97], 0, p + 20⟩ :: ⟨3, [93], 0, p + 23⟩ :: ⟨3, [41], 0, p + 24⟩ :: ⟨3, [59], 0, p + 25⟩ :: ts) from rfl]
  simp only
  rw [show (((20 : Nat)) : Int) = 20 from rfl, circ_kind]
  rfl
theorem full_names : (mvc 256 0).names.length = 256 := by
  show ((List.range 256).map nmI).length = 256
  rw [List.length_map, List.length_range]
theorem full_cons (n : Nat) : (mvc n 1024).cons.length = 1024 := by
  show (List.replicate 1024 circ).length = 1024
  rw [List.length_replicate]
/-- All variables. -/
theorem items_vs (en : Nat) : ∀ (c i p f : Nat) (ts : List Tok), i ≤ 256 → i + c ≤ 260 → c ≤ f → itemsP en f (mvc i 0) (vsK i c p ++ ts) = if i + c ≤ 256 then itemsP en (f - c) (mvc (i + c) 0) ts else .error (p + 14 * (256 - i), 12)
  | 0, i, p, f, ts, h1, _, _ => by
    rw [if_pos (by omega)]
    rfl
  | c + 1, i, p, f, ts, h1, h2, h3 => by
    obtain ⟨f', rfl⟩ : ∃ f', f = f' + 1 := ⟨f - 1, by omega⟩
    simp only [vsK, itemsP]
    rw [List.append_assoc]
    rw [show takeP en 1 (vtoks i p ++ (vsK (i + 1) c (p + 14) ++ ts)) = .ok (⟨1, [118, 97, 114], 0, p⟩, (vtoks i p).tail ++ (vsK (i + 1) c (p + 14) ++ ts)) from rfl]
    simp only
    rw [if_pos trivial]
    by_cases hi : i < 256
    · rw [var_step en i 0 p hi]
      simp only
      rw [items_vs en c (i + 1) (p + 14) f' ts (by omega) (by omega) (by omega)]
      by_cases hc : i + (c + 1) ≤ 256
      · rw [if_pos hc, if_pos (by omega), show f' + 1 - (c + 1) = f' - c by omega, show i + (c + 1) = i + 1 + c by omega]
      · rw [if_neg hc, if_neg (by omega), show p + 14 + 14 * (256 - (i + 1)) = p + 14 * (256 - i) by omega]
    · have hi' : i = 256 := by omega
      subst hi'
      rw [if_neg (by omega)]
      unfold varP
      rw [if_pos full_names]
      simp only
      rw [show p + 14 * (256 - 256) = p by omega]
theorem items_cs (en : Nat) {n : Nat} (hn : 1 ≤ n) : ∀ (c j p f : Nat) (ts : List Tok), j ≤ 1024 → c ≤ f → itemsP en f (mvc n j) (csK c p ++ ts) = if j + c ≤ 1024 then itemsP en (f - c) (mvc n (j + c)) ts else .error (p + 26 * (1024 - j), 12)
  | 0, j, p, f, ts, h1, _ => by
    rw [if_pos (by omega)]
    rfl
  | c + 1, j, p, f, ts, h1, h3 => by
    obtain ⟨f', rfl⟩ : ∃ f', f = f' + 1 := ⟨f - 1, by omega⟩
    simp only [csK, itemsP]
    rw [List.append_assoc]
    rw [show takeP en 1 (ctoks p ++ (csK c (p + 26) ++ ts)) = .ok (⟨1, [99, 111, 110, 115, 116, 114, 97, 105, 110, 116], 0, p⟩, (ctoks p).tail ++ (csK c (p + 26) ++ ts)) from rfl]
    simp only
    rw [if_neg (by decide), if_pos trivial]
    by_cases hj : j < 1024
    · rw [con_step en n j p hn hj]
      simp only
      rw [items_cs en hn c (j + 1) (p + 26) f' ts (by omega) (by omega)]
      by_cases hc : j + (c + 1) ≤ 1024
      · rw [if_pos hc, if_pos (by omega), show f' + 1 - (c + 1) = f' - c by omega, show j + (c + 1) = j + 1 + c by omega]
      · rw [if_neg hc, if_neg (by omega), show p + 26 + 26 * (1024 - (j + 1)) = p + 26 * (1024 - j) by omega]
    · have hj' : j = 1024 := by omega
      subst hj'
      rw [if_neg (by omega)]
      unfold conP
      rw [if_pos (full_cons n)]
      simp only
      rw [show p + 26 * (1024 - 1024) = p by omega]
theorem items_sol (en n k p f : Nat) : itemsP en (f + 1) (mvc n k) (stoks p) = .ok (mvc n k) := by
  rfl
theorem parse_lexed {n k : Nat} (hn : n ≤ 260) (hk : k ≤ 1030) : parseA (manyT n k) = outP (itemsP (manyT n k).length (7 * n + (8 * k + 3)) noMod (manyK n k)) := by
  rw [parseA_lex (lex_many hn) (by rw [manyT_len]; omega), manyK_len]
/-- Too many variables. -/
theorem many_vars {n k : Nat} (hn : n ≤ 260) (hk : k ≤ 1030) (h : 256 < n) : parseA (manyT n k) = (noMod, 3584, 12) := by
  rw [parse_lexed hn hk]
  unfold manyK
  rw [show noMod = mvc 0 0 from rfl, items_vs _ n 0 0 _ _ (by omega) (by omega) (by omega), if_neg (by omega)]
  rfl
theorem many_none {k : Nat} (hk : k ≤ 1030) (h : 0 < k) : parseA (manyT 0 k) = (noMod, 20, 7) := by
  rw [parse_lexed (by omega) hk]
  obtain ⟨k', rfl⟩ : ∃ k', k = k' + 1 := ⟨k - 1, by omega⟩
  unfold manyK
  rw [show noMod = mvc 0 0 from rfl, show 7 * 0 + (8 * (k' + 1) + 3) = (8 * k' + 10) + 1 by omega]
  simp only [vsK, csK, List.nil_append, itemsP]
  rw [List.append_assoc]
  rw [show takeP (manyT 0 (k' + 1)).length 1 (ctoks (14 * 0) ++ (csK k' (14 * 0 + 26) ++ stoks (14 * 0 + 26 * (k' + 1)))) = .ok (⟨1, [99, 111, 110, 115, 116, 114, 97, 105, 110, 116], 0, 14 * 0⟩, (ctoks (14 * 0)).tail ++ (csK k' (14 * 0 + 26) ++ stoks (14 * 0 + 26 * (k' + 1)))) from rfl]
  simp only
  rw [if_neg (by decide), if_pos trivial, con_none]
  rfl
theorem many_cons {n k : Nat} (hn : n ≤ 256) (h1 : 1 ≤ n) (hk : k ≤ 1030) (h : 1024 < k) : parseA (manyT n k) = (noMod, 14 * n + 26624, 12) := by
  rw [parse_lexed (by omega) hk]
  unfold manyK
  rw [show noMod = mvc 0 0 from rfl, items_vs _ n 0 0 _ _ (by omega) (by omega) (by omega), if_pos (by omega), items_cs _ (by omega) k 0 _ _ _ (by omega) (by omega), if_neg (by omega)]
  rfl
theorem many_all {n k : Nat} (hn : n ≤ 256) (h1 : 1 ≤ n ∨ k = 0) (hk : k ≤ 1024) : parseA (manyT n k) = (mvc n k, 0, 0) := by
  rw [parse_lexed (by omega) (by omega)]
  unfold manyK
  rw [show noMod = mvc 0 0 from rfl, items_vs _ n 0 0 _ _ (by omega) (by omega) (by omega), if_pos (by omega), Nat.zero_add]
  rcases h1 with h1 | rfl
  · rw [items_cs _ h1 k 0 _ _ _ (by omega) (by omega), if_pos (by omega), Nat.zero_add, show 7 * n + (8 * k + 3) - n - k = (6 * n + 7 * k + 2) + 1 by omega, items_sol]
    rfl
  · rw [show 7 * n + (8 * 0 + 3) - n = (6 * n + 2) + 1 by omega]
    simp only [csK, List.nil_append]
    rw [items_sol]
    rfl
theorem vsT_snoc : ∀ (c i : Nat), vsT i (c + 1) = vsT i c ++ vtx (i + c)
  | 0, i => by simp [vsT]
  | c + 1, i => by
    rw [vsT, vsT_snoc c (i + 1), vsT, List.append_assoc, show i + 1 + c = i + (c + 1) by omega]
theorem csT_snoc : ∀ (c : Nat), csT (c + 1) = csT c ++ ctx
  | 0 => by simp [csT]
  | c + 1 => by
    show ctx ++ csT (c + 1) = (ctx ++ csT c) ++ ctx
    rw [csT_snoc c, List.append_assoc]
end Go.Proofs.YtmamgaaeeonfmaaGreatDoor
