/- Right and the document's Right tell the same. No walk. -/
import Derived.Test.YtkhmocbfkpbpfaaGreatDoorMshapes
namespace Go.Proofs.YtkhmocbfkpbpfaaGreatDoor
open Go.RowKit

theorem found_out {k : Int} (h : k < 1 ∨ 23 < k) : foundF (kindP k) = (noEnt, false) := by
  have : ents.find? (kindP k) = none := by
    rw [List.find?_eq_none]
    intro e he
    have hall : ents.all (fun e => decide (1 ≤ e.k) && decide (e.k ≤ 23)) = true := by kernel_rfl
    have := List.all_eq_true.1 hall e he
    simp only [Bool.and_eq_true, decide_eq_true_eq] at this
    unfold kindP
    simp
    omega
  unfold foundF
  rw [this]

theorem found_all : ((List.range 23).map fun k : Nat => foundF (kindP ((k + 1 : Nat) : Int))) = (List.range 23).map fun k => (ents.getD k noEnt, true) := by kernel_rfl
theorem found_in {k : Nat} (h : k < 23) : foundF (kindP ((k + 1 : Nat) : Int)) = (ents.getD k noEnt, true) := List.map_inj_left.1 found_all k (List.mem_range.2 h)
theorem shape_all : ((List.range 23).map fun k : Nat => shapesL.getD (k + 1) []) = (List.range 23).map fun k => (ents.getD k noEnt).shape := by kernel_rfl
theorem shape_in {k : Nat} (h : k < 23) : shapesL.getD (k + 1) [] = (ents.getD k noEnt).shape := List.map_inj_left.1 shape_all k (List.mem_range.2 h)

/-- All is there just as the document asks it; and D and E are empty where they are not named. -/
def Alike (c : ConL) (sh : ByteArray) : Prop := sizesB c sh = arityB c sh ∧ (sizesB c sh = true → c.kind ≠ 19 → c.kind ≠ 21 → c.D = [] ∧ c.E = []) ∧ (sizesB c sh = true → c.kind = 21 → c.D.length = c.C.length ∧ c.E.length = c.C.length)

def shV : ByteArray := ⟨([86] : Bs).toArray⟩
theorem nV_118 : cntI shV 118 = 0 := by kernel_rfl
theorem nV_86 : cntI shV 86 = 1 := by kernel_rfl
theorem nV_119 : cntI shV 119 = 0 := by kernel_rfl
theorem nV_87 : cntI shV 87 = 0 := by kernel_rfl
theorem nV_99 : cntI shV 99 = 0 := by kernel_rfl
theorem nV_100 : cntI shV 100 = 0 := by kernel_rfl
theorem nV_101 : cntI shV 101 = 0 := by kernel_rfl
theorem nV_107 : cntI shV 107 = 0 := by kernel_rfl
theorem nV_114 : cntI shV 114 = 0 := by kernel_rfl
theorem mV_118 : (bl shV).count 118 = 0 := by kernel_rfl
theorem bV_87 : hasC shV 87 = false := by kernel_rfl
theorem bV_119 : hasC shV 119 = false := by kernel_rfl
theorem bV_99 : hasC shV 99 = false := by kernel_rfl
theorem bV_100 : hasC shV 100 = false := by kernel_rfl
theorem bV_101 : hasC shV 101 = false := by kernel_rfl
theorem bV_107 : hasC shV 107 = false := by kernel_rfl
theorem bV_114 : hasC shV 114 = false := by kernel_rfl

def shVW : ByteArray := ⟨([86, 87] : Bs).toArray⟩
theorem nVW_118 : cntI shVW 118 = 0 := by kernel_rfl
theorem nVW_86 : cntI shVW 86 = 1 := by kernel_rfl
theorem nVW_119 : cntI shVW 119 = 0 := by kernel_rfl
theorem nVW_87 : cntI shVW 87 = 1 := by kernel_rfl
theorem nVW_99 : cntI shVW 99 = 0 := by kernel_rfl
theorem nVW_100 : cntI shVW 100 = 0 := by kernel_rfl
theorem nVW_101 : cntI shVW 101 = 0 := by kernel_rfl
theorem nVW_107 : cntI shVW 107 = 0 := by kernel_rfl
theorem nVW_114 : cntI shVW 114 = 0 := by kernel_rfl
theorem mVW_118 : (bl shVW).count 118 = 0 := by kernel_rfl
theorem bVW_87 : hasC shVW 87 = true := by kernel_rfl
theorem bVW_119 : hasC shVW 119 = false := by kernel_rfl
theorem bVW_99 : hasC shVW 99 = false := by kernel_rfl
theorem bVW_100 : hasC shVW 100 = false := by kernel_rfl
theorem bVW_101 : hasC shVW 101 = false := by kernel_rfl
theorem bVW_107 : hasC shVW 107 = false := by kernel_rfl
theorem bVW_114 : hasC shVW 114 = false := by kernel_rfl

def shVcde : ByteArray := ⟨([86, 99, 100, 101] : Bs).toArray⟩
theorem nVcde_118 : cntI shVcde 118 = 0 := by kernel_rfl
theorem nVcde_86 : cntI shVcde 86 = 1 := by kernel_rfl
theorem nVcde_119 : cntI shVcde 119 = 0 := by kernel_rfl
theorem nVcde_87 : cntI shVcde 87 = 0 := by kernel_rfl
theorem nVcde_99 : cntI shVcde 99 = 1 := by kernel_rfl
theorem nVcde_100 : cntI shVcde 100 = 1 := by kernel_rfl
theorem nVcde_101 : cntI shVcde 101 = 1 := by kernel_rfl
theorem nVcde_107 : cntI shVcde 107 = 0 := by kernel_rfl
theorem nVcde_114 : cntI shVcde 114 = 0 := by kernel_rfl
theorem mVcde_118 : (bl shVcde).count 118 = 0 := by kernel_rfl
theorem bVcde_87 : hasC shVcde 87 = false := by kernel_rfl
theorem bVcde_119 : hasC shVcde 119 = false := by kernel_rfl
theorem bVcde_99 : hasC shVcde 99 = true := by kernel_rfl
theorem bVcde_100 : hasC shVcde 100 = true := by kernel_rfl
theorem bVcde_101 : hasC shVcde 101 = true := by kernel_rfl
theorem bVcde_107 : hasC shVcde 107 = false := by kernel_rfl
theorem bVcde_114 : hasC shVcde 114 = false := by kernel_rfl

def shVcdk : ByteArray := ⟨([86, 99, 100, 107] : Bs).toArray⟩
theorem nVcdk_118 : cntI shVcdk 118 = 0 := by kernel_rfl
theorem nVcdk_86 : cntI shVcdk 86 = 1 := by kernel_rfl
theorem nVcdk_119 : cntI shVcdk 119 = 0 := by kernel_rfl
theorem nVcdk_87 : cntI shVcdk 87 = 0 := by kernel_rfl
theorem nVcdk_99 : cntI shVcdk 99 = 1 := by kernel_rfl
theorem nVcdk_100 : cntI shVcdk 100 = 1 := by kernel_rfl
theorem nVcdk_101 : cntI shVcdk 101 = 0 := by kernel_rfl
theorem nVcdk_107 : cntI shVcdk 107 = 1 := by kernel_rfl
theorem nVcdk_114 : cntI shVcdk 114 = 0 := by kernel_rfl
theorem mVcdk_118 : (bl shVcdk).count 118 = 0 := by kernel_rfl
theorem bVcdk_87 : hasC shVcdk 87 = false := by kernel_rfl
theorem bVcdk_119 : hasC shVcdk 119 = false := by kernel_rfl
theorem bVcdk_99 : hasC shVcdk 99 = true := by kernel_rfl
theorem bVcdk_100 : hasC shVcdk 100 = true := by kernel_rfl
theorem bVcdk_101 : hasC shVcdk 101 = false := by kernel_rfl
theorem bVcdk_107 : hasC shVcdk 107 = true := by kernel_rfl
theorem bVcdk_114 : hasC shVcdk 114 = false := by kernel_rfl

def shVr : ByteArray := ⟨([86, 114] : Bs).toArray⟩
theorem nVr_118 : cntI shVr 118 = 0 := by kernel_rfl
theorem nVr_86 : cntI shVr 86 = 1 := by kernel_rfl
theorem nVr_119 : cntI shVr 119 = 0 := by kernel_rfl
theorem nVr_87 : cntI shVr 87 = 0 := by kernel_rfl
theorem nVr_99 : cntI shVr 99 = 0 := by kernel_rfl
theorem nVr_100 : cntI shVr 100 = 0 := by kernel_rfl
theorem nVr_101 : cntI shVr 101 = 0 := by kernel_rfl
theorem nVr_107 : cntI shVr 107 = 0 := by kernel_rfl
theorem nVr_114 : cntI shVr 114 = 1 := by kernel_rfl
theorem mVr_118 : (bl shVr).count 118 = 0 := by kernel_rfl
theorem bVr_87 : hasC shVr 87 = false := by kernel_rfl
theorem bVr_119 : hasC shVr 119 = false := by kernel_rfl
theorem bVr_99 : hasC shVr 99 = false := by kernel_rfl
theorem bVr_100 : hasC shVr 100 = false := by kernel_rfl
theorem bVr_101 : hasC shVr 101 = false := by kernel_rfl
theorem bVr_107 : hasC shVr 107 = false := by kernel_rfl
theorem bVr_114 : hasC shVr 114 = true := by kernel_rfl

def shcVk : ByteArray := ⟨([99, 86, 107] : Bs).toArray⟩
theorem ncVk_118 : cntI shcVk 118 = 0 := by kernel_rfl
theorem ncVk_86 : cntI shcVk 86 = 1 := by kernel_rfl
theorem ncVk_119 : cntI shcVk 119 = 0 := by kernel_rfl
theorem ncVk_87 : cntI shcVk 87 = 0 := by kernel_rfl
theorem ncVk_99 : cntI shcVk 99 = 1 := by kernel_rfl
theorem ncVk_100 : cntI shcVk 100 = 0 := by kernel_rfl
theorem ncVk_101 : cntI shcVk 101 = 0 := by kernel_rfl
theorem ncVk_107 : cntI shcVk 107 = 1 := by kernel_rfl
theorem ncVk_114 : cntI shcVk 114 = 0 := by kernel_rfl
theorem mcVk_118 : (bl shcVk).count 118 = 0 := by kernel_rfl
theorem bcVk_87 : hasC shcVk 87 = false := by kernel_rfl
theorem bcVk_119 : hasC shcVk 119 = false := by kernel_rfl
theorem bcVk_99 : hasC shcVk 99 = true := by kernel_rfl
theorem bcVk_100 : hasC shcVk 100 = false := by kernel_rfl
theorem bcVk_101 : hasC shcVk 101 = false := by kernel_rfl
theorem bcVk_107 : hasC shcVk 107 = true := by kernel_rfl
theorem bcVk_114 : hasC shcVk 114 = false := by kernel_rfl

def shcVkw : ByteArray := ⟨([99, 86, 107, 119] : Bs).toArray⟩
theorem ncVkw_118 : cntI shcVkw 118 = 0 := by kernel_rfl
theorem ncVkw_86 : cntI shcVkw 86 = 1 := by kernel_rfl
theorem ncVkw_119 : cntI shcVkw 119 = 1 := by kernel_rfl
theorem ncVkw_87 : cntI shcVkw 87 = 0 := by kernel_rfl
theorem ncVkw_99 : cntI shcVkw 99 = 1 := by kernel_rfl
theorem ncVkw_100 : cntI shcVkw 100 = 0 := by kernel_rfl
theorem ncVkw_101 : cntI shcVkw 101 = 0 := by kernel_rfl
theorem ncVkw_107 : cntI shcVkw 107 = 1 := by kernel_rfl
theorem ncVkw_114 : cntI shcVkw 114 = 0 := by kernel_rfl
theorem mcVkw_118 : (bl shcVkw).count 118 = 0 := by kernel_rfl
theorem bcVkw_87 : hasC shcVkw 87 = false := by kernel_rfl
theorem bcVkw_119 : hasC shcVkw 119 = true := by kernel_rfl
theorem bcVkw_99 : hasC shcVkw 99 = true := by kernel_rfl
theorem bcVkw_100 : hasC shcVkw 100 = false := by kernel_rfl
theorem bcVkw_101 : hasC shcVkw 101 = false := by kernel_rfl
theorem bcVkw_107 : hasC shcVkw 107 = true := by kernel_rfl
theorem bcVkw_114 : hasC shcVkw 114 = false := by kernel_rfl

def shvcv : ByteArray := ⟨([118, 99, 118] : Bs).toArray⟩
theorem nvcv_118 : cntI shvcv 118 = 2 := by kernel_rfl
theorem nvcv_86 : cntI shvcv 86 = 0 := by kernel_rfl
theorem nvcv_119 : cntI shvcv 119 = 0 := by kernel_rfl
theorem nvcv_87 : cntI shvcv 87 = 0 := by kernel_rfl
theorem nvcv_99 : cntI shvcv 99 = 1 := by kernel_rfl
theorem nvcv_100 : cntI shvcv 100 = 0 := by kernel_rfl
theorem nvcv_101 : cntI shvcv 101 = 0 := by kernel_rfl
theorem nvcv_107 : cntI shvcv 107 = 0 := by kernel_rfl
theorem nvcv_114 : cntI shvcv 114 = 0 := by kernel_rfl
theorem mvcv_118 : (bl shvcv).count 118 = 2 := by kernel_rfl
theorem bvcv_87 : hasC shvcv 87 = false := by kernel_rfl
theorem bvcv_119 : hasC shvcv 119 = false := by kernel_rfl
theorem bvcv_99 : hasC shvcv 99 = true := by kernel_rfl
theorem bvcv_100 : hasC shvcv 100 = false := by kernel_rfl
theorem bvcv_101 : hasC shvcv 101 = false := by kernel_rfl
theorem bvcv_107 : hasC shvcv 107 = false := by kernel_rfl
theorem bvcv_114 : hasC shvcv 114 = false := by kernel_rfl

def shvkw : ByteArray := ⟨([118, 107, 119] : Bs).toArray⟩
theorem nvkw_118 : cntI shvkw 118 = 1 := by kernel_rfl
theorem nvkw_86 : cntI shvkw 86 = 0 := by kernel_rfl
theorem nvkw_119 : cntI shvkw 119 = 1 := by kernel_rfl
theorem nvkw_87 : cntI shvkw 87 = 0 := by kernel_rfl
theorem nvkw_99 : cntI shvkw 99 = 0 := by kernel_rfl
theorem nvkw_100 : cntI shvkw 100 = 0 := by kernel_rfl
theorem nvkw_101 : cntI shvkw 101 = 0 := by kernel_rfl
theorem nvkw_107 : cntI shvkw 107 = 1 := by kernel_rfl
theorem nvkw_114 : cntI shvkw 114 = 0 := by kernel_rfl
theorem mvkw_118 : (bl shvkw).count 118 = 1 := by kernel_rfl
theorem bvkw_87 : hasC shvkw 87 = false := by kernel_rfl
theorem bvkw_119 : hasC shvkw 119 = true := by kernel_rfl
theorem bvkw_99 : hasC shvkw 99 = false := by kernel_rfl
theorem bvkw_100 : hasC shvkw 100 = false := by kernel_rfl
theorem bvkw_101 : hasC shvkw 101 = false := by kernel_rfl
theorem bvkw_107 : hasC shvkw 107 = true := by kernel_rfl
theorem bvkw_114 : hasC shvkw 114 = false := by kernel_rfl

def shvv : ByteArray := ⟨([118, 118] : Bs).toArray⟩
theorem nvv_118 : cntI shvv 118 = 2 := by kernel_rfl
theorem nvv_86 : cntI shvv 86 = 0 := by kernel_rfl
theorem nvv_119 : cntI shvv 119 = 0 := by kernel_rfl
theorem nvv_87 : cntI shvv 87 = 0 := by kernel_rfl
theorem nvv_99 : cntI shvv 99 = 0 := by kernel_rfl
theorem nvv_100 : cntI shvv 100 = 0 := by kernel_rfl
theorem nvv_101 : cntI shvv 101 = 0 := by kernel_rfl
theorem nvv_107 : cntI shvv 107 = 0 := by kernel_rfl
theorem nvv_114 : cntI shvv 114 = 0 := by kernel_rfl
theorem mvv_118 : (bl shvv).count 118 = 2 := by kernel_rfl
theorem bvv_87 : hasC shvv 87 = false := by kernel_rfl
theorem bvv_119 : hasC shvv 119 = false := by kernel_rfl
theorem bvv_99 : hasC shvv 99 = false := by kernel_rfl
theorem bvv_100 : hasC shvv 100 = false := by kernel_rfl
theorem bvv_101 : hasC shvv 101 = false := by kernel_rfl
theorem bvv_107 : hasC shvv 107 = false := by kernel_rfl
theorem bvv_114 : hasC shvv 114 = false := by kernel_rfl

def shvvv : ByteArray := ⟨([118, 118, 118] : Bs).toArray⟩
theorem nvvv_118 : cntI shvvv 118 = 3 := by kernel_rfl
theorem nvvv_86 : cntI shvvv 86 = 0 := by kernel_rfl
theorem nvvv_119 : cntI shvvv 119 = 0 := by kernel_rfl
theorem nvvv_87 : cntI shvvv 87 = 0 := by kernel_rfl
theorem nvvv_99 : cntI shvvv 99 = 0 := by kernel_rfl
theorem nvvv_100 : cntI shvvv 100 = 0 := by kernel_rfl
theorem nvvv_101 : cntI shvvv 101 = 0 := by kernel_rfl
theorem nvvv_107 : cntI shvvv 107 = 0 := by kernel_rfl
theorem nvvv_114 : cntI shvvv 114 = 0 := by kernel_rfl
theorem mvvv_118 : (bl shvvv).count 118 = 3 := by kernel_rfl
theorem bvvv_87 : hasC shvvv 87 = false := by kernel_rfl
theorem bvvv_119 : hasC shvvv 119 = false := by kernel_rfl
theorem bvvv_99 : hasC shvvv 99 = false := by kernel_rfl
theorem bvvv_100 : hasC shvvv 100 = false := by kernel_rfl
theorem bvvv_101 : hasC shvvv 101 = false := by kernel_rfl
theorem bvvv_107 : hasC shvvv 107 = false := by kernel_rfl
theorem bvvv_114 : hasC shvvv 114 = false := by kernel_rfl

theorem alike1 (c : ConL) (h : c.kind = 1) : Alike c shcVk := by
  have hany : c.rows.length = 0 → c.rows.any (fun r => r.length != c.A.length) = false := by
    intro h
    rw [List.length_eq_zero_iff.1 h]
    rfl
  have hD : c.D = [] ↔ c.D.length = 0 := List.length_eq_zero_iff.symm
  have hE : c.E = [] ↔ c.E.length = 0 := List.length_eq_zero_iff.symm
  unfold Alike
  rw [hD, hE]
  unfold sizesB arityB rowsB sizeA sizeB sizeC sizeL
  rw [ncVk_118, ncVk_86, ncVk_119, ncVk_87, ncVk_99, ncVk_100, ncVk_101, ncVk_107, ncVk_114, mcVk_118, bcVk_87, bcVk_119, bcVk_99, bcVk_100, bcVk_101, bcVk_107, bcVk_114, h]
  unfold inS listB lenI
  generalize c.rows.any (fun r => r.length != c.A.length) = ANY at *
  generalize c.A.length = a at *
  generalize c.B.length = b at *
  generalize c.C.length = lc at *
  generalize c.D.length = ld at *
  generalize c.E.length = le at *
  generalize c.rows.length = lr at *
  generalize c.K = kk at *
  clear h hD hE
  rw [Bool.eq_iff_iff]
  cases ANY <;> simp at * <;> omega

theorem alike2 (c : ConL) (h : c.kind = 2) : Alike c shcVk := by
  have hany : c.rows.length = 0 → c.rows.any (fun r => r.length != c.A.length) = false := by
    intro h
    rw [List.length_eq_zero_iff.1 h]
    rfl
  have hD : c.D = [] ↔ c.D.length = 0 := List.length_eq_zero_iff.symm
  have hE : c.E = [] ↔ c.E.length = 0 := List.length_eq_zero_iff.symm
  unfold Alike
  rw [hD, hE]
  unfold sizesB arityB rowsB sizeA sizeB sizeC sizeL
  rw [ncVk_118, ncVk_86, ncVk_119, ncVk_87, ncVk_99, ncVk_100, ncVk_101, ncVk_107, ncVk_114, mcVk_118, bcVk_87, bcVk_119, bcVk_99, bcVk_100, bcVk_101, bcVk_107, bcVk_114, h]
  unfold inS listB lenI
  generalize c.rows.any (fun r => r.length != c.A.length) = ANY at *
  generalize c.A.length = a at *
  generalize c.B.length = b at *
  generalize c.C.length = lc at *
  generalize c.D.length = ld at *
  generalize c.E.length = le at *
  generalize c.rows.length = lr at *
  generalize c.K = kk at *
  clear h hD hE
  rw [Bool.eq_iff_iff]
  cases ANY <;> simp at * <;> omega

theorem alike3 (c : ConL) (h : c.kind = 3) : Alike c shcVk := by
  have hany : c.rows.length = 0 → c.rows.any (fun r => r.length != c.A.length) = false := by
    intro h
    rw [List.length_eq_zero_iff.1 h]
    rfl
  have hD : c.D = [] ↔ c.D.length = 0 := List.length_eq_zero_iff.symm
  have hE : c.E = [] ↔ c.E.length = 0 := List.length_eq_zero_iff.symm
  unfold Alike
  rw [hD, hE]
  unfold sizesB arityB rowsB sizeA sizeB sizeC sizeL
  rw [ncVk_118, ncVk_86, ncVk_119, ncVk_87, ncVk_99, ncVk_100, ncVk_101, ncVk_107, ncVk_114, mcVk_118, bcVk_87, bcVk_119, bcVk_99, bcVk_100, bcVk_101, bcVk_107, bcVk_114, h]
  unfold inS listB lenI
  generalize c.rows.any (fun r => r.length != c.A.length) = ANY at *
  generalize c.A.length = a at *
  generalize c.B.length = b at *
  generalize c.C.length = lc at *
  generalize c.D.length = ld at *
  generalize c.E.length = le at *
  generalize c.rows.length = lr at *
  generalize c.K = kk at *
  clear h hD hE
  rw [Bool.eq_iff_iff]
  cases ANY <;> simp at * <;> omega

theorem alike4 (c : ConL) (h : c.kind = 4) : Alike c shcVkw := by
  have hany : c.rows.length = 0 → c.rows.any (fun r => r.length != c.A.length) = false := by
    intro h
    rw [List.length_eq_zero_iff.1 h]
    rfl
  have hD : c.D = [] ↔ c.D.length = 0 := List.length_eq_zero_iff.symm
  have hE : c.E = [] ↔ c.E.length = 0 := List.length_eq_zero_iff.symm
  unfold Alike
  rw [hD, hE]
  unfold sizesB arityB rowsB sizeA sizeB sizeC sizeL
  rw [ncVkw_118, ncVkw_86, ncVkw_119, ncVkw_87, ncVkw_99, ncVkw_100, ncVkw_101, ncVkw_107, ncVkw_114, mcVkw_118, bcVkw_87, bcVkw_119, bcVkw_99, bcVkw_100, bcVkw_101, bcVkw_107, bcVkw_114, h]
  unfold inS listB lenI
  generalize c.rows.any (fun r => r.length != c.A.length) = ANY at *
  generalize c.A.length = a at *
  generalize c.B.length = b at *
  generalize c.C.length = lc at *
  generalize c.D.length = ld at *
  generalize c.E.length = le at *
  generalize c.rows.length = lr at *
  generalize c.K = kk at *
  clear h hD hE
  rw [Bool.eq_iff_iff]
  cases ANY <;> simp at * <;> omega

theorem alike5 (c : ConL) (h : c.kind = 5) : Alike c shvvv := by
  have hany : c.rows.length = 0 → c.rows.any (fun r => r.length != c.A.length) = false := by
    intro h
    rw [List.length_eq_zero_iff.1 h]
    rfl
  have hD : c.D = [] ↔ c.D.length = 0 := List.length_eq_zero_iff.symm
  have hE : c.E = [] ↔ c.E.length = 0 := List.length_eq_zero_iff.symm
  unfold Alike
  rw [hD, hE]
  unfold sizesB arityB rowsB sizeA sizeB sizeC sizeL
  rw [nvvv_118, nvvv_86, nvvv_119, nvvv_87, nvvv_99, nvvv_100, nvvv_101, nvvv_107, nvvv_114, mvvv_118, bvvv_87, bvvv_119, bvvv_99, bvvv_100, bvvv_101, bvvv_107, bvvv_114, h]
  unfold inS listB lenI
  generalize c.rows.any (fun r => r.length != c.A.length) = ANY at *
  generalize c.A.length = a at *
  generalize c.B.length = b at *
  generalize c.C.length = lc at *
  generalize c.D.length = ld at *
  generalize c.E.length = le at *
  generalize c.rows.length = lr at *
  generalize c.K = kk at *
  clear h hD hE
  rw [Bool.eq_iff_iff]
  cases ANY <;> simp at * <;> omega

theorem alike6 (c : ConL) (h : c.kind = 6) : Alike c shvvv := by
  have hany : c.rows.length = 0 → c.rows.any (fun r => r.length != c.A.length) = false := by
    intro h
    rw [List.length_eq_zero_iff.1 h]
    rfl
  have hD : c.D = [] ↔ c.D.length = 0 := List.length_eq_zero_iff.symm
  have hE : c.E = [] ↔ c.E.length = 0 := List.length_eq_zero_iff.symm
  unfold Alike
  rw [hD, hE]
  unfold sizesB arityB rowsB sizeA sizeB sizeC sizeL
  rw [nvvv_118, nvvv_86, nvvv_119, nvvv_87, nvvv_99, nvvv_100, nvvv_101, nvvv_107, nvvv_114, mvvv_118, bvvv_87, bvvv_119, bvvv_99, bvvv_100, bvvv_101, bvvv_107, bvvv_114, h]
  unfold inS listB lenI
  generalize c.rows.any (fun r => r.length != c.A.length) = ANY at *
  generalize c.A.length = a at *
  generalize c.B.length = b at *
  generalize c.C.length = lc at *
  generalize c.D.length = ld at *
  generalize c.E.length = le at *
  generalize c.rows.length = lr at *
  generalize c.K = kk at *
  clear h hD hE
  rw [Bool.eq_iff_iff]
  cases ANY <;> simp at * <;> omega

theorem alike7 (c : ConL) (h : c.kind = 7) : Alike c shvvv := by
  have hany : c.rows.length = 0 → c.rows.any (fun r => r.length != c.A.length) = false := by
    intro h
    rw [List.length_eq_zero_iff.1 h]
    rfl
  have hD : c.D = [] ↔ c.D.length = 0 := List.length_eq_zero_iff.symm
  have hE : c.E = [] ↔ c.E.length = 0 := List.length_eq_zero_iff.symm
  unfold Alike
  rw [hD, hE]
  unfold sizesB arityB rowsB sizeA sizeB sizeC sizeL
  rw [nvvv_118, nvvv_86, nvvv_119, nvvv_87, nvvv_99, nvvv_100, nvvv_101, nvvv_107, nvvv_114, mvvv_118, bvvv_87, bvvv_119, bvvv_99, bvvv_100, bvvv_101, bvvv_107, bvvv_114, h]
  unfold inS listB lenI
  generalize c.rows.any (fun r => r.length != c.A.length) = ANY at *
  generalize c.A.length = a at *
  generalize c.B.length = b at *
  generalize c.C.length = lc at *
  generalize c.D.length = ld at *
  generalize c.E.length = le at *
  generalize c.rows.length = lr at *
  generalize c.K = kk at *
  clear h hD hE
  rw [Bool.eq_iff_iff]
  cases ANY <;> simp at * <;> omega

theorem alike8 (c : ConL) (h : c.kind = 8) : Alike c shvv := by
  have hany : c.rows.length = 0 → c.rows.any (fun r => r.length != c.A.length) = false := by
    intro h
    rw [List.length_eq_zero_iff.1 h]
    rfl
  have hD : c.D = [] ↔ c.D.length = 0 := List.length_eq_zero_iff.symm
  have hE : c.E = [] ↔ c.E.length = 0 := List.length_eq_zero_iff.symm
  unfold Alike
  rw [hD, hE]
  unfold sizesB arityB rowsB sizeA sizeB sizeC sizeL
  rw [nvv_118, nvv_86, nvv_119, nvv_87, nvv_99, nvv_100, nvv_101, nvv_107, nvv_114, mvv_118, bvv_87, bvv_119, bvv_99, bvv_100, bvv_101, bvv_107, bvv_114, h]
  unfold inS listB lenI
  generalize c.rows.any (fun r => r.length != c.A.length) = ANY at *
  generalize c.A.length = a at *
  generalize c.B.length = b at *
  generalize c.C.length = lc at *
  generalize c.D.length = ld at *
  generalize c.E.length = le at *
  generalize c.rows.length = lr at *
  generalize c.K = kk at *
  clear h hD hE
  rw [Bool.eq_iff_iff]
  cases ANY <;> simp at * <;> omega

theorem alike9 (c : ConL) (h : c.kind = 9) : Alike c shvvv := by
  have hany : c.rows.length = 0 → c.rows.any (fun r => r.length != c.A.length) = false := by
    intro h
    rw [List.length_eq_zero_iff.1 h]
    rfl
  have hD : c.D = [] ↔ c.D.length = 0 := List.length_eq_zero_iff.symm
  have hE : c.E = [] ↔ c.E.length = 0 := List.length_eq_zero_iff.symm
  unfold Alike
  rw [hD, hE]
  unfold sizesB arityB rowsB sizeA sizeB sizeC sizeL
  rw [nvvv_118, nvvv_86, nvvv_119, nvvv_87, nvvv_99, nvvv_100, nvvv_101, nvvv_107, nvvv_114, mvvv_118, bvvv_87, bvvv_119, bvvv_99, bvvv_100, bvvv_101, bvvv_107, bvvv_114, h]
  unfold inS listB lenI
  generalize c.rows.any (fun r => r.length != c.A.length) = ANY at *
  generalize c.A.length = a at *
  generalize c.B.length = b at *
  generalize c.C.length = lc at *
  generalize c.D.length = ld at *
  generalize c.E.length = le at *
  generalize c.rows.length = lr at *
  generalize c.K = kk at *
  clear h hD hE
  rw [Bool.eq_iff_iff]
  cases ANY <;> simp at * <;> omega

theorem alike10 (c : ConL) (h : c.kind = 10) : Alike c shvvv := by
  have hany : c.rows.length = 0 → c.rows.any (fun r => r.length != c.A.length) = false := by
    intro h
    rw [List.length_eq_zero_iff.1 h]
    rfl
  have hD : c.D = [] ↔ c.D.length = 0 := List.length_eq_zero_iff.symm
  have hE : c.E = [] ↔ c.E.length = 0 := List.length_eq_zero_iff.symm
  unfold Alike
  rw [hD, hE]
  unfold sizesB arityB rowsB sizeA sizeB sizeC sizeL
  rw [nvvv_118, nvvv_86, nvvv_119, nvvv_87, nvvv_99, nvvv_100, nvvv_101, nvvv_107, nvvv_114, mvvv_118, bvvv_87, bvvv_119, bvvv_99, bvvv_100, bvvv_101, bvvv_107, bvvv_114, h]
  unfold inS listB lenI
  generalize c.rows.any (fun r => r.length != c.A.length) = ANY at *
  generalize c.A.length = a at *
  generalize c.B.length = b at *
  generalize c.C.length = lc at *
  generalize c.D.length = ld at *
  generalize c.E.length = le at *
  generalize c.rows.length = lr at *
  generalize c.K = kk at *
  clear h hD hE
  rw [Bool.eq_iff_iff]
  cases ANY <;> simp at * <;> omega

theorem alike11 (c : ConL) (h : c.kind = 11) : Alike c shvcv := by
  have hany : c.rows.length = 0 → c.rows.any (fun r => r.length != c.A.length) = false := by
    intro h
    rw [List.length_eq_zero_iff.1 h]
    rfl
  have hD : c.D = [] ↔ c.D.length = 0 := List.length_eq_zero_iff.symm
  have hE : c.E = [] ↔ c.E.length = 0 := List.length_eq_zero_iff.symm
  unfold Alike
  rw [hD, hE]
  unfold sizesB arityB rowsB sizeA sizeB sizeC sizeL
  rw [nvcv_118, nvcv_86, nvcv_119, nvcv_87, nvcv_99, nvcv_100, nvcv_101, nvcv_107, nvcv_114, mvcv_118, bvcv_87, bvcv_119, bvcv_99, bvcv_100, bvcv_101, bvcv_107, bvcv_114, h]
  unfold inS listB lenI
  generalize c.rows.any (fun r => r.length != c.A.length) = ANY at *
  generalize c.A.length = a at *
  generalize c.B.length = b at *
  generalize c.C.length = lc at *
  generalize c.D.length = ld at *
  generalize c.E.length = le at *
  generalize c.rows.length = lr at *
  generalize c.K = kk at *
  clear h hD hE
  rw [Bool.eq_iff_iff]
  cases ANY <;> simp at * <;> omega

theorem alike12 (c : ConL) (h : c.kind = 12) : Alike c shVW := by
  have hany : c.rows.length = 0 → c.rows.any (fun r => r.length != c.A.length) = false := by
    intro h
    rw [List.length_eq_zero_iff.1 h]
    rfl
  have hD : c.D = [] ↔ c.D.length = 0 := List.length_eq_zero_iff.symm
  have hE : c.E = [] ↔ c.E.length = 0 := List.length_eq_zero_iff.symm
  unfold Alike
  rw [hD, hE]
  unfold sizesB arityB rowsB sizeA sizeB sizeC sizeL
  rw [nVW_118, nVW_86, nVW_119, nVW_87, nVW_99, nVW_100, nVW_101, nVW_107, nVW_114, bVW_87, bVW_119, bVW_99, bVW_100, bVW_101, bVW_107, bVW_114, h]
  unfold inS listB lenI
  generalize c.rows.any (fun r => r.length != c.A.length) = ANY at *
  generalize c.A.length = a at *
  generalize c.B.length = b at *
  generalize c.C.length = lc at *
  generalize c.D.length = ld at *
  generalize c.E.length = le at *
  generalize c.rows.length = lr at *
  generalize c.K = kk at *
  clear h hD hE
  rw [Bool.eq_iff_iff]
  cases ANY <;> simp at * <;> omega

theorem alike13 (c : ConL) (h : c.kind = 13) : Alike c shvkw := by
  have hany : c.rows.length = 0 → c.rows.any (fun r => r.length != c.A.length) = false := by
    intro h
    rw [List.length_eq_zero_iff.1 h]
    rfl
  have hD : c.D = [] ↔ c.D.length = 0 := List.length_eq_zero_iff.symm
  have hE : c.E = [] ↔ c.E.length = 0 := List.length_eq_zero_iff.symm
  unfold Alike
  rw [hD, hE]
  unfold sizesB arityB rowsB sizeA sizeB sizeC sizeL
  rw [nvkw_118, nvkw_86, nvkw_119, nvkw_87, nvkw_99, nvkw_100, nvkw_101, nvkw_107, nvkw_114, mvkw_118, bvkw_87, bvkw_119, bvkw_99, bvkw_100, bvkw_101, bvkw_107, bvkw_114, h]
  unfold inS listB lenI
  generalize c.rows.any (fun r => r.length != c.A.length) = ANY at *
  generalize c.A.length = a at *
  generalize c.B.length = b at *
  generalize c.C.length = lc at *
  generalize c.D.length = ld at *
  generalize c.E.length = le at *
  generalize c.rows.length = lr at *
  generalize c.K = kk at *
  clear h hD hE
  rw [Bool.eq_iff_iff]
  cases ANY <;> simp at * <;> omega

theorem alike14 (c : ConL) (h : c.kind = 14) : Alike c shvkw := by
  have hany : c.rows.length = 0 → c.rows.any (fun r => r.length != c.A.length) = false := by
    intro h
    rw [List.length_eq_zero_iff.1 h]
    rfl
  have hD : c.D = [] ↔ c.D.length = 0 := List.length_eq_zero_iff.symm
  have hE : c.E = [] ↔ c.E.length = 0 := List.length_eq_zero_iff.symm
  unfold Alike
  rw [hD, hE]
  unfold sizesB arityB rowsB sizeA sizeB sizeC sizeL
  rw [nvkw_118, nvkw_86, nvkw_119, nvkw_87, nvkw_99, nvkw_100, nvkw_101, nvkw_107, nvkw_114, mvkw_118, bvkw_87, bvkw_119, bvkw_99, bvkw_100, bvkw_101, bvkw_107, bvkw_114, h]
  unfold inS listB lenI
  generalize c.rows.any (fun r => r.length != c.A.length) = ANY at *
  generalize c.A.length = a at *
  generalize c.B.length = b at *
  generalize c.C.length = lc at *
  generalize c.D.length = ld at *
  generalize c.E.length = le at *
  generalize c.rows.length = lr at *
  generalize c.K = kk at *
  clear h hD hE
  rw [Bool.eq_iff_iff]
  cases ANY <;> simp at * <;> omega

theorem alike15 (c : ConL) (h : c.kind = 15) : Alike c shvkw := by
  have hany : c.rows.length = 0 → c.rows.any (fun r => r.length != c.A.length) = false := by
    intro h
    rw [List.length_eq_zero_iff.1 h]
    rfl
  have hD : c.D = [] ↔ c.D.length = 0 := List.length_eq_zero_iff.symm
  have hE : c.E = [] ↔ c.E.length = 0 := List.length_eq_zero_iff.symm
  unfold Alike
  rw [hD, hE]
  unfold sizesB arityB rowsB sizeA sizeB sizeC sizeL
  rw [nvkw_118, nvkw_86, nvkw_119, nvkw_87, nvkw_99, nvkw_100, nvkw_101, nvkw_107, nvkw_114, mvkw_118, bvkw_87, bvkw_119, bvkw_99, bvkw_100, bvkw_101, bvkw_107, bvkw_114, h]
  unfold inS listB lenI
  generalize c.rows.any (fun r => r.length != c.A.length) = ANY at *
  generalize c.A.length = a at *
  generalize c.B.length = b at *
  generalize c.C.length = lc at *
  generalize c.D.length = ld at *
  generalize c.E.length = le at *
  generalize c.rows.length = lr at *
  generalize c.K = kk at *
  clear h hD hE
  rw [Bool.eq_iff_iff]
  cases ANY <;> simp at * <;> omega

theorem alike16 (c : ConL) (h : c.kind = 16) : Alike c shvkw := by
  have hany : c.rows.length = 0 → c.rows.any (fun r => r.length != c.A.length) = false := by
    intro h
    rw [List.length_eq_zero_iff.1 h]
    rfl
  have hD : c.D = [] ↔ c.D.length = 0 := List.length_eq_zero_iff.symm
  have hE : c.E = [] ↔ c.E.length = 0 := List.length_eq_zero_iff.symm
  unfold Alike
  rw [hD, hE]
  unfold sizesB arityB rowsB sizeA sizeB sizeC sizeL
  rw [nvkw_118, nvkw_86, nvkw_119, nvkw_87, nvkw_99, nvkw_100, nvkw_101, nvkw_107, nvkw_114, mvkw_118, bvkw_87, bvkw_119, bvkw_99, bvkw_100, bvkw_101, bvkw_107, bvkw_114, h]
  unfold inS listB lenI
  generalize c.rows.any (fun r => r.length != c.A.length) = ANY at *
  generalize c.A.length = a at *
  generalize c.B.length = b at *
  generalize c.C.length = lc at *
  generalize c.D.length = ld at *
  generalize c.E.length = le at *
  generalize c.rows.length = lr at *
  generalize c.K = kk at *
  clear h hD hE
  rw [Bool.eq_iff_iff]
  cases ANY <;> simp at * <;> omega

theorem alike17 (c : ConL) (h : c.kind = 17) : Alike c shV := by
  have hany : c.rows.length = 0 → c.rows.any (fun r => r.length != c.A.length) = false := by
    intro h
    rw [List.length_eq_zero_iff.1 h]
    rfl
  have hD : c.D = [] ↔ c.D.length = 0 := List.length_eq_zero_iff.symm
  have hE : c.E = [] ↔ c.E.length = 0 := List.length_eq_zero_iff.symm
  unfold Alike
  rw [hD, hE]
  unfold sizesB arityB rowsB sizeA sizeB sizeC sizeL
  rw [nV_118, nV_86, nV_119, nV_87, nV_99, nV_100, nV_101, nV_107, nV_114, mV_118, bV_87, bV_119, bV_99, bV_100, bV_101, bV_107, bV_114, h]
  unfold inS listB lenI
  generalize c.rows.any (fun r => r.length != c.A.length) = ANY at *
  generalize c.A.length = a at *
  generalize c.B.length = b at *
  generalize c.C.length = lc at *
  generalize c.D.length = ld at *
  generalize c.E.length = le at *
  generalize c.rows.length = lr at *
  generalize c.K = kk at *
  clear h hD hE
  rw [Bool.eq_iff_iff]
  cases ANY <;> simp at * <;> omega

theorem alike18 (c : ConL) (h : c.kind = 18) : Alike c shVr := by
  have hany : c.rows.length = 0 → c.rows.any (fun r => r.length != c.A.length) = false := by
    intro h
    rw [List.length_eq_zero_iff.1 h]
    rfl
  have hD : c.D = [] ↔ c.D.length = 0 := List.length_eq_zero_iff.symm
  have hE : c.E = [] ↔ c.E.length = 0 := List.length_eq_zero_iff.symm
  unfold Alike
  rw [hD, hE]
  unfold sizesB arityB rowsB sizeA sizeB sizeC sizeL
  rw [nVr_118, nVr_86, nVr_119, nVr_87, nVr_99, nVr_100, nVr_101, nVr_107, nVr_114, mVr_118, bVr_87, bVr_119, bVr_99, bVr_100, bVr_101, bVr_107, bVr_114, h]
  unfold inS listB lenI
  generalize c.rows.any (fun r => r.length != c.A.length) = ANY at *
  generalize c.A.length = a at *
  generalize c.B.length = b at *
  generalize c.C.length = lc at *
  generalize c.D.length = ld at *
  generalize c.E.length = le at *
  generalize c.rows.length = lr at *
  generalize c.K = kk at *
  clear h hD hE
  rw [Bool.eq_iff_iff]
  cases ANY <;> simp at * <;> omega

theorem alike19 (c : ConL) (h : c.kind = 19) : Alike c shVcdk := by
  have hany : c.rows.length = 0 → c.rows.any (fun r => r.length != c.A.length) = false := by
    intro h
    rw [List.length_eq_zero_iff.1 h]
    rfl
  have hD : c.D = [] ↔ c.D.length = 0 := List.length_eq_zero_iff.symm
  have hE : c.E = [] ↔ c.E.length = 0 := List.length_eq_zero_iff.symm
  unfold Alike
  rw [hD, hE]
  unfold sizesB arityB rowsB sizeA sizeB sizeC sizeL
  rw [nVcdk_118, nVcdk_86, nVcdk_119, nVcdk_87, nVcdk_99, nVcdk_100, nVcdk_101, nVcdk_107, nVcdk_114, mVcdk_118, bVcdk_87, bVcdk_119, bVcdk_99, bVcdk_100, bVcdk_101, bVcdk_107, bVcdk_114, h]
  unfold inS listB lenI
  generalize c.rows.any (fun r => r.length != c.A.length) = ANY at *
  generalize c.A.length = a at *
  generalize c.B.length = b at *
  generalize c.C.length = lc at *
  generalize c.D.length = ld at *
  generalize c.E.length = le at *
  generalize c.rows.length = lr at *
  generalize c.K = kk at *
  clear h hD hE
  rw [Bool.eq_iff_iff]
  cases ANY <;> simp at * <;> omega

theorem alike20 (c : ConL) (h : c.kind = 20) : Alike c shV := by
  have hany : c.rows.length = 0 → c.rows.any (fun r => r.length != c.A.length) = false := by
    intro h
    rw [List.length_eq_zero_iff.1 h]
    rfl
  have hD : c.D = [] ↔ c.D.length = 0 := List.length_eq_zero_iff.symm
  have hE : c.E = [] ↔ c.E.length = 0 := List.length_eq_zero_iff.symm
  unfold Alike
  rw [hD, hE]
  unfold sizesB arityB rowsB sizeA sizeB sizeC sizeL
  rw [nV_118, nV_86, nV_119, nV_87, nV_99, nV_100, nV_101, nV_107, nV_114, mV_118, bV_87, bV_119, bV_99, bV_100, bV_101, bV_107, bV_114, h]
  unfold inS listB lenI
  generalize c.rows.any (fun r => r.length != c.A.length) = ANY at *
  generalize c.A.length = a at *
  generalize c.B.length = b at *
  generalize c.C.length = lc at *
  generalize c.D.length = ld at *
  generalize c.E.length = le at *
  generalize c.rows.length = lr at *
  generalize c.K = kk at *
  clear h hD hE
  rw [Bool.eq_iff_iff]
  cases ANY <;> simp at * <;> omega

theorem alike21 (c : ConL) (h : c.kind = 21) : Alike c shVcde := by
  have hany : c.rows.length = 0 → c.rows.any (fun r => r.length != c.A.length) = false := by
    intro h
    rw [List.length_eq_zero_iff.1 h]
    rfl
  have hD : c.D = [] ↔ c.D.length = 0 := List.length_eq_zero_iff.symm
  have hE : c.E = [] ↔ c.E.length = 0 := List.length_eq_zero_iff.symm
  unfold Alike
  rw [hD, hE]
  unfold sizesB arityB rowsB sizeA sizeB sizeC sizeL
  rw [nVcde_118, nVcde_86, nVcde_119, nVcde_87, nVcde_99, nVcde_100, nVcde_101, nVcde_107, nVcde_114, mVcde_118, bVcde_87, bVcde_119, bVcde_99, bVcde_100, bVcde_101, bVcde_107, bVcde_114, h]
  unfold inS listB lenI
  generalize c.rows.any (fun r => r.length != c.A.length) = ANY at *
  generalize c.A.length = a at *
  generalize c.B.length = b at *
  generalize c.C.length = lc at *
  generalize c.D.length = ld at *
  generalize c.E.length = le at *
  generalize c.rows.length = lr at *
  generalize c.K = kk at *
  clear h hD hE
  rw [Bool.eq_iff_iff]
  cases ANY <;> simp at * <;> omega

theorem alike22 (c : ConL) (h : c.kind = 22) : Alike c shVW := by
  have hany : c.rows.length = 0 → c.rows.any (fun r => r.length != c.A.length) = false := by
    intro h
    rw [List.length_eq_zero_iff.1 h]
    rfl
  have hD : c.D = [] ↔ c.D.length = 0 := List.length_eq_zero_iff.symm
  have hE : c.E = [] ↔ c.E.length = 0 := List.length_eq_zero_iff.symm
  unfold Alike
  rw [hD, hE]
  unfold sizesB arityB rowsB sizeA sizeB sizeC sizeL
  rw [nVW_118, nVW_86, nVW_119, nVW_87, nVW_99, nVW_100, nVW_101, nVW_107, nVW_114, mVW_118, bVW_87, bVW_119, bVW_99, bVW_100, bVW_101, bVW_107, bVW_114, h]
  unfold inS listB lenI
  generalize c.rows.any (fun r => r.length != c.A.length) = ANY at *
  generalize c.A.length = a at *
  generalize c.B.length = b at *
  generalize c.C.length = lc at *
  generalize c.D.length = ld at *
  generalize c.E.length = le at *
  generalize c.rows.length = lr at *
  generalize c.K = kk at *
  clear h hD hE
  rw [Bool.eq_iff_iff]
  cases ANY <;> simp at * <;> omega

theorem alike23 (c : ConL) (h : c.kind = 23) : Alike c shVW := by
  have hany : c.rows.length = 0 → c.rows.any (fun r => r.length != c.A.length) = false := by
    intro h
    rw [List.length_eq_zero_iff.1 h]
    rfl
  have hD : c.D = [] ↔ c.D.length = 0 := List.length_eq_zero_iff.symm
  have hE : c.E = [] ↔ c.E.length = 0 := List.length_eq_zero_iff.symm
  unfold Alike
  rw [hD, hE]
  unfold sizesB arityB rowsB sizeA sizeB sizeC sizeL
  rw [nVW_118, nVW_86, nVW_119, nVW_87, nVW_99, nVW_100, nVW_101, nVW_107, nVW_114, mVW_118, bVW_87, bVW_119, bVW_99, bVW_100, bVW_101, bVW_107, bVW_114, h]
  unfold inS listB lenI
  generalize c.rows.any (fun r => r.length != c.A.length) = ANY at *
  generalize c.A.length = a at *
  generalize c.B.length = b at *
  generalize c.C.length = lc at *
  generalize c.D.length = ld at *
  generalize c.E.length = le at *
  generalize c.rows.length = lr at *
  generalize c.K = kk at *
  clear h hD hE
  rw [Bool.eq_iff_iff]
  cases ANY <;> simp at * <;> omega
end Go.Proofs.YtkhmocbfkpbpfaaGreatDoor
