/- What a constraint that may be has, kind by kind. No walk. Made by tools/gengcon.py. -/
import Derived.Test.YtkhmocbfkpbpfaaGreatDoorMshapes
namespace Go.Proofs.YtkhmocbfkpbpfaaGreatDoor
open Go.RowKit

def gsV : ByteArray := ⟨([86] : Bs).toArray⟩
theorem gmV : (bl gsV).count 118 = 0 := by kernel_rfl
theorem gbV_87 : hasC gsV 87 = false := by kernel_rfl
theorem gbV_119 : hasC gsV 119 = false := by kernel_rfl
theorem gbV_99 : hasC gsV 99 = false := by kernel_rfl
theorem gbV_100 : hasC gsV 100 = false := by kernel_rfl
theorem gbV_101 : hasC gsV 101 = false := by kernel_rfl
theorem gbV_107 : hasC gsV 107 = false := by kernel_rfl
theorem gbV_114 : hasC gsV 114 = false := by kernel_rfl

def gsVW : ByteArray := ⟨([86, 87] : Bs).toArray⟩
theorem gmVW : (bl gsVW).count 118 = 0 := by kernel_rfl
theorem gbVW_87 : hasC gsVW 87 = true := by kernel_rfl
theorem gbVW_119 : hasC gsVW 119 = false := by kernel_rfl
theorem gbVW_99 : hasC gsVW 99 = false := by kernel_rfl
theorem gbVW_100 : hasC gsVW 100 = false := by kernel_rfl
theorem gbVW_101 : hasC gsVW 101 = false := by kernel_rfl
theorem gbVW_107 : hasC gsVW 107 = false := by kernel_rfl
theorem gbVW_114 : hasC gsVW 114 = false := by kernel_rfl

def gsVcde : ByteArray := ⟨([86, 99, 100, 101] : Bs).toArray⟩
theorem gmVcde : (bl gsVcde).count 118 = 0 := by kernel_rfl
theorem gbVcde_87 : hasC gsVcde 87 = false := by kernel_rfl
theorem gbVcde_119 : hasC gsVcde 119 = false := by kernel_rfl
theorem gbVcde_99 : hasC gsVcde 99 = true := by kernel_rfl
theorem gbVcde_100 : hasC gsVcde 100 = true := by kernel_rfl
theorem gbVcde_101 : hasC gsVcde 101 = true := by kernel_rfl
theorem gbVcde_107 : hasC gsVcde 107 = false := by kernel_rfl
theorem gbVcde_114 : hasC gsVcde 114 = false := by kernel_rfl

def gsVcdk : ByteArray := ⟨([86, 99, 100, 107] : Bs).toArray⟩
theorem gmVcdk : (bl gsVcdk).count 118 = 0 := by kernel_rfl
theorem gbVcdk_87 : hasC gsVcdk 87 = false := by kernel_rfl
theorem gbVcdk_119 : hasC gsVcdk 119 = false := by kernel_rfl
theorem gbVcdk_99 : hasC gsVcdk 99 = true := by kernel_rfl
theorem gbVcdk_100 : hasC gsVcdk 100 = true := by kernel_rfl
theorem gbVcdk_101 : hasC gsVcdk 101 = false := by kernel_rfl
theorem gbVcdk_107 : hasC gsVcdk 107 = true := by kernel_rfl
theorem gbVcdk_114 : hasC gsVcdk 114 = false := by kernel_rfl

def gsVr : ByteArray := ⟨([86, 114] : Bs).toArray⟩
theorem gmVr : (bl gsVr).count 118 = 0 := by kernel_rfl
theorem gbVr_87 : hasC gsVr 87 = false := by kernel_rfl
theorem gbVr_119 : hasC gsVr 119 = false := by kernel_rfl
theorem gbVr_99 : hasC gsVr 99 = false := by kernel_rfl
theorem gbVr_100 : hasC gsVr 100 = false := by kernel_rfl
theorem gbVr_101 : hasC gsVr 101 = false := by kernel_rfl
theorem gbVr_107 : hasC gsVr 107 = false := by kernel_rfl
theorem gbVr_114 : hasC gsVr 114 = true := by kernel_rfl

def gscVk : ByteArray := ⟨([99, 86, 107] : Bs).toArray⟩
theorem gmcVk : (bl gscVk).count 118 = 0 := by kernel_rfl
theorem gbcVk_87 : hasC gscVk 87 = false := by kernel_rfl
theorem gbcVk_119 : hasC gscVk 119 = false := by kernel_rfl
theorem gbcVk_99 : hasC gscVk 99 = true := by kernel_rfl
theorem gbcVk_100 : hasC gscVk 100 = false := by kernel_rfl
theorem gbcVk_101 : hasC gscVk 101 = false := by kernel_rfl
theorem gbcVk_107 : hasC gscVk 107 = true := by kernel_rfl
theorem gbcVk_114 : hasC gscVk 114 = false := by kernel_rfl

def gscVkw : ByteArray := ⟨([99, 86, 107, 119] : Bs).toArray⟩
theorem gmcVkw : (bl gscVkw).count 118 = 0 := by kernel_rfl
theorem gbcVkw_87 : hasC gscVkw 87 = false := by kernel_rfl
theorem gbcVkw_119 : hasC gscVkw 119 = true := by kernel_rfl
theorem gbcVkw_99 : hasC gscVkw 99 = true := by kernel_rfl
theorem gbcVkw_100 : hasC gscVkw 100 = false := by kernel_rfl
theorem gbcVkw_101 : hasC gscVkw 101 = false := by kernel_rfl
theorem gbcVkw_107 : hasC gscVkw 107 = true := by kernel_rfl
theorem gbcVkw_114 : hasC gscVkw 114 = false := by kernel_rfl

def gsvcv : ByteArray := ⟨([118, 99, 118] : Bs).toArray⟩
theorem gmvcv : (bl gsvcv).count 118 = 2 := by kernel_rfl
theorem gbvcv_87 : hasC gsvcv 87 = false := by kernel_rfl
theorem gbvcv_119 : hasC gsvcv 119 = false := by kernel_rfl
theorem gbvcv_99 : hasC gsvcv 99 = true := by kernel_rfl
theorem gbvcv_100 : hasC gsvcv 100 = false := by kernel_rfl
theorem gbvcv_101 : hasC gsvcv 101 = false := by kernel_rfl
theorem gbvcv_107 : hasC gsvcv 107 = false := by kernel_rfl
theorem gbvcv_114 : hasC gsvcv 114 = false := by kernel_rfl

def gsvkw : ByteArray := ⟨([118, 107, 119] : Bs).toArray⟩
theorem gmvkw : (bl gsvkw).count 118 = 1 := by kernel_rfl
theorem gbvkw_87 : hasC gsvkw 87 = false := by kernel_rfl
theorem gbvkw_119 : hasC gsvkw 119 = true := by kernel_rfl
theorem gbvkw_99 : hasC gsvkw 99 = false := by kernel_rfl
theorem gbvkw_100 : hasC gsvkw 100 = false := by kernel_rfl
theorem gbvkw_101 : hasC gsvkw 101 = false := by kernel_rfl
theorem gbvkw_107 : hasC gsvkw 107 = true := by kernel_rfl
theorem gbvkw_114 : hasC gsvkw 114 = false := by kernel_rfl

def gsvv : ByteArray := ⟨([118, 118] : Bs).toArray⟩
theorem gmvv : (bl gsvv).count 118 = 2 := by kernel_rfl
theorem gbvv_87 : hasC gsvv 87 = false := by kernel_rfl
theorem gbvv_119 : hasC gsvv 119 = false := by kernel_rfl
theorem gbvv_99 : hasC gsvv 99 = false := by kernel_rfl
theorem gbvv_100 : hasC gsvv 100 = false := by kernel_rfl
theorem gbvv_101 : hasC gsvv 101 = false := by kernel_rfl
theorem gbvv_107 : hasC gsvv 107 = false := by kernel_rfl
theorem gbvv_114 : hasC gsvv 114 = false := by kernel_rfl

def gsvvv : ByteArray := ⟨([118, 118, 118] : Bs).toArray⟩
theorem gmvvv : (bl gsvvv).count 118 = 3 := by kernel_rfl
theorem gbvvv_87 : hasC gsvvv 87 = false := by kernel_rfl
theorem gbvvv_119 : hasC gsvvv 119 = false := by kernel_rfl
theorem gbvvv_99 : hasC gsvvv 99 = false := by kernel_rfl
theorem gbvvv_100 : hasC gsvvv 100 = false := by kernel_rfl
theorem gbvvv_101 : hasC gsvvv 101 = false := by kernel_rfl
theorem gbvvv_107 : hasC gsvvv 107 = false := by kernel_rfl
theorem gbvvv_114 : hasC gsvvv 114 = false := by kernel_rfl

theorem size_1 (c : ConL) (h : c.kind = 1) : sizesB c ⟨(foundF (kindP c.kind)).1.shape.toArray⟩ = true ↔ (1 ≤ c.A.length ∧ c.A.length ≤ 64) ∧ (c.B.length = 0) ∧ (c.C.length = c.A.length) ∧ (c.D.length = 0) ∧ (c.E.length = 0) ∧ (c.rows.length = 0) ∧ (True) := by
  have hs : (⟨(foundF (kindP c.kind)).1.shape.toArray⟩ : ByteArray) = gscVk := by rw [h]; kernel_rfl
  rw [hs]
  unfold sizesB rowsB sizeA sizeB sizeC sizeL
  rw [gmcVk, gbcVk_87, gbcVk_119, gbcVk_99, gbcVk_100, gbcVk_101, gbcVk_107, gbcVk_114, h]
  unfold inS
  generalize c.rows.any (fun r => r.length != c.A.length) = ANY
  generalize c.A.length = a
  generalize c.B.length = b
  generalize c.C.length = lc
  generalize c.D.length = ld
  generalize c.E.length = le
  generalize c.rows.length = lr
  generalize c.K = kk
  clear h hs
  cases ANY <;> simp <;> omega

theorem size_2 (c : ConL) (h : c.kind = 2) : sizesB c ⟨(foundF (kindP c.kind)).1.shape.toArray⟩ = true ↔ (1 ≤ c.A.length ∧ c.A.length ≤ 64) ∧ (c.B.length = 0) ∧ (c.C.length = c.A.length) ∧ (c.D.length = 0) ∧ (c.E.length = 0) ∧ (c.rows.length = 0) ∧ (True) := by
  have hs : (⟨(foundF (kindP c.kind)).1.shape.toArray⟩ : ByteArray) = gscVk := by rw [h]; kernel_rfl
  rw [hs]
  unfold sizesB rowsB sizeA sizeB sizeC sizeL
  rw [gmcVk, gbcVk_87, gbcVk_119, gbcVk_99, gbcVk_100, gbcVk_101, gbcVk_107, gbcVk_114, h]
  unfold inS
  generalize c.rows.any (fun r => r.length != c.A.length) = ANY
  generalize c.A.length = a
  generalize c.B.length = b
  generalize c.C.length = lc
  generalize c.D.length = ld
  generalize c.E.length = le
  generalize c.rows.length = lr
  generalize c.K = kk
  clear h hs
  cases ANY <;> simp <;> omega

theorem size_3 (c : ConL) (h : c.kind = 3) : sizesB c ⟨(foundF (kindP c.kind)).1.shape.toArray⟩ = true ↔ (1 ≤ c.A.length ∧ c.A.length ≤ 64) ∧ (c.B.length = 0) ∧ (c.C.length = c.A.length) ∧ (c.D.length = 0) ∧ (c.E.length = 0) ∧ (c.rows.length = 0) ∧ (True) := by
  have hs : (⟨(foundF (kindP c.kind)).1.shape.toArray⟩ : ByteArray) = gscVk := by rw [h]; kernel_rfl
  rw [hs]
  unfold sizesB rowsB sizeA sizeB sizeC sizeL
  rw [gmcVk, gbcVk_87, gbcVk_119, gbcVk_99, gbcVk_100, gbcVk_101, gbcVk_107, gbcVk_114, h]
  unfold inS
  generalize c.rows.any (fun r => r.length != c.A.length) = ANY
  generalize c.A.length = a
  generalize c.B.length = b
  generalize c.C.length = lc
  generalize c.D.length = ld
  generalize c.E.length = le
  generalize c.rows.length = lr
  generalize c.K = kk
  clear h hs
  cases ANY <;> simp <;> omega

theorem size_4 (c : ConL) (h : c.kind = 4) : sizesB c ⟨(foundF (kindP c.kind)).1.shape.toArray⟩ = true ↔ (1 ≤ c.A.length ∧ c.A.length ≤ 64) ∧ (c.B.length = 1) ∧ (c.C.length = c.A.length) ∧ (c.D.length = 0) ∧ (c.E.length = 0) ∧ (c.rows.length = 0) ∧ (True) := by
  have hs : (⟨(foundF (kindP c.kind)).1.shape.toArray⟩ : ByteArray) = gscVkw := by rw [h]; kernel_rfl
  rw [hs]
  unfold sizesB rowsB sizeA sizeB sizeC sizeL
  rw [gmcVkw, gbcVkw_87, gbcVkw_119, gbcVkw_99, gbcVkw_100, gbcVkw_101, gbcVkw_107, gbcVkw_114, h]
  unfold inS
  generalize c.rows.any (fun r => r.length != c.A.length) = ANY
  generalize c.A.length = a
  generalize c.B.length = b
  generalize c.C.length = lc
  generalize c.D.length = ld
  generalize c.E.length = le
  generalize c.rows.length = lr
  generalize c.K = kk
  clear h hs
  cases ANY <;> simp <;> omega

theorem size_5 (c : ConL) (h : c.kind = 5) : sizesB c ⟨(foundF (kindP c.kind)).1.shape.toArray⟩ = true ↔ (c.A.length = 3) ∧ (c.B.length = 0) ∧ (c.C.length = 0) ∧ (c.D.length = 0) ∧ (c.E.length = 0) ∧ (c.rows.length = 0) ∧ (c.K = 0) := by
  have hs : (⟨(foundF (kindP c.kind)).1.shape.toArray⟩ : ByteArray) = gsvvv := by rw [h]; kernel_rfl
  rw [hs]
  unfold sizesB rowsB sizeA sizeB sizeC sizeL
  rw [gmvvv, gbvvv_87, gbvvv_119, gbvvv_99, gbvvv_100, gbvvv_101, gbvvv_107, gbvvv_114, h]
  unfold inS
  generalize c.rows.any (fun r => r.length != c.A.length) = ANY
  generalize c.A.length = a
  generalize c.B.length = b
  generalize c.C.length = lc
  generalize c.D.length = ld
  generalize c.E.length = le
  generalize c.rows.length = lr
  generalize c.K = kk
  clear h hs
  cases ANY <;> simp <;> omega

theorem size_6 (c : ConL) (h : c.kind = 6) : sizesB c ⟨(foundF (kindP c.kind)).1.shape.toArray⟩ = true ↔ (c.A.length = 3) ∧ (c.B.length = 0) ∧ (c.C.length = 0) ∧ (c.D.length = 0) ∧ (c.E.length = 0) ∧ (c.rows.length = 0) ∧ (c.K = 0) := by
  have hs : (⟨(foundF (kindP c.kind)).1.shape.toArray⟩ : ByteArray) = gsvvv := by rw [h]; kernel_rfl
  rw [hs]
  unfold sizesB rowsB sizeA sizeB sizeC sizeL
  rw [gmvvv, gbvvv_87, gbvvv_119, gbvvv_99, gbvvv_100, gbvvv_101, gbvvv_107, gbvvv_114, h]
  unfold inS
  generalize c.rows.any (fun r => r.length != c.A.length) = ANY
  generalize c.A.length = a
  generalize c.B.length = b
  generalize c.C.length = lc
  generalize c.D.length = ld
  generalize c.E.length = le
  generalize c.rows.length = lr
  generalize c.K = kk
  clear h hs
  cases ANY <;> simp <;> omega

theorem size_7 (c : ConL) (h : c.kind = 7) : sizesB c ⟨(foundF (kindP c.kind)).1.shape.toArray⟩ = true ↔ (c.A.length = 3) ∧ (c.B.length = 0) ∧ (c.C.length = 0) ∧ (c.D.length = 0) ∧ (c.E.length = 0) ∧ (c.rows.length = 0) ∧ (c.K = 0) := by
  have hs : (⟨(foundF (kindP c.kind)).1.shape.toArray⟩ : ByteArray) = gsvvv := by rw [h]; kernel_rfl
  rw [hs]
  unfold sizesB rowsB sizeA sizeB sizeC sizeL
  rw [gmvvv, gbvvv_87, gbvvv_119, gbvvv_99, gbvvv_100, gbvvv_101, gbvvv_107, gbvvv_114, h]
  unfold inS
  generalize c.rows.any (fun r => r.length != c.A.length) = ANY
  generalize c.A.length = a
  generalize c.B.length = b
  generalize c.C.length = lc
  generalize c.D.length = ld
  generalize c.E.length = le
  generalize c.rows.length = lr
  generalize c.K = kk
  clear h hs
  cases ANY <;> simp <;> omega

theorem size_8 (c : ConL) (h : c.kind = 8) : sizesB c ⟨(foundF (kindP c.kind)).1.shape.toArray⟩ = true ↔ (c.A.length = 2) ∧ (c.B.length = 0) ∧ (c.C.length = 0) ∧ (c.D.length = 0) ∧ (c.E.length = 0) ∧ (c.rows.length = 0) ∧ (c.K = 0) := by
  have hs : (⟨(foundF (kindP c.kind)).1.shape.toArray⟩ : ByteArray) = gsvv := by rw [h]; kernel_rfl
  rw [hs]
  unfold sizesB rowsB sizeA sizeB sizeC sizeL
  rw [gmvv, gbvv_87, gbvv_119, gbvv_99, gbvv_100, gbvv_101, gbvv_107, gbvv_114, h]
  unfold inS
  generalize c.rows.any (fun r => r.length != c.A.length) = ANY
  generalize c.A.length = a
  generalize c.B.length = b
  generalize c.C.length = lc
  generalize c.D.length = ld
  generalize c.E.length = le
  generalize c.rows.length = lr
  generalize c.K = kk
  clear h hs
  cases ANY <;> simp <;> omega

theorem size_9 (c : ConL) (h : c.kind = 9) : sizesB c ⟨(foundF (kindP c.kind)).1.shape.toArray⟩ = true ↔ (c.A.length = 3) ∧ (c.B.length = 0) ∧ (c.C.length = 0) ∧ (c.D.length = 0) ∧ (c.E.length = 0) ∧ (c.rows.length = 0) ∧ (c.K = 0) := by
  have hs : (⟨(foundF (kindP c.kind)).1.shape.toArray⟩ : ByteArray) = gsvvv := by rw [h]; kernel_rfl
  rw [hs]
  unfold sizesB rowsB sizeA sizeB sizeC sizeL
  rw [gmvvv, gbvvv_87, gbvvv_119, gbvvv_99, gbvvv_100, gbvvv_101, gbvvv_107, gbvvv_114, h]
  unfold inS
  generalize c.rows.any (fun r => r.length != c.A.length) = ANY
  generalize c.A.length = a
  generalize c.B.length = b
  generalize c.C.length = lc
  generalize c.D.length = ld
  generalize c.E.length = le
  generalize c.rows.length = lr
  generalize c.K = kk
  clear h hs
  cases ANY <;> simp <;> omega

theorem size_10 (c : ConL) (h : c.kind = 10) : sizesB c ⟨(foundF (kindP c.kind)).1.shape.toArray⟩ = true ↔ (c.A.length = 3) ∧ (c.B.length = 0) ∧ (c.C.length = 0) ∧ (c.D.length = 0) ∧ (c.E.length = 0) ∧ (c.rows.length = 0) ∧ (c.K = 0) := by
  have hs : (⟨(foundF (kindP c.kind)).1.shape.toArray⟩ : ByteArray) = gsvvv := by rw [h]; kernel_rfl
  rw [hs]
  unfold sizesB rowsB sizeA sizeB sizeC sizeL
  rw [gmvvv, gbvvv_87, gbvvv_119, gbvvv_99, gbvvv_100, gbvvv_101, gbvvv_107, gbvvv_114, h]
  unfold inS
  generalize c.rows.any (fun r => r.length != c.A.length) = ANY
  generalize c.A.length = a
  generalize c.B.length = b
  generalize c.C.length = lc
  generalize c.D.length = ld
  generalize c.E.length = le
  generalize c.rows.length = lr
  generalize c.K = kk
  clear h hs
  cases ANY <;> simp <;> omega

theorem size_11 (c : ConL) (h : c.kind = 11) : sizesB c ⟨(foundF (kindP c.kind)).1.shape.toArray⟩ = true ↔ (c.A.length = 2) ∧ (c.B.length = 0) ∧ (1 ≤ c.C.length ∧ c.C.length ≤ 64) ∧ (c.D.length = 0) ∧ (c.E.length = 0) ∧ (c.rows.length = 0) ∧ (c.K = 0) := by
  have hs : (⟨(foundF (kindP c.kind)).1.shape.toArray⟩ : ByteArray) = gsvcv := by rw [h]; kernel_rfl
  rw [hs]
  unfold sizesB rowsB sizeA sizeB sizeC sizeL
  rw [gmvcv, gbvcv_87, gbvcv_119, gbvcv_99, gbvcv_100, gbvcv_101, gbvcv_107, gbvcv_114, h]
  unfold inS
  generalize c.rows.any (fun r => r.length != c.A.length) = ANY
  generalize c.A.length = a
  generalize c.B.length = b
  generalize c.C.length = lc
  generalize c.D.length = ld
  generalize c.E.length = le
  generalize c.rows.length = lr
  generalize c.K = kk
  clear h hs
  cases ANY <;> simp <;> omega

theorem size_12 (c : ConL) (h : c.kind = 12) : sizesB c ⟨(foundF (kindP c.kind)).1.shape.toArray⟩ = true ↔ (c.A.length ≤ 64) ∧ (1 ≤ c.A.length + c.B.length ∧ c.B.length ≤ 64) ∧ (c.C.length = 0) ∧ (c.D.length = 0) ∧ (c.E.length = 0) ∧ (c.rows.length = 0) ∧ (c.K = 0) := by
  have hs : (⟨(foundF (kindP c.kind)).1.shape.toArray⟩ : ByteArray) = gsVW := by rw [h]; kernel_rfl
  rw [hs]
  unfold sizesB rowsB sizeA sizeB sizeC sizeL
  rw [gmVW, gbVW_87, gbVW_119, gbVW_99, gbVW_100, gbVW_101, gbVW_107, gbVW_114, h]
  unfold inS
  generalize c.rows.any (fun r => r.length != c.A.length) = ANY
  generalize c.A.length = a
  generalize c.B.length = b
  generalize c.C.length = lc
  generalize c.D.length = ld
  generalize c.E.length = le
  generalize c.rows.length = lr
  generalize c.K = kk
  clear h hs
  cases ANY <;> simp <;> omega

theorem size_13 (c : ConL) (h : c.kind = 13) : sizesB c ⟨(foundF (kindP c.kind)).1.shape.toArray⟩ = true ↔ (c.A.length = 1) ∧ (c.B.length = 1) ∧ (c.C.length = 0) ∧ (c.D.length = 0) ∧ (c.E.length = 0) ∧ (c.rows.length = 0) ∧ (True) := by
  have hs : (⟨(foundF (kindP c.kind)).1.shape.toArray⟩ : ByteArray) = gsvkw := by rw [h]; kernel_rfl
  rw [hs]
  unfold sizesB rowsB sizeA sizeB sizeC sizeL
  rw [gmvkw, gbvkw_87, gbvkw_119, gbvkw_99, gbvkw_100, gbvkw_101, gbvkw_107, gbvkw_114, h]
  unfold inS
  generalize c.rows.any (fun r => r.length != c.A.length) = ANY
  generalize c.A.length = a
  generalize c.B.length = b
  generalize c.C.length = lc
  generalize c.D.length = ld
  generalize c.E.length = le
  generalize c.rows.length = lr
  generalize c.K = kk
  clear h hs
  cases ANY <;> simp <;> omega

theorem size_14 (c : ConL) (h : c.kind = 14) : sizesB c ⟨(foundF (kindP c.kind)).1.shape.toArray⟩ = true ↔ (c.A.length = 1) ∧ (c.B.length = 1) ∧ (c.C.length = 0) ∧ (c.D.length = 0) ∧ (c.E.length = 0) ∧ (c.rows.length = 0) ∧ (True) := by
  have hs : (⟨(foundF (kindP c.kind)).1.shape.toArray⟩ : ByteArray) = gsvkw := by rw [h]; kernel_rfl
  rw [hs]
  unfold sizesB rowsB sizeA sizeB sizeC sizeL
  rw [gmvkw, gbvkw_87, gbvkw_119, gbvkw_99, gbvkw_100, gbvkw_101, gbvkw_107, gbvkw_114, h]
  unfold inS
  generalize c.rows.any (fun r => r.length != c.A.length) = ANY
  generalize c.A.length = a
  generalize c.B.length = b
  generalize c.C.length = lc
  generalize c.D.length = ld
  generalize c.E.length = le
  generalize c.rows.length = lr
  generalize c.K = kk
  clear h hs
  cases ANY <;> simp <;> omega

theorem size_15 (c : ConL) (h : c.kind = 15) : sizesB c ⟨(foundF (kindP c.kind)).1.shape.toArray⟩ = true ↔ (c.A.length = 1) ∧ (c.B.length = 1) ∧ (c.C.length = 0) ∧ (c.D.length = 0) ∧ (c.E.length = 0) ∧ (c.rows.length = 0) ∧ (True) := by
  have hs : (⟨(foundF (kindP c.kind)).1.shape.toArray⟩ : ByteArray) = gsvkw := by rw [h]; kernel_rfl
  rw [hs]
  unfold sizesB rowsB sizeA sizeB sizeC sizeL
  rw [gmvkw, gbvkw_87, gbvkw_119, gbvkw_99, gbvkw_100, gbvkw_101, gbvkw_107, gbvkw_114, h]
  unfold inS
  generalize c.rows.any (fun r => r.length != c.A.length) = ANY
  generalize c.A.length = a
  generalize c.B.length = b
  generalize c.C.length = lc
  generalize c.D.length = ld
  generalize c.E.length = le
  generalize c.rows.length = lr
  generalize c.K = kk
  clear h hs
  cases ANY <;> simp <;> omega

theorem size_16 (c : ConL) (h : c.kind = 16) : sizesB c ⟨(foundF (kindP c.kind)).1.shape.toArray⟩ = true ↔ (c.A.length = 1) ∧ (c.B.length = 1) ∧ (c.C.length = 0) ∧ (c.D.length = 0) ∧ (c.E.length = 0) ∧ (c.rows.length = 0) ∧ (True) := by
  have hs : (⟨(foundF (kindP c.kind)).1.shape.toArray⟩ : ByteArray) = gsvkw := by rw [h]; kernel_rfl
  rw [hs]
  unfold sizesB rowsB sizeA sizeB sizeC sizeL
  rw [gmvkw, gbvkw_87, gbvkw_119, gbvkw_99, gbvkw_100, gbvkw_101, gbvkw_107, gbvkw_114, h]
  unfold inS
  generalize c.rows.any (fun r => r.length != c.A.length) = ANY
  generalize c.A.length = a
  generalize c.B.length = b
  generalize c.C.length = lc
  generalize c.D.length = ld
  generalize c.E.length = le
  generalize c.rows.length = lr
  generalize c.K = kk
  clear h hs
  cases ANY <;> simp <;> omega

theorem size_17 (c : ConL) (h : c.kind = 17) : sizesB c ⟨(foundF (kindP c.kind)).1.shape.toArray⟩ = true ↔ (1 ≤ c.A.length ∧ c.A.length ≤ 64) ∧ (c.B.length = 0) ∧ (c.C.length = 0) ∧ (c.D.length = 0) ∧ (c.E.length = 0) ∧ (c.rows.length = 0) ∧ (c.K = 0) := by
  have hs : (⟨(foundF (kindP c.kind)).1.shape.toArray⟩ : ByteArray) = gsV := by rw [h]; kernel_rfl
  rw [hs]
  unfold sizesB rowsB sizeA sizeB sizeC sizeL
  rw [gmV, gbV_87, gbV_119, gbV_99, gbV_100, gbV_101, gbV_107, gbV_114, h]
  unfold inS
  generalize c.rows.any (fun r => r.length != c.A.length) = ANY
  generalize c.A.length = a
  generalize c.B.length = b
  generalize c.C.length = lc
  generalize c.D.length = ld
  generalize c.E.length = le
  generalize c.rows.length = lr
  generalize c.K = kk
  clear h hs
  cases ANY <;> simp <;> omega

theorem size_18 (c : ConL) (h : c.kind = 18) : sizesB c ⟨(foundF (kindP c.kind)).1.shape.toArray⟩ = true ↔ (1 ≤ c.A.length ∧ c.A.length ≤ 64) ∧ (c.B.length = 0) ∧ (c.C.length = 0) ∧ (c.D.length = 0) ∧ (c.E.length = 0) ∧ (1 ≤ c.rows.length ∧ c.rows.length ≤ 1024 ∧ c.rows.any (fun r => r.length != c.A.length) = false) ∧ (c.K = 0) := by
  have hs : (⟨(foundF (kindP c.kind)).1.shape.toArray⟩ : ByteArray) = gsVr := by rw [h]; kernel_rfl
  rw [hs]
  unfold sizesB rowsB sizeA sizeB sizeC sizeL
  rw [gmVr, gbVr_87, gbVr_119, gbVr_99, gbVr_100, gbVr_101, gbVr_107, gbVr_114, h]
  unfold inS
  generalize c.rows.any (fun r => r.length != c.A.length) = ANY
  generalize c.A.length = a
  generalize c.B.length = b
  generalize c.C.length = lc
  generalize c.D.length = ld
  generalize c.E.length = le
  generalize c.rows.length = lr
  generalize c.K = kk
  clear h hs
  cases ANY <;> simp <;> omega

theorem size_19 (c : ConL) (h : c.kind = 19) : sizesB c ⟨(foundF (kindP c.kind)).1.shape.toArray⟩ = true ↔ (1 ≤ c.A.length ∧ c.A.length ≤ 64) ∧ (c.B.length = 0) ∧ (c.C.length = c.A.length) ∧ (c.D.length = c.C.length) ∧ (c.E.length = 0) ∧ (c.rows.length = 0) ∧ (True) := by
  have hs : (⟨(foundF (kindP c.kind)).1.shape.toArray⟩ : ByteArray) = gsVcdk := by rw [h]; kernel_rfl
  rw [hs]
  unfold sizesB rowsB sizeA sizeB sizeC sizeL
  rw [gmVcdk, gbVcdk_87, gbVcdk_119, gbVcdk_99, gbVcdk_100, gbVcdk_101, gbVcdk_107, gbVcdk_114, h]
  unfold inS
  generalize c.rows.any (fun r => r.length != c.A.length) = ANY
  generalize c.A.length = a
  generalize c.B.length = b
  generalize c.C.length = lc
  generalize c.D.length = ld
  generalize c.E.length = le
  generalize c.rows.length = lr
  generalize c.K = kk
  clear h hs
  cases ANY <;> simp <;> omega

theorem size_20 (c : ConL) (h : c.kind = 20) : sizesB c ⟨(foundF (kindP c.kind)).1.shape.toArray⟩ = true ↔ (1 ≤ c.A.length ∧ c.A.length ≤ 64) ∧ (c.B.length = 0) ∧ (c.C.length = 0) ∧ (c.D.length = 0) ∧ (c.E.length = 0) ∧ (c.rows.length = 0) ∧ (c.K = 0) := by
  have hs : (⟨(foundF (kindP c.kind)).1.shape.toArray⟩ : ByteArray) = gsV := by rw [h]; kernel_rfl
  rw [hs]
  unfold sizesB rowsB sizeA sizeB sizeC sizeL
  rw [gmV, gbV_87, gbV_119, gbV_99, gbV_100, gbV_101, gbV_107, gbV_114, h]
  unfold inS
  generalize c.rows.any (fun r => r.length != c.A.length) = ANY
  generalize c.A.length = a
  generalize c.B.length = b
  generalize c.C.length = lc
  generalize c.D.length = ld
  generalize c.E.length = le
  generalize c.rows.length = lr
  generalize c.K = kk
  clear h hs
  cases ANY <;> simp <;> omega

theorem size_21 (c : ConL) (h : c.kind = 21) : sizesB c ⟨(foundF (kindP c.kind)).1.shape.toArray⟩ = true ↔ (1 ≤ c.A.length ∧ c.A.length ≤ 64) ∧ (c.B.length = 0) ∧ (1 ≤ c.C.length ∧ c.C.length ≤ 64) ∧ (c.D.length = c.C.length) ∧ (c.E.length = c.C.length) ∧ (c.rows.length = 0) ∧ (c.K = 0) := by
  have hs : (⟨(foundF (kindP c.kind)).1.shape.toArray⟩ : ByteArray) = gsVcde := by rw [h]; kernel_rfl
  rw [hs]
  unfold sizesB rowsB sizeA sizeB sizeC sizeL
  rw [gmVcde, gbVcde_87, gbVcde_119, gbVcde_99, gbVcde_100, gbVcde_101, gbVcde_107, gbVcde_114, h]
  unfold inS
  generalize c.rows.any (fun r => r.length != c.A.length) = ANY
  generalize c.A.length = a
  generalize c.B.length = b
  generalize c.C.length = lc
  generalize c.D.length = ld
  generalize c.E.length = le
  generalize c.rows.length = lr
  generalize c.K = kk
  clear h hs
  cases ANY <;> simp <;> omega

theorem size_22 (c : ConL) (h : c.kind = 22) : sizesB c ⟨(foundF (kindP c.kind)).1.shape.toArray⟩ = true ↔ (1 ≤ c.A.length ∧ c.A.length ≤ 64) ∧ (c.B.length = c.A.length) ∧ (c.C.length = 0) ∧ (c.D.length = 0) ∧ (c.E.length = 0) ∧ (c.rows.length = 0) ∧ (c.K = 0) := by
  have hs : (⟨(foundF (kindP c.kind)).1.shape.toArray⟩ : ByteArray) = gsVW := by rw [h]; kernel_rfl
  rw [hs]
  unfold sizesB rowsB sizeA sizeB sizeC sizeL
  rw [gmVW, gbVW_87, gbVW_119, gbVW_99, gbVW_100, gbVW_101, gbVW_107, gbVW_114, h]
  unfold inS
  generalize c.rows.any (fun r => r.length != c.A.length) = ANY
  generalize c.A.length = a
  generalize c.B.length = b
  generalize c.C.length = lc
  generalize c.D.length = ld
  generalize c.E.length = le
  generalize c.rows.length = lr
  generalize c.K = kk
  clear h hs
  cases ANY <;> simp <;> omega

theorem size_23 (c : ConL) (h : c.kind = 23) : sizesB c ⟨(foundF (kindP c.kind)).1.shape.toArray⟩ = true ↔ (1 ≤ c.A.length ∧ c.A.length ≤ 64) ∧ (c.B.length = c.A.length) ∧ (c.C.length = 0) ∧ (c.D.length = 0) ∧ (c.E.length = 0) ∧ (c.rows.length = 0) ∧ (c.K = 0) := by
  have hs : (⟨(foundF (kindP c.kind)).1.shape.toArray⟩ : ByteArray) = gsVW := by rw [h]; kernel_rfl
  rw [hs]
  unfold sizesB rowsB sizeA sizeB sizeC sizeL
  rw [gmVW, gbVW_87, gbVW_119, gbVW_99, gbVW_100, gbVW_101, gbVW_107, gbVW_114, h]
  unfold inS
  generalize c.rows.any (fun r => r.length != c.A.length) = ANY
  generalize c.A.length = a
  generalize c.B.length = b
  generalize c.C.length = lc
  generalize c.D.length = ld
  generalize c.E.length = le
  generalize c.rows.length = lr
  generalize c.K = kk
  clear h hs
  cases ANY <;> simp <;> omega

theorem g_in {l : List Int} {lo hi : Int} (h : l.any (outB lo hi) = false) : ∀ v ∈ l, lo ≤ v ∧ v ≤ hi := by
  intro v hv
  have := List.any_eq_false.1 h v hv
  unfold outB at this
  simp only [Bool.or_eq_true, decide_eq_true_eq, not_or] at this
  omega
theorem g_place {l : List Int} {n : Nat} (h : l.any (outV (n : Int)) = false) : ∀ v ∈ l, 0 ≤ v ∧ v < (n : Int) := by
  intro v hv
  have := List.any_eq_false.1 h v hv
  unfold outV at this
  simp only [Bool.or_eq_true, decide_eq_true_eq, not_or] at this
  omega
theorem gfound_out {k : Int} (h : k < 1 ∨ 23 < k) : (foundF (kindP k)).2 = false := by
  unfold foundF
  have : ents.find? (kindP k) = none := by
    rw [List.find?_eq_none]
    intro e he
    have hall : ∀ e ∈ ents, 1 ≤ e.k ∧ e.k ≤ 23 := by
      have : ents.all (fun e => decide (1 ≤ e.k) && decide (e.k ≤ 23)) = true := by kernel_rfl
      intro e he
      have := List.all_eq_true.1 this e he
      simpa using this
    have := hall e he
    unfold kindP
    simp
    omega
  rw [this]
/-- The four parts of what Right asks. -/
theorem right_parts {c : ConL} {n : Int} (h : rightE c n = 0) : 1 ≤ c.kind ∧ c.kind ≤ 23 ∧ sizesB c ⟨(foundF (kindP c.kind)).1.shape.toArray⟩ = true ∧ c.A.any (outV n) = false ∧ c.B.any (outV n) = false ∧ numsB c = true := by
  unfold rightE at h
  split at h
  · cases h
  · next h1 =>
    split at h
    · cases h
    · next h2 =>
      split at h
      · cases h
      · next h3 =>
        split at h
        · cases h
        · next h4 =>
          have h3' : c.A.any (outV n) = false ∧ c.B.any (outV n) = false := by simpa using h3
          have hk : ¬ (c.kind < 1 ∨ 23 < c.kind) := fun q => h1 (gfound_out q)
          exact ⟨by omega, by omega, by simpa using h2, h3'.1, h3'.2, by simpa using h4⟩
theorem con_r {n : Nat} {c : ConL} (h : rightE c (n : Int) = 0) : ConR n c := by
  obtain ⟨k1, k2, hs, ha, hb, hn⟩ := right_parts h
  unfold numsB at hn
  simp only [Bool.and_eq_true, Bool.not_eq_true'] at hn
  obtain ⟨⟨⟨⟨⟨n1, n2⟩, n3⟩, n4⟩, n5⟩, -⟩ := hn
  have p1 := g_place ha
  have p2 := g_place hb
  have p3 : ∀ v ∈ c.C, -1000000 ≤ v ∧ v ≤ 1000000 := fun v hv => by
    have := g_in n1 v hv
    unfold lowC at this
    split at this <;> omega
  have p4 := g_in n2
  clear n1 n2 n3 n4 n5 ha hb h
  have hk : c.kind = 1 ∨ c.kind = 2 ∨ c.kind = 3 ∨ c.kind = 4 ∨ c.kind = 5 ∨ c.kind = 6 ∨ c.kind = 7 ∨ c.kind = 8 ∨ c.kind = 9 ∨ c.kind = 10 ∨ c.kind = 11 ∨ c.kind = 12 ∨ c.kind = 13 ∨ c.kind = 14 ∨ c.kind = 15 ∨ c.kind = 16 ∨ c.kind = 17 ∨ c.kind = 18 ∨ c.kind = 19 ∨ c.kind = 20 ∨ c.kind = 21 ∨ c.kind = 22 ∨ c.kind = 23 := by omega
  rcases hk with hk | hk | hk | hk | hk | hk | hk | hk | hk | hk | hk | hk | hk | hk | hk | hk | hk | hk | hk | hk | hk | hk | hk
  · rw [size_1 c hk] at hs
    exact ⟨k1, k2, p1, p2, p3, p4, by omega, by omega, by omega, by omega, by omega, by omega, by omega, by omega, by omega, by omega, by omega, by omega, by omega, fun q => by omega⟩
  · rw [size_2 c hk] at hs
    exact ⟨k1, k2, p1, p2, p3, p4, by omega, by omega, by omega, by omega, by omega, by omega, by omega, by omega, by omega, by omega, by omega, by omega, by omega, fun q => by omega⟩
  · rw [size_3 c hk] at hs
    exact ⟨k1, k2, p1, p2, p3, p4, by omega, by omega, by omega, by omega, by omega, by omega, by omega, by omega, by omega, by omega, by omega, by omega, by omega, fun q => by omega⟩
  · rw [size_4 c hk] at hs
    exact ⟨k1, k2, p1, p2, p3, p4, by omega, by omega, by omega, by omega, by omega, by omega, by omega, by omega, by omega, by omega, by omega, by omega, by omega, fun q => by omega⟩
  · rw [size_5 c hk] at hs
    exact ⟨k1, k2, p1, p2, p3, p4, by omega, by omega, by omega, by omega, by omega, by omega, by omega, by omega, by omega, by omega, by omega, by omega, by omega, fun q => by omega⟩
  · rw [size_6 c hk] at hs
    exact ⟨k1, k2, p1, p2, p3, p4, by omega, by omega, by omega, by omega, by omega, by omega, by omega, by omega, by omega, by omega, by omega, by omega, by omega, fun q => by omega⟩
  · rw [size_7 c hk] at hs
    exact ⟨k1, k2, p1, p2, p3, p4, by omega, by omega, by omega, by omega, by omega, by omega, by omega, by omega, by omega, by omega, by omega, by omega, by omega, fun q => by omega⟩
  · rw [size_8 c hk] at hs
    exact ⟨k1, k2, p1, p2, p3, p4, by omega, by omega, by omega, by omega, by omega, by omega, by omega, by omega, by omega, by omega, by omega, by omega, by omega, fun q => by omega⟩
  · rw [size_9 c hk] at hs
    exact ⟨k1, k2, p1, p2, p3, p4, by omega, by omega, by omega, by omega, by omega, by omega, by omega, by omega, by omega, by omega, by omega, by omega, by omega, fun q => by omega⟩
  · rw [size_10 c hk] at hs
    exact ⟨k1, k2, p1, p2, p3, p4, by omega, by omega, by omega, by omega, by omega, by omega, by omega, by omega, by omega, by omega, by omega, by omega, by omega, fun q => by omega⟩
  · rw [size_11 c hk] at hs
    exact ⟨k1, k2, p1, p2, p3, p4, by omega, by omega, by omega, by omega, by omega, by omega, by omega, by omega, by omega, by omega, by omega, by omega, by omega, fun q => by omega⟩
  · rw [size_12 c hk] at hs
    exact ⟨k1, k2, p1, p2, p3, p4, by omega, by omega, by omega, by omega, by omega, by omega, by omega, by omega, by omega, by omega, by omega, by omega, by omega, fun q => by omega⟩
  · rw [size_13 c hk] at hs
    exact ⟨k1, k2, p1, p2, p3, p4, by omega, by omega, by omega, by omega, by omega, by omega, by omega, by omega, by omega, by omega, by omega, by omega, by omega, fun q => by omega⟩
  · rw [size_14 c hk] at hs
    exact ⟨k1, k2, p1, p2, p3, p4, by omega, by omega, by omega, by omega, by omega, by omega, by omega, by omega, by omega, by omega, by omega, by omega, by omega, fun q => by omega⟩
  · rw [size_15 c hk] at hs
    exact ⟨k1, k2, p1, p2, p3, p4, by omega, by omega, by omega, by omega, by omega, by omega, by omega, by omega, by omega, by omega, by omega, by omega, by omega, fun q => by omega⟩
  · rw [size_16 c hk] at hs
    exact ⟨k1, k2, p1, p2, p3, p4, by omega, by omega, by omega, by omega, by omega, by omega, by omega, by omega, by omega, by omega, by omega, by omega, by omega, fun q => by omega⟩
  · rw [size_17 c hk] at hs
    exact ⟨k1, k2, p1, p2, p3, p4, by omega, by omega, by omega, by omega, by omega, by omega, by omega, by omega, by omega, by omega, by omega, by omega, by omega, fun q => by omega⟩
  · rw [size_18 c hk] at hs
    have hr : ∀ r ∈ c.rows, r.length = c.A.length := fun r hr => by
      have := List.any_eq_false.1 hs.2.2.2.2.2.1.2.2 r hr
      simpa using this
    exact ⟨k1, k2, p1, p2, p3, p4, by omega, by omega, by omega, by omega, by omega, by omega, by omega, by omega, by omega, by omega, by omega, by omega, by omega, fun _ => hr⟩
  · rw [size_19 c hk] at hs
    exact ⟨k1, k2, p1, p2, p3, p4, by omega, by omega, by omega, by omega, by omega, by omega, by omega, by omega, by omega, by omega, by omega, by omega, by omega, fun q => by omega⟩
  · rw [size_20 c hk] at hs
    exact ⟨k1, k2, p1, p2, p3, p4, by omega, by omega, by omega, by omega, by omega, by omega, by omega, by omega, by omega, by omega, by omega, by omega, by omega, fun q => by omega⟩
  · rw [size_21 c hk] at hs
    exact ⟨k1, k2, p1, p2, p3, p4, by omega, by omega, by omega, by omega, by omega, by omega, by omega, by omega, by omega, by omega, by omega, by omega, by omega, fun q => by omega⟩
  · rw [size_22 c hk] at hs
    exact ⟨k1, k2, p1, p2, p3, p4, by omega, by omega, by omega, by omega, by omega, by omega, by omega, by omega, by omega, by omega, by omega, by omega, by omega, fun q => by omega⟩
  · rw [size_23 c hk] at hs
    exact ⟨k1, k2, p1, p2, p3, p4, by omega, by omega, by omega, by omega, by omega, by omega, by omega, by omega, by omega, by omega, by omega, by omega, by omega, fun q => by omega⟩
end Go.Proofs.YtkhmocbfkpbpfaaGreatDoor
