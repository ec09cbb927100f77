/- A model that is parsed of a short text is printed in no very long one: pure. -/
import Derived.Test.YtgemgmdnnjaghaaGreatDoorTround2
import Derived.Test.YtgemgmdnnjaghaaGreatDoorPparse2
namespace Go.Proofs.YtgemgmdnnjaghaaGreatDoor
open Go.RowKit

def tot {α : Type} (f : α → Nat) : List α → Nat
  | [] => 0
  | a :: l => f a + tot f l
theorem tot_append {α : Type} (f : α → Nat) : ∀ a b : List α, tot f (a ++ b) = tot f a + tot f b
  | [], b => by simp [tot]
  | x :: a, b => by simp only [List.cons_append, tot, tot_append f a b]; omega
theorem tot_le {α : Type} (f : α → Nat) {l : List α} {x : α} (h : x ∈ l) : f x ≤ tot f l := by
  induction l with
  | nil => cases h
  | cons a l ih =>
    simp only [tot]
    rcases List.mem_cons.1 h with rfl | h
    · omega
    · have := ih h
      omega
theorem tot_one {α : Type} : ∀ l : List α, tot (fun _ => 1) l = l.length
  | [] => rfl
  | x :: l => by simp only [tot, tot_one l, List.length_cons]; omega
def wtC (c : ConL) : Nat := c.A.length + c.B.length + c.C.length + c.D.length + c.E.length + tot (fun r : List Int => r.length + 1) c.rows
def dwt (d : List Int) : Nat := if allB d = true then 0 else d.length
def wtM (m : ModL) : Nat := tot (fun c => wtC c + 1) m.cons + tot dwt m.doms

theorem take_c {en k : Nat} {ts r : List Tok} {t : Tok} (hk : k ≠ 0) (h : takeP en k ts = .ok (t, r)) : 1 + r.length ≤ ts.length := by
  obtain ⟨h1, h2, h3⟩ := take_len h
  cases ts with
  | nil => exact absurd h3.symm hk
  | cons a ts => rw [h1]; simp; omega
theorem want_c {en : Nat} {s : Bs} {ts r : List Tok} (hs : s ≠ []) (h : wantP en s ts = .ok r) : 1 + r.length ≤ ts.length := by
  obtain ⟨h1, h2⟩ := want_len h
  cases ts with
  | nil => exact absurd h2.symm hs
  | cons a ts => rw [h1]; simp; omega
def Costs {α : Type} (el : List Tok → PR α) (K : α → Nat) : Prop := ∀ ts x r, el ts = .ok (x, r) → K x + r.length ≤ ts.length
theorem num_c (en : Nat) : Costs (numP en) (fun _ => 1) := by
  intro ts x r h
  unfold numP at h
  split at h
  · cases h
  · next t r' e => injection h with h; injection h with h1 h2; subst h2; exact take_c (by decide) e
theorem place_c (en : Nat) (names : List Bs) : Costs (placeP en names) (fun _ => 1) := by
  intro ts x r h
  unfold placeP at h
  split at h
  · cases h
  · next t r' e =>
    split at h
    · injection h with h; injection h with h1 h2; subst h2; exact take_c (by decide) e
    · cases h
theorem tail_c {α : Type} {en : Nat} {last : Bs} {el : List Tok → PR α} {K : α → Nat} (he : Costs el K) : ∀ n, Costs (tailP en last el n) (tot K) := by
  intro n
  induction n with
  | zero =>
    intro ts x r h
    simp only [tailP] at h
    split at h
    · injection h with h; injection h with h1 h2; subst h1; subst h2; simp [tot]
    · cases h
  | succ n ih =>
    intro ts x r h
    simp only [tailP] at h
    split at h
    · injection h with h; injection h with h1 h2; subst h1; subst h2; simp [tot]
    · split at h
      · cases h
      · next r1 e1 =>
        split at h
        · cases h
        · next x2 r2 e2 =>
          split at h
          · cases h
          · next xs r3 e3 =>
            injection h with h; injection h with h1 h2; subst h1; subst h2
            have a := he _ _ _ e2
            have b := ih _ _ _ e3
            have c := want_c (by simp) e1
            simp only [tot]
            omega
theorem list_c {α : Type} {en : Nat} {first last : Bs} {el : List Tok → PR α} {K : α → Nat} (hf : first ≠ []) (he : Costs el K) : Costs (listP en first last el) (fun l => tot K l + 1) := by
  intro ts x r h
  unfold listP at h
  split at h
  · cases h
  · next r1 e1 =>
    have c := want_c hf e1
    split at h
    · injection h with h; injection h with h1 h2; subst h1; subst h2; simp [tot] at *; omega
    · split at h
      · cases h
      · next x2 r2 e2 =>
        split at h
        · cases h
        · next xs r3 e3 =>
          injection h with h; injection h with h1 h2; subst h1; subst h2
          have a := he _ _ _ e2
          have b := tail_c he _ _ _ _ e3
          simp only [tot]
          omega
theorem row_c (en : Nat) : Costs (rowP en) (fun l => l.length + 1) := by
  intro ts x r h
  have := list_c (first := [91]) (last := [93]) (by simp) (num_c en) ts x r h
  simp only [tot_one] at this
  exact this
theorem pl_c (en : Nat) (names : List Bs) : Costs (listP en [91] [93] (placeP en names)) (fun l => l.length + 1) := by
  intro ts x r h
  have := list_c (first := [91]) (last := [93]) (by simp) (place_c en names) ts x r h
  simp only [tot_one] at this
  exact this
theorem ptok_c {en : Nat} {names : List Bs} {b : Nat} {c c' : ConL} {ts r : List Tok} (h : partP en names b c ts = .ok (c', r)) : wtC c' + r.length ≤ wtC c + ts.length := by
  unfold partP at h
  split at h
  · split at h
    · cases h
    · next x r' e =>
      injection h with h; injection h with h1 h2; subst h1; subst h2
      have := place_c _ _ _ _ _ e
      simp [wtC] at *; omega
  split at h
  · split at h
    · cases h
    · next x r' e =>
      injection h with h; injection h with h1 h2; subst h1; subst h2
      have := place_c _ _ _ _ _ e
      simp [wtC] at *; omega
  split at h
  · split at h
    · cases h
    · next x r' e =>
      injection h with h; injection h with h1 h2; subst h1; subst h2
      have := pl_c _ _ _ _ _ e
      simp [wtC] at *; omega
  split at h
  · split at h
    · cases h
    · next x r' e =>
      injection h with h; injection h with h1 h2; subst h1; subst h2
      have := pl_c _ _ _ _ _ e
      simp [wtC] at *; omega
  split at h
  · split at h
    · cases h
    · next x r' e =>
      injection h with h; injection h with h1 h2; subst h1; subst h2
      have := row_c _ _ _ _ e
      simp [wtC] at *; omega
  split at h
  · split at h
    · cases h
    · next x r' e =>
      injection h with h; injection h with h1 h2; subst h1; subst h2
      have := row_c _ _ _ _ e
      simp [wtC] at *; omega
  split at h
  · split at h
    · cases h
    · next x r' e =>
      injection h with h; injection h with h1 h2; subst h1; subst h2
      have := row_c _ _ _ _ e
      simp [wtC] at *; omega
  split at h
  · split at h
    · cases h
    · next x r' e =>
      injection h with h; injection h with h1 h2; subst h1; subst h2
      have := num_c _ _ _ _ e
      simp [wtC] at *; omega
  split at h
  · split at h
    · cases h
    · next x r' e =>
      injection h with h; injection h with h1 h2; subst h1; subst h2
      have := list_c (first := [91]) (last := [93]) (by simp) (row_c en) _ _ _ e
      simp [wtC] at *; omega
  injection h with h; injection h with h1 h2; subst h1; subst h2
  omega
theorem parts_c {en : Nat} {names : List Bs} : ∀ (bs : List UInt8) (i : Nat) (c c' : ConL) (ts r : List Tok), partsP en names i bs c ts = .ok (c', r) → wtC c' + r.length ≤ wtC c + ts.length := by
  intro bs
  induction bs with
  | nil =>
    intro i c c' ts r h
    simp only [partsP] at h
    injection h with h; injection h with h1 h2; subst h1; subst h2
    omega
  | cons b bs ih =>
    intro i c c' ts r h
    simp only [partsP] at h
    split at h
    · cases h
    · next r1 e =>
      have hw : r1.length ≤ ts.length := by
        split at e
        · have := want_c (by simp) e; omega
        · injection e with e; rw [e]; omega
      split at h
      · cases h
      · next c2 r2 e2 =>
        have a := ptok_c e2
        have b := ih _ _ _ _ _ h
        omega
theorem con_c {en : Nat} {m m' : ModL} {s : Tok} {ts r : List Tok} (h : conP en m s ts = .ok (m', r)) : wtM m' + r.length ≤ wtM m + ts.length := by
  unfold conP at h
  split at h
  · cases h
  · split at h
    · cases h
    · next t r0 e0 =>
      have c0 := take_c (by decide) e0
      split at h
      · cases h
      · split at h
        · cases h
        · next r1 e1 =>
          have c1 := want_c (by simp) e1
          split at h
          · cases h
          · next c r2 e2 =>
            have c2 := parts_c _ _ _ _ _ _ e2
            split at h
            · cases h
            · next r3 e3 =>
              have c3 := want_c (by simp) e3
              split at h
              · cases h
              · split at h
                · cases h
                · next r4 e4 =>
                  have c4 := want_c (by simp) e4
                  injection h with h; injection h with h1 h2; subst h1; subst h2
                  simp only [wtM, tot_append, tot]
                  have hz : ∀ k : Int, wtC { noCon with kind := k } = 0 := fun _ => rfl
                  rw [hz] at c2
                  omega
theorem all_range {lo hi : Int} (h : lo ≤ hi) : allB (rangeL lo hi) = true := by
  have hl := len_rangeL lo hi
  unfold allB
  have h0 : (rangeL lo hi).getD 0 0 = lo := by
    rw [List.getD_eq_getElem?_getD, List.getElem?_eq_getElem (by omega)]
    simp [rangeL]
  have h1 : (rangeL lo hi).getD ((rangeL lo hi).length - 1) 0 = hi := by
    rw [List.getD_eq_getElem?_getD, List.getElem?_eq_getElem (by omega)]
    simp [rangeL]
    omega
  rw [h0, h1, hl]
  simp
  omega
theorem dom_c {en : Nat} {d : List Int} {ts r : List Tok} (h : domP en ts = .ok (d, r)) : dwt d + r.length ≤ ts.length := by
  unfold domP at h
  split at h
  · cases h
  · next l' e r' hr =>
    split at h
    · next he =>
      injection h with h; injection h with h1 h2; subst h1; subst h2
      unfold rosP at hr
      split at hr
      · split at hr
        · cases hr
        · next xs r2 hx =>
          injection hr with hr; injection hr with h1 h2; injection h1 with h1 h3
          subst h1; subst h3; subst h2
          have := list_c (first := [123]) (last := [125]) (by simp) (num_c en) _ _ _ hx
          simp only [tot_one] at this
          rw [ofL_ok xs he]
          have h5 := setOf_len xs
          unfold dwt
          split <;> omega
      · split at hr
        · cases hr
        · next t r1 e1 =>
          have c1 := take_c (by decide) e1
          split at hr
          · cases hr
          · next r2 e2 =>
            have c2 := want_c (by simp) e2
            split at hr
            · cases hr
            · next t2 r3 e3 =>
              have c3 := take_c (by decide) e3
              injection hr with hr; injection hr with h1 h2; injection h1 with h1 h3
              subst h1; subst h3; subst h2
              rw [if_pos he]
              have hle : t.num ≤ t2.num := by
                unfold rangeErr at he
                split at he
                · split at he
                  · cases he
                  · omega
                · cases he
              unfold dwt
              rw [if_pos (all_range hle)]
              omega
    · cases h
theorem var_c {en : Nat} {m m' : ModL} {s : Tok} {ts r : List Tok} (h : varP en m s ts = .ok (m', r)) : wtM m' + r.length ≤ wtM m + ts.length := by
  unfold varP at h
  split at h
  · cases h
  · split at h
    · cases h
    · next d r0 e0 =>
      have c0 := dom_c e0
      split at h
      · cases h
      · next r1 e1 =>
        have c1 := want_c (by simp) e1
        split at h
        · cases h
        · next b r2 e2 =>
          have c2 : r2.length ≤ r1.length := by
            unfold newNameP at e2
            split at e2
            · cases e2
            · next t r' e =>
              have := take_c (by decide) e
              split at e2
              · cases e2
              · split at e2
                · cases e2
                · injection e2 with e2; injection e2 with _ e2; rw [← e2]; omega
          split at h
          · cases h
          · next r3 e3 =>
            have c3 := want_c (by simp) e3
            injection h with h; injection h with h1 h2; subst h1; subst h2
            simp only [wtM, tot_append, tot]
            omega
theorem goal_c {en : Nat} {m m' : ModL} {ts r : List Tok} (h : goalP en m ts = .ok (m', r)) : wtM m' ≤ wtM m := by
  unfold goalP at h
  split at h
  · cases h
  · split at h
    · cases h
    · next m2 r2 e2 =>
      split at h
      · cases h
      · injection h with h; injection h with h1 h2; subst h1
        split at e2
        · injection e2 with e2; injection e2 with h1 h2; subst h1; exact Nat.le_refl _
        · split at e2
          · split at e2
            · cases e2
            · injection e2 with e2; injection e2 with h1 h2; subst h1; exact Nat.le_refl _
          · split at e2
            · split at e2
              · cases e2
              · injection e2 with e2; injection e2 with h1 h2; subst h1; exact Nat.le_refl _
            · cases e2
theorem items_c {en : Nat} : ∀ (n : Nat) (m m' : ModL) (ts : List Tok), itemsP en n m ts = .ok m' → wtM m' ≤ wtM m + ts.length := by
  intro n
  induction n with
  | zero => intro m m' ts h; simp only [itemsP] at h; cases h
  | succ n ih =>
    intro m m' ts h
    simp only [itemsP] at h
    split at h
    · cases h
    · next t r e =>
      have c := take_c (by decide) e
      split at h
      · split at h
        · cases h
        · next m2 r2 e2 => have := var_c e2; have := ih _ _ _ h; omega
      · split at h
        · split at h
          · cases h
          · next m2 r2 e2 => have := con_c e2; have := ih _ _ _ h; omega
        · split at h
          · split at h
            · cases h
            · next m2 r2 e2 =>
              split at h
              · injection h with h; subst h; have := goal_c e2; omega
              · cases h
          · cases h
theorem parse_wt (bs : Bs) : wtM (parseA bs).1 ≤ bs.length := by
  unfold parseA
  split
  · next he => exact Nat.zero_le _
  · next he =>
    have he0 : (lexA bs).2.2 = 0 := by simpa using he
    have l2 := (lexA_ok he0).2.2.1
    rcases hi : itemsP bs.length (lexA bs).1.length noMod (lexA bs).1 with ⟨p, e⟩ | m
    · exact Nat.zero_le _
    · have := items_c _ _ _ _ hi
      have hz : wtM noMod = 0 := rfl
      simp only
      omega

/-! Its text's length. -/
theorem cj_len {β : Type} (s : β) : ∀ ls : List (List β), (cj s ls).length ≤ tot (fun l => l.length + 1) ls
  | [] => by simp [cj, tot]
  | a :: ls => by
    have : ((ls.map (s :: ·)).flatten).length = tot (fun l => l.length + 1) ls := by
      induction ls with
      | nil => rfl
      | cons b ls ih => simp only [List.map_cons, List.flatten_cons, List.length_append, List.length_cons, tot, ih]
    simp only [cj, List.length_append, this, tot]
    omega
theorem tot_map {α β : Type} (f : β → Nat) (g : α → β) : ∀ l : List α, tot f (l.map g) = tot (fun a => f (g a)) l
  | [] => rfl
  | a :: l => by simp only [List.map_cons, tot, tot_map f g l]
theorem tot_bound {α : Type} {f : α → Nat} {k : Nat} : ∀ {l : List α}, (∀ x ∈ l, f x ≤ k) → tot f l ≤ k * l.length
  | [], _ => by simp [tot]
  | a :: l, h => by
    have := tot_bound (l := l) (fun x hx => h x (by simp [hx]))
    have := h a (by simp)
    simp only [tot, List.length_cons, Nat.mul_add, Nat.mul_one]
    omega
theorem itoa_len {n : Int} (h1 : -9999999999 ≤ n) (h2 : n ≤ 9999999999) : (Lib.itoa n).length ≤ 11 := by
  unfold Lib.itoa
  split
  · have := dd_len 9 n.natAbs (by simp; omega)
    simp only [List.length_cons]
    omega
  · have := dd_len 9 n.toNat (by simp; omega)
    omega
theorem name_len {names : List Bs} (hm : ∀ b ∈ names, mayNameB b = true) {b : Bs} (h : b ∈ names) : b.length ≤ 32 := by
  have := hm b h
  unfold mayNameB nameB at this
  simp only [Bool.and_eq_true, decide_eq_true_eq, beq_iff_eq] at this
  omega
theorem nm_len {names : List Bs} (hm : ∀ b ∈ names, mayNameB b = true) {v : Int} (h0 : 0 ≤ v) (h1 : v < (names.length : Int)) : (nmV names v).length ≤ 32 := name_len hm (nm_word hm h0 h1).1
theorem br_len {α : Type} {b : α → Bs} {k : Nat} {first last : UInt8} {l : List α} (h : ∀ x ∈ l, (b x).length + 1 ≤ k) : (brT first last (l.map b)).length ≤ k * l.length + 2 := by
  unfold brT
  have := cj_len (44 : UInt8) (l.map b)
  rw [tot_map] at this
  have := tot_bound h
  simp only [List.length_cons, List.length_append, List.length_nil]
  omega
theorem row_len {l : List Int} (h : ∀ v ∈ l, -9999999999 ≤ v ∧ v ≤ 9999999999) : (rowT l).length ≤ 12 * l.length + 2 :=
  br_len fun v hv => by have := itoa_len (h v hv).1 (h v hv).2; omega
theorem pl_len {names : List Bs} (hm : ∀ b ∈ names, mayNameB b = true) {l : List Int} (h : ∀ v ∈ l, 0 ≤ v ∧ v < (names.length : Int)) : (plT names l).length ≤ 33 * l.length + 2 :=
  br_len fun v hv => by have := nm_len hm (h v hv).1 (h v hv).2; omega
theorem rws_len : ∀ {R : List (List Int)}, (∀ l ∈ R, ∀ v ∈ l, -9999999999 ≤ v ∧ v ≤ 9999999999) → (rwsT R).length ≤ 15 * tot (fun r : List Int => r.length + 1) R + 2 := by
  intro R h
  unfold rwsT brT
  have := cj_len (44 : UInt8) (R.map rowT)
  rw [tot_map] at this
  have h2 : ∀ S : List (List Int), (∀ l ∈ S, ∀ v ∈ l, -9999999999 ≤ v ∧ v ≤ 9999999999) → tot (fun a => (rowT a).length + 1) S ≤ 15 * tot (fun r : List Int => r.length + 1) S := by
    intro S
    induction S with
    | nil => intro _; simp [tot]
    | cons a S ih =>
      intro hS
      have h3 := row_len (hS a (by simp))
      have h4 := ih (fun l hl => hS l (by simp [hl]))
      simp only [tot]
      omega
  have := h2 R h
  simp only [List.length_cons, List.length_append, List.length_nil]
  omega
theorem ptxt_len {names : List Bs} {c : ConL} (hm : ∀ b ∈ names, mayNameB b = true) (h : ConOK names.length c) {b : UInt8} {nx : Nat} (hp : PartAt c b nx) : (partT names c b nx).length ≤ 33 * wtC c + 33 := by
  have w : wtC c = c.A.length + c.B.length + c.C.length + c.D.length + c.E.length + tot (fun r : List Int => r.length + 1) c.rows := rfl
  unfold partT
  split
  · next e => have := h.pa _ (at_mem (hp.1 e)); have := nm_len hm this.1 this.2; omega
  split
  · next e => have := h.pb _ (at_mem (hp.2 e)); have := nm_len hm this.1 this.2; omega
  split
  · have := pl_len hm h.pa; omega
  split
  · have := pl_len hm h.pb; omega
  split
  · have := row_len h.pc; omega
  split
  · have := row_len h.pd; omega
  split
  · have := row_len h.pe; omega
  split
  · have := rws_len h.pr; omega
  have := itoa_len h.pk.1 h.pk.2
  omega
theorem parts_len {names : List Bs} {c : ConL} (hm : ∀ b ∈ names, mayNameB b = true) (h : ConOK names.length c) : ∀ (sh : List UInt8) (nx : Nat), PartsAt c nx sh → ∀ x ∈ partsT names c nx sh, x.length ≤ 33 * wtC c + 33
  | [], _, _, x, hx => by simp [partsT] at hx
  | b :: sh, nx, hp, x, hx => by
    simp only [partsT, List.mem_cons] at hx
    rcases hx with rfl | hx
    · exact ptxt_len hm h hp.1
    · exact parts_len hm h sh _ hp.2 x hx
theorem partsT_length (names : List Bs) (c : ConL) : ∀ (sh : List UInt8) (nx : Nat), (partsT names c nx sh).length = sh.length
  | [], _ => rfl
  | b :: sh, nx => by simp only [partsT, List.length_cons, partsT_length names c sh]
theorem ents_short : (ents.all fun e => decide (e.word.length ≤ 13) && decide (e.shape.length ≤ 4)) = true := by kernel_rfl
theorem con_len {names : List Bs} {c : ConL} (hm : ∀ b ∈ names, mayNameB b = true) (h : ConOK names.length c) : (conT names c).length + 1 ≤ 200 * (wtC c + 1) := by
  obtain ⟨k, hk, _, he, hin⟩ := ent_in h
  have hs := List.all_eq_true.1 ents_short _ hin
  rw [← he] at hs
  simp only [Bool.and_eq_true, decide_eq_true_eq] at hs
  have h1 := parts_len hm h _ 0 (con_fin h).1
  have h2 := cj_len (44 : UInt8) (partsT names c 0 (entOf c).shape)
  have h3 := tot_bound (f := fun l : Bs => l.length + 1) (k := 33 * wtC c + 34) (l := partsT names c 0 (entOf c).shape) (fun x hx => by have := h1 x hx; omega)
  rw [partsT_length] at h3
  have h4 : (33 * wtC c + 34) * (entOf c).shape.length ≤ (33 * wtC c + 34) * 4 := Nat.mul_le_mul_left _ hs.2
  have h5 := Nat.le_trans h2 (Nat.le_trans h3 h4)
  clear h2 h3 h4 h1
  unfold conT brT
  simp only [List.length_append, List.length_cons, List.length_nil]
  omega
theorem dom_len {d : List Int} (h : mayListB d = true) : (domT d).length ≤ 12 * dwt d + 24 := by
  have hn := may_num h
  have h0 := (may_bounds h).1
  unfold domT dwt
  split
  · have ha := hn _ (at_mem (l := d) (i := 0) h0)
    have hb := hn _ (at_mem (l := d) (i := d.length - 1) (by omega))
    have := itoa_len ha.1 ha.2
    have := itoa_len hb.1 hb.2
    simp only [List.length_append, List.length_cons, List.length_nil]
    omega
  · have := row_len hn
    have e : (brT 123 125 (d.map Lib.itoa)).length = (rowT d).length := by simp [rowT, brT]
    omega
theorem vars_len : ∀ (L : List (Bs × List Int)), (∀ p ∈ L, p.1.length ≤ 32 ∧ mayListB p.2 = true) → tot (fun l : Bs => l.length + 1) (L.map varT) ≤ 12 * tot (fun p : Bs × List Int => dwt p.2) L + 70 * L.length
  | [], _ => by simp [tot]
  | p :: L, h => by
    have ih := vars_len L (fun q hq => h q (by simp [hq]))
    have hp := h p (by simp)
    have hd := dom_len hp.2
    have hv : (varT p).length + 1 ≤ 12 * dwt p.2 + 70 := by
      unfold varT
      simp only [List.length_append, List.length_cons, List.length_nil]
      omega
    simp only [List.map_cons, tot, List.length_cons]
    omega
theorem cons_len {names : List Bs} (hm : ∀ b ∈ names, mayNameB b = true) : ∀ (L : List ConL), (∀ c ∈ L, ConOK names.length c) → tot (fun l : Bs => l.length + 1) (L.map (conT names)) ≤ 200 * tot (fun c => wtC c + 1) L
  | [], _ => by simp [tot]
  | c :: L, h => by
    have ih := cons_len hm L (fun q hq => h q (by simp [hq]))
    have hc := con_len hm (h c (by simp))
    simp only [List.map_cons, tot]
    omega
theorem flat_tot : ∀ ls : List Bs, ((ls.map (· ++ [10])).flatten).length = tot (fun l : Bs => l.length + 1) ls
  | [] => rfl
  | a :: ls => by simp only [List.map_cons, List.flatten_cons, List.length_append, List.length_singleton, tot, flat_tot ls]
theorem zip_tot : ∀ (a : List Bs) (b : List (List Int)), a.length = b.length → tot (fun p : Bs × List Int => dwt p.2) (a.zip b) = tot dwt b
  | [], [], _ => rfl
  | x :: a, y :: b, h => by
    simp only [List.zip_cons_cons, tot, zip_tot a b (by simpa using h)]
theorem print_len {m : ModL} (h : ModOK m) : (printT m).length ≤ 200 * wtM m + 70 * 256 + 60 := by
  have hzl : (m.names.zip m.doms).length = m.names.length := by rw [List.length_zip, h.len, Nat.min_self]
  have h1 := vars_len (m.names.zip m.doms) (fun p hp => ⟨name_len h.may (zip_mem hp).1, h.dom _ (zip_mem hp).2⟩)
  have h2 := cons_len h.may m.cons h.con
  have hg : (goalT m).length + 1 ≤ 60 := by
    unfold goalT
    split
    · next e =>
      have hp := goal_place h.goal (.inl e)
      have := nm_len h.may hp.1 hp.2
      simp only [List.length_append, List.length_cons, List.length_nil]
      omega
    · split
      · next e =>
        have hp := goal_place h.goal (.inr e)
        have := nm_len h.may hp.1 hp.2
        simp only [List.length_append, List.length_cons, List.length_nil]
        omega
      · simp
  rw [zip_tot _ _ h.len, hzl] at h1
  have hn := h.n256
  unfold printT linesT
  rw [flat_tot, tot_append, tot_append]
  simp only [tot, wtM]
  omega
end Go.Proofs.YtgemgmdnnjaghaaGreatDoor
