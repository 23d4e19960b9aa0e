import PyProof.Rows.All
import Wide.All
import OpenK.AllK
import Wide.FinOn
import HandS.ForMost
import PyProof.ReprRoads
import PyProof.StrLawsRepr
import PyProof.Rows.ReprOcc
import PyProof.P3Eq
import PyProof.ReprLen
import HandS.Wide
import HandS.Walk
import HandS.Style
import HandS.TupAny
import HandS.IsInst
import PyProof.NeKinds
import PySem.Challenge.RW_bothtimes_k64_how_long_rows_last
import HandS.DictTup
import KE.KeyNested
import KE.KDictKeyed
import PyProof.DictMoreH
import HandS.Zip
import HandS.Codes
import HandS.SortKw
import KE.SortKeyHeap
import KE.KDictCopyH
import KE.KDictSum
import HandS.Conv
import KE.SortData
import HandS.Lambda
import HandS.Defaults
import KE.KLam
import KE.KNestM
import HandS.SetFor
import HandS.Strs
import PyProof.Rows.SortShellAny
import HandS.Base
import HandS.Call
import HandS.List
import HandS.Comp
import HandS.Dict
import HandS.Iter
import KE.GoesEnum
import HandS.RaiseMore
import HandS.MakeKwOnly
import HandS.DictComp
import HandS.EndTab
set_option Elab.async false
set_option linter.all false
set_option maxRecDepth 100000
set_option maxHeartbeats 16000000
/-! Lines of spans: what a law lays of its paints, and what is found in it. -/
namespace Ln
open PySem L2
/-! ### paints, by a first day, the first day behind, what they put, and how that is shown -/
structure Pt where
  lo : Int
  e : Int
  v : V
  r : Str
def nonR : Str := "None"
def cov (p : Pt) (d : Int) : Bool := decide (p.lo ≤ d) && decide (d < p.e)
theorem cov_true {p : Pt} {d : Int} : cov p d = true ↔ p.lo ≤ d ∧ d < p.e := by
  unfold cov
  rw [Bool.and_eq_true, decide_eq_true_eq, decide_eq_true_eq]
theorem cov_false {p : Pt} {d : Int} : cov p d = false ↔ ¬ (p.lo ≤ d ∧ d < p.e) := by
  rw [← cov_true, Bool.not_eq_true]
def lastAt (ps : List Pt) (d : Int) : Option Pt := ps.reverse.find? fun p => cov p d
def atV (ps : List Pt) (d : Int) : V := match lastAt ps d with
  | some p => p.v
  | none => .non
def atR (ps : List Pt) (d : Int) : Str := match lastAt ps d with
  | some p => p.r
  | none => nonR
/-- what is shown on a day of pieces none of which meets another one, in whatever order -/
def textAt (qs : List Pt) (d : Int) : Str := match qs.find? fun p => cov p d with
  | some p => p.r
  | none => nonR
theorem textAt_nil (d : Int) : textAt [] d = nonR := rfl
theorem textAt_cons {q : Pt} {qs : List Pt} {d : Int} : textAt (q :: qs) d = if cov q d = true then q.r else textAt qs d := by
  unfold textAt
  rw [List.find?_cons]
  cases h : cov q d
  · rfl
  · rfl
theorem textAt_none {qs : List Pt} {d : Int} (h : ∀ q ∈ qs, cov q d = false) : textAt qs d = nonR := by
  have e : (qs.find? fun p => cov p d) = none := by
    rw [List.find?_eq_none]
    intro q hq
    rw [h q hq]
    decide
  unfold textAt
  rw [e]
/-! ### the walk from day to day; the pieces so far stand the last one first -/
def layStep (ps acc : List Pt) (lo hi : Int) : List Pt :=
  if (acc.head?.any fun q => decide (q.e = lo) && decide (q.r = atR ps lo)) = true then
    (if atV ps lo = .non then acc.tail else ⟨(acc.head?.map (·.lo)).getD lo, hi, atV ps lo, atR ps lo⟩ :: acc.tail)
  else (if atV ps lo = .non then acc else ⟨lo, hi, atV ps lo, atR ps lo⟩ :: acc)
def lay (ps : List Pt) : List Int → List Pt → List Pt
  | a :: b :: r, acc => lay ps (b :: r) (layStep ps acc a b)
  | _, acc => acc
/-- pieces, the last one first: each ends where the next one begins, or ahead of it -/
def Down : List Pt → Prop
  | [] => True
  | q :: r => q.lo < q.e ∧ (∀ x ∈ r, x.e ≤ q.lo) ∧ Down r
structure Laid (ps acc : List Pt) (cur : Int) : Prop where
  down : Down acc
  ends : ∀ q ∈ acc, q.e ≤ cur
  begs : ∀ q ∈ acc, ∃ p ∈ ps, q.lo = p.lo ∨ q.lo = p.e
  text : ∀ d, d < cur → textAt acc d = atR ps d
  from_ : ∀ q ∈ acc, q.v ≠ .non ∧ ∃ p ∈ ps, q.v = p.v ∧ q.r = p.r
theorem Down.tail {q : Pt} {r : List Pt} (h : Down (q :: r)) : Down r := h.2.2
/-- between two days that follow nothing begins or ends -/
theorem atR_const {ps : List Pt} {a b d : Int} (h : ∀ p ∈ ps, (p.lo ≤ a ∨ b ≤ p.lo) ∧ (p.e ≤ a ∨ b ≤ p.e)) (h1 : a ≤ d) (h2 : d < b) : lastAt ps d = lastAt ps a := by
  unfold lastAt
  have key : ∀ l : List Pt, (∀ p ∈ l, p ∈ ps) → (l.find? fun p => cov p d) = l.find? fun p => cov p a := by
    intro l
    induction l with
    | nil => intro _; rfl
    | cons p r ih =>
      intro hl
      obtain ⟨c1, c2⟩ := h p (hl p (List.mem_cons_self ..))
      have e : cov p d = cov p a := by
        cases ha : cov p a with
        | true =>
          have := cov_true.mp ha
          exact cov_true.mpr (by omega)
        | false =>
          have := cov_false.mp ha
          exact cov_false.mpr (by omega)
      rw [List.find?_cons, List.find?_cons, e, ih fun x hx => hl x (List.mem_cons_of_mem _ hx)]
  exact key ps.reverse fun p hp => List.mem_reverse.mp hp
theorem atR_of {ps : List Pt} {a d : Int} (h : lastAt ps d = lastAt ps a) : atR ps d = atR ps a := by unfold atR; rw [h]
theorem lastAt_mem {ps : List Pt} {d : Int} {p : Pt} (h : lastAt ps d = some p) : p ∈ ps ∧ cov p d = true := by
  unfold lastAt at h
  have e := List.find?_some h
  exact ⟨List.mem_reverse.mp (List.mem_of_find?_eq_some h), e⟩
/-- nothing shown: None -/
def Plain (ps : List Pt) : Prop := ∀ p ∈ ps, p.v = .non → p.r = nonR
theorem atR_non {ps : List Pt} {d : Int} (hp : Plain ps) (h : atV ps d = .non) : atR ps d = nonR := by
  unfold atV at h
  unfold atR
  cases e : lastAt ps d with
  | none => rfl
  | some p =>
    rw [e] at h
    exact hp p (lastAt_mem e).1 h
theorem atV_some {ps : List Pt} {d : Int} (h : atV ps d ≠ .non) : ∃ p ∈ ps, atV ps d = p.v ∧ atR ps d = p.r := by
  unfold atV at h ⊢
  unfold atR
  cases e : lastAt ps d with
  | none =>
    rw [e] at h
    exact absurd rfl h
  | some p => exact ⟨p, (lastAt_mem e).1, rfl, rfl⟩
theorem ended_text {qs : List Pt} {d cur : Int} (h : ∀ q ∈ qs, q.e ≤ cur) (hd : cur ≤ d) : textAt qs d = nonR :=
  textAt_none fun q hq => cov_false.mpr fun c => by have := h q hq; omega
theorem layStep_laid {ps acc : List Pt} {a b : Int} (hp : Plain ps) (hs : ∀ p ∈ ps, (p.lo ≤ a ∨ b ≤ p.lo) ∧ (p.e ≤ a ∨ b ≤ p.e)) (hab : a < b) (hbeg : ∃ p ∈ ps, a = p.lo ∨ a = p.e) (L : Laid ps acc a) : Laid ps (layStep ps acc a b) b := by
  have now : ∀ d, a ≤ d → d < b → atR ps d = atR ps a := fun d h1 h2 => atR_of (atR_const hs h1 h2)
  have plainEnds : ∀ q ∈ acc, q.e ≤ b := fun q hq => by have := L.ends q hq; omega
  -- a piece of its own
  have fresh : Laid ps (if atV ps a = .non then acc else ⟨a, b, atV ps a, atR ps a⟩ :: acc) b := by
    by_cases hv : atV ps a = .non
    · rw [if_pos hv]
      refine ⟨L.down, plainEnds, L.begs, fun d hd => ?_, L.from_⟩
      by_cases h : d < a
      · exact L.text d h
      · rw [ended_text L.ends (by omega), now d (by omega) hd, atR_non hp hv]
    · rw [if_neg hv]
      refine ⟨⟨hab, L.ends, L.down⟩, ?_, ?_, fun d hd => ?_, ?_⟩
      · intro q hq
        rcases List.mem_cons.mp hq with rfl | hq
        · exact Int.le_refl _
        · exact plainEnds q hq
      · intro q hq
        rcases List.mem_cons.mp hq with rfl | hq
        · exact hbeg
        · exact L.begs q hq
      · rw [textAt_cons]
        by_cases h : d < a
        · rw [if_neg (by rw [Bool.not_eq_true]; exact cov_false.mpr fun c => by have := c.1; dsimp only at this; omega)]
          exact L.text d h
        · rw [if_pos (cov_true.mpr ⟨by dsimp only; omega, hd⟩), now d (by omega) hd]
      · intro q hq
        rcases List.mem_cons.mp hq with rfl | hq
        · obtain ⟨p, h1, h2, h3⟩ := atV_some hv
          exact ⟨hv, p, h1, h2, h3⟩
        · exact L.from_ q hq
  unfold layStep
  cases acc with
  | nil => exact fresh
  | cons q rest =>
    by_cases hj : (((q :: rest).head?.any fun q => decide (q.e = a) && decide (q.r = atR ps a)) = true)
    · rw [if_pos hj]
      have hj' : (decide (q.e = a) && decide (q.r = atR ps a)) = true := hj
      rw [Bool.and_eq_true, decide_eq_true_eq, decide_eq_true_eq] at hj'
      obtain ⟨he, hr⟩ := hj'
      obtain ⟨d1, d2, d3⟩ := L.down
      have restEnds : ∀ x ∈ rest, x.e ≤ a := fun x hx => L.ends x (List.mem_cons_of_mem _ hx)
      have old : ∀ d, d < a → atR ps d = if q.lo ≤ d then q.r else textAt rest d := fun d hd => by
        rw [← L.text d hd, textAt_cons]
        by_cases c : q.lo ≤ d
        · rw [if_pos (cov_true.mpr ⟨c, by omega⟩), if_pos c]
        · rw [if_neg (by rw [Bool.not_eq_true]; exact cov_false.mpr fun z => c z.1), if_neg c]
      by_cases hv : atV ps a = .non
      · rw [if_pos hv]
        have rn := atR_non hp hv
        refine ⟨d3, fun x hx => by have := restEnds x hx; omega, fun x hx => L.begs x (List.mem_cons_of_mem _ hx), fun d hd => ?_, fun x hx => L.from_ x (List.mem_cons_of_mem _ hx)⟩
        by_cases h : d < a
        · have o := old d h
          by_cases c : q.lo ≤ d
          · rw [if_pos c, hr, rn] at o
            rw [o]
            exact ended_text d2 c
          · rw [if_neg c] at o
            exact o.symm
        · rw [now d (by omega) hd, rn]
          exact ended_text restEnds (by omega)
      · rw [if_neg hv]
        refine ⟨⟨?_, ?_, d3⟩, ?_, ?_, fun d hd => ?_, ?_⟩
        · show q.lo < b
          omega
        · exact d2
        · intro x hx
          rcases List.mem_cons.mp hx with rfl | hx
          · exact Int.le_refl _
          · have := restEnds x hx
            omega
        · intro x hx
          rcases List.mem_cons.mp hx with rfl | hx
          · exact L.begs q (List.mem_cons_self ..)
          · exact L.begs x (List.mem_cons_of_mem _ hx)
        · show textAt (⟨q.lo, b, atV ps a, atR ps a⟩ :: rest) d = _
          rw [textAt_cons]
          by_cases c : q.lo ≤ d
          · rw [if_pos (cov_true (p := ⟨q.lo, b, atV ps a, atR ps a⟩).mpr ⟨c, hd⟩)]
            by_cases h : d < a
            · rw [old d h, if_pos c, hr]
            · exact (now d (by omega) hd).symm
          · rw [if_neg (by rw [Bool.not_eq_true]; exact cov_false.mpr fun z => c z.1), old d (by omega), if_neg c]
        · intro x hx
          rcases List.mem_cons.mp hx with rfl | hx
          · obtain ⟨p, h1, h2, h3⟩ := atV_some hv
            exact ⟨hv, p, h1, h2, h3⟩
          · exact L.from_ x (List.mem_cons_of_mem _ hx)
    · rw [if_neg hj]
      exact fresh
/-- all days of a rising list -/
theorem lay_laid {ps : List Pt} (hp : Plain ps) : ∀ (ds : List Int) (acc : List Pt) (a : Int), (a :: ds).Pairwise (· < ·) → (∀ p ∈ ps, (p.lo ≤ a ∨ p.lo ∈ ds) ∧ (p.e ≤ a ∨ p.e ∈ ds)) → (∀ x ∈ a :: ds, ∃ p ∈ ps, x = p.lo ∨ x = p.e) → Laid ps acc a →
    Laid ps (lay ps (a :: ds) acc) ((a :: ds).getLast (by simp))
  | [], acc, a, _, _, _, L => L
  | b :: r, acc, a, hs, hm, hb, L => by
    have s1 := List.pairwise_cons.mp hs
    have s2 := List.pairwise_cons.mp s1.2
    have hab : a < b := s1.1 b (List.mem_cons_self ..)
    have between : ∀ x, (x ≤ a ∨ x ∈ b :: r) → x ≤ a ∨ b ≤ x := fun x hx => by
      rcases hx with h | h
      · exact .inl h
      · rcases List.mem_cons.mp h with rfl | h
        · exact .inr (Int.le_refl _)
        · have := s2.1 x h
          exact .inr (by omega)
    have L2 := layStep_laid hp (fun p h => ⟨between _ (hm p h).1, between _ (hm p h).2⟩) hab (hb a (List.mem_cons_self ..)) L
    have onward : ∀ x, (x ≤ a ∨ x ∈ b :: r) → x ≤ b ∨ x ∈ r := fun x hx => by
      rcases hx with h | h
      · exact .inl (by omega)
      · rcases List.mem_cons.mp h with rfl | h
        · exact .inl (Int.le_refl _)
        · exact .inr h
    have R := lay_laid hp r (layStep ps acc a b) b s1.2 (fun p h => ⟨onward _ (hm p h).1, onward _ (hm p h).2⟩) (fun x hx => hb x (List.mem_cons_of_mem _ hx)) L2
    rw [List.getLast_cons (by simp)]
    exact R
theorem last_most : ∀ (r : List Int) (a : Int), (a :: r).Pairwise (· < ·) → ∀ x ∈ a :: r, x ≤ (a :: r).getLast (by simp)
  | [], a, _, x, hx => by
    rw [List.mem_singleton.mp hx]
    exact Int.le_refl _
  | b :: r, a, hs, x, hx => by
    obtain ⟨h1, h2⟩ := List.pairwise_cons.mp hs
    rw [List.getLast_cons (by simp)]
    rcases List.mem_cons.mp hx with rfl | h
    · have g1 := h1 b (List.mem_cons_self ..)
      have g2 := last_most r b h2 b (List.mem_cons_self ..)
      omega
    · exact last_most r b h2 x h
/-- the whole: on each day what the paints put last -/
theorem lay_all {ps : List Pt} {ds : List Int} (hp : Plain ps) (hlt : ∀ p ∈ ps, p.lo < p.e) (hs : ds.Pairwise (· < ·)) (hm : ∀ x, x ∈ ds ↔ ∃ p ∈ ps, x = p.lo ∨ x = p.e) :
    Down (lay ps ds []) ∧ (∀ d, textAt (lay ps ds []) d = atR ps d) ∧ ∀ q ∈ lay ps ds [], (∃ p ∈ ps, q.lo = p.lo ∨ q.lo = p.e) ∧ (∃ p ∈ ps, q.e ≤ p.e) ∧ q.v ≠ .non ∧ ∃ p ∈ ps, q.v = p.v ∧ q.r = p.r := by
  cases ds with
  | nil =>
    have none_ : ps = [] := by
      cases ps with
      | nil => rfl
      | cons p r =>
        have := (hm p.lo).mpr ⟨p, List.mem_cons_self .., .inl rfl⟩
        cases this
    subst none_
    refine ⟨trivial, fun d => rfl, fun q hq => (nomatch hq)⟩
  | cons a r =>
    have s1 := List.pairwise_cons.mp hs
    have least : ∀ x, x ∈ a :: r → a ≤ x := fun x hx => by
      rcases List.mem_cons.mp hx with rfl | h
      · exact Int.le_refl _
      · have := s1.1 x h
        omega
    have L0 : Laid ps [] a := ⟨trivial, fun q hq => (nomatch hq), fun q hq => (nomatch hq), fun d hd => by
      have e : lastAt ps d = none := by
        unfold lastAt
        rw [List.find?_eq_none]
        intro p hp'
        have := least p.lo ((hm p.lo).mpr ⟨p, List.mem_reverse.mp hp', .inl rfl⟩)
        rw [Bool.not_eq_true]
        exact cov_false.mpr fun c => by omega
      rw [textAt_nil]
      unfold atR
      rw [e], fun q hq => (nomatch hq)⟩
    have split : ∀ x, x ∈ a :: r → x ≤ a ∨ x ∈ r := fun x hx => by
      rcases List.mem_cons.mp hx with rfl | h
      · exact .inl (Int.le_refl _)
      · exact .inr h
    have L := lay_laid hp r [] a hs (fun p h => ⟨split _ ((hm _).mpr ⟨p, h, .inl rfl⟩), split _ ((hm _).mpr ⟨p, h, .inr rfl⟩)⟩) (fun x hx => (hm x).mp hx) L0
    generalize hz : (a :: r).getLast (by simp) = z at L
    have zin : z ∈ a :: r := hz ▸ List.getLast_mem _
    have most : ∀ x ∈ a :: r, x ≤ z := fun x hx => hz ▸ last_most r a hs x hx
    refine ⟨L.down, fun d => ?_, fun q hq => ⟨L.begs q hq, ?_, L.from_ q hq⟩⟩
    · by_cases h : d < z
      · exact L.text d h
      · rw [ended_text L.ends (by omega)]
        have e : lastAt ps d = none := by
          unfold lastAt
          rw [List.find?_eq_none]
          intro p hp'
          have := most p.e ((hm p.e).mpr ⟨p, List.mem_reverse.mp hp', .inr rfl⟩)
          rw [Bool.not_eq_true]
          exact cov_false.mpr fun c => by omega
        unfold atR
        rw [e]
    · obtain ⟨p, h1, h2⟩ := (hm z).mp zin
      have hq2 := L.ends q hq
      rcases h2 with h2 | h2
      · exact ⟨p, h1, by have := hlt p h1; omega⟩
      · exact ⟨p, h1, by omega⟩
/-! ### the pieces in their order, and one found -/
def Up (qs : List Pt) : Prop := Down qs.reverse
theorem down_pair : ∀ {qs : List Pt}, Down qs → qs.Pairwise fun x y => y.e ≤ x.lo
  | [], _ => .nil
  | _ :: _, h => List.pairwise_cons.mpr ⟨fun y hy => h.2.1 y hy, down_pair h.2.2⟩
theorem down_each : ∀ {qs : List Pt}, Down qs → ∀ q ∈ qs, q.lo < q.e
  | _ :: r, h, q, hq => by
    rcases List.mem_cons.mp hq with rfl | hq
    · exact h.1
    · exact down_each h.2.2 q hq
theorem up_pair {qs : List Pt} (h : Up qs) : qs.Pairwise fun x y => x.e ≤ y.lo := by
  have := down_pair h
  rw [List.pairwise_reverse] at this
  exact this
theorem up_each {qs : List Pt} (h : Up qs) : ∀ q ∈ qs, q.lo < q.e := fun q hq => down_each h q (List.mem_reverse.mpr hq)
theorem up_at {qs : List Pt} (h : Up qs) {i j : Nat} {x y : Pt} (hi : qs[i]? = some x) (hj : qs[j]? = some y) (hij : i < j) : x.e ≤ y.lo := by
  obtain ⟨li, rfl⟩ := List.getElem?_eq_some_iff.mp hi
  obtain ⟨lj, rfl⟩ := List.getElem?_eq_some_iff.mp hj
  exact List.pairwise_iff_getElem.mp (up_pair h) i j li lj hij
/-- the text on a day, of pieces in either order -/
theorem text_of {qs : List Pt} (h : Up qs) {d : Int} {q : Pt} (hq : q ∈ qs) (hc : cov q d = true) : textAt qs.reverse d = q.r := by
  have key : ∀ l : List Pt, Down l → q ∈ l → textAt l d = q.r := by
    intro l
    induction l with
    | nil => intro _ z; cases z
    | cons x r ih =>
      intro hd z
      rw [textAt_cons]
      rcases List.mem_cons.mp z with rfl | z
      · rw [if_pos hc]
      · have h1 := hd.2.1 q z
        have h2 := cov_true.mp hc
        rw [if_neg (by rw [Bool.not_eq_true]; exact cov_false.mpr fun c => by omega)]
        exact ih hd.2.2 z
  exact key _ h (List.mem_reverse.mpr hq)
theorem text_none {qs : List Pt} {d : Int} (h : ∀ q ∈ qs, cov q d = false) : textAt qs.reverse d = nonR := textAt_none fun q hq => h q (List.mem_reverse.mp hq)
end Ln
namespace Ln
open PySem L2
/-! ### lines as they are told: none alike to the one that begins where it ends; the last one first -/
def Sep : List Pt → Prop
  | q :: x :: r => (x.e = q.lo → x.r ≠ q.r) ∧ Sep (x :: r)
  | _ => True
theorem Sep.tail {q : Pt} {r : List Pt} (h : Sep (q :: r)) : Sep r := by
  cases r with
  | nil => trivial
  | cons x r => exact h.2
theorem Sep.cons {q : Pt} {r : List Pt} (h : Sep r) (hx : ∀ x s, r = x :: s → x.e = q.lo → x.r ≠ q.r) : Sep (q :: r) := by
  cases r with
  | nil => trivial
  | cons x r => exact ⟨hx x r rfl, h⟩
theorem Sep.head {q x : Pt} {r : List Pt} (h : Sep (q :: x :: r)) : x.e = q.lo → x.r ≠ q.r := h.1
structure Can (l : List Pt) : Prop where
  down : Down l
  sep : Sep l
  full : ∀ q ∈ l, q.r ≠ nonR
theorem Can.tail {q : Pt} {r : List Pt} (h : Can (q :: r)) : Can r := ⟨h.down.tail, h.sep.tail, fun x hx => h.full x (List.mem_cons_of_mem _ hx)⟩
abbrev key (p : Pt) : Int × Int × Str := (p.lo, p.e, p.r)
theorem down_ends : ∀ {q : Pt} {r : List Pt}, Down (q :: r) → ∀ x ∈ q :: r, x.e ≤ q.e := fun h x hx => by
  rcases List.mem_cons.mp hx with rfl | hx
  · exact Int.le_refl _
  · have h1 := h.1
    have := h.2.1 x hx
    omega
theorem text_head {q : Pt} {r : List Pt} {d : Int} (h1 : q.lo ≤ d) (h2 : d < q.e) : textAt (q :: r) d = q.r := by
  rw [textAt_cons, if_pos (cov_true.mpr ⟨h1, h2⟩)]
theorem text_skip {q : Pt} {r : List Pt} {d : Int} (h : ¬ (q.lo ≤ d ∧ d < q.e)) : textAt (q :: r) d = textAt r d := by
  rw [textAt_cons, if_neg (by rw [Bool.not_eq_true]; exact cov_false.mpr h)]
theorem text_ahead {q : Pt} {r : List Pt} (h : Can (q :: r)) : textAt r (q.lo - 1) ≠ q.r := by
  have full := h.full q (List.mem_cons_self ..)
  cases r with
  | nil => rw [textAt_nil]; exact full.symm
  | cons z s =>
    have d1 := h.down
    have z1 := d1.2.1 z (List.mem_cons_self ..)
    have z2 := d1.2.2
    by_cases c : z.lo ≤ q.lo - 1 ∧ q.lo - 1 < z.e
    · rw [text_head c.1 c.2]
      exact h.sep.head (by omega)
    · rw [text_skip c]
      rw [ended_text (cur := z.lo) z2.2.1 (by have := z2.1; omega)]
      exact full.symm
/-- two such lines that tell the same on each day are alike -/
theorem can_uniq : ∀ {a b : List Pt}, Can a → Can b → (∀ d, textAt a d = textAt b d) → a.map key = b.map key
  | [], [], _, _, _ => rfl
  | [], y :: s, _, hb, h => by
    have e := h y.lo
    rw [textAt_nil, text_head (Int.le_refl _) hb.down.1] at e
    exact absurd e.symm (hb.full y (List.mem_cons_self ..))
  | x :: r, [], ha, _, h => by
    have e := h x.lo
    rw [textAt_nil, text_head (Int.le_refl _) ha.down.1] at e
    exact absurd e (ha.full x (List.mem_cons_self ..))
  | x :: r, y :: s, ha, hb, h => by
    have xl := ha.down.1
    have yl := hb.down.1
    have ends : ∀ {p q : Pt} {u v : List Pt}, Can (p :: u) → Can (q :: v) → (∀ d, textAt (p :: u) d = textAt (q :: v) d) → ¬ p.e < q.e := fun {p q u v} hp hq h c => by
      have e := h (q.e - 1)
      have ql := hq.down.1
      rw [text_head (q := q) (by omega) (by omega), ended_text (cur := p.e) (down_ends hp.down) (by omega)] at e
      exact hq.full q (List.mem_cons_self ..) e.symm
    have ee : x.e = y.e := by
      have := ends ha hb h
      have := ends hb ha fun d => (h d).symm
      omega
    have er : x.r = y.r := by
      have e := h (x.e - 1)
      rwa [text_head (by omega) (by omega), text_head (by omega) (by omega)] at e
    have begs : ∀ {p q : Pt} {u v : List Pt}, Can (p :: u) → Can (q :: v) → p.e = q.e → p.r = q.r → (∀ d, textAt (p :: u) d = textAt (q :: v) d) → ¬ p.lo < q.lo := fun {p q u v} hp hq ee er h c => by
      have e := h (q.lo - 1)
      have ql := hq.down.1
      rw [text_head (q := p) (by omega) (by omega), text_skip (by omega), er] at e
      exact text_ahead hq e.symm
    have el : x.lo = y.lo := by
      have := begs ha hb ee er h
      have := begs hb ha ee.symm er.symm fun d => (h d).symm
      omega
    have rest := can_uniq ha.tail hb.tail fun d => by
      by_cases c : x.lo ≤ d
      · rw [ended_text (cur := x.lo) ha.down.2.1 c, ended_text (cur := y.lo) hb.down.2.1 (by omega)]
      · have e := h d
        rwa [text_skip (by omega), text_skip (by omega)] at e
    rw [List.map_cons, List.map_cons, rest]
    show (x.lo, x.e, x.r) :: _ = (y.lo, y.e, y.r) :: _
    rw [ee, er, el]
/-! ### what is laid is so -/
def Solid (ps : List Pt) : Prop := ∀ p ∈ ps, p.v ≠ .non → p.r ≠ nonR
theorem layStep_sep {ps acc : List Pt} {a b : Int} (h : Sep acc) : Sep (layStep ps acc a b) := by
  unfold layStep
  cases acc with
  | nil =>
    show Sep (if _ = true then _ else _)
    split
    · split <;> trivial
    · split <;> trivial
  | cons q rest =>
    by_cases hj : (((q :: rest).head?.any fun q => decide (q.e = a) && decide (q.r = atR ps a)) = true)
    · rw [if_pos hj]
      have hj' : (decide (q.e = a) && decide (q.r = atR ps a)) = true := hj
      rw [Bool.and_eq_true, decide_eq_true_eq, decide_eq_true_eq] at hj'
      obtain ⟨he, hr⟩ := hj'
      by_cases hv : atV ps a = .non
      · rw [if_pos hv]
        exact h.tail
      · rw [if_neg hv]
        refine Sep.cons h.tail fun x s hx hxe => ?_
        show x.r ≠ atR ps a
        rw [← hr]
        have hx' : rest = x :: s := hx
        rw [hx'] at h
        exact h.head hxe
    · rw [if_neg hj]
      have hj' : ¬ ((decide (q.e = a) && decide (q.r = atR ps a)) = true) := hj
      rw [Bool.and_eq_true, decide_eq_true_eq, decide_eq_true_eq] at hj'
      by_cases hv : atV ps a = .non
      · rw [if_pos hv]
        exact h
      · rw [if_neg hv]
        refine Sep.cons h fun x s hx hxe => ?_
        cases hx
        exact fun z => hj' ⟨hxe, z⟩
theorem lay_sep {ps : List Pt} : ∀ (ds : List Int) (acc : List Pt), Sep acc → Sep (lay ps ds acc)
  | [], _, h => h
  | [_], _, h => h
  | _ :: b :: r, acc, h => lay_sep (b :: r) _ (layStep_sep h)
theorem lay_can {ps : List Pt} {ds : List Int} (hp : Plain ps) (hso : Solid ps) (hlt : ∀ p ∈ ps, p.lo < p.e) (hs : ds.Pairwise (· < ·)) (hm : ∀ x, x ∈ ds ↔ ∃ p ∈ ps, x = p.lo ∨ x = p.e) : Can (lay ps ds []) := by
  obtain ⟨h1, h2, h3⟩ := lay_all hp hlt hs hm
  refine ⟨h1, lay_sep ds [] trivial, fun q hq => ?_⟩
  obtain ⟨_, _, hv, p, hp', e1, e2⟩ := h3 q hq
  rw [e2]
  exact hso p hp' (by rw [← e1]; exact hv)
end Ln
/-! Texts of plain data (None, numbers, words of a to z, tuples of them) are unlike where the data are. -/
namespace Tx
open PySem PySem.Builtin.Str
def Let (y : Str) : Prop := ∀ c ∈ y.cps.toList, 97 ≤ c ∧ c ≤ 122
inductive At : PyData → Prop
  | non : At .none
  | int (i : Int) : At (.int i)
  | str (y : Str) (h : Let y) : At (.str y)
def Sd : Nat → PyData → Prop
  | 0, d => At d
  | n + 1, d => At d ∨ ∃ ds, d = .tuple ds ∧ ∀ x ∈ ds, Sd n x
abbrev tx (d : PyData) : List Nat := d.shown.cps.toList
theorem cps_app (a b : Str) : (a ++ b).cps.toList = a.cps.toList ++ b.cps.toList := by
  show (a.cps ++ b.cps).toList = _
  simp
theorem tx_int (i : Int) : tx (.int i) = (toString i).toList.map Char.toNat := by
  show (PyData.int i).shown.cps.toList = _
  rw [PyData.shown_int, Str.ofString_eq_toList]
theorem map_inj {α β : Type} {f : α → β} (hf : ∀ a b, f a = f b → a = b) : ∀ (xs ys : List α), xs.map f = ys.map f → xs = ys
  | [], [], _ => rfl
  | [], _ :: _, h => by cases h
  | _ :: _, [], h => by cases h
  | x :: xs, y :: ys, h => by
    rw [List.map_cons, List.map_cons] at h
    injection h with h1 h2
    rw [hf x y h1, map_inj hf xs ys h2]
theorem tx_int_inj {i j : Int} (h : tx (.int i) = tx (.int j)) : i = j := by
  rw [tx_int, tx_int] at h
  have h2 : (toString i).toList = (toString j).toList := by
    exact map_inj (fun a b e => Char.toNat_inj.mp e) _ _ h
  have h3 : toString i = toString j := String.toList_inj.mp h2
  exact Int.repr_inj.mp h3
theorem tx_int_sign (i : Int) : ∀ c ∈ tx (.int i), c = 45 ∨ (48 ≤ c ∧ c ≤ 57) := fun c hc => by
  by_cases h : c = 45 ∨ (48 ≤ c ∧ c ≤ 57)
  · exact h
  · have hc' : c ∈ (PyData.int i).shown.cps.toList := hc
    rw [PyData.shown_int] at hc'
    exact absurd hc' (PyProof.Rows.int_text_free' c ⟨fun z => h (.inl z), by omega⟩ i)
theorem tx_int_ne (i : Int) : tx (.int i) ≠ [] := by
  have ne : ∀ m : Nat, m.repr.toList ≠ [] := fun m h => by
    have : (Nat.toDigits 10 m).length = 0 := by
      have e : m.repr.toList = Nat.toDigits 10 m := by simp [Nat.repr]
      rw [← e, h]
      rfl
    have := Nat.length_toDigits_pos (b := 10) (n := m)
    omega
  rw [tx_int]
  intro h
  have h2 := List.map_eq_nil_iff.mp h
  cases i with
  | ofNat m => exact ne m h2
  | negSucc m =>
    have e : (toString (Int.negSucc m)).toList = '-' :: (m.succ.repr).toList := by
      show ("-" ++ m.succ.repr).toList = _
      simp
    rw [e] at h2
    cases h2
theorem rc_let {c : Nat} (h : 97 ≤ c ∧ c ≤ 122) : reprChar 39 c = [c] := by
  have : c = 97 ∨ c = 98 ∨ c = 99 ∨ c = 100 ∨ c = 101 ∨ c = 102 ∨ c = 103 ∨ c = 104 ∨ c = 105 ∨ c = 106 ∨ c = 107 ∨ c = 108 ∨ c = 109 ∨ c = 110 ∨ c = 111 ∨ c = 112 ∨ c = 113 ∨ c = 114 ∨ c = 115 ∨ c = 116 ∨ c = 117 ∨ c = 118 ∨ c = 119 ∨ c = 120 ∨ c = 121 ∨ c = 122 := by omega
  rcases this with rfl | rfl | rfl | rfl | rfl | rfl | rfl | rfl | rfl | rfl | rfl | rfl | rfl | rfl | rfl | rfl | rfl | rfl | rfl | rfl | rfl | rfl | rfl | rfl | rfl | rfl <;> decide +kernel
theorem fold_let : ∀ (l : List Nat) (acc : Array Nat), (∀ c ∈ l, 97 ≤ c ∧ c ≤ 122) → (l.foldl (fun out c => out ++ (reprChar 39 c).toArray) acc).toList = acc.toList ++ l
  | [], acc, _ => by simp
  | c :: r, acc, h => by
    rw [List.foldl_cons, fold_let r _ fun x hx => h x (List.mem_cons_of_mem _ hx), rc_let (h c (List.mem_cons_self ..))]
    simp
theorem tx_str {y : Str} (h : Let y) : tx (.str y) = 39 :: y.cps.toList ++ [39] := by
  have q : reprQuote y = 39 := by
    unfold reprQuote
    have : y.cps.contains 39 = false := by
      rw [Bool.eq_false_iff]
      intro z
      have := h 39 (Array.mem_toList_iff.mpr (Array.contains_iff_mem.mp z))
      omega
    rw [this]
    rfl
  show (reprText y).cps.toList = _
  unfold reprText
  rw [q]
  show (Array.push _ _).toList = _
  rw [Array.toList_push, ← Array.foldl_toList, fold_let _ _ h]
  rfl
/-! ### tuples -/
def tl : List PyData → List Nat
  | [] => [41]
  | x :: r => 44 :: 32 :: (tx x ++ tl r)
theorem join_tl : ∀ (x : PyData) (r : List PyData), (Str.join ", " (PyData.shownAll (x :: r))).cps.toList ++ [41] = tx x ++ tl r
  | x, [] => rfl
  | x, y :: r => by
    have ih := join_tl y r
    show ((x.shown ++ ((", " : String) : Str) ++ Str.join ", " (PyData.shownAll (y :: r))).cps.toList) ++ [41] = _
    rw [cps_app, cps_app, List.append_assoc, ih, tl]
    have e : ((", " : String) : Str).cps.toList = [44, 32] := by decide +kernel
    rw [e]
    simp
theorem tx_tup : ∀ ds : List PyData, tx (.tuple ds) = match ds with | [] => [40, 41] | [x] => 40 :: (tx x ++ [44, 41]) | x :: y :: r => 40 :: (tx x ++ tl (y :: r))
  | [] => by decide +kernel
  | [x] => by
    show (((("(" : String) : Str) ++ x.shown ++ ((",)" : String) : Str)).cps.toList) = _
    rw [cps_app, cps_app]
    have e1 : (("(" : String) : Str).cps.toList = [40] := by decide +kernel
    have e2 : ((",)" : String) : Str).cps.toList = [44, 41] := by decide +kernel
    rw [e1, e2]
    simp
  | x :: y :: r => by
    have e0 : ((PyData.shownAll (x :: y :: r)).length == 1) = false := by
      simp [PyData.shownAll]
    show (tupleText (PyData.shownAll (x :: y :: r))).cps.toList = _
    unfold tupleText
    rw [e0]
    show (((("(" : String) : Str) ++ Str.join ", " (PyData.shownAll (x :: y :: r)) ++ ((")" : String) : Str)).cps.toList) = _
    rw [cps_app, cps_app, List.append_assoc]
    have e1 : (("(" : String) : Str).cps.toList = [40] := by decide +kernel
    have e2 : ((")" : String) : Str).cps.toList = [41] := by decide +kernel
    rw [e1, e2, join_tl]
    rfl
/-! ### one text ahead of another: the data ahead are alike -/
def Stop (s : List Nat) : Prop := s = [] ∨ ∃ c r, s = c :: r ∧ (c = 41 ∨ c = 44)
theorem stop_ne {s : List Nat} (h : Stop s) {c : Nat} {r : List Nat} (e : s = c :: r) : c = 41 ∨ c = 44 := by
  rcases h with h | ⟨c', r', h, hc⟩
  · rw [h] at e
    cases e
  · rw [h] at e
    cases e
    exact hc
/-- two rows of signs of a sort, each with one of no such sort behind -/
theorem cut_eq {p : Nat → Prop} : ∀ {a b s t : List Nat}, (∀ c ∈ a, p c) → (∀ c ∈ b, p c) → (∀ c r, s = c :: r → ¬ p c) → (∀ c r, t = c :: r → ¬ p c) → a ++ s = b ++ t → a = b ∧ s = t
  | [], [], _, _, _, _, _, _, h => ⟨rfl, h⟩
  | [], y :: b, s, t, _, hb, hs, _, h => absurd (hb y (List.mem_cons_self ..)) (hs y (b ++ t) h)
  | x :: a, [], s, t, ha, _, _, ht, h => absurd (ha x (List.mem_cons_self ..)) (ht x (a ++ s) h.symm)
  | x :: a, y :: b, s, t, ha, hb, hs, ht, h => by
    injection h with h1 h2
    obtain ⟨e1, e2⟩ := cut_eq (fun c hc => ha c (List.mem_cons_of_mem _ hc)) (fun c hc => hb c (List.mem_cons_of_mem _ hc)) hs ht h2
    rw [h1, e1]
    exact ⟨rfl, e2⟩
theorem tx_non : tx .none = [78, 111, 110, 101] := by decide +kernel
/-- with which sign a text begins -/
inductive Beg : PyData → Nat → Prop
  | non : Beg .none 78
  | int (i : Int) (c : Nat) (h : c = 45 ∨ (48 ≤ c ∧ c ≤ 57)) : Beg (.int i) c
  | str (y : Str) (h : Let y) : Beg (.str y) 39
  | tup (ds : List PyData) : Beg (.tuple ds) 40
theorem beg_tup (ds : List PyData) : ∃ r, tx (.tuple ds) = 40 :: r := by
  rw [tx_tup]
  match ds with
  | [] => exact ⟨_, rfl⟩
  | [x] => exact ⟨_, rfl⟩
  | x :: y :: r => exact ⟨_, rfl⟩
theorem beg_of : ∀ {n : Nat} {d : PyData}, Sd n d → ∃ c r, tx d = c :: r ∧ Beg d c := by
  have at_ : ∀ {d : PyData}, At d → ∃ c r, tx d = c :: r ∧ Beg d c := by
    intro d h
    cases h with
    | non => exact ⟨_, _, tx_non, .non⟩
    | int i =>
      cases e : tx (.int i) with
      | nil => exact absurd e (tx_int_ne i)
      | cons c r => exact ⟨c, r, rfl, .int i c (tx_int_sign i c (by rw [e]; exact List.mem_cons_self ..))⟩
    | str y h => exact ⟨_, _, tx_str h, .str y h⟩
  intro n d h
  cases n with
  | zero => exact at_ h
  | succ n =>
    rcases h with h | ⟨ds, rfl, _⟩
    · exact at_ h
    · obtain ⟨r, e⟩ := beg_tup ds
      exact ⟨40, r, e, .tup ds⟩
theorem stop_tl (r : List PyData) (s : List Nat) : Stop (tl r ++ s) := by
  cases r with
  | nil => exact .inr ⟨41, s, rfl, .inl rfl⟩
  | cons x r => exact .inr ⟨44, _, rfl, .inr rfl⟩
theorem sd_tup {n : Nat} {ds : List PyData} (h : Sd n (.tuple ds)) : ∃ k, n = k + 1 ∧ ∀ x ∈ ds, Sd k x := by
  cases n with
  | zero => cases h
  | succ k =>
    rcases h with h | ⟨es, e, h⟩
    · cases h
    · cases e
      exact ⟨k, rfl, h⟩
theorem tx_cut : ∀ (n m : Nat) (d e : PyData) (s t : List Nat), Sd n d → Sd m e → Stop s → Stop t → tx d ++ s = tx e ++ t → d = e ∧ s = t := by
  intro n
  induction n using Nat.strongRecOn with
  | _ n ih =>
    intro m d e s t hd he hs ht h
    obtain ⟨c, r, e1, b1⟩ := beg_of hd
    obtain ⟨c', r', e2, b2⟩ := beg_of he
    have hc : c = c' := by
      rw [e1, e2] at h
      injection h
    subst hc
    cases b1 with
    | non =>
      cases b2 with
      | non => exact ⟨rfl, List.append_cancel_left h⟩
      | int i _ hi => omega
    | int i _ hi =>
      cases b2 with
      | non => omega
      | int j _ hj =>
        have no : ∀ {u : List Nat}, Stop u → ∀ c r, u = c :: r → ¬ (c = 45 ∨ (48 ≤ c ∧ c ≤ 57)) := fun hu c r e => by
          have := stop_ne hu e
          omega
        obtain ⟨h1, h2⟩ := cut_eq (p := fun c => c = 45 ∨ (48 ≤ c ∧ c ≤ 57)) (tx_int_sign i) (tx_int_sign j) (no hs) (no ht) h
        rw [tx_int_inj h1]
        exact ⟨rfl, h2⟩
      | str z hz => omega
      | tup es => omega
    | str y hy =>
      cases b2 with
      | int j _ hj => omega
      | str z hz =>
        rw [tx_str hy, tx_str hz, List.cons_append, List.cons_append, List.cons_append, List.cons_append, List.append_assoc, List.append_assoc] at h
        injection h with _ h
        obtain ⟨h1, h2⟩ := cut_eq (p := fun c => 97 ≤ c ∧ c ≤ 122) hy hz (fun c r e => by cases e; omega) (fun c r e => by cases e; omega) h
        have e : y = z := by
          obtain ⟨a⟩ := y
          obtain ⟨b⟩ := z
          exact congrArg Str.mk (Array.toList_inj.mp h1)
        rw [e]
        refine ⟨rfl, ?_⟩
        injection h2
    | tup ds =>
      cases b2 with
      | int j _ hj => omega
      | tup es =>
        obtain ⟨k, rfl, hk⟩ := sd_tup hd
        obtain ⟨l, rfl, hl⟩ := sd_tup he
        have step : ∀ (x y : PyData) (u v : List Nat), Sd k x → Sd l y → Stop u → Stop v → tx x ++ u = tx y ++ v → x = y ∧ u = v := fun x y u v => ih k (by omega) l x y u v
        have all_ : ∀ (xs ys : List PyData), (∀ x ∈ xs, Sd k x) → (∀ x ∈ ys, Sd l x) → tl xs ++ s = tl ys ++ t → xs = ys ∧ s = t := by
          intro xs
          induction xs with
          | nil =>
            intro ys _ _ h
            cases ys with
            | nil =>
              injection h with _ h
              exact ⟨rfl, h⟩
            | cons y ys =>
              injection h with h1 _
              omega
          | cons x xs ih2 =>
            intro ys hx hy h
            cases ys with
            | nil =>
              injection h with h1 _
              omega
            | cons y ys =>
              rw [tl, tl] at h
              simp only [List.cons_append, List.append_assoc] at h
              injection h with _ h
              injection h with _ h
              obtain ⟨a, b⟩ := step x y _ _ (hx x (List.mem_cons_self ..)) (hy y (List.mem_cons_self ..)) (stop_tl xs s) (stop_tl ys t) h
              obtain ⟨a2, b2⟩ := ih2 ys (fun z hz => hx z (List.mem_cons_of_mem _ hz)) (fun z hz => hy z (List.mem_cons_of_mem _ hz)) b
              rw [a, a2]
              exact ⟨rfl, b2⟩
        have comma : ∀ u : List Nat, Stop (44 :: u) := fun u => .inr ⟨44, u, rfl, .inr rfl⟩
        have sx := fun x (hx : x ∈ ds) => hk x hx
        have sy := fun x (hx : x ∈ es) => hl x hx
        rw [tx_tup, tx_tup] at h
        match ds, es, h with
        | [], [], h =>
          injection h with _ h
          injection h with _ h
          exact ⟨rfl, h⟩
        | [], [y], h =>
          exfalso
          injection h with _ h
          obtain ⟨c, r, e, b⟩ := beg_of (hl y (List.mem_cons_self ..))
          rw [e] at h
          injection h with h _
          subst h
          cases b
          omega
        | [], y :: y2 :: ys, h =>
          exfalso
          injection h with _ h
          obtain ⟨c, r, e, b⟩ := beg_of (hl y (List.mem_cons_self ..))
          rw [e] at h
          injection h with h _
          subst h
          cases b
          omega
        | [x], [], h =>
          exfalso
          injection h with _ h
          obtain ⟨c, r, e, b⟩ := beg_of (hk x (List.mem_cons_self ..))
          rw [e] at h
          injection h with h _
          subst h
          cases b
          omega
        | x :: x2 :: xs, [], h =>
          exfalso
          injection h with _ h
          obtain ⟨c, r, e, b⟩ := beg_of (hk x (List.mem_cons_self ..))
          rw [e] at h
          injection h with h _
          subst h
          cases b
          omega
        | [x], [y], h =>
          simp only [List.cons_append, List.append_assoc] at h
          injection h with _ h
          obtain ⟨a, b⟩ := step x y _ _ (hk x (List.mem_cons_self ..)) (hl y (List.mem_cons_self ..)) (comma _) (comma _) h
          injection b with _ b
          injection b with _ b
          rw [a]
          exact ⟨rfl, b⟩
        | [x], y :: y2 :: ys, h =>
          exfalso
          simp only [List.cons_append, List.append_assoc] at h
          injection h with _ h
          obtain ⟨a, b⟩ := step x y _ _ (hk x (List.mem_cons_self ..)) (hl y (List.mem_cons_self ..)) (comma _) (stop_tl _ t) h
          rw [tl] at b
          injection b with _ b
          injection b with b _
          omega
        | x :: x2 :: xs, [y], h =>
          exfalso
          simp only [List.cons_append, List.append_assoc] at h
          injection h with _ h
          obtain ⟨a, b⟩ := step x y _ _ (hk x (List.mem_cons_self ..)) (hl y (List.mem_cons_self ..)) (stop_tl _ s) (comma _) h
          rw [tl] at b
          injection b with _ b
          injection b with b _
          omega
        | x :: x2 :: xs, y :: y2 :: ys, h =>
          simp only [List.cons_append, List.append_assoc] at h
          injection h with _ h
          obtain ⟨a, b⟩ := step x y _ _ (hk x (List.mem_cons_self ..)) (hl y (List.mem_cons_self ..)) (stop_tl _ s) (stop_tl _ t) h
          obtain ⟨a2, b2⟩ := all_ _ _ (fun z hz => hk z (List.mem_cons_of_mem _ hz)) (fun z hz => hl z (List.mem_cons_of_mem _ hz)) b
          rw [a, a2]
          exact ⟨rfl, b2⟩
theorem shown_inj {n m : Nat} {d e : PyData} (hd : Sd n d) (he : Sd m e) (h : d.shown = e.shown) : d = e := by
  refine (tx_cut n m d e [] [] hd he (.inl rfl) (.inl rfl) ?_).1
  show d.shown.cps.toList ++ [] = e.shown.cps.toList ++ []
  rw [h]
theorem let_ok {y : Str} (h : Let y) : PyData.strOk y = true := by
  show y.cps.all (· < 0x110000) = true
  rw [← Array.all_toList, List.all_eq_true]
  intro c hc
  have := h c hc
  exact decide_eq_true (by omega)
theorem sd_lay : ∀ {n : Nat} {d : PyData}, Sd n d → d.canLay0 = true ∧ d.depth ≤ n := by
  have at_ : ∀ {d : PyData}, At d → d.canLay0 = true ∧ d.depth = 0 := by
    intro d h
    cases h with
    | non => exact ⟨rfl, rfl⟩
    | int i => exact ⟨rfl, rfl⟩
    | str y h => exact ⟨by simpa [PyData.canLay0] using let_ok h, rfl⟩
  intro n
  induction n with
  | zero =>
    intro d h
    obtain ⟨a, b⟩ := at_ h
    exact ⟨a, by omega⟩
  | succ n ih =>
    intro d h
    rcases h with h | ⟨ds, rfl, h⟩
    · obtain ⟨a, b⟩ := at_ h
      exact ⟨a, by omega⟩
    · have key : ∀ xs : List PyData, (∀ x ∈ xs, Sd n x) → PyData.canLayAll0 xs = true ∧ PyData.depthAll xs ≤ n := by
        intro xs
        induction xs with
        | nil => intro _; exact ⟨rfl, Nat.zero_le _⟩
        | cons x xs ih2 =>
          intro hx
          obtain ⟨a1, a2⟩ := ih (hx x (List.mem_cons_self ..))
          obtain ⟨b1, b2⟩ := ih2 fun z hz => hx z (List.mem_cons_of_mem _ hz)
          refine ⟨by simp [PyData.canLayAll0, a1, b1], ?_⟩
          simp only [PyData.depthAll]
          omega
      obtain ⟨a, b⟩ := key ds h
      refine ⟨by simpa [PyData.canLay0] using a, ?_⟩
      simp only [PyData.depth]
      omega
theorem eqv_eq : ∀ {n m : Nat} {d e : PyData}, Sd n d → Sd m e → PyData.eqv d e = true → d = e := by
  intro n
  induction n using Nat.strongRecOn with
  | _ n ih =>
    intro m d e hd he h
    obtain ⟨_, _, _, b1⟩ := beg_of hd
    obtain ⟨_, _, _, b2⟩ := beg_of he
    cases b1 with
    | non =>
      cases b2 with
      | non => rfl
      | _ => simp [PyData.eqv] at h
    | int i =>
      cases b2 with
      | int j => simp [PyData.eqv] at h; rw [h]
      | _ => simp [PyData.eqv] at h
    | str y =>
      cases b2 with
      | str z => simp [PyData.eqv] at h; rw [h]
      | _ => simp [PyData.eqv] at h
    | tup ds =>
      cases b2 with
      | tup es =>
        obtain ⟨k, rfl, hk⟩ := sd_tup hd
        obtain ⟨l, rfl, hl⟩ := sd_tup he
        rw [PyData.eqv] at h
        have all_ : ∀ (xs ys : List PyData), (∀ x ∈ xs, Sd k x) → (∀ x ∈ ys, Sd l x) → PyData.eqvAll xs ys = true → xs = ys := by
          intro xs
          induction xs with
          | nil =>
            intro ys _ _ h
            cases ys with
            | nil => rfl
            | cons y ys => simp [PyData.eqvAll] at h
          | cons x xs ih2 =>
            intro ys hx hy h
            cases ys with
            | nil => simp [PyData.eqvAll] at h
            | cons y ys =>
              rw [PyData.eqvAll, Bool.and_eq_true] at h
              rw [ih k (by omega) (hx x (List.mem_cons_self ..)) (hy y (List.mem_cons_self ..)) h.1, ih2 ys (fun z hz => hx z (List.mem_cons_of_mem _ hz)) (fun z hz => hy z (List.mem_cons_of_mem _ hz)) h.2]
        rw [all_ ds es hk hl h]
      | _ => simp [PyData.eqv] at h
/-- == of plain data is that of their texts -/
theorem eqv_shown {n m : Nat} {d e : PyData} (hd : Sd n d) (he : Sd m e) : PyData.eqv d e = decide (d.shown = e.shown) := by
  by_cases h : d.shown = e.shown
  · rw [decide_eq_true h, shown_inj hd he h]
    exact SeqAt.eqv_refl _ (sd_lay he).1
  · rw [decide_eq_false h]
    cases hb : PyData.eqv d e with
    | false => rfl
    | true => exact absurd (congrArg PyData.shown (eqv_eq hd he hb)) h
end Tx
namespace Ln
open PySem L2
/-! ### things, and tuples of things, as data -/
inductive TD : V → PyData → Prop
  | non : TD .non .none
  | int (i : Int) (h : i.natAbs ≤ 10 ^ 18) : TD (.int i) (.int i)
  | str (y : Str) (h1 : 1 ≤ y.length) (h : y.length ≤ 8) (o : Tx.Let y) : TD (.str y) (.str y)
inductive TDs : List V → List PyData → Prop
  | nil : TDs [] []
  | cons {v : V} {d : PyData} {vs : List V} {ds : List PyData} (h : TD v d) (r : TDs vs ds) : TDs (v :: vs) (d :: ds)
/-- None, or a number -/
inductive WA : V → PyData → Prop
  | non : WA .non .none
  | int (i : Int) (h : i.natAbs ≤ 10 ^ 18) : WA (.int i) (.int i)
theorem WA.td {v : V} {d : PyData} (x : WA v d) : TD v d := by
  cases x with
  | non => exact .non
  | int i h => exact .int i h
def WhatOk (H : Hp) (v : V) (d : PyData) : Prop := WA v d ∨ ∃ (a : Addr) (xs : List V) (ds : List PyData), v = .ref a ∧ H a = some (.tup xs) ∧ xs.length ≤ 4 ∧ TDs xs ds ∧ d = .tuple ds
/-- all tuples stand -/
def Keep (H H' : Hp) : Prop := ∀ a xs, H a = some (.tup xs) → H' a = some (.tup xs)
theorem Keep.of {H H' : Hp} (s : Same H H') : Keep H H' := fun a xs e => s a _ e
theorem Keep.trans {H H1 H2 : Hp} (a : Keep H H1) (b : Keep H1 H2) : Keep H H2 := fun c xs e => b c xs (a c xs e)
theorem Keep.refl (H : Hp) : Keep H H := fun _ _ e => e
theorem WhatOk.keep {H H' : Hp} {v : V} {d : PyData} (x : WhatOk H v d) (k : Keep H H') : WhatOk H' v d := by
  rcases x with x | ⟨a, xs, ds, h1, h2, h3⟩
  · exact .inl x
  · exact .inr ⟨a, xs, ds, h1, k _ _ h2, h3⟩
theorem TD.dp {K : PySem.W.Frag} {H : Hp} {v : V} {d : PyData} (x : TD v d) : Dp K H v d := by
  cases x with
  | non => exact .non
  | int i _ => exact .int i
  | str y _ _ _ => exact .str y
theorem TDs.dp {K : PySem.W.Frag} {H : Hp} : ∀ {vs : List V} {ds : List PyData}, TDs vs ds → DpAll K H vs ds
  | _, _, .nil => .nil
  | _, _, .cons h r => .cons h.dp r.dp
theorem WhatOk.dp {K : PySem.W.Frag} {H : Hp} {v : V} {d : PyData} (x : WhatOk H v d) : Dp K H v d := by
  rcases x with x | ⟨a, xs, ds, rfl, h2, _, h4, rfl⟩
  · exact x.td.dp
  · exact .tup (SqT.of h2) h4.dp
theorem log2_small {i : Int} (h : i.natAbs ≤ 10 ^ 18) : i.natAbs.log2 < 1920 := PySem.Flt.log2_lt_of (k := 1920) (by decide) (Nat.lt_of_le_of_lt h (by decide +kernel))
theorem TD.facts {v : V} {d : PyData} (x : TD v d) : d.showable = true ∧ d.hasDict = false ∧ d.depth = 0 ∧ d.shown.length ≤ 100 ∧ d.canLay0 = true := by
  cases x with
  | non => exact ⟨rfl, rfl, rfl, by decide +kernel, rfl⟩
  | int i h =>
    refine ⟨decide_eq_true (log2_small h), rfl, rfl, ?_, rfl⟩
    have e := PySem.int_text_length_le10 (a := i) (k := 19) (by decide) (Nat.lt_of_le_of_lt h (by decide))
    show (Str.ofString (toString i)).length ≤ 100
    rw [ofString_length]
    omega
  | str y _ h o0 =>
    have o := Tx.let_ok o0
    refine ⟨rfl, rfl, rfl, ?_, by simpa [PyData.canLay0] using o⟩
    have oy : y.cps.all (· < 0x110000) = true := o
    rw [← Array.all_toList, List.all_eq_true] at oy
    have e := StrLaws.reprText_len y fun c hc => by
      have := of_decide_eq_true (oy c hc)
      omega
    show (reprText y).length ≤ 100
    omega
theorem TDs.facts : ∀ {vs : List V} {ds : List PyData}, TDs vs ds → PyData.showableAll ds = true ∧ PyData.hasDictAll ds = false ∧ PyData.depthAll ds = 0 ∧ ((PyData.shownAll ds).map (·.length)).sum ≤ 100 * vs.length ∧ (PyData.shownAll ds).length = vs.length ∧ PyData.canLayAll0 ds = true
  | _, _, .nil => ⟨rfl, rfl, rfl, Nat.zero_le _, rfl, rfl⟩
  | _, _, .cons h r => by
    obtain ⟨a1, a2, a3, a4, a5⟩ := h.facts
    obtain ⟨b1, b2, b3, b4, b6, b5⟩ := r.facts
    refine ⟨by simp [PyData.showableAll, a1, b1], by simp [PyData.hasDictAll, a2, b2], by simp [PyData.depthAll, a3, b3], ?_, ?_, by simp [PyData.canLayAll0, a5, b5]⟩
    · rw [PyData.shownAll, List.map_cons, List.sum_cons, List.length_cons]
      omega
    · rw [PyData.shownAll, List.length_cons, List.length_cons, b6]
theorem WhatOk.facts {H : Hp} {v : V} {d : PyData} (x : WhatOk H v d) : d.showable = true ∧ d.hasDict = false ∧ d.depth ≤ 60 ∧ d.shown.length ≤ sizeLine ∧ d.canLay0 = true := by
  rcases x with x | ⟨a, xs, ds, rfl, _, h3, h4, rfl⟩
  · obtain ⟨a1, a2, a3, a4, a5⟩ := x.td.facts
    exact ⟨a1, a2, by omega, by rw [sizeLine_eq]; omega, a5⟩
  · obtain ⟨b1, b2, b3, b4, b6, b5⟩ := h4.facts
    refine ⟨by simpa [PyData.showable] using b1, by simpa [PyData.hasDict] using b2, by simp [PyData.depth, b3], ?_, by simpa [PyData.canLay0] using b5⟩
    have e := PySem.tupleText_len_le (PyData.shownAll ds)
    show (tupleText (PyData.shownAll ds)).length ≤ sizeLine
    rw [sizeLine_eq]
    omega
theorem WhatOk.long {H : Hp} {v : V} {d : PyData} (x : WhatOk H v d) : d.shown.length ≤ 500 ∧ d.depth ≤ 1 := by
  rcases x with x | ⟨a, xs, ds, rfl, _, h3, h4, rfl⟩
  · obtain ⟨a1, a2, a3, a4, a5⟩ := x.td.facts
    exact ⟨by omega, by omega⟩
  · obtain ⟨b1, b2, b3, b4, b6, b5⟩ := h4.facts
    have e := PySem.tupleText_len_le (PyData.shownAll ds)
    refine ⟨?_, by simp [PyData.depth, b3]⟩
    show (tupleText (PyData.shownAll ds)).length ≤ 500
    omega
theorem TD.sd {v : V} {d : PyData} (x : TD v d) : Tx.At d := by
  cases x with
  | non => exact .non
  | int i _ => exact .int i
  | str y _ _ o => exact .str y o
theorem TDs.sd : ∀ {vs : List V} {ds : List PyData}, TDs vs ds → ∀ x ∈ ds, Tx.Sd 0 x
  | _, _, .cons h r, x, hx => by
    rcases List.mem_cons.mp hx with rfl | hx
    · exact h.sd
    · exact r.sd x hx
theorem WhatOk.sd {H : Hp} {v : V} {d : PyData} (x : WhatOk H v d) : Tx.Sd 1 d := by
  rcases x with x | ⟨a, xs, ds, rfl, _, h3, h4, rfl⟩
  · exact .inl x.td.sd
  · exact .inr ⟨ds, rfl, h4.sd⟩
theorem WhatOk.full {H : Hp} {v : V} {d : PyData} (x : WhatOk H v d) (hv : v ≠ .non) : d.shown ≠ nonR := fun h => by
  have e : d = .none := Tx.shown_inj x.sd (m := 0) .non h
  rcases x with x | ⟨a, xs, ds, _, _, _, _, h⟩
  · rw [e] at x
    cases x
    exact hv rfl
  · rw [e] at h
    cases h
theorem WhatOk.hard {H : Hp} {v : V} {d : PyData} (x : WhatOk H v d) (hv : v ≠ .non) : (∃ i, v = .int i) ∨ ∃ a, v = .ref a := by
  rcases x with x | ⟨a, xs, ds, h, _⟩
  · cases x with
    | non => exact absurd rfl hv
    | int i _ => exact .inl ⟨i, rfl⟩
  · exact .inr ⟨a, h⟩
theorem WhatOk.non {H : Hp} {d : PyData} (x : WhatOk H .non d) : d = .none := by
  rcases x with x | ⟨a, xs, ds, h, _⟩
  · cases x
    rfl
  · cases h
/-! ### paints in the heap -/
def endV (e : Int) : V := if e > 10 ^ 12 then .non else .int e
structure PtOk (H : Hp) (b : V) (p : Pt) : Prop where
  at_ : ∃ a, b = .ref a ∧ H a = some (.tup [.int p.lo, endV p.e, p.v])
  what : ∃ d, WhatOk H p.v d ∧ p.r = d.shown
  lo0 : 0 ≤ p.lo
  lt : p.lo < p.e
  top_ : p.e ≤ 10 ^ 12 + 1
theorem PtOk.keep {H H' : Hp} {b : V} {p : Pt} (x : PtOk H b p) (k : Keep H H') : PtOk H' b p := by
  obtain ⟨⟨a, h1, h2⟩, ⟨d, h3, h4⟩, h5, h6, h7⟩ := x
  exact ⟨⟨a, h1, k _ _ h2⟩, ⟨d, h3.keep k, h4⟩, h5, h6, h7⟩
abbrev Pts (H : Hp) : List V → List Pt → Prop := Paired (PtOk H)
theorem pts_keep {H H' : Hp} (k : Keep H H') : ∀ {bs : List V} {ps : List Pt}, Pts H bs ps → Pts H' bs ps
  | _, _, .nil => .nil
  | _, _, .cons h r => .cons (h.keep k) (pts_keep k r)
theorem pts_at {H : Hp} : ∀ {bs : List V} {ps : List Pt} {i : Nat} {b : V}, Pts H bs ps → bs[i]? = some b → ∃ p, ps[i]? = some p ∧ PtOk H b p
  | _, _, _, _, .nil, e => by simp at e
  | _, _, 0, _, .cons h _, e => by
    simp at e
    subst e
    exact ⟨_, rfl, h⟩
  | _, _, i + 1, b, .cons _ r, e => by
    obtain ⟨p, h1, h2⟩ := pts_at (i := i) r (by simpa using e)
    exact ⟨p, by simpa using h1, h2⟩
theorem pts_mem {H : Hp} : ∀ {bs : List V} {ps : List Pt}, Pts H bs ps → ∀ p ∈ ps, ∃ b, PtOk H b p
  | _, _, .cons h r, p, hp => by
    rcases List.mem_cons.mp hp with rfl | hp
    · exact ⟨_, h⟩
    · exact pts_mem r p hp
theorem pts_app {H : Hp} : ∀ {bs : List V} {ps : List Pt} {cs : List V} {qs : List Pt}, Pts H bs ps → Pts H cs qs → Pts H (bs ++ cs) (ps ++ qs)
  | _, _, _, _, .nil, s => s
  | _, _, _, _, .cons h r, s => .cons h (pts_app r s)
theorem pts_len {H : Hp} {bs : List V} {ps : List Pt} (h : Pts H bs ps) : bs.length = ps.length := Paired.length h
theorem pts_plain {H : Hp} {bs : List V} {ps : List Pt} (h : Pts H bs ps) : Plain ps := fun p hp hv => by
  obtain ⟨b, x⟩ := pts_mem h p hp
  obtain ⟨d, h1, h2⟩ := x.what
  rw [hv] at h1
  rw [h2, h1.non]
  rfl
theorem pts_solid {H : Hp} {bs : List V} {ps : List Pt} (h : Pts H bs ps) : Solid ps := fun p hp hv => by
  obtain ⟨b, x⟩ := pts_mem h p hp
  obtain ⟨d, h1, h2⟩ := x.what
  rw [h2]
  exact h1.full hv
/-! ### pieces as data, and their texts -/
def endD (e : Int) : PyData := if e > 10 ^ 12 then .none else .int e
def ptext (k : Int × Int × Str) : Str := tupleText [(PyData.int k.1).shown, (endD k.2.1).shown, k.2.2]
theorem endD_ok {K : PySem.W.Frag} {H : Hp} {e : Int} (h1 : e ≤ 10 ^ 12 + 1) (h0 : 0 ≤ e) : Dp K H (endV e) (endD e) ∧ TD (endV e) (endD e) := by
  unfold endV endD
  by_cases c : e > 10 ^ 12
  · rw [if_pos c, if_pos c]
    exact ⟨.non, .non⟩
  · rw [if_neg c, if_neg c]
    exact ⟨.int e, .int e (by omega)⟩
/-- a line as data -/
structure LineD (ds : List PyData) (ks : List (Int × Int × Str)) : Prop where
  text : PyData.shownAll ds = ks.map ptext
  show_ : PyData.showableAll ds = true
  dict : PyData.hasDictAll ds = false
  deep : PyData.depthAll ds ≤ 2
  sd : ∀ x ∈ ds, Tx.Sd 2 x
  long : ((PyData.shownAll ds).map (·.length)).sum ≤ 1000 * ds.length
  many : ds.length = ks.length
theorem shownAll_len : ∀ ds : List PyData, (PyData.shownAll ds).length = ds.length
  | [] => rfl
  | x :: r => by rw [PyData.shownAll, List.length_cons, List.length_cons, shownAll_len r]
theorem pts_data {K : PySem.W.Frag} {H : Hp} : ∀ {bs : List V} {ps : List Pt}, Pts H bs ps → ∃ ds, DpAll K H bs ds ∧ LineD ds (ps.map key)
  | _, _, .nil => ⟨[], .nil, ⟨rfl, rfl, rfl, Nat.zero_le _, fun x hx => (nomatch hx), Nat.zero_le _, rfl⟩⟩
  | _, _, .cons (b := p) h r => by
    obtain ⟨ds, h1, h2⟩ := pts_data (K := K) r
    obtain ⟨a, rfl, ha⟩ := h.at_
    obtain ⟨d, hd, hr⟩ := h.what
    obtain ⟨f1, f2, f3, f4, f5⟩ := hd.facts
    obtain ⟨l1, l2⟩ := hd.long
    have lo0 := h.lo0
    have lt := h.lt
    have top_ := h.top_
    obtain ⟨e1, e2⟩ := endD_ok (K := K) (H := H) top_ (by omega)
    obtain ⟨g1, g2, g3, g4, g5⟩ := e2.facts
    have tl : TD (.int p.lo) (.int p.lo) := .int p.lo (by omega)
    obtain ⟨i1, i2, i3, i4, i5⟩ := tl.facts
    refine ⟨.tuple [.int p.lo, endD p.e, d] :: ds, .cons (.tup (SqT.of ha) (.cons (.int p.lo) (.cons e1 (.cons hd.dp .nil)))) h1, ⟨?_, ?_, ?_, ?_, ?_, ?_, ?_⟩⟩
    · rw [PyData.shownAll, h2.text, List.map_cons, List.map_cons]
      show tupleText [(PyData.int p.lo).shown, (endD p.e).shown, d.shown] :: _ = ptext (p.lo, p.e, p.r) :: _
      rw [hr]
      rfl
    · simp [PyData.showableAll, PyData.showable, g1, f1, h2.show_]
      simpa [PyData.showable] using i1
    · simp [PyData.hasDictAll, PyData.hasDict, g2, f2, h2.dict]
    · have := h2.deep
      simp only [PyData.depthAll, PyData.depth, g3]
      omega
    · intro x hx
      rcases List.mem_cons.mp hx with rfl | hx
      · refine .inr ⟨_, rfl, fun y hy => ?_⟩
        simp only [List.mem_cons, List.mem_nil_iff, or_false] at hy
        rcases hy with rfl | rfl | rfl
        · exact .inl (.int _)
        · exact .inl e2.sd
        · exact hd.sd
      · exact h2.sd x hx
    · rw [PyData.shownAll, List.map_cons, List.sum_cons, List.length_cons]
      have e := PySem.tupleText_len_le [(PyData.int p.lo).shown, (endD p.e).shown, d.shown]
      have := h2.long
      have e' : (PyData.tuple [.int p.lo, endD p.e, d]).shown.length ≤ ([(PyData.int p.lo).shown, (endD p.e).shown, d.shown].map (·.length)).sum + 2 * 3 + 3 := e
      simp only [List.map_cons, List.map_nil, List.sum_cons, List.sum_nil] at e'
      omega
    · rw [List.length_cons, h2.many, List.map_cons, List.length_cons]
/-- the line's own text -/
theorem LineD.facts {ds : List PyData} {ks : List (Int × Int × Str)} (h : LineD ds ks) (hl : ks.length ≤ 10000) : (PyData.tuple ds).showable = true ∧ (PyData.tuple ds).hasDict = false ∧ (PyData.tuple ds).depth ≤ 60 ∧ (PyData.tuple ds).shown.length ≤ sizeLine ∧ (PyData.tuple ds).shown = tupleText (ks.map ptext) := by
  refine ⟨by simpa [PyData.showable] using h.show_, by simpa [PyData.hasDict] using h.dict, ?_, ?_, ?_⟩
  · have := h.deep
    simp only [PyData.depth]
    omega
  · have e := PySem.tupleText_len_le (PyData.shownAll ds)
    have e1 := h.long
    have e2 := h.many
    have e3 := shownAll_len ds
    show (tupleText (PyData.shownAll ds)).length ≤ sizeLine
    rw [sizeLine_eq]
    omega
  · show tupleText (PyData.shownAll ds) = _
    rw [h.text]
theorem LineD.lay {ds : List PyData} {ks : List (Int × Int × Str)} (h : LineD ds ks) : Tx.Sd 3 (.tuple ds) := .inr ⟨ds, rfl, h.sd⟩
theorem endV_cov {e d : Int} (hd : d ≤ 10 ^ 12) : (endV e = .non ∧ d < e) ∨ (endV e = .int e ∧ ¬ e > 10 ^ 12) := by
  unfold endV
  by_cases h : e > 10 ^ 12
  · rw [if_pos h]
    exact .inl ⟨rfl, by omega⟩
  · rw [if_neg h]
    exact .inr ⟨rfl, h⟩
end Ln
/-! Things of any kind: tuples by what they hold, lists and empty dicts by their kind alone. -/
namespace L2
open PySem PySem.Spec PyProof.Rows HT
section
variable {prog : Program} {w : World} {A : Around} {E : Value → Shared → Prop} {s : Shared}
theorem sliceApplied_rev {sl : Addr} {vl vu vs : Value} {n : Nat} {Q : Int × Int × Nat → Shared → Prop} (hs : s.heap.IsSliceOf sl vl vu vs) (pl : IsPart vl none) (pu : IsPart vu none) (ps : IsPart vs (some (-1)))
    (h : Q ((n : Int) - 1, -1, n) s) : wpAny (model prog w) A (Builtin.Slice.sliceApplied (.ref sl) (pure (n : Int))) Q E s := by
  obtain ⟨os, hos, hcs, hds⟩ := id hs
  unfold Builtin.Slice.sliceApplied Builtin.Slice.sliceFields
  refine wpAny_bind (wpAny_bind (wpAny_field hos hds (x := vl) rfl (wpAny_bind (wpAny_field hos hds (x := vu) rfl (wpAny_bind (wpAny_field hos hds (x := vs) rfl (wpAny_pure ?_)))))))
  refine wpAny_bind (slicePart_ ps ?_)
  show wpAny _ _ (if ((-1 : Int) == 0) = true then _ else _) _ _ s
  rw [if_neg (by decide)]
  refine wpAny_bind (slicePart_ pl (wpAny_bind (slicePart_ pu (wpAny_bind (wpAny_pure ?_)))))
  have e : Builtin.Slice.slicePlaces ((n : Int) - 1) (-1) (-1) = n := by
    unfold Builtin.Slice.slicePlaces
    rw [if_neg (by decide)]
    by_cases c : (n : Int) - 1 > -1
    · rw [if_pos c, show (- -1 : Int) = 1 by decide, Int.ediv_one]
      omega
    · rw [if_neg c]
      omega
  show wpAny _ _ (pure ((n : Int) - 1, (-1 : Int), Builtin.Slice.slicePlaces ((n : Int) - 1) (-1) (-1))) _ _ s
  rw [e]
  exact wpAny_pure h
theorem pick_rev (xs : Array Value) : ((List.range xs.size).filterMap fun (m : Nat) => xs[(((xs.size : Int) - 1) + (m : Int) * (-1)).toNat]?).toArray = xs.toList.reverse.toArray := by
  have e : ((List.range xs.size).filterMap fun (m : Nat) => xs[(((xs.size : Int) - 1) + (m : Int) * (-1)).toNat]?) = ((List.range xs.size).map (fun k => xs.size - 1 - k)).filterMap (xs[·]?) := by
    have e2 : (List.range xs.size).map (fun k => xs.size - 1 - k) = (List.range xs.size).map fun (m : Nat) => (((xs.size : Int) - 1) + (m : Int) * (-1)).toNat := by
      refine List.map_congr_left fun m hm => ?_
      have := List.mem_range.mp hm
      omega
    rw [e2, List.filterMap_map]
    rfl
  rw [e, PySem.W.krv_range, List.filterMap_reverse, PySem.W.krv_all]
theorem getItem_tuple_rev {t sl : Addr} {items : Array Value} {vl vu vs : Value} {Q : Value → Shared → Prop} (ht : IsTup s.heap t items) (hs : s.heap.IsSliceOf sl vl vu vs) (pl : IsPart vl none) (pu : IsPart vu none) (ps : IsPart vs (some (-1)))
    (h : Q (.ref s.heap.objs.size) { s with heap := s.heap.push { cls := .type "tuple", data := .seq items.toList.reverse.toArray } })
    (hsz : items.size ≤ sizeLine) : wpAny (model prog w) A (getItem (.ref t) (.ref sl)) Q E s := by
  have htake : sizeOk (.seq items.toList.reverse.toArray) := by
    show items.toList.reverse.toArray.size ≤ sizeLine
    rw [List.size_toArray, List.length_reverse, Array.length_toList]
    exact hsz
  obtain ⟨os, hos, hcs, hds⟩ := id hs
  have hTs : s.TypeIs (.ref sl) "slice" := ⟨os, hos, hcs⟩
  unfold getItem
  try with_reducible refine wpAny_holding ?_
  first | refine wpAny_bind (wpAny_pure ?_) | skip
  refine wpAny_bind (wpAny_sequenceKey ht.typeIs (by decide) ?_)
  refine wpAny_bind (wpAny_callSpecial?_slot (name := Str.ofString "__getitem__") ht.typeIs PyProof.Rows.slot_tuple_getitem
    (wpAny_call_entry PyProof.Rows.slot_tuple_getitem ht.typeIs entry_tuple_getitem ?_ (args_tuple_getitem _ _)))
  show wpAny _ _ (Builtin.Tuple.tupleItemsOf (.ref t) >>= _) _ _ s
  refine wpAny_bind (tupleItemsOf_ ht ?_)
  refine wpAny_bind (wpAny_typeOf hTs ?_)
  rw [if_pos (by decide)]
  refine wpAny_bind (sliceApplied_rev hs pl pu ps ?_)
  have hno : ¬ ((((items.size : Int) - 1) == 0 && (-1 : Int) == 1 && items.size == items.size) = true) := by
    intro q
    rw [Bool.and_eq_true, Bool.and_eq_true] at q
    exact absurd q.1.2 (by decide)
  show wpAny _ _ (if (((items.size : Int) - 1) == 0 && (-1 : Int) == 1 && items.size == items.size) = true then _ else _) _ _ s
  rw [if_neg hno, pick_rev]
  first
    | exact wpAny_bind (m := Builtin.Tuple.tupleExact _) (wpAny_newObj_type (wpAny_pure ⟨_, rfl, wpAny_pure h⟩) htake)
    | exact wpAny_bind (m := Builtin.Tuple.tupleExact _) (wpAny_newObj_type (wpAny_bind (wpAny_pure (wpAny_pure ⟨_, rfl, wpAny_pure h⟩))) htake)
    | exact wpAny_bind (wpAny_bind (m := Builtin.Tuple.tupleExact _) (wpAny_newObj_type (wpAny_pure (wpAny_pure ⟨_, rfl, wpAny_pure h⟩)) htake))
    | exact wpAny_bind (wpAny_bind (m := Builtin.Tuple.tupleExact _) (wpAny_newObj_type (wpAny_pure ⟨_, rfl, wpAny_pure h⟩) htake))
end
section
variable {X : Cx}
/-- t[::-1] of a tuple -/
def tRevT (K : PySem.W.Frag) (te : TE) : TE := fun σ H Q => te σ H fun x H1 => ∃ a xs, x = .ref a ∧ SqT K H1 a xs ∧ ∀ p, H1 p = none → Q (.ref p) (upd H1 p (.tup xs.reverse))
theorem pe_revT {e : Expr} {te : TE} {k : Nat} {p1 p2 p3 pos : Pos} (he : PE X e te) : PE X (.Subscript e (.Slice none none (some (.UnaryOp .USub (.Constant (.int 1) k p1) p2)) p3) pos) (tRevT X.K te) := by
  refine ⟨fun pins s σ H Q I h => ?_⟩
  refine Subscript_ (thn (he.run pins s σ H _ I h) fun v s1 ⟨x, H1, I1, r1, q1⟩ => ?_)
  obtain ⟨a, xs, ex, hx, q⟩ := q1
  subst ex
  cases r1
  have hst : PO X (some (.UnaryOp .USub (.Constant (.int 1) k p1) p2)) (tPart (tUn (rU fun i => .int (-i)) (tC (.int 1)))) := po_some (pe_un un_neg pe_int)
  refine wpAny_Slice (thn (po_none.run pins s1 σ H1 (fun o H2 => o = none ∧ H2 = H1) I1 ⟨rfl, rfl⟩) fun vl s2 ⟨l, H2, I2, pl, el, e2⟩ => ?_)
  subst el e2
  refine thn (po_none.run pins s2 σ H2 (fun o H3 => o = none ∧ H3 = H2) I2 ⟨rfl, rfl⟩) fun vu s3 ⟨u, H3, I3, pu, eu, e3⟩ => ?_
  subst eu e3
  refine thn (hst.run pins s3 σ H3 (fun o H4 => o = some (-1) ∧ H4 = H3) I3 ⟨1, rfl, -1, rfl, rfl, rfl⟩) fun vs s4 ⟨o, H4, I4, ps, eo, e4⟩ => ?_
  subst eo e4
  have I5 : Inv X pins σ H4 { s4 with heap := s4.heap.push { cls := .type "slice", data := .fields #[vl, vu, vs] } } := I4.kept (t' := s4.toks) fun b ob q => Heap.get?_push_of_some _ q
  obtain ⟨its, r, ht, hz⟩ := I5.tuple hx
  have hlen := r.length
  show wpAny (model X.prog X.w) X.A (subscriptTail e (.Slice none none (some (.UnaryOp .USub (.Constant (.int 1) k p1) p2)) p3) (.ref a) (.ref s4.heap.objs.size)) (EP X pins σ Q) X.xe { s4 with heap := s4.heap.push { cls := .type "slice", data := .fields #[vl, vu, vs] } }
  refine tail_any (ops := [.ref a, .ref s4.heap.objs.size]) ht.typeIs (PyProof.Rows.slot_tuple_getitem.lookup) ?_ (by with_unfolding_all rfl)
  refine getItem_tuple_rev ht (Heap.IsSliceOf.new _ vl vu vs) pl pu ps ?_ (by rw [List.size_toArray]; omega)
  refine ⟨.ref _, _, I5.laid (t' := s4.toks) (o := .tup xs.reverse) (fun b ob q => Heap.get?_push_of_some _ q) (Nat.le_refl _) ?_, rfl, q _ (I5.hok.fresh (Nat.le_refl _))⟩
  exact ⟨by rw [List.length_reverse]; exact hz, _, r.reverse, IsTup.new _ _⟩
/-- t != (), t a tuple of anything -/
def rNe0 (K : PySem.W.Frag) : R2 := fun x y H Q => ∃ a b xs, x = .ref a ∧ y = .ref b ∧ SqT K H a xs ∧ SqT K H b [] ∧ Q (.bl (!xs.isEmpty)) H
theorem op_ne0 (hu : X.A.units + 64 < cLine) : OpR X (compareOp .NotEq) (rNe0 X.K) := by
  intro pins s σ H x y v u Q I rx ry h
  obtain ⟨a, b, xs, rfl, rfl, ha, hb, q⟩ := h
  cases rx
  cases ry
  obtain ⟨its, r1, p1, _⟩ := I.tuple ha
  obtain ⟨its2, r2, p2, _⟩ := I.tuple hb
  cases r2
  have t1 : s.heap.IsTuple a its.toArray := p1
  have t2 : s.heap.IsTuple b ([] : List Value).toArray := p2
  refine SeqAt.RcNeAt.tuples (e := fun _ => true) t1 t2 (by omega) (fun j h1 h2 => absurd h2 (by simp)) _ _ _ _ ⟨.bl _, H, I, ?_, q⟩
  have l1 := r1.length
  show Value.bool _ = Value.bool _
  congr 1
  cases xs with
  | nil =>
    cases r1
    rfl
  | cons x r =>
    cases r1
    simp
end
end L2
namespace An
open PySem L2
/-- how many things a tuple may hold, by turns -/
def bd (n : Nat) : Nat := 30 * 4 ^ n
theorem bd_succ (n : Nat) : bd (n + 1) = 4 * bd n := by
  unfold bd
  rw [Nat.pow_succ]
  omega
theorem bd_low (n : Nat) : 30 ≤ bd n := by
  unfold bd
  have := Nat.pow_pos (n := n) (show 0 < 4 by decide)
  omega
theorem bd_mono {n m : Nat} (h : n ≤ m) : bd n ≤ bd m := by
  induction h with
  | refl => exact Nat.le_refl _
  | step _ ih =>
    rw [bd_succ]
    omega
mutual
/-- whole numbers of at most 10 ^ 18 + n either way -/
inductive An (n : Nat) (H : Hp) : V → PyData → Prop
  | non : An n H .non .none
  | bl (b : Bool) : An n H (.bl b) (.bool b)
  | int (i : Int) (h : i.natAbs ≤ 10 ^ 18 + n) : An n H (.int i) (.int i)
  | str (y : Str) (h : y.length ≤ 2000) (o : PyData.strOk y = true) : An n H (.str y) (.str y)
  | lst {a : Addr} {xs : List V} : H a = some (.lst xs) → An n H (.ref a) (.list [])
  | dic {a : Addr} : H a = some (.dK []) → An n H (.ref a) (.dict [])
  | tup {a : Addr} {xs : List V} {ds : List PyData} : H a = some (.tup xs) → AnAll n H xs ds → (xs.length ≤ bd n ∧ xs.length ≤ 3000) → An n H (.ref a) (.tuple ds)
inductive AnAll (n : Nat) (H : Hp) : List V → List PyData → Prop
  | nil : AnAll n H [] []
  | cons {v : V} {vs : List V} {d : PyData} {ds : List PyData} : An n H v d → AnAll n H vs ds → AnAll n H (v :: vs) (d :: ds)
end
/-- tuples and empty dicts stand, lists stay lists -/
structure KA (H H' : Hp) : Prop where
  tup : ∀ a xs, H a = some (.tup xs) → H' a = some (.tup xs)
  lst : ∀ a xs, H a = some (.lst xs) → ∃ ys, H' a = some (.lst ys)
  dic : ∀ a, H a = some (.dK []) → H' a = some (.dK [])
theorem KA.of {H H' : Hp} (s : Same H H') : KA H H' := ⟨fun a xs e => s a _ e, fun a xs e => ⟨xs, s a _ e⟩, fun a e => s a _ e⟩
theorem KA.trans {H H1 H2 : Hp} (a : KA H H1) (b : KA H1 H2) : KA H H2 := ⟨fun c xs e => b.tup c xs (a.tup c xs e), fun c xs e => by
  obtain ⟨ys, h⟩ := a.lst c xs e
  exact b.lst c ys h, fun c e => b.dic c (a.dic c e)⟩
theorem KA.refl (H : Hp) : KA H H := ⟨fun _ _ e => e, fun _ xs e => ⟨xs, e⟩, fun _ e => e⟩
theorem KA.upd {H : Hp} {Z : Addr} {xs ys : List V} (h : H Z = some (.lst xs)) : KA H (L2.upd H Z (.lst ys)) := ⟨fun a zs e => by
  rw [upd_ne (ne_of e h (by intro z; cases z))]
  exact e, fun a zs e => by
  by_cases c : a = Z
  · subst c
    exact ⟨ys, upd_same⟩
  · rw [upd_ne c]
    exact ⟨zs, e⟩, fun a e => by
  rw [upd_ne (ne_of e h (by intro z; cases z))]
  exact e⟩
mutual
theorem An.keep {n m : Nat} {H H' : Hp} (k : KA H H') (hn : n ≤ m) : ∀ {d : PyData} {v : V}, An n H v d → An m H' v d
  | .none, _, .non => .non
  | .bool _, _, .bl b => .bl b
  | .int _, _, .int i h => .int i (by omega)
  | .str _, _, .str y h o => .str y h o
  | .list _, _, .lst h => by
    obtain ⟨ys, h'⟩ := k.lst _ _ h
    exact .lst h'
  | .dict _, _, .dic h => .dic (k.dic _ h)
  | .tuple _, _, .tup h r l => .tup (k.tup _ _ h) (AnAll.keep k hn r) ⟨Nat.le_trans l.1 (bd_mono hn), l.2⟩
theorem AnAll.keep {n m : Nat} {H H' : Hp} (k : KA H H') (hn : n ≤ m) : ∀ {ds : List PyData} {vs : List V}, AnAll n H vs ds → AnAll m H' vs ds
  | [], _, .nil => .nil
  | _ :: _, _, .cons h r => .cons (An.keep k hn h) (AnAll.keep k hn r)
end
theorem AnAll.app {n : Nat} {H : Hp} : ∀ {vs : List V} {ds : List PyData} {us : List V} {es : List PyData}, AnAll n H vs ds → AnAll n H us es → AnAll n H (vs ++ us) (ds ++ es)
  | _, _, _, _, .nil, s => s
  | _, _, _, _, .cons h r, s => .cons h (AnAll.app r s)
theorem AnAll.len {n : Nat} {H : Hp} : ∀ {vs : List V} {ds : List PyData}, AnAll n H vs ds → vs.length = ds.length
  | _, _, .nil => rfl
  | _, _, .cons _ r => by rw [List.length_cons, List.length_cons, r.len]
theorem AnAll.rev {n : Nat} {H : Hp} : ∀ {vs : List V} {ds : List PyData}, AnAll n H vs ds → AnAll n H vs.reverse ds.reverse
  | _, _, .nil => .nil
  | _, _, .cons h r => by
    rw [List.reverse_cons, List.reverse_cons]
    exact r.rev.app (.cons h .nil)
theorem AnAll.at {n : Nat} {H : Hp} : ∀ {vs : List V} {ds : List PyData} {i : Nat} {v : V}, AnAll n H vs ds → vs[i]? = some v → ∃ d, ds[i]? = some d ∧ An n H v d
  | _, _, _, _, .nil, e => by simp at e
  | _, _, 0, _, .cons h _, e => by
    simp at e
    subst e
    exact ⟨_, rfl, h⟩
  | _, _, i + 1, v, .cons _ r, e => by
    obtain ⟨p, h1, h2⟩ := AnAll.at (i := i) r (by simpa using e)
    exact ⟨p, by simpa using h1, h2⟩
theorem AnAll.drop {n : Nat} {H : Hp} : ∀ {vs : List V} {ds : List PyData} (k : Nat), AnAll n H vs ds → AnAll n H (vs.drop k) (ds.drop k)
  | _, _, 0, h => by rw [List.drop_zero, List.drop_zero]; exact h
  | _, _, _ + 1, .nil => by rw [List.drop_nil, List.drop_nil]; exact .nil
  | _, _, k + 1, .cons h r => by rw [List.drop_succ_cons, List.drop_succ_cons]; exact AnAll.drop k r
theorem AnAll.take {n : Nat} {H : Hp} : ∀ {vs : List V} {ds : List PyData} (k : Nat), AnAll n H vs ds → AnAll n H (vs.take k) (ds.take k)
  | _, _, 0, h => by rw [List.take_zero, List.take_zero]; exact .nil
  | _, _, _ + 1, .nil => by rw [List.take_nil, List.take_nil]; exact .nil
  | _, _, k + 1, .cons h r => by rw [List.take_succ_cons, List.take_succ_cons]; exact .cons h (AnAll.take k r)
/-- the kind of such a thing -/
def tyD : PyData → String
  | .none => "NoneType"
  | .bool _ => "bool"
  | .int _ => "int"
  | .str _ => "str"
  | .list _ => "list"
  | .tuple _ => "tuple"
  | .dict _ => "dict"
theorem An.ty {K : PySem.W.Frag} {n : Nat} {H : Hp} {v : V} {d : PyData} (h : An n H v d) : TyX K H v (.type (tyD d)) := by
  cases h with
  | non => exact .base .non
  | bl b => exact .base (.bl b)
  | int i _ => exact .base (.int i)
  | str y _ _ => exact .base (.str y)
  | lst h => exact .base (.lst h)
  | dic h => exact .base (.dK h)
  | tup h _ _ => exact .base (.tup h)
def isK (c : String) : PyData → Bool
  | .none => decide (c = "NoneType")
  | .bool _ => decide (c = "bool") || decide (c = "int")
  | .int _ => decide (c = "int")
  | .str _ => decide (c = "str")
  | .list _ => decide (c = "list")
  | .tuple _ => decide (c = "tuple")
  | .dict _ => decide (c = "dict")
theorem kit_tuple {K : PySem.W.Frag} : ∀ d : PyData, PySem.W.kitOne K (.type (tyD d)) (.type "tuple") = some (isK "tuple" d)
  | .none => kit_ty (show kitB "NoneType" "tuple" = some false by decide +kernel)
  | .bool _ => kit_ty (show kitB "bool" "tuple" = some false by decide +kernel)
  | .int _ => kit_ty (show kitB "int" "tuple" = some false by decide +kernel)
  | .str _ => kit_ty (show kitB "str" "tuple" = some false by decide +kernel)
  | .list _ => kit_ty (show kitB "list" "tuple" = some false by decide +kernel)
  | .tuple _ => kit_ty (show kitB "tuple" "tuple" = some true by decide +kernel)
  | .dict _ => kit_ty (show kitB "dict" "tuple" = some false by decide +kernel)
theorem kit_int {K : PySem.W.Frag} : ∀ d : PyData, PySem.W.kitOne K (.type (tyD d)) (.type "int") = some (isK "int" d)
  | .none => kit_ty (show kitB "NoneType" "int" = some false by decide +kernel)
  | .bool _ => kit_ty (show kitB "bool" "int" = some true by decide +kernel)
  | .int _ => kit_ty (show kitB "int" "int" = some true by decide +kernel)
  | .str _ => kit_ty (show kitB "str" "int" = some false by decide +kernel)
  | .list _ => kit_ty (show kitB "list" "int" = some false by decide +kernel)
  | .tuple _ => kit_ty (show kitB "tuple" "int" = some false by decide +kernel)
  | .dict _ => kit_ty (show kitB "dict" "int" = some false by decide +kernel)
theorem kit_bool {K : PySem.W.Frag} : ∀ d : PyData, PySem.W.kitOne K (.type (tyD d)) (.type "bool") = some (isK "bool" d)
  | .none => kit_ty (show kitB "NoneType" "bool" = some false by decide +kernel)
  | .bool _ => kit_ty (show kitB "bool" "bool" = some true by decide +kernel)
  | .int _ => kit_ty (show kitB "int" "bool" = some false by decide +kernel)
  | .str _ => kit_ty (show kitB "str" "bool" = some false by decide +kernel)
  | .list _ => kit_ty (show kitB "list" "bool" = some false by decide +kernel)
  | .tuple _ => kit_ty (show kitB "tuple" "bool" = some false by decide +kernel)
  | .dict _ => kit_ty (show kitB "dict" "bool" = some false by decide +kernel)
theorem kit_str {K : PySem.W.Frag} : ∀ d : PyData, PySem.W.kitOne K (.type (tyD d)) (.type "str") = some (isK "str" d)
  | .none => kit_ty (show kitB "NoneType" "str" = some false by decide +kernel)
  | .bool _ => kit_ty (show kitB "bool" "str" = some false by decide +kernel)
  | .int _ => kit_ty (show kitB "int" "str" = some false by decide +kernel)
  | .str _ => kit_ty (show kitB "str" "str" = some true by decide +kernel)
  | .list _ => kit_ty (show kitB "list" "str" = some false by decide +kernel)
  | .tuple _ => kit_ty (show kitB "tuple" "str" = some false by decide +kernel)
  | .dict _ => kit_ty (show kitB "dict" "str" = some false by decide +kernel)
end An
namespace Q64
open PySem L2
def top (i : Nat) : Stmt := PySem.Challenge.pw_bothtimes_k64_how_long_rows_last.main.body.getD i (.Pass ⟨0, 0, 0, 0⟩)
abbrev sHand : Stmt := top 12
abbrev sTake : Stmt := top 13
abbrev sOf : Stmt := top 14
/-- i ** j of a great i -/
def CPowL (i j : Int) : Prop := 0 ≤ j ∧ (Builtin.Int.intBits i : Int) * j ≤ 2 ^ 27
theorem op_powL {X : Cx} : OpR X (binaryOp .Pow) (rI CPowL fun i j => .int (i ^ j.toNat)) := opI fun _ _ _ _ _ _ _ hc q => PyProof.Rows.pow_int hc.1 hc.2 q
/-! ### the hand that draws: a list of three numbers at p, drawn from at most n times -/
def Hand (H : Hp) (p : Addr) (n : Nat) : Prop := ∃ g s c : Int, H p = some (.lst [.int g, .int s, .int c]) ∧ 0 ≤ g ∧ g < 10 ^ 900 ∧ 0 ≤ s ∧ s < 2 ^ 62 ∧ 0 ≤ c ∧ c ≤ (n : Int)
/-- all but p stands -/
def But (p : Addr) (H H' : Hp) : Prop := ∀ b o, b ≠ p → H b = some o → H' b = some o
theorem But.trans {p : Addr} {H H1 H2 : Hp} (a : But p H H1) (b : But p H1 H2) : But p H H2 := fun c o hc e => b c o hc (a c o hc e)
theorem But.of {p : Addr} {H H' : Hp} (s : Same H H') : But p H H' := fun b o _ e => s b o e
theorem same_new {H : Hp} {p : Addr} (h : H p = none) (o : HO) : Same H (upd H p o) := fun b u q => by rw [upd_ne (ne_of_none q h)]; exact q
theorem Hand.same {H H' : Hp} {p : Addr} {n : Nat} (x : Hand H p n) (k : Same H H') : Hand H' p n := by
  obtain ⟨g, s, c, h, r⟩ := x
  exact ⟨g, s, c, k _ _ h, r⟩
theorem Hand.mono {H : Hp} {p : Addr} {n m : Nat} (x : Hand H p n) (k : n ≤ m) : Hand H p m := by
  obtain ⟨g, s, c, h, h1, h2, h3, h4, h5, h6⟩ := x
  exact ⟨g, s, c, h, h1, h2, h3, h4, h5, by omega⟩
theorem Hand.ne_none {H : Hp} {p q : Addr} {n : Nat} (x : Hand H p n) (h : H q = none) : q ≠ p := by
  obtain ⟨g, s, c, e, _⟩ := x
  exact (ne_of_none e h).symm
theorem But.free {p q : Addr} {H H' : Hp} (s : But p H H') (h : H' q = none) (hq : q ≠ p) : H q = none := by
  cases e : H q with
  | none => rfl
  | some o =>
    rw [s q o hq e] at h
    cases h
def spTake : Sp := fun vs H Q _ => ∃ (p : Addr) (m : Int) (n : Nat), vs = [.ref p, .int m] ∧ Hand H p n ∧ n ≤ 100000 ∧ 0 < m ∧ m ≤ 10 ^ 18 ∧
  ∀ (r : Int) (H' : Hp), 0 ≤ r → r < m → Hand H' p (n + 1) → But p H H' → Q (.int r) H'
section
variable {P : Program} {w : World} {K : PySem.W.Frag} {mg : Str → Option Value} {base : Heap}
theorem scTake : FnScope ["_law_hand_here", "_law_many", "_law_digit", "_law_one", "_law_two"] ["_law_hand_here", "_law_many"] (defScope sTake) := ⟨rfl, rfl, rfl, by decide +kernel, rfl, by decide +kernel, by decide +kernel⟩
theorem ok_take {f : Addr} {fd : FuncData} (F : Fun K "_law_take" "_law_take" sTake f fd) : FnOk P w K mg base CX0 1 f fd ["_law_hand_here", "_law_many"] spTake := by
  refine F.ok scTake (fun vs H Q E h => ?_) (fun cdv A outer s H vs Q E hr h => ?_)
  · obtain ⟨p, m, n, rfl, _⟩ := h
    rfl
  obtain ⟨p, m, n, rfl, ⟨g, s0, c, hp, g0, g1, s1, s2, c0, c1⟩, hn, m0, m1, k⟩ := h
  refine ⟨_, pss_cons (ps_if (pt_cmpR op_gt (pe_ix ix_list (pv 0) pe_int (fun _ _ => rfl)) pe_int (nomark _))
      (pss_cons (ps_set (i := 2) scTake.nd rfl (Or.inl rfl) (pe_op op_mod (pe_ix ix_list (pv 0) pe_int (fun _ _ => rfl)) (pv 1)))
      (pss_cons (ps_asg (pe_op op_fdivW (pe_ix ix_list (pv 0) pe_int (fun _ _ => rfl)) (pv 1)) (pg_sub (pv 0) pe_int set_list))
      (pss_one (ps_ret (pv 2))))) pss_nil)
    (pss_cons (ps_asg (pe_op op_add (pe_ix ix_list (pv 0) pe_int (fun _ _ => rfl)) pe_int) (pg_sub (pv 0) pe_int set_list))
    (pss_cons (ps_set (i := 3) scTake.nd rfl (Or.inl rfl) (pe_op op_mod (pe_op op_pow (pe_op op_add (pe_ix ix_list (pv 0) pe_int (fun _ _ => rfl)) (pe_op op_mul pe_int (pe_ix ix_list (pv 0) pe_int (fun _ _ => rfl)))) pe_int) pe_int))
    (pss_cons (ps_set (i := 4) scTake.nd rfl (Or.inl rfl) (pe_op op_mod (pe_op op_mul (pe_op op_add (pv 3) (pe_op op_mul pe_int (pe_ix ix_list (pv 0) pe_int (fun _ _ => rfl)))) (pe_op op_add (pe_op op_mod (pv 3) pe_int) pe_int)) pe_int))
    (pss_one (ps_ret (pe_op op_mod (pe_op op_add (pe_op op_fdiv (pv 4) pe_int) (pe_op op_fdiv (pv 4) pe_int)) (pv 1))))))), ?_⟩
  refine ⟨_, rfl, p, _, _, _, rfl, rfl, SqL.of hp, rfl, _, _, rfl, rfl, _, rfl, ?_⟩
  refine ite2 (fun h0 => ?_) (fun _ => ?_)
  · have hg : 0 < g := of_decide_eq_true h0
    refine ⟨_, rfl, p, _, _, _, rfl, rfl, SqL.of hp, rfl, _, rfl, _, _, rfl, rfl, m0, ?_⟩
    refine ⟨_, rfl, p, _, _, _, rfl, rfl, SqL.of hp, rfl, _, rfl, _, _, rfl, rfl, wide_div m0 (b := 60) (by omega) (by decide) (by decide), ?_⟩
    refine ⟨_, rfl, p, _, _, _, rfl, rfl, hp, rfl, _, rfl, ?_⟩
    have e1 : g / m ≤ g := Int.ediv_le_self _ g0
    have e2 : 0 ≤ g / m := Int.ediv_nonneg g0 (by omega)
    refine k _ _ (Int.emod_nonneg _ (by omega)) (Int.emod_lt_of_pos _ m0) ⟨g / m, s0, c, upd_same, e2, by omega, s1, s2, c0, by omega⟩ fun b o hb e => ?_
    rw [upd_ne hb]
    exact e
  · refine ⟨_, rfl, p, _, _, _, rfl, rfl, SqL.of hp, rfl, _, _, rfl, rfl, _, rfl, p, _, _, _, rfl, rfl, hp, rfl, ?_⟩
    have hp1 : (upd H p (.lst [.int g, .int s0, .int (c + 1)])) p = some (.lst [.int g, .int s0, .int (c + 1)]) := upd_same
    refine ⟨_, rfl, p, _, _, _, rfl, rfl, SqL.of hp1, rfl, _, rfl, p, _, _, _, rfl, rfl, SqL.of hp1, rfl, _, _, rfl, rfl, .inl ⟨by decide, by decide⟩, _, _, rfl, rfl, _, _, rfl, rfl, ⟨by decide, by decide, ?_⟩, _, _, rfl, rfl, (by show (0 : Int) < 2305843009213693907; decide), ?_⟩
    · omega
    obtain ⟨one, h1⟩ : ∃ one : Int, (s0 + 67867967 * (c + 1)) ^ (3 : Int).toNat % 2305843009213693907 = one := ⟨_, rfl⟩
    have d0 : 0 ≤ one := by rw [← h1]; exact Int.emod_nonneg _ (by decide)
    have d1 : one < 2305843009213693907 := by rw [← h1]; exact Int.emod_lt_of_pos _ (by decide)
    show gName 3 (V.int ((s0 + 67867967 * (c + 1)) ^ (3 : Int).toNat % 2305843009213693907)) _ _ _
    rw [h1]
    refine ⟨_, rfl, _, rfl, p, _, _, _, rfl, rfl, SqL.of hp1, rfl, _, _, rfl, rfl, .inl ⟨by decide, by decide⟩, _, _, rfl, rfl, _, rfl, _, _, rfl, rfl, (by show (0 : Int) < 122949823; decide), _, _, rfl, rfl, _, _, rfl, rfl, .inl ⟨by omega, by omega⟩, _, _, rfl, rfl, (by show (0 : Int) < 4611686018427387847; decide), ?_⟩
    refine ⟨_, rfl, _, _, rfl, rfl, ⟨by decide, by decide⟩, _, rfl, _, _, rfl, rfl, ⟨by decide, by decide⟩, _, _, rfl, rfl, _, rfl, _, _, rfl, rfl, m0, ?_⟩
    refine k _ _ (Int.emod_nonneg _ (by omega)) (Int.emod_lt_of_pos _ m0) ⟨g, s0, c + 1, hp1, g0, g1, s1, s2, by omega, by omega⟩ fun b o hb e => ?_
    rw [upd_ne hb]
    exact e
/-! ### the hand made -/
def spHand (K : PySem.W.Frag) : Sp := fun vs H Q _ => ∃ (a : Addr) (ns : List Int) (k : Int), vs = [.ref a, .int k] ∧ SqL K H a (ns.map V.int) ∧ ns.length ≤ 63 ∧ 0 ≤ k ∧ k ≤ 63 ∧
  ∀ (p : Addr) (H' : Hp), H p = none → Hand H' p 0 → Same H H' → Q (.ref p) H'
theorem scHand : FnScope ["_law_script", "_law_k", "_law_cell", "_law_seed"] ["_law_script", "_law_k"] (defScope sHand) := ⟨rfl, rfl, rfl, by decide +kernel, rfl, by decide +kernel, by decide +kernel⟩
theorem great_ok {x : Int} {b : Bool} : 0 ≤ x % ((10 ^ (60 : Int).toNat) ^ (15 : Int).toNat) * (if b then 1 else 0) ∧ x % ((10 ^ (60 : Int).toNat) ^ (15 : Int).toNat) * (if b then 1 else 0) < 10 ^ 900 := by
  have e : (((10 : Int) ^ (60 : Int).toNat) ^ (15 : Int).toNat) = 10 ^ 900 := by decide +kernel
  rw [e]
  have h0 : 0 ≤ x % (10 ^ 900 : Int) := Int.emod_nonneg _ (by decide)
  have h1 : x % (10 ^ 900 : Int) < 10 ^ 900 := Int.emod_lt_of_pos _ (by decide)
  cases b with
  | true =>
    rw [if_pos rfl, Int.mul_one]
    exact ⟨h0, h1⟩
  | false =>
    rw [if_neg (by decide), Int.mul_zero]
    exact ⟨by decide, by decide⟩
theorem flag_ok (b : Bool) : -(2 : Int) ^ 64 < (if b = true then 1 else 0) ∧ (if b = true then (1 : Int) else 0) < 2 ^ 64 := by cases b <;> exact ⟨by decide, by decide⟩
theorem seed_ok {x : Int} : 0 ≤ x % 2305843009213693951 ∧ x % 2305843009213693951 < 2 ^ 62 := by
  omega
theorem base_ok {x k : Int} (h0 : 0 ≤ k) (h1 : k ≤ 63) : (x % 2305843009213693951 + 104729 * k + 7).natAbs < 2 ^ 64 := by
  omega
theorem ok_hand {f : Addr} {fd : FuncData} (F : Fun K "_law_hand" "_law_hand" sHand f fd) (ml : mg "len" = none) (ma : mg "abs" = none) (mi : mg "int" = none) : FnOk P w K mg base CX0 1 f fd ["_law_script", "_law_k"] (spHand K) := by
  refine F.ok scHand (fun vs H Q E h => ?_) (fun cdv A outer s H vs Q E hr h => ?_)
  · obtain ⟨a, ns, k, rfl, _⟩ := h
    rfl
  obtain ⟨a, ns, k, rfl, hS, h63, k0, k1, q⟩ := h
  refine ⟨_, pss_cons (ps_set (i := 2) scHand.nd rfl (Or.inl rfl) (pe_ifExp (pt_cmpR op_lt (pv 1) (pe_callB call_len_seq (by rfl) ml PySem.boot_len (pa_cons (pv 0) pa_nil)) (nomark _)) (pe_ix ix_list (pv 0) (pv 1) (fun _ _ => rfl)) pe_int))
    (pss_cons (ps_set (i := 3) scHand.nd rfl (Or.inl rfl) (pe_op op_mod (pe_op op_pow (pe_op op_add (pe_op op_add (pe_op op_mod (pv 2) pe_int) (pe_op op_mul pe_int (pv 1))) pe_int) pe_int) pe_int))
    (pss_one (ps_ret (pe_lst (pa_cons (pe_op op_mul (pe_op op_mod (pe_callB call_abs (by rfl) ma (by decide +kernel) (pa_cons (pv 2) pa_nil)) (pe_op op_powL (pe_op op_powL pe_int pe_int) pe_int))
      (pe_callTy call_int1 (by rfl) mi (by decide +kernel) (pa_cons (pe_cmpR op_ge (pe_callB call_abs (by rfl) ma (by decide +kernel) (pa_cons (pv 2) pa_nil)) (pe_op op_pow pe_int pe_int) (nomark _)) pa_nil))) (pa_cons (pv 3) (pa_cons pe_int pa_nil))))))), ?_⟩
  have hl : (ns.map V.int).length = ns.length := List.length_map _
  refine ⟨_, rfl, _, rfl, a, _, rfl, .inl hS, _, _, rfl, rfl, _, rfl, ?_⟩
  refine ite2 (fun c => ?_) (fun c => ?_)
  · have c' : k < (((ns.map V.int).length : Nat) : Int) := of_decide_eq_true c
    rw [hl] at c'
    obtain ⟨v, hv⟩ : ∃ v : Int, atI (ns.map V.int) k = some (.int v) := by
      have hk : k.toNat < ns.length := by omega
      have q : atI (ns.map V.int) ((k.toNat : Nat) : Int) = some (.int ns[k.toNat]) := atI_nat (by rw [List.getElem?_map, List.getElem?_eq_getElem hk] <;> rfl)
      rw [show ((k.toNat : Nat) : Int) = k by omega] at q
      exact ⟨_, q⟩
    refine ⟨_, rfl, _, rfl, a, _, _, _, rfl, rfl, hS, hv, ?_⟩
    refine ⟨_, rfl, _, _, rfl, rfl, (by show (0 : Int) < 2305843009213693951; decide), _, rfl, _, _, rfl, rfl, .inl ⟨by decide, by decide⟩, _, _, rfl, rfl, _, _, rfl, rfl, _, _, rfl, rfl, ⟨by decide, by decide, base_ok k0 k1⟩, _, _, rfl, rfl, (by show (0 : Int) < 2305843009213693951; decide), ?_⟩
    refine ⟨_, rfl, _, rfl, _, _, rfl, rfl, ⟨by decide, by decide +kernel⟩, _, _, rfl, rfl, ⟨by decide, by decide +kernel⟩, _, _, rfl, rfl, (by show (0 : Int) < _; decide +kernel), ?_⟩
    refine ⟨_, rfl, _, rfl, _, _, rfl, rfl, ⟨by decide, by decide, by decide⟩, _, _, rfl, rfl, .inr ⟨_, rfl, _, _, rfl, rfl, .inr ⟨?_, ?_⟩, ?_⟩⟩
    · exact (flag_ok _).1
    · exact (flag_ok _).2
    refine ⟨_, rfl, (by show 3 ≤ sizeLine; decide), fun p hp => ?_⟩
    exact q p _ hp ⟨_, _, 0, upd_same, great_ok.1, great_ok.2, seed_ok.1, seed_ok.2, by decide, by decide⟩ (same_new hp _)
  · refine ⟨_, rfl, _, _, rfl, rfl, (by show (0 : Int) < 2305843009213693951; decide), _, rfl, _, _, rfl, rfl, .inl ⟨by decide, by decide⟩, _, _, rfl, rfl, _, _, rfl, rfl, _, _, rfl, rfl, ⟨by decide, by decide, base_ok k0 k1⟩, _, _, rfl, rfl, (by show (0 : Int) < 2305843009213693951; decide), ?_⟩
    refine ⟨_, rfl, _, rfl, _, _, rfl, rfl, ⟨by decide, by decide +kernel⟩, _, _, rfl, rfl, ⟨by decide, by decide +kernel⟩, _, _, rfl, rfl, (by show (0 : Int) < _; decide +kernel), ?_⟩
    refine ⟨_, rfl, _, rfl, _, _, rfl, rfl, ⟨by decide, by decide, by decide⟩, _, _, rfl, rfl, .inr ⟨_, rfl, _, _, rfl, rfl, .inr ⟨?_, ?_⟩, ?_⟩⟩
    · exact (flag_ok _).1
    · exact (flag_ok _).2
    refine ⟨_, rfl, (by show 3 ≤ sizeLine; decide), fun p hp => ?_⟩
    exact q p _ hp ⟨_, _, 0, upd_same, great_ok.1, great_ok.2, seed_ok.1, seed_ok.2, by decide, by decide⟩ (same_new hp _)
/-! ### one of several: of a list, of a text -/
def spOf : Sp := fun vs H Q _ => (∃ (p a : Addr) (xs : List V) (n : Nat), vs = [.ref p, .ref a] ∧ H a = some (.lst xs) ∧ a ≠ p ∧ 0 < xs.length ∧ xs.length ≤ 1000 ∧ Hand H p n ∧ n ≤ 100000 ∧
    ∀ (v : V) (H' : Hp), v ∈ xs → Hand H' p (n + 1) → But p H H' → Q v H') ∨
  ∃ (p : Addr) (z : Str) (n : Nat), vs = [.ref p, .str z] ∧ 0 < z.length ∧ z.length ≤ 1000 ∧ Tx.Let z ∧ Hand H p n ∧ n ≤ 100000 ∧ ∀ (y : Str) (H' : Hp), y.length = 1 → Tx.Let y → Hand H' p (n + 1) → But p H H' → Q (.str y) H'
theorem scOf : FnScope ["_law_hand_here", "_law_some"] ["_law_hand_here", "_law_some"] (defScope sOf) := ⟨rfl, rfl, rfl, by decide +kernel, rfl, by decide +kernel, by decide +kernel⟩
theorem at_some {α : Type} {xs : List α} {r : Int} (h0 : 0 ≤ r) (h1 : r < (xs.length : Int)) : ∃ v, atI xs r = some v ∧ v ∈ xs := by
  have hk : r.toNat < xs.length := by omega
  refine ⟨xs[r.toNat], ?_, List.getElem_mem hk⟩
  have q : atI xs ((r.toNat : Nat) : Int) = some xs[r.toNat] := atI_nat (List.getElem?_eq_getElem hk)
  rw [show ((r.toNat : Nat) : Int) = r by omega] at q
  exact q
theorem sign_ok {z : Str} {c : Nat} (h : Tx.Let z) (hc : c ∈ z.cps.toList) : Tx.Let ⟨#[c]⟩ := fun x hx => by
  have e : x = c := by simpa using hx
  rw [e]
  exact h c hc
theorem app_ok {a b : Str} (ha : Tx.Let a) (hb : Tx.Let b) : Tx.Let (a ++ b) := fun x hx => by
  rw [Tx.cps_app] at hx
  rcases List.mem_append.mp hx with hx | hx
  · exact ha x hx
  · exact hb x hx
theorem join_ok {s : Str} (hs : Tx.Let s) : ∀ ys : List Str, (∀ y ∈ ys, Tx.Let y) → Tx.Let (Str.join s ys)
  | [], _ => fun x hx => by
    have e : x ∈ ([] : List Nat) := hx
    cases e
  | [y], h => h y (List.mem_cons_self ..)
  | x :: y :: r, h => by
    show Tx.Let (x ++ s ++ Str.join s (y :: r))
    exact app_ok (app_ok (h x (List.mem_cons_self ..)) hs) (join_ok hs (y :: r) fun z hz => h z (List.mem_cons_of_mem _ hz))
theorem app_len (a b : Str) : (a ++ b).length = a.length + b.length := by
  show (a.cps ++ b.cps).size = _
  rw [Array.size_append]
  rfl
theorem join_len1 {s : Str} (hs : s.length = 0) : ∀ ys : List Str, (∀ y ∈ ys, y.length = 1) → (Str.join s ys).length = ys.length
  | [], _ => rfl
  | [y], h => h y (List.mem_cons_self ..)
  | x :: y :: r, h => by
    show (x ++ s ++ Str.join s (y :: r)).length = _
    rw [app_len, app_len, hs, h x (List.mem_cons_self ..), join_len1 hs (y :: r) fun z hz => h z (List.mem_cons_of_mem _ hz)]
    simp only [List.length_cons]
    omega
theorem ok_of {f fT : Addr} {fd fdT : FuncData} (F : Fun K "_law_of" "_law_of" sOf f fd) (GT : FnOk P w K mg base CX0 1 fT fdT ["_law_hand_here", "_law_many"] spTake) (bT : Binds K fdT ["_law_hand_here", "_law_many"] []) (kT : PySem.W.keepIn K (.ref fT) = true) (mT : mg "_law_take" = some (.ref fT)) (ml : mg "len" = none) :
    FnOk P w K mg base CX0 2 f fd ["_law_hand_here", "_law_some"] spOf := by
  refine F.ok scOf (fun vs H Q E h => ?_) (fun cdv A outer s H vs Q E hr h => ?_)
  · rcases h with ⟨p, a, xs, n, rfl, _⟩ | ⟨p, z, n, rfl, _⟩ <;> rfl
  refine ⟨_, pss_one (ps_ret (pe_ix ix_seq (pv 1) (pe_call GT hr (by rfl) mT kT bT .nil pass0 (pa_cons (pv 0) (pa_cons (pe_callB call_len (by rfl) ml PySem.boot_len (pa_cons (pv 1) pa_nil)) pa_nil))) (fun _ _ => rfl))), ?_⟩
  rcases h with ⟨p, a, xs, n, rfl, ha, nap, l0, l1, hh, hn, q⟩ | ⟨p, z, n, rfl, l0, l1, oz, hh, hn, q⟩
  · refine ⟨_, rfl, _, rfl, _, rfl, _, _, rfl, .inl ⟨_, SqL.of ha, rfl⟩, p, (xs.length : Int), n, rfl, hh, hn, by omega, by omega, fun r H' r0 r1 hh' sb => ?_⟩
    obtain ⟨v, hv, hm⟩ := at_some r0 r1
    exact .inl ⟨a, xs, r, v, rfl, rfl, SqL.of (sb a _ nap ha), hv, q v H' hm hh' sb⟩
  · have hz : z.length ≤ sizeLine := Nat.le_of_lt (small1000 l1)
    refine ⟨_, rfl, _, rfl, _, rfl, _, _, rfl, ⟨hz, rfl⟩, p, (z.length : Int), n, rfl, hh, hn, by omega, by omega, fun r H' r0 r1 hh' sb => ?_⟩
    obtain ⟨v, hv, hm⟩ := at_some (xs := z.cps.toList) r0 (by rw [Array.length_toList]; exact r1)
    exact .inr (.inr ⟨z, r, v, rfl, rfl, hz, hv, q _ H' rfl (sign_ok oz hm) hh' sb⟩)
theorem join_len : ∀ (ys : List Str), (∀ y ∈ ys, y.length = 1) → (ys.map (·.length)).sum = ys.length
  | [], _ => rfl
  | y :: r, h => by
    have h1 := h y (List.mem_cons_self ..)
    have h2 := join_len r fun z hz => h z (List.mem_cons_of_mem _ hz)
    rw [List.map_cons, List.sum_cons, h1, h2, List.length_cons]
    omega
end
end Q64
namespace Q64
open PySem L2 Ln
abbrev sWords : Stmt := top 15
def Wd (y : Str) : Prop := 1 ≤ y.length ∧ y.length ≤ 8 ∧ Tx.Let y
theorem ff2 {c : Bool} {A B : Prop} (hc : c = false) (h : B) : if c = true then A else B := by
  rw [hc, if_neg Bool.false_ne_true]
  exact h
theorem tt2 {c : Bool} {A B : Prop} (hc : c = true) (h : A) : if c = true then A else B := by
  rw [if_pos hc]
  exact h
theorem Hand.upd {H : Hp} {p D : Addr} {n : Nat} {o : HO} (h : Hand H p n) (hd : D ≠ p) : Hand (L2.upd H D o) p n := by
  obtain ⟨g, s, c, e, r⟩ := h
  exact ⟨g, s, c, by rw [upd_ne (Ne.symm hd)]; exact e, r⟩
theorem But.upd {p D : Addr} {H H' : Hp} {o : HO} (s : But p H H') (hn : H D = none) : But p H (L2.upd H' D o) := fun b u hb e => by
  rw [upd_ne (ne_of_none e hn)]
  exact s b u hb e
theorem But.refl {p : Addr} (H : Hp) : But p H H := fun _ _ _ e => e
theorem keep_but {H H' : Hp} {p : Addr} {n : Nat} (h : Hand H p n) (s : But p H H') : Keep H H' := fun a xs e => by
  obtain ⟨g, s0, c, hp, _⟩ := h
  exact s a _ (ne_of e hp (by intro z; cases z)) e
def spWords : Sp := fun vs H Q _ => ∃ (p : Addr) (many n : Nat), vs = [.ref p, .int (many : Int)] ∧ many ≤ 20 ∧ Hand H p n ∧ n ≤ 50000 ∧ ∀ (L : Addr) (ys : List Str) (H' : Hp), H L = none → H' L = some (.lst (ys.map V.str)) → ys.length = many → (∀ y ∈ ys, Wd y) → ys.Nodup → Hand H' p (n + 12 * many) → But p H H' → Q (.ref L) H'
theorem nodup_snoc {α : Type} {l : List α} {x : α} (h : l.Nodup) (hx : x ∉ l) : (l ++ [x]).Nodup := List.nodup_append.mpr ⟨h, List.pairwise_singleton .., fun a ha b hb e => hx (by rw [List.mem_singleton.mp hb] at e; exact e ▸ ha)⟩
theorem pigeon {α : Type} {f : α → V} (hf : ∀ a b, f a = f b → a = b) : ∀ (l : List α) (xs : List V), l.Nodup → (∀ a ∈ l, f a ∈ xs) → l.length ≤ xs.length
  | [], _, _, _ => Nat.zero_le _
  | a :: r, xs, nd, h => by
    have nd' := List.nodup_cons.mp nd
    have ha := h a (List.mem_cons_self ..)
    have ih := pigeon hf r (xs.erase (f a)) nd'.2 fun b hb => by
      refine (List.mem_erase_of_ne fun e => ?_).mpr (h b (List.mem_cons_of_mem _ hb))
      have := hf _ _ e
      subst this
      exact nd'.1 hb
    rw [List.length_erase_of_mem ha] at ih
    have := List.length_pos_of_mem ha
    rw [List.length_cons]
    omega
theorem not_all {α : Type} {l : List α} {xs : List V} {f : α → V} (hf : ∀ a b, f a = f b → a = b) (hl : l.Nodup) (h : xs.length < l.length) : ∃ a ∈ l, f a ∉ xs := by
  by_cases c : ∃ a ∈ l, f a ∉ xs
  · exact c
  · exfalso
    have := pigeon hf l xs hl fun a ha => by
      by_cases z : f a ∈ xs
      · exact z
      · exact absurd ⟨a, ha, z⟩ c
    omega
section
variable {P : Program} {w : World} {K : PySem.W.Frag} {mg : Str → Option Value} {base : Heap}
variable {f fT fO : Addr} {fd fdT fdO : FuncData}
abbrev abc : Str := Str.ofString "abcdefghijklmnopqrstuvwxyz"
abbrev taken : List V := [.str "key", .str "many", .str "sum"]
abbrev wordsN : List Str := ["_law_hand_here", "_law_many", "_law_letters", "_law_some", "_law_k", "_law_long", "_law_word", "_law_free", "_law_j", "_law_sign"]
theorem scWords : FnScope wordsN ["_law_hand_here", "_law_many"] (defScope sWords) := ⟨rfl, rfl, rfl, by decide +kernel, rfl, by decide +kernel, by decide +kernel⟩
theorem cutS7 (z : Str) : (cutS z none (some 7)).length = min 7 z.length ∧ (Tx.Let z → Tx.Let (cutS z none (some 7))) := by
  have e : HT.sIx z.length z.length (some 7) = min 7 z.length := HT.sIx_nat z.length z.length 7
  refine ⟨?_, fun h x hx => ?_⟩
  · show (((z.cps.toList.drop (HT.sIx z.length 0 none)).take (HT.sIx z.length z.length (some 7) - HT.sIx z.length 0 none)).toArray).size = _
    rw [List.size_toArray, List.length_take, List.length_drop, e, HT.sIx_none, Array.length_toList]
    show min (min 7 z.length - 0) (z.length - 0) = _
    omega
  · have hx' : x ∈ ((z.cps.toList.drop (HT.sIx z.length 0 none)).take (HT.sIx z.length z.length (some 7) - HT.sIx z.length 0 none)) := by simpa [cutS] using hx
    exact h x (List.mem_of_mem_drop (List.mem_of_mem_take hx'))
theorem inV_str (y : Str) : ∀ ws : List Str, inV (.str y) (ws.map V.str) = decide (V.str y ∈ ws.map V.str)
  | [] => rfl
  | w :: r => by
    have ih := inV_str y r
    unfold inV at ih ⊢
    rw [List.map_cons, List.any_cons, ih]
    have e : eqV (.str w) (.str y) = decide (w = y) := by
      show (w == y) = _
      by_cases c : w = y
      · subst c; simp
      · rw [decide_eq_false c]; simpa using c
    rw [e]
    by_cases c : w = y
    · subst c
      simp
    · have c' : ¬ (V.str y = V.str w) := fun z => c (V.str.inj z).symm
      simp [c, c']
theorem strs_flat (ws : List Str) : (ws.map V.str).all flatV = true := by
  rw [List.all_eq_true]
  intro v hv
  obtain ⟨w, _, rfl⟩ := List.mem_map.mp hv
  rfl
theorem sign_app_inj (a : Str) {x y : Nat} (h : V.str (a ++ ⟨#[x]⟩) = V.str (a ++ ⟨#[y]⟩)) : x = y := by
  have e := V.str.inj h
  have e2 := congrArg (fun z : Str => z.cps.toList) e
  simp only [Tx.cps_app] at e2
  have e3 := List.append_cancel_left e2
  simpa using e3
theorem ok_words (F : Fun K "_law_words" "_law_words" sWords f fd)
    (GO : FnOk P w K mg base CX0 2 fO fdO ["_law_hand_here", "_law_some"] spOf) (bO : Binds K fdO ["_law_hand_here", "_law_some"] []) (kO : PySem.W.keepIn K (.ref fO) = true) (mO : mg "_law_of" = some (.ref fO)) (mr : mg "range" = none) :
    FnOk P w K mg base CX0 3 f fd ["_law_hand_here", "_law_many"] spWords := by
  refine F.ok scWords (fun vs H Q E h => ?_) (fun cdv A outer s H vs Q E hr h => ?_)
  · obtain ⟨p, many, n, rfl, _⟩ := h
    rfl
  obtain ⟨p, many, n, rfl, m8, hU, n5, qq⟩ := h
  refine ⟨_, (pss_cons (ps_asg (pe_tup (pa_cons pe_str (pa_cons (pe_lst pa_nil) pa_nil))) (pg_tup (by rfl) (pgs_cons (pg_name (i := 2) scWords.nd rfl (.inr rfl)) (pgs_cons (pg_name (i := 3) scWords.nd rfl (.inr rfl)) pgs_nil))))
      (pss_cons (ps_for PassesOwn.never rfl (pi_range1 (by rfl) mr (pa_cons (pv 1) pa_nil)) (pg_name (i := 4) scWords.nd rfl (.inl rfl)) (pss_cons (ps_set (i := 5) scWords.nd rfl (Or.inl rfl) (pe_call GO hr (by rfl) mO kO bO .nil pass0 (pa_cons (pv 0) (pa_cons (pe_lst (pa_cons pe_int (pa_cons pe_int (pa_cons pe_int (pa_cons pe_int (pa_cons pe_int (pa_cons pe_int pa_nil))))))) pa_nil))))
      (pss_cons (ps_set (i := 6) scWords.nd rfl (Or.inr rfl) (pe_join pe_str (pe_lc (own := [("_law_j", 8)]) (g := gName 8) (by rfl) scWords.nd (pi_range1 (by rfl) mr (pa_cons (pv 5) pa_nil)) (blkOk_by (own := [("_law_j", 8)]) (N := wordsN) (sc := defScope sWords) (by decide +kernel)) (fun _ _ _ _ _ => pg_name (i := 8) scWords.nd rfl (Or.inl rfl)) (fun _ _ _ _ _ => pts_nil) (fun _ _ _ _ _ => (pe_call GO hr (by rfl) mO kO bO .nil pass0 (pa_cons (pv 0) (pa_cons (pv 2) pa_nil)))))))
      (pss_cons (ps_setLc (i := 7) (own := [("_law_sign", 9)]) (g := gName 9) (by rfl) scWords.nd rfl rfl (sw_true rfl rfl rfl (by decide +kernel)) (pi_str (pv 2)) (blkOk_by (own := [("_law_sign", 9)]) (N := wordsN) (sc := defScope sWords) (by decide +kernel)) (fun _ _ _ _ _ => pg_name (i := 9) scWords.nd rfl (Or.inl rfl)) (fun _ _ _ _ _ => pts_one (pt_cmpR (r := rIn K true) op_notIn_seq (pe_op op_add_str (pe_slice sl_str (pv 6) po_none (po_some pe_int)) (pv 9)) (pe_op op_cat (pv 3) (pe_lst (pa_cons pe_str (pa_cons pe_str (pa_cons pe_str pa_nil))))) (by rfl))) (fun _ _ _ _ _ => (pe_op op_add_str (pe_slice sl_str (pv 6) po_none (po_some pe_int)) (pv 9))))
      (pss_one (ps_expr (pe_bm PySem.F.plainAttrs_list PySem.F.slot_list_append PySem.F.type_list_append mt_append (pv 3) (pa_cons (pe_ifExp (pt_cmpR op_notIn_seq (pv 6) (pe_op op_cat (pv 3) (pe_lst (pa_cons pe_str (pa_cons pe_str (pa_cons pe_str pa_nil))))) (by rfl)) (pv 6) (pe_ix ix_list (pv 7) pe_int (fun _ _ => rfl))) pa_nil))))))))
      (pss_one (ps_ret (pv 3))))), ?_⟩
  refine ⟨(by show 0 ≤ sizeLine; decide), fun Z nZ => ⟨(by rw [sizeLine_eq]; simp), fun t0 n0 => ⟨t0, _, rfl, SqT.of upd_same, rfl, _, _, rfl, _, _, rfl, rfl, ?_⟩⟩⟩
  have gZ : Same H _ := same_new nZ (.lst [])
  have g0 : Same _ _ := same_new n0 (.tup [.str abc, .ref Z])
  have nZpq := hU.ne_none nZ
  have s0 := gZ.trans g0
  have labc : Tx.Let abc := by unfold Tx.Let; decide +kernel
  have abc26 : abc.cps.toList = List.range' 97 26 := by decide +kernel
  refine ⟨_, rfl, (many : Int), rfl, by omega, by omega, ?_⟩
  refine for_range (lo := 0) (n := ((many : Nat) : Int).toNat) (fun i σ' H1 => ∃ (v4 v5 v6 v7 v8 v9 : Option V) (ws : List Str), σ' = [some (.ref p), some (.int (many : Int)), some (.str abc), some (.ref Z), v4, v5, v6, v7, v8, v9] ∧ H1 Z = some (.lst (ws.map V.str)) ∧ ws.length = i ∧ (∀ y ∈ ws, Wd y) ∧ ws.Nodup ∧ Hand H1 p (n + 12 * i) ∧ But p H H1)
    ⟨none, none, none, none, none, none, [], rfl, g0 _ _ upd_same, rfl, fun y hy => (nomatch hy), List.nodup_nil, hU.same s0, But.of s0⟩ ?_ ?_
  · rintro i σ' H1 hi ⟨v4, v5, v6, v7, v8, v9, ws, rfl, hZ, lw, wd, ndw, hU1, sb1⟩
    have i8 : i < 20 := by omega
    -- a word
    refine ⟨_, rfl, (by rw [sizeLine_eq]; simp), fun L2 n2 => ?_⟩
    have n2' := hU1.ne_none n2
    have g2 : Same H1 _ := same_new n2 (.lst [.int 1, .int 1, .int 2, .int 3, .int 5, .int 8])
    refine .inl ⟨p, L2, _, n + 12 * i, rfl, upd_same, n2', (by simp), (by simp), hU1.same g2, by omega, fun v H3 hv hU3 sb3 => ?_⟩
    obtain ⟨ln, rfl, ln1, ln8⟩ : ∃ ln : Nat, v = .int (ln : Int) ∧ 1 ≤ ln ∧ ln ≤ 8 := by
      simp only [List.mem_cons, List.mem_nil_iff, or_false] at hv
      rcases hv with rfl | rfl | rfl | rfl | rfl | rfl
      · exact ⟨1, rfl, by decide, by decide⟩
      · exact ⟨1, rfl, by decide, by decide⟩
      · exact ⟨2, rfl, by decide, by decide⟩
      · exact ⟨3, rfl, by decide, by decide⟩
      · exact ⟨5, rfl, by decide, by decide⟩
      · exact ⟨8, rfl, by decide, by decide⟩
    refine ⟨⟨_, rfl⟩, _, rfl, (ln : Int), rfl, by omega, by omega, fun D nD => ?_⟩
    have nDpq := hU3.ne_none nD
    refine lc_range (lo := 0) (n := ((ln : Nat) : Int).toNat) (fun j H4 => ∃ ys : List Str, H4 D = some (.lst (ys.map V.str)) ∧ ys.length = j ∧ (∀ y ∈ ys, y.length = 1 ∧ Tx.Let y) ∧ Hand H4 p (n + 12 * i + 1 + j) ∧ But p H3 H4)
      ⟨[], upd_same, rfl, fun y hy => (nomatch hy), hU3.same (same_new nD _), But.of (same_new nD _)⟩ ?_ ?_
    · rintro j H4 hj ⟨ys, e1, e2, e3, e4, e5⟩
      refine ⟨rfl, ?_⟩
      refine ⟨_, rfl, _, rfl, .inr ⟨p, _, n + 12 * i + 1 + j, rfl, by decide +kernel, by decide +kernel, labc, e4, by omega, fun y H5 hy oy hU5 sb5 => ?_⟩⟩
      have e6 := sb5 _ _ nDpq e1
      refine ⟨_, e6, by rw [List.length_map]; exact small1000 (by omega), ys ++ [y], ?_, ?_, fun z hz => ?_, hU5.upd nDpq, (e5.trans sb5).upd nD⟩
      · rw [upd_same, List.map_append]
        rfl
      · rw [List.length_append, e2]
        rfl
      · rcases List.mem_append.mp hz with hz | hz
        · exact e3 z hz
        · rw [List.mem_singleton.mp hz]
          exact ⟨hy, oy⟩
    rintro H4 ⟨ys, e1, e2, e3, hU4, sb4⟩
    have lj : (Str.join (Str.ofString "") ys).length = ys.length := join_len1 (by decide +kernel) ys fun y hy => (e3 y hy).1
    have sum1 : (ys.map (·.length)).sum = ys.length := by
      clear lj e1 e2 hU4 sb4
      induction ys with
      | nil => rfl
      | cons y r ih =>
        rw [List.map_cons, List.sum_cons, ih fun z hz => e3 z (List.mem_cons_of_mem _ hz), (e3 y (List.mem_cons_self ..)).1, List.length_cons]
        omega
    refine ⟨_, D, ys, rfl, rfl, .inl (SqL.of e1), ?_, ?_⟩
    · rw [sum1]
      show _ + _ * 0 ≤ _
      omega
    rw [show ∀ a b, Txt.join a b = Str.join a b from fun a b => PySem.StrLaws.glued_eq_join a b]
    obtain ⟨wrd, hwrd⟩ : ∃ wrd, Str.join (Str.ofString "") ys = wrd := ⟨_, rfl⟩
    have wdw : Wd wrd := by
      rw [← hwrd]
      refine ⟨by rw [lj]; omega, by rw [lj]; omega, join_ok (by unfold Tx.Let; decide +kernel) ys fun y hy => (e3 y hy).2⟩
    rw [hwrd]
    have sb14 : But p H1 H4 := (But.of g2).trans (sb3.trans sb4)
    have hZ4 : H4 Z = some (.lst (ws.map V.str)) := sb14 _ _ nZpq hZ
    obtain ⟨c7l, c7t⟩ := cutS7 wrd
    have wlen : wrd.length ≤ sizeLine := by rw [sizeLine_eq]; have := wdw.2.1; omega
    -- those that are free
    refine ⟨_, rfl, _, rfl, fun D2 nD2 => ?_⟩
    have nD2Z : Z ≠ D2 := ne_of_none hZ4 nD2
    obtain ⟨pool, hpool⟩ : ∃ pool, ws.map V.str ++ taken = pool := ⟨_, rfl⟩
    have poolE : pool = (ws ++ [Str.ofString "key", Str.ofString "many", Str.ofString "sum"]).map V.str := by
      rw [← hpool, List.map_append]
      rfl
    have poolL : pool.length ≤ 22 := by
      rw [← hpool, List.length_append, List.length_map]
      show ws.length + 3 ≤ 22
      omega
    refine lc_it (walk_str (z := abc)) (fun j H5 => ∃ fs : List Str, H5 D2 = some (.lst (fs.map V.str)) ∧ fs.length ≤ j ∧ (∀ y ∈ fs, Wd y ∧ V.str y ∉ pool) ∧ (∀ c ∈ abc.cps.toList.take j, V.str (cutS wrd none (some 7) ++ ⟨#[c]⟩) ∉ pool → fs ≠ []) ∧ Same H4 H5) ⟨[], upd_same, Nat.le_refl _, fun y hy => (nomatch hy), fun c hc => (nomatch hc), same_new nD2 _⟩ (fun _ _ _ _ => trivial) ?_ ?_
    · rintro j x H5 H6 hj ⟨fs, f1, f2, f3, f4, s5⟩ ⟨rfl, c, hc, rfl⟩
      have hc' : abc.cps.toList[j]? = some c := by rw [Array.getElem?_toList]; exact hc
      have hcl : Tx.Let ⟨#[c]⟩ := sign_ok labc (List.mem_of_getElem? hc')
      have j26 : j < 26 := by
        have : j < abc.cps.toList.length := (List.getElem?_eq_some_iff.mp hc').1
        rw [abc26] at this
        simpa using this
      have hZ5 := s5 _ _ hZ4
      have lapp : (cutS wrd none (some 7)).length + (⟨#[c]⟩ : Str).length ≤ sizeLine := by
        rw [c7l, sizeLine_eq]
        show min 7 wrd.length + 1 ≤ _
        omega
      have wdn : Wd (cutS wrd none (some 7) ++ ⟨#[c]⟩) := by
        refine ⟨?_, ?_, app_ok (c7t wdw.2.2) hcl⟩
        · rw [app_len]
          show 1 ≤ _ + 1
          omega
        · rw [app_len, c7l]
          show min 7 wrd.length + 1 ≤ 8
          omega
      refine ⟨rfl, _, rfl, 7, rfl, wrd, rfl, wlen, _, rfl, _, _, rfl, rfl, lapp, _, rfl, (by rw [sizeLine_eq]; simp), fun L7 n7 => ?_⟩
      have g7 : Same H6 _ := same_new n7 (.lst taken)
      refine ⟨Z, L7, _, _, rfl, rfl, g7 _ _ hZ5, upd_same, (by rw [List.length_map, sizeLine_eq]; simp; omega), fun L8 n8 => ?_⟩
      have g8 : Same _ _ := same_new n8 (.lst (ws.map V.str ++ taken))
      have g78 := g7.trans g8
      refine ⟨L8, _, rfl, .inl (SqL.of upd_same), rfl, by rw [hpool, poolE]; exact strs_flat _, _, rfl, ?_⟩
      have hin : inV (.str (cutS wrd none (some 7) ++ ⟨#[c]⟩)) (ws.map V.str ++ taken) = decide (V.str (cutS wrd none (some 7) ++ ⟨#[c]⟩) ∈ pool) := by
        rw [hpool, poolE, inV_str]
      have f1' := g78 _ _ f1
      show if (!inV (.str (cutS wrd none (some 7) ++ ⟨#[c]⟩)) (ws.map V.str ++ taken)) = true then _ else _
      rw [hin]
      by_cases cm : V.str (cutS wrd none (some 7) ++ ⟨#[c]⟩) ∈ pool
      · refine ff2 (by rw [decide_eq_true cm]; rfl) ⟨fs, f1', by omega, f3, fun c' hc2 hn => ?_, s5.trans g78⟩
        rw [List.take_add_one, hc'] at hc2
        rcases List.mem_append.mp hc2 with hc2 | hc2
        · exact f4 c' hc2 hn
        · have e : c' = c := by simpa using hc2
          rw [e] at hn
          exact absurd cm hn
      · refine tt2 (by rw [decide_eq_false cm]; rfl) ⟨_, rfl, 7, rfl, wrd, rfl, wlen, _, rfl, _, _, rfl, rfl, lapp, _, f1', by rw [List.length_map, sizeLine_eq]; omega, fs ++ [cutS wrd none (some 7) ++ ⟨#[c]⟩], ?_, ?_, fun y hy => ?_, fun c' hc2 hn => ?_, fun b o e => ?_⟩
        · rw [upd_same, List.map_append]
          rfl
        · rw [List.length_append]
          show fs.length + 1 ≤ _
          omega
        · rcases List.mem_append.mp hy with hy | hy
          · exact f3 y hy
          · rw [List.mem_singleton.mp hy]
            exact ⟨wdn, cm⟩
        · intro z
          have := congrArg List.length z
          simp at this
        · rw [upd_ne (ne_of_none e nD2)]
          exact g78 _ _ (s5 _ _ e)
    rintro H5 ⟨fs, f1, f2, f3, f4, s5⟩
    have fne : fs ≠ [] := by
      obtain ⟨c, hc, hn⟩ := not_all (l := List.range' 97 26) (xs := pool) (f := fun c => V.str (cutS wrd none (some 7) ++ ⟨#[c]⟩)) (fun a b e => sign_app_inj _ e) (List.nodup_range' ..) (by rw [List.length_range']; omega)
      refine f4 c ?_ hn
      have e3 : abc.cps.toList.take abc.cps.size = abc.cps.toList := List.take_of_length_le (by rw [Array.length_toList]; exact Nat.le_refl _)
      show c ∈ abc.cps.toList.take abc.cps.size
      rw [e3, abc26]
      exact hc
    have hZ5 := s5 _ _ hZ4
    have hU5 := hU4.same s5
    refine ⟨_, rfl, .inl ⟨rfl, _, SqL.of hZ5⟩, _, rfl, _, rfl, (by rw [sizeLine_eq]; simp), fun L7 n7 => ?_⟩
    have g7 : Same H5 _ := same_new n7 (.lst taken)
    refine ⟨Z, L7, _, _, rfl, rfl, g7 _ _ hZ5, upd_same, (by rw [List.length_map, sizeLine_eq]; simp; omega), fun L8 n8 => ?_⟩
    have g8 : Same _ _ := same_new n8 (.lst (ws.map V.str ++ taken))
    have g78 := g7.trans g8
    have hZ8 := g78 _ _ hZ5
    have sb18 : But p H (upd (upd H5 L7 (.lst taken)) L8 (.lst (ws.map V.str ++ taken))) := sb1.trans (sb14.trans (But.of (s5.trans g78)))
    have hU8 := hU5.same g78
    refine ⟨L8, _, rfl, .inl (SqL.of upd_same), rfl, by rw [hpool, poolE]; exact strs_flat _, _, rfl, ite2 (fun cw => ?_) (fun _ => ?_)⟩
    · have nw : V.str wrd ∉ pool := by
        rw [hpool, poolE, inV_str, ← poolE] at cw
        intro z
        rw [decide_eq_true z] at cw
        cases cw
      refine ⟨_, rfl, Z, _, _, rfl, rfl, hZ8, by rw [List.length_map, sizeLine_eq]; omega, _, _, _, _, _, _, ws ++ [wrd], rfl, ?_, ?_, fun y hy => ?_, nodup_snoc ndw fun z => nw (hpool ▸ List.mem_append.mpr (.inl (List.mem_map.mpr ⟨_, z, rfl⟩))), (hU8.mono (by omega)).upd nZpq, sb18.upd nZ⟩
      · rw [upd_same, List.map_append]
        rfl
      · rw [List.length_append, lw]
        rfl
      · rcases List.mem_append.mp hy with hy | hy
        · exact wd y hy
        · rw [List.mem_singleton.mp hy]
          exact wdw
    · match fs, fne, f1, f3 with
      | y0 :: r, _, f1, f3 =>
        refine ⟨_, rfl, D2, _, _, .str y0, rfl, rfl, SqL.of (g78 _ _ f1), atI_nat (j := 0) rfl, Z, _, _, rfl, rfl, hZ8, by rw [List.length_map, sizeLine_eq]; omega, _, _, _, _, _, _, ws ++ [y0], rfl, ?_, ?_, fun y hy => ?_, nodup_snoc ndw fun z => (f3 y0 (List.mem_cons_self ..)).2 (hpool ▸ List.mem_append.mpr (.inl (List.mem_map.mpr ⟨_, z, rfl⟩))), (hU8.mono (by omega)).upd nZpq, sb18.upd nZ⟩
        · rw [upd_same, List.map_append]
          rfl
        · rw [List.length_append, lw]
          rfl
        · rcases List.mem_append.mp hy with hy | hy
          · exact wd y hy
          · rw [List.mem_singleton.mp hy]
            exact (f3 y0 (List.mem_cons_self ..)).1
  · rintro σ' H1 ⟨v4, v5, v6, v7, v8, v9, ws, rfl, hZ, lw, wd, ndw, hU1, sb1⟩
    exact ⟨_, rfl, qq Z ws H1 nZ hZ (by omega) wd ndw (hU1.mono (by omega)) sb1⟩
end
end Q64
/-! dicts whose keys are tuples of numbers, texts, None and such tuples -/
namespace Dn
open PySem PySem.Spec PyProof.Rows L2 Ln
mutual
/-- the value v is the key k -/
inductive KeyV (H : Hp) : NestedKey → V → Prop
  | none : KeyV H .none .non
  | num (i : Int) : KeyV H (.num i) (.int i)
  | text (x : Str) : KeyV H (.text x) (.str x)
  | tup {b : Addr} {xs : List V} {ks : List NestedKey} : H b = some (.tup xs) → KeysV H ks xs → KeyV H (.tup ks) (.ref b)
inductive KeysV (H : Hp) : List NestedKey → List V → Prop
  | nil : KeysV H [] []
  | cons {k : NestedKey} {v : V} {ks : List NestedKey} {vs : List V} : KeyV H k v → KeysV H ks vs → KeysV H (k :: ks) (v :: vs)
end
mutual
theorem KeyV.keep {H H' : Hp} (t : Keep H H') : ∀ (k : NestedKey) (v : V), KeyV H k v → KeyV H' k v
  | .none, _, h => by cases h; exact .none
  | .num i, _, h => by cases h; exact .num i
  | .text x, _, h => by cases h; exact .text x
  | .tup ks, _, h => by
    cases h with
    | tup a b => exact .tup (t _ _ a) (KeysV.keep t ks _ b)
theorem KeysV.keep {H H' : Hp} (t : Keep H H') : ∀ (ks : List NestedKey) (vs : List V), KeysV H ks vs → KeysV H' ks vs
  | [], _, h => by cases h; exact .nil
  | k :: ks, _, h => by
    cases h with
    | cons a b => exact .cons (KeyV.keep t k _ a) (KeysV.keep t ks _ b)
end
mutual
theorem KeyV.inj {H : Hp} : ∀ (k j : NestedKey) (v : V), KeyV H k v → KeyV H j v → k = j
  | .none, _, _, h, h' => by cases h; cases h'; rfl
  | .num i, _, _, h, h' => by cases h; cases h'; rfl
  | .text x, _, _, h, h' => by cases h; cases h'; rfl
  | .tup ks, _, _, h, h' => by
    cases h with
    | tup a b =>
      cases h' with
      | tup a' b' =>
        rw [a] at a'
        cases a'
        rw [KeysV.inj ks _ _ b b']
theorem KeysV.inj {H : Hp} : ∀ (ks js : List NestedKey) (vs : List V), KeysV H ks vs → KeysV H js vs → ks = js
  | [], _, _, h, h' => by cases h; cases h'; rfl
  | k :: ks, _, _, h, h' => by
    cases h with
    | cons a b =>
      cases h' with
      | cons a' b' => rw [KeyV.inj k _ _ a a', KeysV.inj ks _ _ b b']
end
section
variable {P : Program} {w : World} {H : Hp} {h : Heap}
mutual
theorem KeyV.is (ok : HOk P w H h) : ∀ (k : NestedKey) (v : V) (u : Value), KeyV H k v → RelV v u → NestedIs h k u
  | .none, _, _, x, r => by cases x; cases r; exact .none
  | .num i, _, _, x, r => by cases x; obtain ⟨t, rfl⟩ := r; exact .int i t
  | .text y, _, _, x, r => by cases x; obtain ⟨t, rfl⟩ := r; exact .text y t
  | .tup ks, _, _, x, r => by
    cases x with
    | tup a b =>
      cases r
      obtain ⟨_, its, rv, o, h1, h2, n, h3⟩ := ok _ _ a
      exact .tup h1 h2 h3 (by simpa using KeysV.is ok ks _ _ b rv)
theorem KeysV.is (ok : HOk P w H h) : ∀ (ks : List NestedKey) (vs : List V) (us : List Value), KeysV H ks vs → Vals vs us → NestedAll h ks us
  | [], _, _, x, r => by cases x; cases r; exact .nil
  | k :: ks, _, _, x, r => by
    cases x with
    | cons a b =>
      cases r with
      | cons r1 r2 => exact .cons (KeyV.is ok k _ _ a r1) (KeysV.is ok ks _ _ b r2)
end
end
section
variable {K : PySem.W.Frag} {H : Hp}
mutual
theorem KeyV.dp : ∀ (k : NestedKey) (v : V), KeyV H k v → Dp K H v k.data
  | .none, _, x => by cases x; exact .non
  | .num i, _, x => by cases x; exact .int i
  | .text y, _, x => by cases x; exact .str y
  | .tup ks, _, x => by
    cases x with
    | tup a b => exact .tup (SqT.of a) (KeysV.dp ks _ b)
theorem KeysV.dp : ∀ (ks : List NestedKey) (vs : List V), KeysV H ks vs → DpAll K H vs (NestedKey.datas ks)
  | [], _, x => by cases x; exact .nil
  | k :: ks, _, x => by
    cases x with
    | cons a b => exact .cons (KeyV.dp k _ a) (KeysV.dp ks _ b)
end
end

/-- what a dict holds -/
abbrev Ent := NestedKey × Addr × V
def valN (xs : List Ent) (k : NestedKey) : Option V := (xs.find? fun x => decide (x.1 = k)).map (·.2.2)
def putN (xs : List Ent) (k : NestedKey) (b : Addr) (v : V) : List Ent := if (valN xs k).isSome then xs.map (fun x => if x.1 = k then (x.1, x.2.1, v) else x) else xs ++ [(k, b, v)]
def RE (p : Ent) (q : NestedKey × Addr × Value) : Prop := p.1 = q.1 ∧ p.2.1 = q.2.1 ∧ RelV p.2.2 q.2.2
def Dz (w : World) (d : Addr) (xs : List Ent) (h : Heap) : Prop :=
  xs.length ≤ sizeLine ∧ (d == sysModules) = false ∧ (∀ x ∈ xs, x.1.depth ≤ 8) ∧ (xs.map (·.1)).Nodup ∧ ∃ ys : List (NestedKey × Addr × Value), Paired RE xs ys ∧
    ∃ o es ep, h.get? d = some o ∧ o.ExactDict ∧ o.data = .dict es ep ∧ es.toList = ys.map fun y => (⟨y.1.hash w, .ref y.2.1, y.2.2⟩ : DictEntry)
def DnO (w : World) (d : Addr) (xs : List Ent) : HO := .ext (Dz w d xs)
/-- a dict of these entries stands at d -/
def Dn (w : World) (H : Hp) (d : Addr) (xs : List Ent) : Prop := H d = some (DnO w d xs) ∧ ∀ x ∈ xs, KeyV H x.1 (.ref x.2.1)
theorem Dz.at {w : World} {d : Addr} {xs : List Ent} {h h' : Heap} (z : Dz w d xs h) (k : ∀ o, h.get? d = some o → h'.get? d = some o) : Dz w d xs h' := by
  obtain ⟨a, b, c, e, ys, r, o, es, ep, h1, h2⟩ := z
  exact ⟨a, b, c, e, ys, r, o, es, ep, k _ h1, h2⟩
theorem dz_ok {P : Program} {w : World} {H : Hp} {h : Heap} {d : Addr} {xs : List Ent} (z : Dz w d xs h) : ObjOk P w H h d (DnO w d xs) := by
  have ⟨_, _, _, _, _, _, o, _, _, ho, _⟩ := z
  exact ⟨z, ⟨o, ho⟩, fun h1 h2 p k => Dz.at p k⟩
theorem dnO_tup {w : World} {d : Addr} {xs : List Ent} {ys : List V} : DnO w d xs ≠ .tup ys := fun z => nomatch z
theorem Dn.keep {w : World} {H H' : Hp} {d : Addr} {xs : List Ent} (x : Dn w H d xs) (t : Keep H H') (e : H' d = H d) : Dn w H' d xs := ⟨e.trans x.1, fun y hy => KeyV.keep t _ _ (x.2 y hy)⟩
theorem Dn.same {w : World} {H H' : Hp} {d : Addr} {xs : List Ent} (x : Dn w H d xs) (s : Same H H') : Dn w H' d xs := ⟨s _ _ x.1, fun y hy => KeyV.keep (Keep.of s) _ _ (x.2 y hy)⟩
theorem Dn.nil {w : World} {H : Hp} {d : Addr} (e : H d = some (DnO w d [])) : Dn w H d [] := ⟨e, fun _ h => nomatch h⟩
theorem keep_upd {w : World} {H : Hp} {d : Addr} {xs : List Ent} {o : HO} (e : H d = some (DnO w d xs)) : Keep H (upd H d o) := fun b ys hb => by
  rw [upd_ne (ne_of hb e fun z => nomatch z)]
  exact hb
section
variable {P : Program} {w : World} {H : Hp} {h : Heap} {d : Addr} {xs : List Ent}
theorem re_keys : ∀ {xs : List Ent} {ys : List (NestedKey × Addr × Value)}, Paired RE xs ys → xs.map (·.1) = ys.map (·.1)
  | _, _, .nil => rfl
  | _, _, .cons a r => by rw [List.map_cons, List.map_cons, a.1, re_keys r]
theorem re_val {k : NestedKey} : ∀ {xs : List Ent} {ys : List (NestedKey × Addr × Value)}, Paired RE xs ys → RelO (valN xs k) ((atKey ys k).map (·.2))
  | _, _, .nil => trivial
  | x :: _, y :: _, .cons a r => by
    have ih := re_val (k := k) r
    obtain ⟨a1, a2, a3⟩ := a
    unfold valN atKey at *
    rw [List.find?_cons, List.find?_cons, ← a1]
    by_cases e : x.1 = k
    · simp only [e, decide_true]
      exact a3
    · simp only [e, decide_false]
      exact ih
theorem re_mem : ∀ {xs : List Ent} {ys : List (NestedKey × Addr × Value)}, Paired RE xs ys → ∀ y ∈ ys, ∃ x ∈ xs, x.1 = y.1 ∧ x.2.1 = y.2.1
  | _, _, .cons a r, y, hy => by
    rcases List.mem_cons.mp hy with rfl | hy
    · exact ⟨_, List.mem_cons_self, a.1, a.2.1⟩
    · obtain ⟨x, h1, h2⟩ := re_mem r y hy
      exact ⟨x, List.mem_cons_of_mem _ h1, h2⟩
theorem isSome_eq : ∀ {o : Option V} {p : Option Value}, RelO o p → o.isSome = p.isSome
  | some _, some _, _ => rfl
  | none, none, _ => rfl
theorem re_map {k : NestedKey} {v : V} {u : Value} (rv : RelV v u) : ∀ {xs : List Ent} {ys : List (NestedKey × Addr × Value)}, Paired RE xs ys → Paired RE (xs.map fun x => if x.1 = k then (x.1, x.2.1, v) else x) (ys.map (putAt k u))
  | _, _, .nil => .nil
  | x :: _, y :: _, .cons a r => by
    refine .cons ?_ (re_map rv r)
    obtain ⟨a1, a2, a3⟩ := a
    show RE (if x.1 = k then (x.1, x.2.1, v) else x) (putAt k u y)
    unfold putAt
    rw [← a1]
    by_cases e : x.1 = k
    · rw [if_pos e, if_pos e]
      exact ⟨rfl, a2, rv⟩
    · rw [if_neg e, if_neg e]
      exact ⟨a1, a2, a3⟩
theorem re_snoc {x : Ent} {y : NestedKey × Addr × Value} (h : RE x y) : ∀ {xs : List Ent} {ys : List (NestedKey × Addr × Value)}, Paired RE xs ys → Paired RE (xs ++ [x]) (ys ++ [y])
  | _, _, .nil => .cons h .nil
  | _, _, .cons a r => .cons a (re_snoc h r)
theorem re_put {k : NestedKey} {b : Addr} {v : V} {u : Value} (rv : RelV v u) {ys : List (NestedKey × Addr × Value)} (r : Paired RE xs ys) : Paired RE (putN xs k b v) (storedH ys k b u) := by
  unfold putN storedH
  have e : (valN xs k).isSome = (atKey ys k).isSome := by rw [isSome_eq (re_val r), Option.isSome_map]
  rw [e]
  split
  · exact re_map rv r
  · exact re_snoc ⟨rfl, rfl, rv⟩ r
theorem valN_none {k : NestedKey} : valN xs k = none → k ∉ xs.map (·.1) := by
  intro h hm
  obtain ⟨x, hx, rfl⟩ := List.mem_map.mp hm
  unfold valN at h
  rw [Option.map_eq_none_iff, List.find?_eq_none] at h
  exact h x hx (by simp)
theorem valN_some {k : NestedKey} {v : V} (h : valN xs k = some v) : ∃ x ∈ xs, x.1 = k ∧ x.2.2 = v := by
  unfold valN at h
  obtain ⟨x, h1, h2⟩ := Option.map_eq_some_iff.mp h
  exact ⟨x, List.mem_of_find?_eq_some h1, by simpa using List.find?_some h1, h2⟩
theorem putN_len (k : NestedKey) (b : Addr) (v : V) : (putN xs k b v).length ≤ xs.length + 1 := by
  unfold putN
  split
  · simp
  · simp
theorem putN_keys (k : NestedKey) (b : Addr) (v : V) : (putN xs k b v).map (·.1) = if (valN xs k).isSome then xs.map (·.1) else xs.map (·.1) ++ [k] := by
  unfold putN
  split
  · rw [List.map_map]
    refine List.map_congr_left fun x _ => ?_
    show (if x.1 = k then (x.1, x.2.1, v) else x).1 = x.1
    split <;> rfl
  · simp
theorem putN_mem {k : NestedKey} {b : Addr} {v : V} {x : Ent} (h : x ∈ putN xs k b v) : (∃ y ∈ xs, x.1 = y.1 ∧ x.2.1 = y.2.1) ∨ (x.1 = k ∧ x.2.1 = b) := by
  unfold putN at h
  split at h
  · obtain ⟨y, hy, rfl⟩ := List.mem_map.mp h
    refine .inl ⟨y, hy, ?_⟩
    split <;> exact ⟨rfl, rfl⟩
  · rcases List.mem_append.mp h with h | h
    · exact .inl ⟨x, h, rfl, rfl⟩
    · rw [List.mem_singleton] at h
      subst h
      exact .inr ⟨rfl, rfl⟩
theorem valN_map {k j : NestedKey} {v : V} (hs : (valN xs k).isSome = true) : valN (xs.map fun x => if x.1 = k then (x.1, x.2.1, v) else x) j = if j = k then some v else valN xs j := by
  induction xs with
  | nil => cases hs
  | cons x xs ih =>
    unfold valN
    rw [List.map_cons, List.find?_cons, List.find?_cons]
    by_cases e : x.1 = k
    · rw [if_pos e]
      dsimp only
      by_cases ej : x.1 = j
      · subst ej
        simp [e]
      · simp only [ej, decide_false]
        have hj : ¬ j = k := fun q => ej (e.trans q.symm)
        rw [if_neg hj]
        show valN _ j = valN xs j
        by_cases hs2 : (valN xs k).isSome = true
        · rw [ih hs2, if_neg hj]
        · have hn : k ∉ xs.map (·.1) := valN_none (by simpa using hs2)
          have : (xs.map fun x => if x.1 = k then (x.1, x.2.1, v) else x) = xs := by
            refine (List.map_congr_left fun y hy => ?_).trans (List.map_id _)
            rw [if_neg (fun q => hn (List.mem_map.mpr ⟨y, hy, q⟩))]
            rfl
          rw [this]
    · rw [if_neg e]
      by_cases ej : x.1 = j
      · subst ej
        simp [e]
      · simp only [ej, decide_false]
        have hs2 : (valN xs k).isSome = true := by
          unfold valN at hs ⊢
          rw [List.find?_cons] at hs
          simpa [e] using hs
        exact ih hs2
theorem valN_append {k j : NestedKey} {b : Addr} {v : V} (hn : valN xs k = none) : valN (xs ++ [(k, b, v)]) j = if j = k then some v else valN xs j := by
  unfold valN at hn ⊢
  rw [List.find?_append]
  by_cases e : j = k
  · subst e
    rw [Option.map_eq_none_iff] at hn
    rw [hn]
    simp
  · rw [if_neg e]
    have : List.find? (fun x : Ent => decide (x.1 = j)) [(k, b, v)] = none := by
      rw [List.find?_eq_none]
      intro x hx
      rw [List.mem_singleton] at hx
      subst hx
      simp [Ne.symm e]
    rw [this, Option.or_none]
/-- what stands at j behind d[k] = v -/
theorem valN_put (k j : NestedKey) (b : Addr) (v : V) : valN (putN xs k b v) j = if j = k then some v else valN xs j := by
  unfold putN
  split
  · next h => exact valN_map h
  · next h => exact valN_append (by simpa using h)
theorem dn_of (ok : HOk P w H h) (x : Dn w H d xs) : xs.length ≤ sizeLine ∧ (d == sysModules) = false ∧ (∀ x ∈ xs, x.1.depth ≤ 8) ∧ (xs.map (·.1)).Nodup ∧ ∃ ys, Paired RE xs ys ∧ h.DictOfH (nestedKind P w) d ys := by
  obtain ⟨x1, x2⟩ := x
  obtain ⟨⟨a, b, c, e, ys, r, o, es, ep, h1, h2, h3, h4⟩, _⟩ := ok _ _ x1
  refine ⟨a, b, c, e, ys, r, o, es, ep, h1, h2, h3, h4, fun y hy => ?_, by rw [← re_keys r]; exact e⟩
  obtain ⟨x, hx, e1, e2⟩ := re_mem r y hy
  refine ⟨?_, by rw [← e1]; exact c x hx⟩
  rw [← e1, ← e2]
  exact KeyV.is ok _ _ _ (x2 x hx) rfl
theorem dn_key (ok : HOk P w H h) {k : NestedKey} {b : Addr} (hk : KeyV H k (.ref b)) (hd : k.depth ≤ 8) : (nestedKind P w).is h k b := ⟨KeyV.is ok _ _ _ hk rfl, hd⟩
theorem dz_put {k : NestedKey} {b : Addr} {v : V} {u : Value} {h' : Heap} {ys : List (NestedKey × Addr × Value)} (l : xs.length < sizeLine) (lo : (d == sysModules) = false) (dp : ∀ x ∈ xs, x.1.depth ≤ 8) (nd : (xs.map (·.1)).Nodup) (kd : k.depth ≤ 8)
    (r : Paired RE xs ys) (rv : RelV v u) (dd : h'.DictOfH (nestedKind P w) d (storedH ys k b u)) : Dz w d (putN xs k b v) h' := by
  obtain ⟨o, es, ep, h1, h2, h3, h4, _, h5⟩ := dd
  refine ⟨?_, lo, fun x hx => ?_, ?_, _, re_put rv r, o, es, ep, h1, h2, h3, h4⟩
  · have := putN_len (xs := xs) k b v
    omega
  · rcases putN_mem hx with ⟨y, hy, e, _⟩ | ⟨e, _⟩
    · rw [e]; exact dp y hy
    · rw [e]; exact kd
  · rw [re_keys (re_put (k := k) (b := b) rv r)]
    exact h5
end
/-- behind d[k] = v -/
theorem Dn.put {w : World} {H : Hp} {d : Addr} {xs : List Ent} {k : NestedKey} {b : Addr} {v : V} (x : Dn w H d xs) (hk : KeyV H k (.ref b)) : Dn w (upd H d (DnO w d (putN xs k b v))) d (putN xs k b v) := by
  refine ⟨upd_same, fun y hy => ?_⟩
  have t : Keep H (upd H d (DnO w d (putN xs k b v))) := keep_upd x.1
  rcases putN_mem hy with ⟨z, hz, e1, e2⟩ | ⟨e1, e2⟩
  · rw [e1, e2]; exact KeyV.keep t _ _ (x.2 z hz)
  · rw [e1, e2]; exact KeyV.keep t _ _ hk
section
variable {X : Cx} {pins : List (Addr × Obj)} {σ : L2.St} {H : Hp} {s : Shared} {d : Addr} {xs : List Ent} {k : NestedKey} {b : Addr} {v : V} {u r : Value} {A : Around} {E : Value → Shared → Prop}
theorem room1 {A : Around} (hu : A.units + 16 < cLine) {P : Program} {w : World} : (nestedKind P w).room A.in1 := by
  show A.in1.units + 8 < cLine
  rw [Around.in1_units]
  omega
theorem n_typeIs (I : Inv X pins σ H s) (g : Dn X.w H d xs) : s.TypeIs (.ref d) "dict" ∧ ∀ b, Value.ref d = .ref b → ∃ ob, s.heap.get? b = some ob ∧ ob.dict = none := by
  obtain ⟨_, _, _, _, ys, _, dd⟩ := dn_of I.hok g
  refine ⟨dd.typeIs, fun b q => ?_⟩
  cases q
  obtain ⟨ob, _, _, h1, h2, _⟩ := dd
  exact ⟨ob, h1, h2.2.1⟩
/-- d[k], there -/
theorem n_getItem {Q : Value → Shared → Prop} (hu : A.units + 16 < cLine) (I : Inv X pins σ H s) (g : Dn X.w H d xs) (hk : KeyV H k (.ref b)) (hv : valN xs k = some v) (h : ∀ w' s', Inv X pins σ H s' → RelV v w' → Q w' s') :
    wpAny (model X.prog X.w) A (getItem (.ref d) (.ref b)) Q E s := by
  obtain ⟨_, hd, dp, nd, ys, rel, dd⟩ := dn_of I.hok g
  have kd : k.depth ≤ 8 := by
    obtain ⟨x, hx, e, _⟩ := valN_some hv
    rw [← e]; exact dp x hx
  obtain ⟨w', hw, rw'⟩ := RelO.some_of (v := v) (o := (atKey ys k).map (·.2)) (by rw [← hv]; exact re_val rel)
  obtain ⟨p, hp, hp2⟩ := Option.map_eq_some_iff.mp hw
  refine wpAny_getItem_heap (room1 hu) (dn_key I.hok hk kd) dd hp ?_
  rw [hp2]
  exact h w' _ (I.tok _) rw'
theorem n_in {Q : Value → Shared → Prop} (hu : A.units + 16 < cLine) (I : Inv X pins σ H s) (g : Dn X.w H d xs) (hk : KeyV H k (.ref b)) (kd : k.depth ≤ 8) (h : ∀ s', Inv X pins σ H s' → Q (.bool (valN xs k).isSome) s') :
    wpAny (model X.prog X.w) A (compareOp .In (.ref b) (.ref d)) Q E s := by
  obtain ⟨_, hd, dp, nd, ys, rel, dd⟩ := dn_of I.hok g
  refine wpAny_in_heap (room1 hu) (dn_key I.hok hk kd) hd dd ?_
  have q := isSome_eq (re_val (k := k) rel)
  rw [Option.isSome_map] at q
  rw [← q]
  exact h _ (I.tok _)
theorem n_notIn {Q : Value → Shared → Prop} (hu : A.units + 16 < cLine) (I : Inv X pins σ H s) (g : Dn X.w H d xs) (hk : KeyV H k (.ref b)) (kd : k.depth ≤ 8) (h : ∀ s', Inv X pins σ H s' → Q (.bool (!(valN xs k).isSome)) s') :
    wpAny (model X.prog X.w) A (compareOp .NotIn (.ref b) (.ref d)) Q E s := by
  obtain ⟨_, hd, dp, nd, ys, rel, dd⟩ := dn_of I.hok g
  refine wpAny_notIn_heap (room1 hu) (dn_key I.hok hk kd) hd dd ?_
  have q := isSome_eq (re_val (k := k) rel)
  rw [Option.isSome_map] at q
  rw [← q]
  exact h _ (I.tok _)
/-- d[k] = v -/
theorem n_setItem {Q : Unit → Shared → Prop} (hu : A.units + 16 < cLine) (I : Inv X pins σ H s) (g : Dn X.w H d xs) (hk : KeyV H k (.ref b)) (kd : k.depth ≤ 8) (l : xs.length < sizeLine) (rv : RelV v r) (h : ∀ s', Inv X pins σ (upd H d (DnO X.w d (putN xs k b v))) s' → Q () s') :
    wpAny (model X.prog X.w) A (setItem (.ref d) (.ref b) r) Q E s := by
  obtain ⟨_, hd, dp, nd, ys, rel, dd⟩ := dn_of I.hok g
  have hz : ys.length ≤ sizeLine := by rw [← Paired.length rel]; omega
  refine wpAny_setItem_heap (hsz := hz) (room1 hu) (dn_key I.hok hk kd) dd fun h' dd' hs => h _ ?_
  have z := dz_put (P := X.prog) l hd dp nd kd rel rv dd'
  have ⟨_, _, _, _, _, _, q, _, _, hq, _⟩ := z
  exact d_write I (by rw [g.1]; exact True.intro) hs ⟨q, hq⟩ (dz_ok z)
end
/-! ### readings and rules -/
/-- d[k] -/
def tNGet (w : World) (td ty : TE) : TE := fun σ H Q => td σ H fun x H1 => ty σ H1 fun y H2 => ∃ d xs k b v, x = .ref d ∧ Dn w H2 d xs ∧ y = .ref b ∧ KeyV H2 k y ∧ valN xs k = some v ∧ Q v H2
def tNIn (w : World) (ty td : TE) : TE := fun σ H Q => ty σ H fun y H1 => td σ H1 fun x H2 => ∃ d xs k b, x = .ref d ∧ Dn w H2 d xs ∧ y = .ref b ∧ KeyV H2 k y ∧ k.depth ≤ 8 ∧ Q (.bl (valN xs k).isSome) H2
def tNNotIn (w : World) (ty td : TE) : TE := fun σ H Q => ty σ H fun y H1 => td σ H1 fun x H2 => ∃ d xs k b, x = .ref d ∧ Dn w H2 d xs ∧ y = .ref b ∧ KeyV H2 k y ∧ k.depth ≤ 8 ∧ Q (.bl (!(valN xs k).isSome)) H2
/-- d[k] = v -/
def sNPut (w : World) (td ty tv : TE) : TS := fun D σ H => tv σ H fun v H1 => td σ H1 fun x H2 => ty σ H2 fun y H3 => ∃ d xs k b, x = .ref d ∧ Dn w H3 d xs ∧ y = .ref b ∧ KeyV H3 k y ∧ k.depth ≤ 8 ∧ xs.length < sizeLine ∧ D.nx σ (upd H3 d (DnO w d (putN xs k b v)))
def tNNew (w : World) : TE := fun _ H Q => ∀ p, H p = none → Q (.ref p) (upd H p (DnO w p []))
/-- o.m(..), o such a dict -/
def tNM (w : World) (r : V → List V → Hp → VK → Prop) (to : TE) (t : TA) : TE := fun σ H Q => to σ H fun x H1 => (∃ d xs, x = .ref d ∧ Dn w H1 d xs) ∧ t σ H1 fun vs H2 => r x vs H2 Q
theorem dz_nil {w : World} (h : Heap) (hb : sysModules < h.objs.size) : Dz w h.objs.size [] (h.push { cls := .type "dict", data := .dict #[] }) :=
  ⟨Nat.zero_le _, beq_eq_false_iff_ne.mpr (Ne.symm (Nat.ne_of_lt hb)), (fun _ h => nomatch h), List.nodup_nil, [], Paired.nil, _, #[], 0, Heap.get?_push_size _ rfl, ⟨rfl, rfl, rfl⟩, rfl, rfl⟩
section
variable {X : Cx} {o i e value : Expr} {es : List Expr} {pos pos' apos cpos : Pos} {td ty tv to : TE} {t : TA} {name : Str} {id : String} {r : V → List V → Hp → VK → Prop}
theorem pe_nget (hu : X.A.units + 16 < cLine) (ho : PE X o td) (hi : PE X i ty) (hs : NoSl i) : PE X (.Subscript o i pos) (tNGet X.w td ty) := by
  refine ⟨fun pins s σ H Q I h => ?_⟩
  refine subD_of PySem.F.slot_dict_getitem.lookup hs (thn (ho.run pins s σ H _ I h) fun u s1 ⟨x, H1, I1, rx, q1⟩ => thn (hi.run pins s1 σ H1 _ I1 q1) fun iv s2 ⟨y, H2, I2, ry, d, xs, k, b, v, ex, g, ey, hk, hv, q2⟩ => ?_)
  subst ex ey
  obtain rfl : u = Value.ref d := rx
  obtain rfl : iv = Value.ref b := ry
  exact ⟨(n_typeIs I2 g).1, n_getItem hu I2 g hk hv fun w' s3 I3 rw' => ⟨v, H2, I3, rw', q2⟩⟩
theorem pc_nin (hu : X.A.units + 16 < cLine) (hi : PE X i ty) (ho : PE X o td) : PC X .In i o (tNIn X.w ty td) := by
  refine ⟨fun pins s σ H Q I h => ?_⟩
  refine thn (hi.run pins s σ H _ I h) fun iv s1 ⟨y, H1, I1, ry, q1⟩ => thn (ho.run pins s1 σ H1 _ I1 q1) fun u s2 ⟨x, H2, I2, rx, d, xs, k, b, ex, g, ey, hk, kd, q2⟩ => ?_
  subst ex ey
  obtain rfl : u = Value.ref d := rx
  obtain rfl : iv = Value.ref b := ry
  exact n_in hu I2 g hk kd fun s3 I3 => ⟨.bl (valN xs k).isSome, H2, I3, rfl, q2⟩
theorem pc_nnotin (hu : X.A.units + 16 < cLine) (hi : PE X i ty) (ho : PE X o td) : PC X .NotIn i o (tNNotIn X.w ty td) := by
  refine ⟨fun pins s σ H Q I h => ?_⟩
  refine thn (hi.run pins s σ H _ I h) fun iv s1 ⟨y, H1, I1, ry, q1⟩ => thn (ho.run pins s1 σ H1 _ I1 q1) fun u s2 ⟨x, H2, I2, rx, d, xs, k, b, ex, g, ey, hk, kd, q2⟩ => ?_
  subst ex ey
  obtain rfl : u = Value.ref d := rx
  obtain rfl : iv = Value.ref b := ry
  exact n_notIn hu I2 g hk kd fun s3 I3 => ⟨.bl (!(valN xs k).isSome), H2, I3, rfl, q2⟩
theorem ps_nput (hu : X.A.units + 16 < cLine) (ho : PE X o td) (hi : PE X i ty) (hv : PE X value tv) (hs : swapsWith value (some (.Subscript o i pos')) pos.line X.env = pure false) :
    PS X (.Assign [.Subscript o i pos'] value pos) (sNPut X.w td ty tv) := by
  refine ⟨fun pins s σ H D I h => ?_⟩
  refine wpAny_Assign_Subscript (thn (hv.run pins s σ H _ I h) fun r s1 ⟨v, H1, I1, rv, q1⟩ => thn (ho.run pins s1 σ H1 _ I1 q1) fun u s2 ⟨x, H2, I2, rx, q2⟩ => thn (hi.run pins s2 σ H2 _ I2 q2) fun iv s3 ⟨y, H3, I3, ry, d, xs, k, b, ex, g, ey, hk, kd, l, q3⟩ => ?_) hs
  subst ex ey
  obtain rfl : u = Value.ref d := rx
  obtain rfl : iv = Value.ref b := ry
  exact n_setItem hu I3 g hk kd l rv fun s4 I4 => ⟨σ, _, I4, q3⟩
theorem pe_nnew : PE X (.Dict [] [] pos) (tNNew X.w) := ⟨fun pins s σ H Q I h =>
  wpAny_Dict_empty ⟨.ref s.heap.objs.size, _, I.laid (a := s.heap.objs.size) (o := DnO X.w s.heap.objs.size []) (t' := s.toks) (fun _ _ q => Heap.get?_push_of_some _ q) (Nat.le_refl _)
    (dz_ok (dz_nil s.heap I.big)), rfl, h _ (I.hok.fresh (Nat.le_refl _))⟩⟩
theorem pe_nbm (slot : Slot "dict" name id) (hty : typeOf (.builtin id) = pure (.type "method_descriptor")) (hm : MtR X id r) (ho : PE X o to) (ha : PA X (e :: es) t)
    (hbase : attributeBase o name X.env (eval o X.env) = eval o X.env := by rfl)
    (hfew : ((backTo cpos (starEach (e :: es) X.env)).all (fun x => !x.1) && (backToKw cpos (keywordEach [] X.env)).all (fun x => x.1.isSome)
      && decide ((e :: es).length + ([] : List Keyword).length + (if ([] : List Keyword).isEmpty then 0 else 1) < 30)) = true := by rfl)
    (hline : (apos.endLine == cpos.line) = true := by rfl) (hs : starEach (e :: es) X.env = (false, eval e X.env) :: starEach es X.env := by rfl) (hplain : (backTo cpos (starEach es X.env)).any (·.1) = false := by rfl) :
    PE X (.Call (.Attribute o name apos) (e :: es) [] cpos) (tNM X.w r to t) := by
  refine ⟨fun pins s σ H Q I h => ?_⟩
  refine wpAny_Call_method_late hbase hfew hline rfl (thn (ho.run pins s σ H _ I h) fun v s1 ⟨x, H1, I1, r1, ⟨d, xs, ex, g⟩, q1⟩ => ?_)
  subst ex
  obtain rfl : v = Value.ref d := r1
  obtain ⟨h1, h2⟩ := n_typeIs I1 g
  refine ⟨"dict", id, PySem.F.plainAttrs_dict, slot, hty, h1, h2, ?_⟩
  have hA := ha.run cpos pins s1 σ H1 _ I1 q1
  rw [hs] at hA ⊢
  refine Calls.callWith_builtin (by show (false || (backTo cpos (starEach es X.env)).any (·.1)) = false; rw [hplain] <;> rfl) (Calls.evalArgs_plain ?_)
  exact thn hA fun us s2 ⟨vs, H2, I2, r2, q2⟩ => hm pins s2 σ H2 (.ref d) vs (.ref d) us Q I2 rfl r2 q2
end
/-- d.get(k), d.get(k, x) -/
def rNGet (w : World) : V → List V → Hp → VK → Prop := fun x ys H Q => ∃ d xs k b, x = .ref d ∧ Dn w H d xs ∧ ys = [.ref b] ∧ KeyV H k (.ref b) ∧ k.depth ≤ 8 ∧ Q ((valN xs k).getD .non) H
def rNGet2 (w : World) : V → List V → Hp → VK → Prop := fun x ys H Q => ∃ d xs k b z, x = .ref d ∧ Dn w H d xs ∧ ys = [.ref b, z] ∧ KeyV H k (.ref b) ∧ k.depth ≤ 8 ∧ Q ((valN xs k).getD z) H
/-- d.setdefault(k, z) -/
def rNSet (w : World) : V → List V → Hp → VK → Prop := fun x ys H Q => ∃ d xs k b z, x = .ref d ∧ Dn w H d xs ∧ ys = [.ref b, z] ∧ KeyV H k (.ref b) ∧ k.depth ≤ 8 ∧ xs.length < sizeLine ∧
  (∀ v, valN xs k = some v → Q v H) ∧ (valN xs k = none → Q z (upd H d (DnO w d (putN xs k b z))))
section
variable {X : Cx}
theorem relO_getD {d : V} {u : Value} (rd : RelV d u) : ∀ {o : Option V} {p : Option Value}, RelO o p → RelV (o.getD d) (p.getD u)
  | some _, some _, r => r
  | none, none, _ => rd
theorem mt_nget (hu : X.A.units + 16 < cLine) : MtR X "dict.get" (rNGet X.w) := by
  intro pins s σ H x ys v us Q I rx rys h
  obtain ⟨d, xs, k, b, rfl, g, rfl, hk, kd, q⟩ := h
  cases rx
  obtain ⟨u1, rfl, r1⟩ := Vals.one rys
  cases r1
  obtain ⟨_, hd, dp, nd, zs, rel, dd⟩ := dn_of I.hok g
  refine call_meetsIn PySem.F.slot_dict_get dd.typeIs PySem.F.entry_dict_get (PySem.F.args_dict_get_2 _ _) (meetsH_dict_get (nestedKind X.prog X.w) d b hd) ⟨room1 hu, k, zs, dn_key I.hok hk kd, dd, ?_⟩
  exact ⟨_, H, I.tok _, relO_getD (d := .non) (u := Value.none) rfl (re_val rel), q⟩
theorem mt_nget2 (hu : X.A.units + 16 < cLine) : MtR X "dict.get" (rNGet2 X.w) := by
  intro pins s σ H x ys v us Q I rx rys h
  obtain ⟨d, xs, k, b, z, rfl, g, rfl, hk, kd, q⟩ := h
  cases rx
  obtain ⟨u1, u2, rfl, r1, r2⟩ := Vals.two rys
  cases r1
  obtain ⟨_, hd, dp, nd, zs, rel, dd⟩ := dn_of I.hok g
  refine call_meetsIn PySem.F.slot_dict_get dd.typeIs PySem.F.entry_dict_get (PySem.F.args_dict_get_3 _ _ _) (meetsH_dict_get_default (nestedKind X.prog X.w) d b hd u2) ⟨room1 hu, k, zs, dn_key I.hok hk kd, dd, ?_⟩
  exact ⟨_, H, I.tok _, relO_getD r2 (re_val rel), q⟩
theorem mt_nset (hu : X.A.units + 16 < cLine) : MtR X "dict.setdefault" (rNSet X.w) := by
  intro pins s σ H x ys v us Q I rx rys h
  obtain ⟨d, xs, k, b, z, rfl, g, rfl, hk, kd, l, q1, q2⟩ := h
  cases rx
  obtain ⟨u1, u2, rfl, r1, r2⟩ := Vals.two rys
  cases r1
  obtain ⟨_, hd, dp, nd, zs, rel, dd⟩ := dn_of I.hok g
  have hz : zs.length ≤ sizeLine := by rw [← Paired.length rel]; omega
  have rv := re_val (k := k) rel
  refine call_setdefault_heap (knd := nestedKind X.prog X.w) (k := k) (hsz := hz) (room1 hu) (dn_key I.hok hk kd) hd dd (fun p hp => ?_) fun hn h' dd' hs => ?_
  · rw [hp] at rv
    cases ev : valN xs k with
    | none =>
      rw [ev] at rv
      exact (show False from rv).elim
    | some v0 =>
      rw [ev] at rv
      exact ⟨v0, H, I.tok _, rv, q1 v0 ev⟩
  · rw [hn] at rv
    have e : valN xs k = none := by
      cases ev : valN xs k with
      | none => rfl
      | some v0 =>
        rw [ev] at rv
        exact (show False from rv).elim
    have z' := dz_put (P := X.prog) l hd dp nd kd rel r2 dd'
    have ⟨_, _, _, _, _, _, q, _, _, hq, _⟩ := z'
    exact ⟨z, _, d_write I (by rw [g.1]; exact True.intro) hs ⟨q, hq⟩ (dz_ok z'), r2, q2 e⟩
end
end Dn
namespace Q64
open PySem L2 Ln Dn
abbrev sNumL : Stmt := top 16
abbrev sRank : Stmt := top 17
/-- what may stand in a row -/
inductive ThV : V → NestedKey → Prop
  | non : ThV .non .none
  | int (i : Int) : ThV (.int i) (.num i)
  | str (y : Str) : ThV (.str y) (.text y)
theorem ThV.key {H : Hp} {v : V} {k : NestedKey} (h : ThV v k) : KeyV H k v := by
  cases h
  · exact .none
  · exact .num _
  · exact .text _
def rankT : NestedKey → NestedKey
  | .none => .tup [.num 0, .num 0, .text ""]
  | .num i => .tup [.num 1, .num i, .text ""]
  | .text y => .tup [.num 2, .num 0, .text y]
  | .tup _ => .none
theorem keysV_of {H : Hp} : ∀ {vs : List V} {ks : List NestedKey}, Paired ThV vs ks → KeysV H ks vs
  | _, _, .nil => .nil
  | _, _, .cons a r => .cons a.key (keysV_of r)
theorem paired_at {α β : Type} {R : α → β → Prop} : ∀ {xs : List α} {ys : List β} {i : Nat} {x : α}, Paired R xs ys → xs[i]? = some x → ∃ y, ys[i]? = some y ∧ R x y
  | _, _, 0, _, .cons h _, e => by cases e; exact ⟨_, rfl, h⟩
  | _, _, i + 1, _, .cons _ r, e => paired_at (i := i) r e
theorem keysV_snoc {H : Hp} {v : V} {k : NestedKey} (h : KeyV H k v) : ∀ {vs : List V} {ks : List NestedKey}, KeysV H ks vs → KeysV H (ks ++ [k]) (vs ++ [v])
  | _, _, .nil => .cons h .nil
  | _, _, .cons a r => .cons a (keysV_snoc h r)
theorem keysV_len {H : Hp} : ∀ {vs : List V} {ks : List NestedKey}, KeysV H ks vs → vs.length = ks.length
  | _, _, .nil => rfl
  | _, _, .cons a r => by rw [List.length_cons, List.length_cons, keysV_len r]
section
variable {P : Program} {w : World} {K : PySem.W.Frag} {mg : Str → Option Value} {base : Heap}
variable {f fN : Addr} {fd fdN : FuncData}
def isInt : V → Bool
  | .int _ => true
  | _ => false
def spNumL : Sp := fun vs H Q _ => ∃ (v : V) (k : NestedKey), vs = [v] ∧ ThV v k ∧ Q (.bl (isInt v)) H
theorem scNumL : FnScope ["_law_thing"] ["_law_thing"] (defScope sNumL) := ⟨rfl, rfl, rfl, by decide +kernel, rfl, by decide +kernel, by decide +kernel⟩
theorem ok_numL (F : Fun K "_law_number" "_law_number" sNumL f fd) (ms : mg "isinstance" = none) (mi : mg "int" = none) (mb : mg "bool" = none) : FnOk P w K mg base CX0 1 f fd ["_law_thing"] spNumL := by
  refine F.ok scNumL (fun vs H Q E h => ?_) (fun cdv A outer s H vs Q E hr h => ?_)
  · obtain ⟨v, k, rfl, _⟩ := h
    rfl
  obtain ⟨v, k, rfl, ha, q⟩ := h
  refine ⟨_, pss_one (ps_ret (pe_and (pe_callB call_isi (by rfl) ms (by decide +kernel) (pa_cons (pv 0) (pa_cons (pe_bltn (v := .ty "int") (by rfl) mi (by decide +kernel) rfl) pa_nil)))
    (pe_one (pe_not (pe_callB call_isi (by rfl) ms (by decide +kernel) (pa_cons (pv 0) (pa_cons (pe_bltn (v := .ty "bool") (by rfl) mb (by decide +kernel) rfl) pa_nil))))))), ?_⟩
  cases ha with
  | non => exact ⟨_, rfl, _, _, _, _, _, rfl, .ty "int", .base .non, An.kit_int .none, _, rfl, ff2 rfl q⟩
  | int i => exact ⟨_, rfl, _, _, _, _, _, rfl, .ty "int", .base (.int i), An.kit_int (.int i), _, rfl, tt2 rfl ⟨_, rfl, _, _, _, _, false, rfl, .ty "bool", .base (.int i), An.kit_bool (.int i), _, rfl, q⟩⟩
  | str y => exact ⟨_, rfl, _, _, _, _, _, rfl, .ty "int", .base (.str y), An.kit_int (.str y), _, rfl, ff2 rfl q⟩
abbrev rankN : List Str := ["_law_row", "_law_some", "_law_thing"]
theorem scRank : FnScope rankN ["_law_row"] (defScope sRank) := ⟨rfl, rfl, rfl, by decide +kernel, rfl, by decide +kernel, by decide +kernel⟩
def spRank : Sp := fun vs H Q _ => ∃ (r : Addr) (xs : List V) (ks : List NestedKey), vs = [.ref r] ∧ H r = some (.tup xs) ∧ Paired ThV xs ks ∧ xs.length ≤ 20 ∧
  ∀ (R : Addr) (H' : Hp), Same H H' → KeyV H' (.tup (ks.map rankT)) (.ref R) → Q (.ref R) H'
theorem ok_rank (F : Fun K "_law_rank" "_law_rank" sRank f fd) (mt : mg "tuple" = none)
    (GN : FnOk P w K mg base CX0 1 fN fdN ["_law_thing"] spNumL) (bN : Binds K fdN ["_law_thing"] []) (kN : PySem.W.keepIn K (.ref fN) = true) (mN : mg "_law_number" = some (.ref fN)) : FnOk P w K mg base CX0 2 f fd ["_law_row"] spRank := by
  refine F.ok scRank (fun vs H Q E h => ?_) (fun cdv A outer s H vs Q E hr h => ?_)
  · obtain ⟨r, xs, ks, rfl, _⟩ := h
    rfl
  obtain ⟨r, xs, ks, rfl, hr0, hth, lx, qq⟩ := h
  refine ⟨_, (pss_cons (ps_set (i := 1) scRank.nd rfl (Or.inl rfl) (pe_lst pa_nil))
      (pss_cons (ps_for PassesOwn.never rfl (pi_tup (pv 0)) (pg_name (i := 2) scRank.nd rfl (.inl rfl)) (pss_one (ps_expr (pe_bm PySem.F.plainAttrs_list PySem.F.slot_list_append PySem.F.type_list_append mt_append (pv 1) (pa_cons (pe_ifExp (pt_cmp (pc_isN (pv 2))) (pe_tup (pa_cons pe_int (pa_cons pe_int (pa_cons pe_str pa_nil)))) (pe_ifExp (pt_val (pe_call GN hr (by rfl) mN kN bN .nil pass0 (pa_cons (pv 2) pa_nil))) (pe_tup (pa_cons pe_int (pa_cons (pv 2) (pa_cons pe_str pa_nil)))) (pe_tup (pa_cons pe_int (pa_cons pe_int (pa_cons (pv 2) pa_nil)))))) pa_nil)))))
      (pss_one (ps_ret (pe_callTy call_tuple_of (by rfl) mt (by decide +kernel) (pa_cons (pv 1) pa_nil)))))), ?_⟩
  have lc : xs.length = ks.length := Paired.length hth
  refine ⟨(by show 0 ≤ sizeLine; decide), fun Z nZ => ?_⟩
  have gZ : Same H _ := same_new nZ (.lst [])
  refine ⟨_, rfl, r, rfl, ⟨_, SqT.of (gZ _ _ hr0)⟩, for_tup (K := K) (a := r) (xs := xs) (fun i σ' H1 => ∃ (v2 : Option V) (us : List V), σ' = [some (.ref r), some (.ref Z), v2] ∧ H1 Z = some (.lst us) ∧ KeysV H1 ((ks.map rankT).take i) us ∧ us.length = i ∧ Same H H1)
    ⟨none, [], rfl, upd_same, by rw [List.take_zero]; exact .nil, rfl, gZ⟩ (fun i σ' H1 _ ⟨_, _, _, _, _, _, s1⟩ => SqT.of (s1 _ _ hr0)) ?_ ?_⟩
  · rintro i v σ' H1 hi ⟨v2, us, rfl, hZ1, hk, lu, s1⟩
    obtain ⟨k, hk0, ok⟩ := paired_at hth hi
    have il : i < 20 := by
      have := (List.getElem?_eq_some_iff.mp hi).1
      omega
    have fin : ∀ (ys : List V), (∀ t2 (H2 : Hp), H2 t2 = some (.tup ys) → KeyV H2 (rankT k) (.ref t2)) → ∀ t2, H1 t2 = none → ∃ (l : Addr) (zs : List V) (y : V), V.ref Z = .ref l ∧ [V.ref t2] = [y] ∧ (upd H1 t2 (.tup ys)) l = some (.lst zs) ∧ zs.length < sizeLine ∧
        ∃ (v2 : Option V) (us : List V), ([some (.ref r), some (.ref Z), some v] : L2.St) = [some (.ref r), some (.ref Z), v2] ∧ (upd (upd H1 t2 (.tup ys)) l (.lst (zs ++ [y]))) Z = some (.lst us) ∧ KeysV (upd (upd H1 t2 (.tup ys)) l (.lst (zs ++ [y]))) ((ks.map rankT).take (i + 1)) us ∧ us.length = i + 1 ∧ Same H (upd (upd H1 t2 (.tup ys)) l (.lst (zs ++ [y]))) := by
      intro ys mk t2 n2
      have g2 : Same H1 _ := same_new n2 (.tup ys)
      have hZ2 := g2 _ _ hZ1
      have kZ : Keep _ (upd (upd H1 t2 (.tup ys)) Z (.lst (us ++ [.ref t2]))) := fun b zs hc => by
        rw [upd_ne (ne_of hc hZ2 (by intro z; cases z))]
        exact hc
      have kk := (Keep.of g2).trans kZ
      refine ⟨Z, us, .ref t2, rfl, rfl, hZ2, small1000 (by omega), _, us ++ [.ref t2], rfl, upd_same, ?_, by rw [List.length_append, lu]; rfl, fun b o e => ?_⟩
      · have e : (ks.map rankT)[i]? = some (rankT k) := by rw [List.getElem?_map, hk0]; rfl
        rw [List.take_add_one, e]
        exact keysV_snoc (mk t2 _ (kZ _ _ upd_same)) (KeysV.keep kk _ _ hk)
      · rw [upd_ne (ne_of_none e nZ)]
        exact g2 _ _ (s1 _ _ e)
    refine ⟨_, rfl, .inl ⟨rfl, _, SqL.of hZ1⟩, _, rfl, _, rfl, ?_⟩
    cases ok with
    | non => exact tt2 rfl ⟨(by rw [sizeLine_eq]; simp), fun t2 n2 => fin [V.int 0, V.int 0, V.str ""] (fun t3 H3 h3 => .tup h3 (.cons (.num 0) (.cons (.num 0) (.cons (.text "") .nil)))) t2 n2⟩
    | int j => exact ff2 rfl ⟨_, rfl, _, _, rfl, .int j, _, rfl, tt2 rfl ⟨_, rfl, (by rw [sizeLine_eq]; simp), fun t2 n2 => fin [V.int 1, V.int j, V.str ""] (fun t3 H3 h3 => .tup h3 (.cons (.num 1) (.cons (.num j) (.cons (.text "") .nil)))) t2 n2⟩⟩
    | str y => exact ff2 rfl ⟨_, rfl, _, _, rfl, .str y, _, rfl, ff2 rfl ⟨_, rfl, (by rw [sizeLine_eq]; simp), fun t2 n2 => fin [V.int 2, V.int 0, V.str y] (fun t3 H3 h3 => .tup h3 (.cons (.num 2) (.cons (.num 0) (.cons (.text y) .nil)))) t2 n2⟩⟩
  · rintro σ' H1 ⟨v2, us, rfl, hZ1, hk, lu, s1⟩
    rw [lc, ← List.length_map rankT, List.take_length] at hk
    refine ⟨_, rfl, Z, us, rfl, .inl ⟨SqL.of hZ1, fun R nR => ?_⟩⟩
    have gR : Same H1 _ := same_new nR (.tup us)
    exact qq R _ (s1.trans gR) (.tup upd_same (KeysV.keep (Keep.of gR) _ _ hk))
end
end Q64
namespace Q64
open PySem L2 Ln Dn
abbrev sSame : Stmt := top 18
theorem fn_never {P : Program} {w : World} {K : PySem.W.Frag} {mg : Str → Option Value} {base : Heap} {k : Nat} {f : Addr} {fd : FuncData} {ps : List Str} : FnOk P w K mg base CX0 k f fd ps (fun _ _ _ _ => False) := ⟨fun _ _ _ _ h => False.elim h, fun _ _ _ _ _ _ _ _ _ _ _ _ _ h => False.elim h⟩
/-- a key that is no deeper than n, of short tuples -/
def fitK : Nat → NestedKey → Prop
  | 0, k => ∀ ks, k ≠ .tup ks
  | n + 1, k => ∀ ks, k = .tup ks → ks.length ≤ 1000 ∧ ∀ j ∈ ks, fitK n j
theorem fit_leaf {n : Nat} {k : NestedKey} (h : ∀ ks, k ≠ .tup ks) : fitK n k := by
  cases n with
  | zero => exact h
  | succ n => exact fun ks e => absurd e (h ks)
theorem same_sym {H : Hp} {p : Addr} (h : H p = none) (o : HO) : Same H (upd H p o) := same_new h o
def spSame (n : Nat) : Sp := fun vs H Q _ => ∃ (v u : V) (k : NestedKey), vs = [v, u] ∧ KeyV H k v ∧ KeyV H k u ∧ fitK n k ∧ ∀ H', Same H H' → Q (.bl true) H'
abbrev sameN : List Str := ["_law_got", "_law_due_here", "_law_one", "_law_other"]
theorem scSame : FnScope sameN ["_law_got", "_law_due_here"] (defScope sSame) := ⟨rfl, rfl, rfl, by decide +kernel, rfl, by decide +kernel, by decide +kernel⟩
theorem keysV_at {H : Hp} : ∀ {ks : List NestedKey} {vs : List V} {i : Nat} {v : V}, KeysV H ks vs → vs[i]? = some v → ∃ k, ks[i]? = some k ∧ KeyV H k v
  | _, _, 0, _, .cons h _, e => by cases e; exact ⟨_, rfl, h⟩
  | _, _, i + 1, _, .cons _ r, e => keysV_at (i := i) r e
section
variable {P : Program} {w : World} {K : PySem.W.Frag} {mg : Str → Option Value} {base : Heap}
variable {f : Addr} {fd : FuncData}
theorem walk_zipS {K : PySem.W.Frag} {a b : Addr} {xs ys : List V} {n : Nat} (hn : n = min xs.length ys.length) : Walk (RZ.ItzT K a b) n (fun H => SqT K H a xs ∧ SqT K H b ys) (YPair (fun i => xs[i]?) (fun i => ys[i]?)) := by
  subst hn
  refine ⟨fun i _ hi q => ?_, fun _ q => ⟨xs, ys, q.1, q.2, by omega⟩, fun i H v H' _ q y => ?_⟩
  · have h1 : i < xs.length := by omega
    have h2 : i < ys.length := by omega
    exact ⟨xs, ys, xs[i], ys[i], q.1, q.2, by simp [h1], by simp [h2]⟩
  · obtain ⟨T, x, z, h1, h2, h3, h4, h5⟩ := y
    exact ⟨T, x, z, h1, h2, h3, h4 xs q.1, h5 ys q.2⟩
theorem same_step {n : Nat} {sp : Sp} (F : Fun K "_law_same" "_law_same" sSame f fd) (GR : FnOk P w K mg base CX0 (n + 1) f fd ["_law_got", "_law_due_here"] sp) (bR : Binds K fd ["_law_got", "_law_due_here"] []) (kR : PySem.W.keepIn K (.ref f) = true) (mR : mg "_law_same" = some (.ref f))
    (deep : ∀ (v u : V) (k : NestedKey) (ks : List NestedKey) (H : Hp) (Q : VK) (E : XK), fitK n (.tup ks) → k ∈ ks → KeyV H k v → KeyV H k u → (∀ H', Same H H' → Q (.bl true) H') → sp [v, u] H Q E)
    (ms : mg "isinstance" = none) (mt : mg "tuple" = none) (ml : mg "len" = none) (ma : mg "all" = none) (mz : mg "zip" = none) (mst : mg "str" = none) (mi : mg "int" = none) (mb : mg "bool" = none) :
    FnOk P w K mg base CX0 (n + 2) f fd ["_law_got", "_law_due_here"] (spSame n) := by
  refine F.ok scSame (fun vs H Q E h => ?_) (fun cdv A outer s H vs Q E hr h => ?_)
  · obtain ⟨v, u, k, rfl, _⟩ := h
    rfl
  obtain ⟨v, u, k, rfl, hv, hu, fit, q⟩ := h
  refine ⟨_, pss_cons (ps_if (pt_val (pe_callB call_isi (by rfl) ms (by decide +kernel) (pa_cons (pv 1) (pa_cons (pe_bltn (v := .ty "tuple") (by rfl) mt (by decide +kernel) rfl) pa_nil))))
      (pss_cons (ps_if (PW.pt (pw_or (pt_not (pt_val (pe_callB call_isi (by rfl) ms (by decide +kernel) (pa_cons (pv 0) (pa_cons (pe_bltn (v := .ty "tuple") (by rfl) mt (by decide +kernel) rfl) pa_nil)))))
        (pw_or1 (pt_cmpR op_ne (pe_callB call_len (by rfl) ml PySem.boot_len (pa_cons (pv 0) pa_nil)) (pe_callB call_len (by rfl) ml PySem.boot_len (pa_cons (pv 1) pa_nil)) (nomark _))))) (pss_one (ps_ret pe_bl)) pss_nil)
      (pss_one (ps_ret (pe_callB (cr_all rfl) (by rfl) ma (by decide +kernel) (pa_cons (pe_lc (own := [("_law_one", 2), ("_law_other", 3)]) (g := gTup K 2 (gCons (gName 2) (gCons (gName 3) gNil))) (by rfl) scSame.nd (RZ.pi_zipA (by rfl) mz (pa_cons (pv 0) (pa_cons (pv 1) pa_nil))) (blkOk_by (own := [("_law_one", 2), ("_law_other", 3)]) (N := sameN) (sc := defScope sSame) (by decide +kernel))
        (fun _ _ _ _ _ => pg_tup rfl (pgs_cons (pg_name (i := 2) scSame.nd rfl (Or.inl rfl)) (pgs_cons (pg_name (i := 3) scSame.nd rfl (Or.inl rfl)) pgs_nil))) (fun _ _ _ _ _ => pts_nil) (fun _ _ _ _ _ => pe_call GR hr (by rfl) mR kR bR .nil pass0 (pa_cons (pv 2) (pa_cons (pv 3) pa_nil)))) pa_nil))))) pss_nil)
    (pss_cons (ps_if (pt_cmp (pc_isN (pv 1))) (pss_one (ps_ret (pe_cmp (pc_isN (pv 0)) rfl))) pss_nil)
    (pss_cons (ps_if (pt_val (pe_callB call_isi (by rfl) ms (by decide +kernel) (pa_cons (pv 1) (pa_cons (pe_bltn (v := .ty "str") (by rfl) mst (by decide +kernel) rfl) pa_nil))))
      (pss_one (ps_ret (pe_and (pe_callB call_isi (by rfl) ms (by decide +kernel) (pa_cons (pv 0) (pa_cons (pe_bltn (v := .ty "str") (by rfl) mst (by decide +kernel) rfl) pa_nil))) (pe_one (pe_cmpR op_eq (pv 0) (pv 1) (nomark _)))))) pss_nil)
    (pss_one (ps_ret (pe_and (pe_callB call_isi (by rfl) ms (by decide +kernel) (pa_cons (pv 0) (pa_cons (pe_bltn (v := .ty "int") (by rfl) mi (by decide +kernel) rfl) pa_nil)))
      (pe_and (pe_not (pe_callB call_isi (by rfl) ms (by decide +kernel) (pa_cons (pv 0) (pa_cons (pe_bltn (v := .ty "bool") (by rfl) mb (by decide +kernel) rfl) pa_nil)))) (pe_one (pe_cmpR op_eq (pv 0) (pv 1) (nomark _))))))))), ?_⟩
  cases hu with
  | none =>
    cases hv
    refine ⟨_, rfl, _, _, _, _, _, rfl, .ty "tuple", .base .non, An.kit_tuple .none, _, rfl, ff2 rfl ⟨_, rfl, _, rfl, tt2 rfl ⟨_, rfl, ?_⟩⟩⟩
    exact q _ (Same.refl _)
  | num i =>
    cases hv
    refine ⟨_, rfl, _, _, _, _, _, rfl, .ty "tuple", .base (.int i), An.kit_tuple (.int i), _, rfl, ff2 rfl ⟨_, rfl, _, rfl, ff2 rfl ⟨_, rfl, _, _, _, _, _, rfl, .ty "str", .base (.int i), An.kit_str (.int i), _, rfl, ff2 rfl ⟨_, rfl, _, _, _, _, _, rfl, .ty "int", .base (.int i), An.kit_int (.int i), _, rfl, tt2 rfl ⟨_, rfl, _, _, _, _, _, rfl, .ty "bool", .base (.int i), An.kit_bool (.int i), _, rfl, _, rfl, tt2 rfl ⟨_, rfl, _, rfl, ?_⟩⟩⟩⟩⟩⟩
    refine ⟨rfl, ?_⟩
    rw [decide_eq_true (rfl : V.int i = V.int i)]
    exact q _ (Same.refl _)
  | text y =>
    cases hv
    refine ⟨_, rfl, _, _, _, _, _, rfl, .ty "tuple", .base (.str y), An.kit_tuple (.str y), _, rfl, ff2 rfl ⟨_, rfl, _, rfl, ff2 rfl ⟨_, rfl, _, _, _, _, _, rfl, .ty "str", .base (.str y), An.kit_str (.str y), _, rfl, tt2 rfl ⟨_, rfl, _, _, _, _, _, rfl, .ty "str", .base (.str y), An.kit_str (.str y), _, rfl, tt2 rfl ⟨_, rfl, _, rfl, ?_⟩⟩⟩⟩⟩
    refine ⟨rfl, ?_⟩
    rw [decide_eq_true (rfl : V.str y = V.str y)]
    exact q _ (Same.refl _)
  | tup hB hys =>
    rename_i B ys ks
    cases hv with
    | tup hA hxs =>
      rename_i C xs
      obtain ⟨l1, fk⟩ : ks.length ≤ 1000 ∧ ∃ m, n = m + 1 ∧ ∀ j ∈ ks, fitK m j := by
        cases n with
        | zero => exact absurd rfl (fit ks)
        | succ m => exact ⟨(fit ks rfl).1, m, rfl, (fit ks rfl).2⟩
      have lx := keysV_len hxs
      have ly := keysV_len hys
      refine ⟨_, rfl, _, _, _, _, _, rfl, .ty "tuple", .base (.tup hB), An.kit_tuple (.tuple []), _, rfl, tt2 rfl ?_⟩
      refine ⟨_, rfl, _, _, _, _, _, rfl, .ty "tuple", .base (.tup hA), An.kit_tuple (.tuple []), _, rfl, ?_⟩
      refine ff2 rfl ?_
      refine ⟨_, rfl, _, _, rfl, .inr ⟨_, SqT.of hA, rfl⟩, _, rfl, _, _, rfl, .inr ⟨_, SqT.of hB, rfl⟩, ?_⟩
      refine ⟨rfl, _, rfl, ff2 (by rw [lx, ly]; simp) ?_⟩
      refine ⟨_, rfl, _, rfl, C, B, xs, ys, rfl, .inr ⟨SqT.of hA, SqT.of hB, fun D nD => ?_⟩⟩
      have all1 : ∀ n : Nat, (List.replicate n true).all id = true := fun n => List.all_eq_true.mpr fun x hx => by rw [List.eq_of_mem_replicate hx]; rfl
      refine lc_it (walk_zipS (K := K) (a := C) (b := B) (xs := xs) (ys := ys) rfl) (fun i H3 => H3 D = some (.lst ((List.replicate i true).map V.bl)) ∧ Same H H3) ⟨upd_same, same_new nD _⟩ (fun i H3 _ ⟨_, s3⟩ => ⟨SqT.of (s3 _ _ hA), SqT.of (s3 _ _ hB)⟩) ?_ ?_
      · rintro i x H3 H4 hi ⟨g3, s3⟩ ⟨T2, b, c, rfl, nT, rfl, hb, hc⟩
        obtain ⟨kb, hkb, hb1⟩ := keysV_at hxs hb
        obtain ⟨kc, hkc, hc1⟩ := keysV_at hys hc
        rw [hkb] at hkc
        cases hkc
        have li : i < ks.length := (List.getElem?_eq_some_iff.mp hkb).1
        have sT : Same H3 _ := same_new nT (.tup [b, c])
        have kT := Keep.of (s3.trans sT)
        refine ⟨T2, _, rfl, SqT.of upd_same, rfl, _, _, rfl, _, _, rfl, rfl, rfl, ?_⟩
        refine ⟨_, rfl, _, rfl, deep b c kb ks _ _ _ fit (List.mem_of_getElem? hkb) (KeyV.keep kT _ _ hb1) (KeyV.keep kT _ _ hc1) fun H5 s5 => ⟨_, s5 _ _ (sT _ _ g3), ?_, ?_, fun b o e2 => ?_⟩⟩
        · rw [List.length_map, List.length_replicate, sizeLine_eq]
          omega
        · rw [upd_same, List.replicate_succ', List.map_append]
          rfl
        · rw [upd_ne (ne_of_none e2 nD)]
          exact s5 _ _ (sT _ _ (s3 _ _ e2))
      · rintro H3 ⟨g3, s3⟩
        refine ⟨D, _, rfl, SqL.of g3, ?_⟩
        rw [all1]
        exact q H3 s3
theorem ok_same (F : Fun K "_law_same" "_law_same" sSame f fd) (bR : Binds K fd ["_law_got", "_law_due_here"] []) (kR : PySem.W.keepIn K (.ref f) = true) (mR : mg "_law_same" = some (.ref f))
    (ms : mg "isinstance" = none) (mt : mg "tuple" = none) (ml : mg "len" = none) (ma : mg "all" = none) (mz : mg "zip" = none) (mst : mg "str" = none) (mi : mg "int" = none) (mb : mg "bool" = none) : ∀ n : Nat, FnOk P w K mg base CX0 (n + 2) f fd ["_law_got", "_law_due_here"] (spSame n)
  | 0 => same_step F fn_never bR kR mR (fun _ _ _ ks _ _ _ fit _ _ _ _ => absurd rfl (fit ks)) ms mt ml ma mz mst mi mb
  | n + 1 => same_step F (ok_same F bR kR mR ms mt ml ma mz mst mi mb n) bR kR mR (fun v u k ks H Q E fit hk h1 h2 q => ⟨v, u, k, rfl, h1, h2, (fit ks rfl).2 k hk, q⟩) ms mt ml ma mz mst mi mb
end
end Q64
/-! sorted by a key that a def or a lambda of the program tells: keys are numbers, texts, None and tuples of these -/
namespace Srk
open PySem PySem.Spec PyProof.Rows PySem.W L2 Ln Dn
/-- what a call of the key's function leaves: the key, all else as it was -/
def Told (X : Cx) (pins : List (Addr × Obj)) (σ : L2.St) (G : Hp) (k : NestedKey) (z : Shared) (u : Value) (z' : Shared) : Prop :=
  ∃ G' v, Inv X pins σ G' z' ∧ Un (frs X.stack) [] G G' z.heap z'.heap ∧ Same G G' ∧ RelV v u ∧ KeyV G' k v
/-- what is known of the function's own object stays -/
structure Stays (X : Cx) (Kf : Hp → Heap → Prop) : Prop where
  call : ∀ G G' h h', Kf G h → Un (frs X.stack) [] G G' h h' → Kf G' h'
  list : ∀ G h h', Kf G h → (∀ b o, h.get? b = some o → o.cls ≠ .type "list" → h'.get? b = some o) → Kf G h'
theorem fp_to {X : Cx} {pins : List (Addr × Obj)} {G G' : Hp} {b : Addr} (f : FpOk X pins G b) (n : G' b = none) : FpOk X pins G' b := ⟨n, f.2⟩
section
variable {X : Cx} {pins : List (Addr × Obj)} {σ : L2.St} {H : Hp} {s : Shared} {h' : Heap}
theorem not_frs (I : Inv X pins σ H s) {b : Addr} (f : FpOk X pins H b) : b ∉ frs X.stack := fun z => by
  rcases List.mem_cons.mp (I.stkSub _ z) with e | e
  · exact f.2.1 e
  · exact f.2.2.1 e
/-- an object that was not tracked is tracked from now on -/
theorem adopt {a : Addr} {ch : List Addr} {ob : HO} {t' : Nat} (I : Inv X pins σ H s) (ha : a ∈ ch) (k : ∀ b o, b ∉ ch → s.heap.get? b = some o → h'.get? b = some o) (hf : ∀ b ∈ ch, FpOk X pins H b)
    (new : ObjOk X.prog X.w (upd H a ob) h' a ob) : Inv X pins σ (upd H a ob) { s with heap := h', toks := t' } := by
  have hn : H a = none := (hf a ha).1
  have away : ∀ b u, H b = some u → b ∉ ch := fun b u e z => by
    have q := (hf b z).1
    rw [q] at e
    cases e
  have ne : ∀ b u, H b = some u → b ≠ a := fun b u e => ne_of_none e hn
  refine I.step (g' := s.gens) (d' := s.drawn) (ch := ch) (fun b hb => ?_) (fun b o _ _ hc e _ => k b o hc e) (fun b o _ _ hc e _ => ⟨o.slots, k b o hc e⟩) (fun b o hc _ n => ?_) (fun b o hc e => ⟨o, k b o hc e⟩)
    (fun b xs e => ?_) (fun b o u e => ?_) (fun b ps e => ⟨#[], ?_⟩) (fun m hm => ?_) (fun b u e => ?_) I.bare
  · obtain ⟨_, f1, _, f3, f4, f5⟩ := hf b hb
    exact ⟨f3, f1, f4, f5⟩
  · rw [upd_ne (fun z => hc (by rw [z]; exact ha))]
    exact n
  · rw [upd_ne (ne _ _ e)]
    exact e
  · rw [upd_ne (ne _ _ e)]
    exact e
  · rw [upd_ne (ne _ _ e), e]
    simp
  · obtain ⟨o, es, ep, ho, r⟩ := hm
    exact ⟨o, es, ep, k _ o (fun z => (hf _ z).2.1 rfl) ho, r⟩
  · by_cases hb : b = a
    · subst hb
      rw [upd_same] at e
      cases e
      exact new
    · rw [upd_ne hb] at e
      refine (I.hok b u e).stay (fun c v hc q => k c v ?_ q) (fun c q => by rw [upd_ne (ne _ _ q)]; exact q) fun c xs q => by rw [upd_ne (ne _ _ q)]; exact q
      rcases hc with z | z
      · rw [z]
        exact away b u e
      · exact away c _ z
theorem keys_snoc {G : Hp} : ∀ {ks : List NestedKey} {vs : List V} {k : NestedKey} {v : V}, KeysV G ks vs → KeyV G k v → KeysV G (ks ++ [k]) (vs ++ [v])
  | _, _, _, _, .nil, h => .cons h .nil
  | _, _, _, _, .cons a r, h => .cons a (keys_snoc r h)
theorem keys_len {G : Hp} : ∀ {ks : List NestedKey} {vs : List V}, KeysV G ks vs → ks.length = vs.length
  | _, _, .nil => rfl
  | _, _, .cons _ r => congrArg (· + 1) (keys_len r)
theorem keys_reads (I : Inv X pins σ H s) : ∀ {ks : List NestedKey} {vs : List V} {us : List Value}, KeysV H ks vs → Vals vs us → EachIs (fun u d => ∃ as, Reads s.heap u d as) us (ks.map NestedKey.data)
  | _, _, _, .nil, .nil => .nil
  | _, _, _, .cons a r, .cons q qs => .cons (Dp.reads I _ _ _ (KeyV.dp _ _ a) q) (keys_reads I r qs)
theorem snoc_vals : ∀ {vs : List V} {us : List Value} {v : V} {u : Value}, Vals vs us → RelV v u → Vals (vs ++ [v]) (us ++ [u])
  | _, _, _, _, .nil, r => .cons r .nil
  | _, _, _, _, .cons a t, r => .cons a (snoc_vals t r)
variable {A : Around} {E : Value → Shared → Prop} {P : PySem.Fin → Shared → Prop} {a kS : Addr} {fv : Value} {vs : List Value} {ks : List NestedKey} {Kf : Hp → Heap → Prop} {e1 : Nat}
theorem rest_inv (st : Stays X Kf) (I : Inv X pins σ H s) (k0 : Kf H s.heap) (fa : FpOk X pins H a) (fk : FpOk X pins H kS) (nk : s.heap.get? kS = some (seqObj "list" #[] 0)) (na : s.heap.get? a = some (seqObj "list" #[] e1)) (hka : kS ≠ a)
    (hlen : ks.length = vs.length) (hZ : vs.length ≤ sizeLine) (hal : AllAlike (ks.map NestedKey.data)) (hsk : Sortable (ks.map NestedKey.data)) (hu : ∀ d, d ∈ ks.map NestedKey.data → A.units + d.depth < cLine)
    (turn : ∀ (i : Nat) (v : Value) (k : NestedKey), vs[i]? = some v → ks[i]? = some k → ∀ (z : Shared) (G : Hp), Inv X pins σ G z → Same H G → Kf G z.heap → wpAny (model X.prog X.w) A (call fv [v]) (Told X pins σ G k z) (fun _ _ => False) z)
    (done : ∀ out G z c, Inv X pins σ G z → Same H G → FpOk X pins G a → FpOk X pins G kS → ∀ h' tk, (∀ b o, b ∉ [a, kS] → z.heap.get? b = some o → h'.get? b = some o) → h'.get? a = some (seqObj "list" (List.toArray out) c) →
      KeyedOut false (ks.map NestedKey.data) vs out → P (.done (.ret .none)) { z with heap := h', toks := tk }) :
    wpAny (model X.prog X.w) A (ksk_rest a fv false vs.toArray e1 (.ref kS)) P E s := by
  unfold ksk_rest
  refine wpAny_bind (wpAny_rule ?_)
  first
    | rw [List.forIn_toArray]
    | (rw [← Array.forIn_toList]; simp only [List.toList_toArray])
  let J : Nat → Shared → Prop := fun i z => ∃ G kA e kv, Inv X pins σ G z ∧ Same H G ∧ Kf G z.heap ∧ FpOk X pins G a ∧ FpOk X pins G kS ∧ z.heap.get? kS = some (seqObj "list" kA e) ∧ z.heap.get? a = some (seqObj "list" #[] e1) ∧ Vals kv kA.toList ∧ KeysV G (ks.take i) kv
  refine wpAny_bind (ksk_fold J vs 0 s ⟨H, #[], 0, [], I, Same.refl H, k0, fa, fk, nk, na, .nil, by rw [List.take_zero]; exact .nil⟩ ?turns ?ends)
  case turns =>
    rintro j x z hx ⟨G, kA, e, kv, J1, sG, kf, ga, gk, nk', na', rv, kk⟩
    rw [Nat.zero_add] at kk ⊢
    have hj : j < vs.length := (List.getElem?_eq_some_iff.mp hx).1
    obtain ⟨k, hkj⟩ : ∃ k, ks[j]? = some k := ⟨_, List.getElem?_eq_getElem (by omega)⟩
    have hz : kA.size ≤ vs.length := by
      have h1 : kv.length = kA.size := by
        have := rv.length
        simpa using this
      have h2 := keys_len kk
      rw [List.length_take] at h2
      omega
    refine wpAny_bind (wpAny_attempt (wpAny_mono (turn j x k hx hkj z G J1 sG kf) (fun u z2 he => ?_) fun _ _ hF => hF.elim))
    obtain ⟨G', v, J2, un, s2, rv2, kv2⟩ := he
    have nk2 := un.keep kS _ nk' gk.1 (not_frs J1 gk) (by simp)
    have na2 := un.keep a _ na' ga.1 (not_frs J1 ga) (by simp)
    have gk2 : FpOk X pins G' kS := fp_to gk (un.free kS _ nk' gk.1 (by simp))
    have ga2 : FpOk X pins G' a := fp_to ga (un.free a _ na' ga.1 (by simp))
    have sb := Heap.SameBut.update z2.heap kS (Obj.mapSeq (·.push u))
    obtain ⟨c2, hc2⟩ : ∃ c2, (z2.heap.update kS (Obj.mapSeq (·.push u))).get? kS = some (seqObj "list" (kA.push u) c2) := ⟨_, get?_update_seq nk2 (·.push u)⟩
    have hzz : kA.size ≤ sizeLine := Nat.le_trans hz hZ
    refine wpAny_bind (listUpdate_at nk2 rfl ?_ hzz (by rw [Array.size_push]; exact Nat.succ_le_succ hzz))
    have J3 : Inv X pins σ G' { z2 with heap := z2.heap.update kS (Obj.mapSeq (·.push u)) } := J2.turnedL (t' := z2.toks) (ch := [kS]) (fun b o hb e => (sb.2 b (fun q => hb (by rw [q]; exact List.mem_singleton_self _))).trans e) fun b hb => by
      rw [List.mem_singleton.mp hb]
      exact gk2
    refine wpAny_pure ⟨rfl, G', kA.push u, c2, kv ++ [v], J3, sG.trans s2, st.list G' z2.heap _ (st.call _ _ _ _ kf un) (fun b o e nl => ?_), ga2, gk2, hc2, (sb.2 a hka.symm).trans na2, ?_, ?_⟩
    · refine (sb.2 b fun q => ?_).trans e
      rw [q, nk2] at e
      cases e
      exact nl rfl
    · rw [Array.toList_push]
      exact snoc_vals rv rv2
    · rw [List.take_add_one, hkj]
      exact keys_snoc (KeysV.keep (Keep.of s2) _ _ kk) kv2
  case ends =>
    rintro z ⟨G, kA, e, kv, J1, sG, kf, ga, gk, nk', na', rv, kk⟩
    rw [Nat.zero_add, ← hlen, List.take_length] at kk
    have hk' := keys_reads J1 kk rv
    have hsz : kA.size = vs.length := by
      have h1 : kv.length = kA.size := by
        have := rv.length
        simpa using this
      have h2 := keys_len kk
      omega
    refine wpAny_bind (listItems_at nk' rfl ?_)
    have kp : KeepsBut a (hideAll z.heap [kS]) z.heap := fun b o _ q => of_hideAll _ q
    refine keyH_end (κ := dataKind z.heap (ks.map NestedKey.data)) (h₁ := hideAll z.heap [kS]) kp (hideAll_none _ (List.mem_singleton_self _)) nk' na' hka (SortsAt.data hk' hal hsk hu) hsz hZ fun h3 tk3 c k3 n3 => ?_
    refine done _ G z c J1 sG ga gk h3 tk3 (fun b o hb q => k3 b o (fun q2 => hb (by simp [q2])) (hideAll_get _ q fun q2 => hb (by rw [List.mem_singleton.mp q2]; simp))) n3 ⟨_, _, hal, rfl, hk'⟩
/-- the sort of a list that is not tracked yet: it is, at the end -/
theorem tree_inv {n : Nat} (st : Stays X Kf) (I : Inv X pins σ H s) (k0 : Kf H s.heap) (fa : FpOk X pins H a) (ho : s.heap.get? a = some (seqObj "list" vs.toArray n))
    (hlen : ks.length = vs.length) (hZ : vs.length ≤ sizeLine) (hal : AllAlike (ks.map NestedKey.data)) (hsk : Sortable (ks.map NestedKey.data)) (hu : ∀ d, d ∈ ks.map NestedKey.data → A.units + d.depth < cLine)
    (turn : ∀ (i : Nat) (v : Value) (k : NestedKey), vs[i]? = some v → ks[i]? = some k → ∀ (z : Shared) (G : Hp), Inv X pins σ G z → Same H G → Kf G z.heap → wpAny (model X.prog X.w) A (call fv [v]) (Told X pins σ G k z) (fun _ _ => False) z)
    (done : ∀ out G z c, Inv X pins σ G z → Same H G → G a = none → (∀ ys, ys.length ≤ sizeLine → Vals ys out → Inv X pins σ (upd G a (.lst ys)) z) → z.heap.get? a = some (seqObj "list" (List.toArray out) c) → KeyedOut false (ks.map NestedKey.data) vs out → P (.done (.ret .none)) z) :
    wpAny (model X.prog X.w) A (ksk_tree a fv false) P E s := by
  have la : a < s.heap.objs.size := Heap.lt_size ho
  obtain ⟨e1, ho1⟩ : ∃ e1, (s.heap.update a (Obj.mapSeq fun _ => (#[] : Array Value))).get? a = some (seqObj "list" #[] e1) := ⟨_, get?_update_seq ho fun _ => #[]⟩
  have sb := Heap.SameBut.update s.heap a (Obj.mapSeq fun _ => (#[] : Array Value))
  have es : ((s.heap.update a (Obj.mapSeq fun _ => (#[] : Array Value))).push (seqObj "tuple" vs.toArray 0)).objs.size = s.heap.objs.size + 1 := by
    rw [size_push', Heap.size_update]
  unfold ksk_tree
  refine wpAny_bind (listItems_at ho rfl ?_)
  refine wpAny_bind (listUpdate_at ho rfl ?_ (by rw [List.size_toArray]; exact hZ) (Nat.zero_le _))
  refine wpAny_bind (seqEpoch_at ho1 rfl ?_)
  refine wpAny_bind (wpAny_newTuple ?_ (by show vs.length ≤ _; exact hZ))
  refine wpAny_bind (wpAny_newList ?_ (Nat.zero_le _))
  refine wpAny_holding ?_
  generalize eh : ((s.heap.update a (Obj.mapSeq fun _ => (#[] : Array Value))).push (seqObj "tuple" vs.toArray 0)).push (seqObj "list" #[] 0) = h2
  have kp : ∀ b o, b ≠ a → s.heap.get? b = some o → h2.get? b = some o := fun b o hb q => by
    rw [← eh]
    exact Heap.get?_push_of_some _ (Heap.get?_push_of_some _ ((sb.2 b hb).trans q))
  have J0 : Inv X pins σ H { s with heap := h2 } := I.turnedL (t' := s.toks) (ch := [a]) (fun b o hb e => kp b o (fun q => hb (by rw [q]; exact List.mem_singleton_self _)) e) fun b hb => by
    rw [List.mem_singleton.mp hb]
    exact fa
  have nkS : H (s.heap.objs.size + 1) = none := I.hok.fresh (Nat.le_succ _)
  have fk : FpOk X pins H (s.heap.objs.size + 1) := I.fpOk (Nat.le_succ _) nkS
  have nk : h2.get? (s.heap.objs.size + 1) = some (seqObj "list" #[] 0) := by
    rw [← eh, ← es]
    exact Heap.get?_push_size _ rfl
  have na : h2.get? a = some (seqObj "list" #[] e1) := by
    rw [← eh]
    exact Heap.get?_push_of_some _ (Heap.get?_push_of_some _ ho1)
  have k2 : Kf H h2 := st.list H s.heap h2 k0 fun b o e nl => kp b o (fun q => by
    rw [q, ho] at e
    cases e
    exact nl rfl) e
  rw [es]
  refine rest_inv (s := { s with heap := h2 }) (kS := s.heap.objs.size + 1) st J0 k2 fa fk nk na (Nat.ne_of_gt (Nat.lt_succ_of_lt la)) hlen hZ hal hsk hu turn fun out G z c J sG ga gk h' tk kh n3 ko => ?_
  have J3 : Inv X pins σ G { z with heap := h', toks := tk } := J.turnedL (ch := [a, s.heap.objs.size + 1]) kh fun b hb => by
    rcases List.mem_cons.mp hb with q | q
    · rw [q]
      exact ga
    · rw [List.mem_singleton.mp q]
      exact gk
  refine done out G _ c J3 sG ga.1 (fun ys ly ry => ?_) n3 ko
  exact adopt (ch := [a, s.heap.objs.size + 1]) J (List.mem_cons_self ..) kh (fun b hb => by
    rcases List.mem_cons.mp hb with q | q
    · rw [q]
      exact ga
    · rw [List.mem_singleton.mp q]
      exact gk) ⟨ly, out, c, ry, n3⟩
end
/-! ### the key's function is a def -/
section
variable {X : Cx} {pins : List (Addr × Obj)} {σ : L2.St}
theorem room2 {k : Nat} {A : Around} (r : Room (k + 1) A) : Room k A.in1.in1 :=
  ⟨r.hd, by have := r.dp; show A.depth + 3 * k + 5 < _; omega, by have := r.un; show A.units + 1 + 1 + 16 * k + 200 < _; omega⟩
theorem ce_told {G : Hp} {z z' : Shared} {k : NestedKey} {u : Value} (I : Inv X pins σ G z) (h : CE X.stack X.prog X.w G z (fun w G' => Same G G' ∧ KeyV G' k w) u z') : Told X pins σ G k z u z' := by
  obtain ⟨v, G', os, bare, un, ok, r, q1, q2⟩ := h
  obtain ⟨hh, g, d, t, os'⟩ := z'
  obtain rfl : os' = z.os := os
  exact ⟨G', v, I.call (h' := hh) (g' := g) (d' := d) (t' := t) (ch := []) un ok bare (fun b z => absurd z (by simp)), un, q1, r, q2⟩
theorem turn_def {j : Nat} {f : Addr} {fd : FuncData} {p1 : Str} {sp : Sp} (F : FnOk X.prog X.w X.K X.mg X.base CX0 j f fd [p1] sp) (hb : Binds X.K fd [p1] []) (hr : Room (j + 1) X.A) {G : Hp} {z : Shared} {v : V} {u : Value} {k : NestedKey}
    (I : Inv X pins σ G z) (r : RelV v u) (h : ∀ Q' : VK, (∀ w G', Same G G' → KeyV G' k w → Q' w G') → sp [v] G Q' E0) : wpAny (model X.prog X.w) X.A.in1.in1 (call (.ref f) [u]) (Told X pins σ G k z) (fun _ _ => False) z := by
  have e0 : Env0 X.prog X.w X.K X.mg X.base X.A.in1.in1 X.stack z G := I.env0.in1.in1
  have r2 : Vals [v] ([u] ++ []) := .cons r .nil
  refine wpAny_call (codeAny_mono (F.run X.A.in1.in1 X.stack z G ⟨[u], []⟩ ([u] ++ []) [v] (fun w G' => Same G G' ∧ KeyV G' k w) E0 (room2 hr) e0 (hb z [u] I.kIn rfl) r2 (h _ fun w G' a b => ⟨a, b⟩)) fun q z' hq => ?_)
  cases q with
  | error e => exact hq.elim
  | ok fl =>
    cases fl with
    | ret w => exact ce_told I hq
    | next => exact False.elim hq
    | brk => exact False.elim hq
    | cont => exact False.elim hq
def noKf : Hp → Heap → Prop := fun _ _ => True
theorem stays_no : Stays X noKf := ⟨fun _ _ _ _ _ _ => trivial, fun _ _ _ _ _ => trivial⟩
end
/-- what is asked of the keys -/
structure KeysOk {β : Type} (enc : β → NestedKey) (bs : List β) : Prop where
  alike : AllAlike (bs.map fun b => (enc b).data)
  sortable : Sortable (bs.map fun b => (enc b).data)
  deep : ∀ b ∈ bs, (enc b).data.depth ≤ 8
noncomputable def leK {β : Type} (enc : β → NestedKey) : β → β → Bool := dataLe false fun b => (enc b).data
theorem leK_total {β : Type} (enc : β → NestedKey) : TotalLe (leK enc) := by
  unfold leK dataLe
  exact sortLe_total _ _ _
theorem leK_sorted {β : Type} (enc : β → NestedKey) (bs : List β) : (bs.mergeSort (leK enc)).Pairwise fun x y => leK enc x y = true := sort_pairwise (leK_total enc) bs
def rSortKey (K : PySem.W.Frag) {β : Type} (enc : β → NestedKey) (fa : Addr) (sp : Sp) : List V → List V → Hp → VK → Prop := fun vs zs H Q => ∃ (l : Addr) (xs : List V) (bs : List β) (R : V → β → Prop), vs = [.ref l] ∧ zs = [.ref fa] ∧ SqL K H l xs ∧ Paired R xs bs ∧ KeysOk enc bs ∧
  (∀ v b, R v b → b ∈ bs → ∀ G, Same H G → ∀ Q' : VK, (∀ w G', Same G G' → KeyV G' (enc b) w → Q' w G') → sp [v] G Q' E0) ∧
  ∀ (ys : List V) (p : Addr) (H' : Hp), Same H H' → H p = none → H' p = some (.lst ys) → Paired R ys (bs.mergeSort (leK enc)) → Q (.ref p) H'
section
variable {X : Cx} {pins : List (Addr × Obj)} {σ : L2.St} {H : Hp} {s : Shared}
theorem each_get {α β : Type} {R : α → β → Prop} : ∀ {as : List α} {bs : List β} {i : Nat} {a : α} {b : β}, EachIs R as bs → as[i]? = some a → bs[i]? = some b → R a b
  | _, _, 0, _, _, .cons h _, e1, e2 => by
    cases e1
    cases e2
    exact h
  | _, _, i + 1, _, _, .cons _ r, e1, e2 => each_get (i := i) r e1 e2
theorem each_pair {β : Type} {R : V → β → Prop} : ∀ {xs : List V} {us : List Value} {bs : List β}, Vals xs us → Paired R xs bs → EachIs (fun u b => ∃ v, RelV v u ∧ R v b) us bs
  | _, _, _, .nil, .nil => .nil
  | _, _, _, .cons r rr, .cons h hh => .cons ⟨_, r, h⟩ (each_pair rr hh)
theorem pair_each {β : Type} {R : V → β → Prop} : ∀ {us : List Value} {bs : List β}, EachIs (fun u b => ∃ v, RelV v u ∧ R v b) us bs → ∃ xs, Vals xs us ∧ Paired R xs bs
  | _, _, .nil => ⟨[], .nil, .nil⟩
  | _, _, .cons ⟨v, r, h⟩ t => by
    obtain ⟨xs, a, b⟩ := pair_each t
    exact ⟨v :: xs, .cons r a, .cons h b⟩
theorem units_in2 {A : Around} : A.in1.in1.units = A.units + 2 := rfl
theorem cr_sortKey {β : Type} {enc : β → NestedKey} {j : Nat} {f : Addr} {fd : FuncData} {p1 : Str} {sp : Sp} (F : FnOk X.prog X.w X.K X.mg X.base CX0 j f fd [p1] sp) (hb : Binds X.K fd [p1] []) (hr : Room (j + 1) X.A) :
    CallRK X (.builtin "sorted") [Str.ofString "key"] (rSortKey X.K enc f sp) := by
  intro pins s σ H vs zs us ws Q I rv rz h
  obtain ⟨l, xs, bs, R, rfl, rfl, hs, hp, kok, tr, q⟩ := h
  obtain ⟨uf, rfl, rf⟩ := Vals.one rz
  obtain rfl : uf = Value.ref f := rf
  obtain ⟨its, rl, hl, hz⟩ := I.list hs
  rw [Vals.ref1 rv]
  show wpAny _ _ (call (.builtin "sorted") [.ref l] [(Str.ofString "key", Value.ref f)]) _ _ s
  have le : its.length = bs.length := by rw [← rl.length, Paired.length hp]
  have e := each_pair rl hp
  have lz : its.length ≤ sizeLine := by rw [← rl.length]; exact hz
  refine sorted_of_sort hl.isList lz (ksk_s1 _ _) (fun _ => ksk_l1 _ _) fun E' => ?_
  rw [ksk_t1]
  have J : Inv X pins σ H { s with heap := copyHeap s.heap its } := I.kept (t' := s.toks) fun b o => copyHeap_old
  have fa : FpOk X pins H (s.heap.objs.size + 1) := I.fpOk (Nat.le_succ _) (I.hok.fresh (Nat.le_succ _))
  have hun := hr.units
  refine tree_inv (s := { s with heap := copyHeap s.heap its }) (ks := bs.map enc) (Kf := noKf) stays_no J trivial fa (copyHeap_at s.heap its) (by rw [List.length_map]; exact le.symm) lz ?_ ?_ ?_ ?_ ?_
  · rw [List.map_map]
    exact kok.alike
  · rw [List.map_map]
    exact kok.sortable
  · intro d hd
    rw [List.map_map] at hd
    obtain ⟨b, hb2, rfl⟩ := List.mem_map.mp hd
    have := kok.deep b hb2
    show X.A.units + 2 + (enc b).data.depth < cLine
    omega
  · intro i v k hv hk z G Iz sG _
    rw [List.getElem?_map] at hk
    obtain ⟨b, hbi, rfl⟩ := Option.map_eq_some_iff.mp hk
    obtain ⟨x, rx, hR⟩ := each_get e hv hbi
    exact turn_def F hb hr Iz rx fun Q' hQ => tr x b hR (List.mem_of_getElem? hbi) G sG Q' hQ
  · intro out G z c Iz sG ga ad n3 ko
    refine ⟨rfl, ?_⟩
    rw [List.map_map] at ko
    have eo := keyedOut_each (fun b => (enc b).data) ko e
    obtain ⟨ys, ry, hy⟩ := pair_each eo
    have ly : ys.length ≤ sizeLine := by
      have h1 := ry.length
      have h2 := eo.length
      rw [List.length_mergeSort] at h2
      omega
    exact ⟨.ref (s.heap.objs.size + 1), _, ad ys ly ry, rfl, q ys _ _ (fun b o hb => by rw [upd_ne (ne_of_none hb (I.hok.fresh (Nat.le_succ _)))]; exact sG _ _ hb) (I.hok.fresh (Nat.le_succ _)) upd_same hy⟩
end
end Srk
/-! list(d), sorted(d), sorted(d, key=f) of a dict whose keys are tuples -/
namespace Dn
open PySem PySem.Spec PyProof.Rows PySem.W L2 Ln Srk
theorem re_at : ∀ {xs : List Ent} {ys : List (NestedKey × Addr × Value)} {j : Nat} {y : NestedKey × Addr × Value}, Paired RE xs ys → ys[j]? = some y → ∃ x, xs[j]? = some x ∧ RE x y
  | _, _, 0, _, .cons a _, h => by
    cases h
    exact ⟨_, rfl, a⟩
  | _, _, j + 1, _, .cons _ r, h => re_at (j := j) r h
  | _, _, _, _, .nil, h => by simp at h
mutual
/-- such data hold no list -/
theorem nk_as {h : Heap} : ∀ (k : NestedKey) (u : Value) (as : List Addr), Reads h u k.data as → as = []
  | .none, _, _, r => by cases r; rfl
  | .num i, _, _, r => by cases r; rfl
  | .text x, _, _, r => by cases r; rfl
  | .tup ks, _, _, r => by
    rw [NestedKey.data] at r
    cases r with
    | tuple h1 h2 h3 h4 => exact nks_as ks _ _ h4
theorem nks_as {h : Heap} : ∀ (ks : List NestedKey) (us : List Value) (as : List Addr), ReadsAll h us (NestedKey.datas ks) as → as = []
  | [], _, _, r => by
    rw [NestedKey.datas] at r
    cases r
    rfl
  | k :: ks, _, _, r => by
    rw [NestedKey.datas] at r
    cases r with
    | cons a b => rw [nk_as k _ _ a, nks_as ks _ _ b]; rfl
end
def keyRefs (xs : List Ent) : List V := xs.map fun x => V.ref x.2.1
theorem refs_vals : ∀ xs : List Ent, Vals (keyRefs xs) (xs.map fun x => Value.ref x.2.1)
  | [] => .nil
  | _ :: r => .cons rfl (refs_vals r)
section
variable {X : Cx} {pins : List (Addr × Obj)} {σ : L2.St} {H : Hp} {s : Shared} {d : Addr} {xs : List Ent}
theorem collected {P : Program} {w : World} {ys : List (NestedKey × Addr × Value)} {es : Array DictEntry} {acc : Array Value} (rel : Paired RE xs ys) (hsz : es.size = ys.length) (hes : ∀ i (hi : i < es.size), ∃ y, ys[i]? = some y ∧ es[i].key = .ref y.2.1)
    (it : ItemsOf (fun i v => ∃ hi : i < es.size, v = es[i].key) acc es.size) : acc.toList = xs.map fun x => Value.ref x.2.1 := by
  have lx : xs.length = es.size := by rw [hsz]; exact Paired.length rel
  have la : acc.toList.length = xs.length := by rw [Array.length_toList, it.1, lx]
  apply List.ext_getElem?
  intro j
  rw [List.getElem?_map]
  cases hj : acc.toList[j]? with
  | none =>
    have h1 := List.getElem?_eq_none_iff.mp hj
    rw [List.getElem?_eq_none (by omega)]
    rfl
  | some v =>
    obtain ⟨hi, rfl⟩ := it.2 j v (by rw [← Array.getElem?_toList]; exact hj)
    obtain ⟨y, hy, e1⟩ := hes j hi
    obtain ⟨x, hx, _, e2, _⟩ := re_at rel hy
    rw [hx, e1, ← e2]
    rfl
theorem n_raw (I : Inv X pins σ H s) (g : Dn X.w H d xs) : ∃ es ep, s.heap.DictRaw d es ep ∧ es.size = xs.length ∧ xs.length ≤ sizeLine ∧ (d == sysModules) = false ∧ ∀ acc, ItemsOf (fun i v => ∃ hi : i < es.size, v = es[i].key) acc es.size → acc.toList = xs.map fun x => Value.ref x.2.1 := by
  obtain ⟨z, lo, _, _, ys, rel, dd⟩ := dn_of I.hok g
  obtain ⟨es, ep, raw, hsz, hes⟩ := dd.raw
  have lx : xs.length = ys.length := Paired.length rel
  refine ⟨es, ep, raw, by rw [hsz, lx], z, lo, fun acc it => collected (P := X.prog) (w := X.w) rel hsz (fun i hi => ?_) it⟩
  obtain ⟨y, hy, e1, _⟩ := hes i hi
  exact ⟨y, hy, e1⟩
/-- list(d) -/
def rListN (w : World) : List V → Hp → VK → Prop := fun vs H Q => ∃ d xs, vs = [V.ref d] ∧ Dn w H d xs ∧ ∀ p, H p = none → Q (.ref p) (upd H p (.lst (keyRefs xs)))
theorem call_listN (hc : X.calm = true) : CallR X (.type "list") (rListN X.w) := by
  intro pins s σ H vs us Q I r h
  obtain ⟨d, xs, rfl, g, q⟩ := h
  obtain ⟨u, rfl, rx⟩ := r.one
  cases rx
  obtain ⟨es, ep, raw, hsz, z, lo, all⟩ := n_raw I g
  refine kdl_call (KdlSrc.rawDict (es := es) (ep := ep) lo) (I.ok.hd hc) raw (by omega) fun h' tk acc c' kp e it => ?_
  have ea := all acc it
  have e' : h'.get? s.heap.objs.size = some { cls := .type "list", data := .seq acc c' } := e
  refine ⟨.ref s.heap.objs.size, _, I.laid (a := s.heap.objs.size) (o := .lst (keyRefs xs)) (t' := tk) kp (Nat.le_refl _) ⟨by unfold keyRefs; rw [List.length_map]; exact z, xs.map fun x => Value.ref x.2.1, c', refs_vals xs, ?_⟩, rfl, q _ (I.hok.fresh (Nat.le_refl _))⟩
  rw [← ea, Array.toArray_toList]
  exact e'
/-- sorted(d, key=f) -/
def rSortKeyN (w : World) {β : Type} (enc : β → NestedKey) (fa : Addr) (sp : Sp) : List V → List V → Hp → VK → Prop := fun vs zs H Q => ∃ (d : Addr) (xs : List Ent) (bs : List β) (R : V → β → Prop), vs = [.ref d] ∧ zs = [.ref fa] ∧ Dn w H d xs ∧ Paired R (keyRefs xs) bs ∧ KeysOk enc bs ∧
  (∀ v b, R v b → b ∈ bs → ∀ G, Same H G → ∀ Q' : VK, (∀ w G', Same G G' → KeyV G' (enc b) w → Q' w G') → sp [v] G Q' E0) ∧
  ∀ (ys : List V) (p : Addr) (H' : Hp), Same H H' → H p = none → H' p = some (.lst ys) → Paired R ys (bs.mergeSort (leK enc)) → Q (.ref p) H'
/-- the sort of what a dict's keys are collected to -/
theorem sortN_core {β : Type} {enc : β → NestedKey} {f : Addr} {Kf : Hp → Heap → Prop} {bs : List β} {R : V → β → Prop} {Q : VK} (hc : X.calm = true) (hu : X.A.units + 64 < cLine) (st : Stays X Kf) (I : Inv X pins σ H s) (k0 : Kf H s.heap) (g : Dn X.w H d xs) (hp : Paired R (keyRefs xs) bs) (kok : KeysOk enc bs)
    (turn : ∀ v b u, R v b → b ∈ bs → RelV v u → ∀ (z : Shared) (G : Hp), Inv X pins σ G z → Same H G → Kf G z.heap → wpAny (model X.prog X.w) X.A.in1.in1 (call (.ref f) [u]) (Told X pins σ G (enc b) z) (fun _ _ => False) z)
    (q : ∀ (ys : List V) (p : Addr) (H' : Hp), Same H H' → H p = none → H' p = some (.lst ys) → Paired R ys (bs.mergeSort (leK enc)) → Q (.ref p) H') :
    wpAny (model X.prog X.w) X.A (call (.builtin "sorted") [.ref d] [(Str.ofString "key", Value.ref f)]) (EP X pins σ Q) X.xe s := by
  obtain ⟨es, ep, raw, hsz, z, lo, all⟩ := n_raw I g
  refine PyProof.Rows.call_function_entry_kw PyProof.Rows.kind_sorted PyProof.Rows.plain_sorted PyProof.Rows.entry_sorted (ksk_s1 _ _) ?_
  unfold Builtin.«sorted»
  refine wpAny_bind (m := checkCount "sorted" 1 1 _) (wpAny_pure ?_)
  refine wpAny_bind (kdu_collect (A := X.A.in1) (KdlSrc.rawDict (es := es) (ep := ep) lo) (I.ok.hd hc) raw (by rw [hsz]; exact z) fun h1 tk acc hkeep it => ?_)
  have ea := all acc it
  have rl : Vals (keyRefs xs) acc.toList := by rw [ea]; exact refs_vals xs
  have e := each_pair rl hp
  have lb : acc.toList.length = bs.length := e.length
  have lz : acc.toList.length ≤ sizeLine := by rw [ea, List.length_map]; exact z
  have J : Inv X pins σ H { s with heap := h1, toks := tk } := I.kept hkeep
  have hl2 : (h1.push (seqObj "list" acc.toList.toArray 0)).get? h1.objs.size = some (seqObj "list" acc.toList.toArray 0) := Heap.get?_push_size _ rfl
  have up : ∀ b o, h1.get? b = some o → (h1.push (seqObj "list" acc.toList.toArray 0)).get? b = some o := fun b o e => Heap.get?_push_of_some _ e
  have fa : FpOk X pins H h1.objs.size := J.fpOk (Nat.le_refl _) (J.hok.fresh (Nat.le_refl _))
  have J2 : Inv X pins σ H { s with heap := h1.push (seqObj "list" acc.toList.toArray 0), toks := tk } := J.kept (t' := tk) up
  have k2 : Kf H (h1.push (seqObj "list" acc.toList.toArray 0)) := st.list H s.heap _ k0 fun b o e _ => up b o (hkeep b o e)
  refine wpAny_bind (wpAny_newList ?_ lz)
  refine wpAny_bind (wpAny_holding (wpAny_call_entry_kw slot_list_sort ⟨_, hl2, rfl⟩ entry_list_sort ?body (ksk_l1 _ _)))
  rw [ksk_t1]
  refine tree_inv (A := X.A.in1.in1) (s := { s with heap := h1.push (seqObj "list" acc.toList.toArray 0), toks := tk }) (ks := bs.map enc) st J2 k2 fa hl2 (by rw [List.length_map]; exact lb.symm) lz ?_ ?_ ?_ ?_ ?_
  · rw [List.map_map]
    exact kok.alike
  · rw [List.map_map]
    exact kok.sortable
  · intro d hd
    rw [List.map_map] at hd
    obtain ⟨b, hb2, rfl⟩ := List.mem_map.mp hd
    have := kok.deep b hb2
    show X.A.units + 2 + (enc b).data.depth < cLine
    omega
  · intro i v k hv hk z G Iz sG kf
    rw [List.getElem?_map] at hk
    obtain ⟨b, hbi, rfl⟩ := Option.map_eq_some_iff.mp hk
    obtain ⟨x, rx, hR⟩ := each_get e hv hbi
    exact turn x b v hR (List.mem_of_getElem? hbi) rx z G Iz sG kf
  · intro out G z c Iz sG ga ad n3 ko
    rw [List.map_map] at ko
    have eo := keyedOut_each (fun b => (enc b).data) ko e
    obtain ⟨ys, ry, hy⟩ := pair_each eo
    have ly : ys.length ≤ sizeLine := by
      have h1 := ry.length
      have h2 := eo.length
      rw [List.length_mergeSort] at h2
      omega
    have hn : H h1.objs.size = none := fa.1
    exact ⟨_, rfl, wpAny_pure ⟨_, rfl, .ref h1.objs.size, _, ad ys ly ry, rfl, q ys _ _ (fun b o hb => by rw [upd_ne (ne_of_none hb hn)]; exact sG _ _ hb) hn upd_same hy⟩⟩
theorem cr_sortKeyN {β : Type} {enc : β → NestedKey} {j : Nat} {f : Addr} {fd : FuncData} {p1 : Str} {sp : Sp} (hc : X.calm = true) (F : FnOk X.prog X.w X.K X.mg X.base CX0 j f fd [p1] sp) (hb : Binds X.K fd [p1] []) (hr : Room (j + 1) X.A) :
    CallRK X (.builtin "sorted") [Str.ofString "key"] (rSortKeyN X.w enc f sp) := by
  intro pins s σ H vs zs us ws Q I rv rz h
  obtain ⟨d, xs, bs, R, rfl, rfl, g, hp, kok, tr, q⟩ := h
  obtain ⟨uf, rfl, rf⟩ := Vals.one rz
  obtain rfl : uf = Value.ref f := rf
  rw [Vals.ref1 rv]
  exact sortN_core hc hr.units (Kf := noKf) stays_no I trivial g hp kok (fun v b u hR hm rx z G Iz sG _ => turn_def F hb hr Iz rx fun Q' hQ => tr v b hR hm G sG Q' hQ) q
/-- sorted(d) -/
def rSortN (w : World) {β : Type} (enc : β → NestedKey) : List V → Hp → VK → Prop := fun vs H Q => ∃ (d : Addr) (xs : List Ent) (bs : List β), vs = [.ref d] ∧ Dn w H d xs ∧ xs.map (·.1) = bs.map enc ∧ KeysOk enc bs ∧
  ∀ (ys : List V) (p : Addr), Paired (fun v b => KeyV H (enc b) v) ys (bs.mergeSort (leK enc)) → H p = none → Q (.ref p) (upd H p (.lst ys))
theorem cr_sortN {β : Type} {enc : β → NestedKey} (hc : X.calm = true) (hu : X.A.units + 64 < cLine) : CallR X (.builtin "sorted") (rSortN X.w enc) := by
  intro pins s σ H vs us Q I r h
  obtain ⟨d, xs, bs, rfl, g, hk, kok, q⟩ := h
  rw [Vals.ref1 r]
  obtain ⟨es, ep, raw, hsz, z, lo, all⟩ := n_raw I g
  refine Calls.call_function_entry PyProof.Rows.kind_sorted PyProof.Rows.plain_sorted PyProof.Rows.entry_sorted (PyProof.Rows.args_sorted1 _) ?_
  unfold Builtin.«sorted»
  refine wpAny_bind (m := checkCount "sorted" 1 1 _) (wpAny_pure ?_)
  refine wpAny_bind (kdu_collect (A := X.A.in1) (KdlSrc.rawDict (es := es) (ep := ep) lo) (I.ok.hd hc) raw (by rw [hsz]; exact z) fun h1 tk acc hkeep it => ?_)
  have ea := all acc it
  have rl : Vals (keyRefs xs) acc.toList := by rw [ea]; exact refs_vals xs
  have lz : acc.toList.length ≤ sizeLine := by rw [ea, List.length_map]; exact z
  have J : Inv X pins σ H { s with heap := h1, toks := tk } := I.kept hkeep
  have hp : Paired (fun v b => KeyV H (enc b) v) (keyRefs xs) bs := by
    have k2 := g.2
    clear ea rl lz J it all raw hsz z g kok q
    induction xs generalizing bs with
    | nil =>
      cases bs with
      | nil => exact .nil
      | cons b r => cases hk
    | cons x r ih =>
      cases bs with
      | nil => cases hk
      | cons b t =>
        rw [List.map_cons, List.map_cons, List.cons.injEq] at hk
        refine .cons ?_ (ih t hk.2 fun y hy => k2 y (List.mem_cons_of_mem _ hy))
        rw [← hk.1]
        exact k2 x (List.mem_cons_self ..)
  have e := each_pair rl hp
  have lb : acc.toList.length = bs.length := e.length
  have hoL : (h1.push (seqObj "list" acc.toList.toArray 0)).get? h1.objs.size = some (seqObj "list" acc.toList.toArray 0) := Heap.get?_push_size _ rfl
  have up : ∀ b o, h1.get? b = some o → (h1.push (seqObj "list" acc.toList.toArray 0)).get? b = some o := fun b o e => Heap.get?_push_of_some _ e
  refine wpAny_bind (wpAny_newList ?_ lz)
  have J2 : Inv X pins σ H { s with heap := h1.push (seqObj "list" acc.toList.toArray 0), toks := tk } := J.kept (t' := tk) up
  have er : EachIs (fun u b => ∃ as, Reads (h1.push (seqObj "list" acc.toList.toArray 0)) u (enc b).data as ∧ h1.objs.size ∉ as) acc.toList bs := e.mono fun u b ⟨v, rv, kv⟩ => by
    obtain ⟨as, rd⟩ := Dp.reads J2 _ _ _ (KeyV.dp _ _ kv) rv
    refine ⟨as, rd, ?_⟩
    rw [nk_as _ _ _ rd]
    exact fun z => nomatch z
  refine wpAny_bind (wpAny_holding (list_sort_data (A := X.A.in1) (s := { s with heap := h1.push (seqObj "list" acc.toList.toArray 0), toks := tk }) (enc := fun b => (enc b).data) (bs := bs) (vs := acc.toList) (R := fun u b => ∃ v, RelV v u ∧ KeyV H (enc b) v) hoL e er kok.alike kok.sortable (by rw [← lb]; exact lz) (fun b hb => ?_) fun out lo3 eo => ?_))
  · have := kok.deep b hb
    show X.A.units + 1 + 1 + (enc b).data.depth < cLine
    omega
  · obtain ⟨ys, ry, hy⟩ := pair_each eo
    obtain ⟨ep', he⟩ := PyProof.Rows.sortedHeap_at (vs := acc.toList) (out := out.toArray) hoL
    have hlen : ys.length ≤ sizeLine := by rw [ry.length, lo3, ← lb]; exact lz
    refine wpAny_pure ⟨_, rfl, .ref h1.objs.size, upd H h1.objs.size (.lst ys), J.laid (t' := tk) (fun b u e => ?_) (Nat.le_refl _) (show ObjOk X.prog X.w _ _ _ (.lst ys) from ⟨hlen, out, ep', ry, he⟩), rfl, q ys _ hy (J.hok.fresh (Nat.le_refl _))⟩
    have hb : b < h1.objs.size := Heap.lt_size e
    rw [PyProof.Rows.sortedHeap_old (Nat.ne_of_lt hb) (by rw [Heap.size_push]; exact Nat.lt_succ_of_lt hb)]
    exact Heap.get?_push_of_some _ e
end
end Dn
/-! a lambda without captured names: made, held, called by sorted -/
namespace Lma
open PySem PySem.Spec PyProof.Rows PySem.W L2 Ln Dn Srk
/-- the lambda's own object -/
def LamO (f : Addr) (ob : Obj) : HO := .ext fun h => h.get? f = some ob
theorem lamO_ok {P : Program} {w : World} {H : Hp} {h : Heap} {f : Addr} {ob : Obj} (e : h.get? f = some ob) : ObjOk P w H h f (LamO f ob) := ⟨e, ⟨_, e⟩, fun h1 h2 p k => k _ p⟩
/-- a def of the text whose code object stands at c -/
structure FunC (K : PySem.W.Frag) (x qual : Str) (st : Stmt) (f : Addr) (fd : FuncData) (c : Addr) : Prop where
  ex : ∃ (oc : Value) (od : Option Addr) (kV doc pm : Value) (an : Option Addr) (ct : Value) (osl : Array (Option Value)),
    fd = PySem.W.fnOf x qual (defArgs st) (defBody st) (defScope st) .none kV doc pm an (.ref c) ct ∧ K.lookup f = some ⟨oc, od, .func fd, osl⟩ ∧ PySem.W.codeIn K (.ref c) qual = true
section
variable {P : Program} {w : World} {K : PySem.W.Frag} {mg : Str → Option Value} {base : Heap}
theorem FunC.ok {x qual : Str} {st : Stmt} {f c : Addr} {fd : FuncData} {N ps : List Str} {k : Nat} {sp : Sp} (F : FunC K x qual st f fd c) (S : FnScope N ps (defScope st)) (len : ∀ vs H Q E, sp vs H Q E → vs.length = ps.length)
    (hbody : ∀ (A : Around) (outer : List Env) (s : Shared) (H : Hp) (vs : List V) (Q : VK) (E : XK), Room k (A.deeper (envOfC qual (defScope st) s.heap.objs.size f (.ref c))) → sp vs H Q E →
      ∃ t, PSs (cxOf CX0 P w K mg base N qual (defScope st) f (.ref c) A outer s H E).nox (defBody st) t ∧ t { nx := fun _ H' => Q .non H', rt := Q } (start N vs) H) : FnOk P w K mg base CX0 (k + 1) f fd ps sp := by
  obtain ⟨oc, od, kV, doc, pm, an, ct, osl, rfl, lk, hcd⟩ := F.ex
  refine fn_of lk hcd S len fun A outer s H vs Q E hr hsp => ?_
  obtain ⟨t, h, q⟩ := hbody A outer s H vs Q E hr hsp
  exact ⟨t, h.nox, q⟩
theorem funC_mk {x qual : Str} {st : Stmt} {f c : Addr} {oc : Value} {od an : Option Addr} {osl : Array (Option Value)} {kV doc pm ct : Value} (l : K.lookup f = some ⟨oc, od, .func (PySem.W.fnOf x qual (defArgs st) (defBody st) (defScope st) .none kV doc pm an (.ref c) ct), osl⟩)
    (cd : PySem.W.codeIn K (.ref c) qual = true) : FunC K x qual st f (PySem.W.fnOf x qual (defArgs st) (defBody st) (defScope st) .none kV doc pm an (.ref c) ct) c := ⟨⟨oc, od, kV, doc, pm, an, ct, osl, rfl, l, cd⟩⟩
end
/-- the lambda's value: its object and its code object are known from now on; of what stood there only the table at P0 grows -/
def tLamE (P0 : Addr) (q : Str) (ob : Value → Addr → Value → Obj) : TE := fun _ H Q => LamX.TabS H P0 q ∧ ∀ f c' pm ctv H1, H f = none → (∀ b o, b ≠ P0 → H b = some o → H1 b = some o) → LamX.TabS H1 P0 q → H1 f = some (LamO f (ob pm c' ctv)) → H1 c' = some (LamX.CodeO c' q) → Q (.ref f) H1
theorem clo_nil {cells : List (Str × Addr)} : ∀ {names : List (Str × NameKind)}, (∀ y ∈ names, y.2 ≠ .free) → cloFrom cells names [] = []
  | [], _ => rfl
  | (n, k) :: r, h => by
    have hk : (k == NameKind.free) = false := beq_eq_false_iff_ne.mpr (h (n, k) (List.mem_cons_self ..))
    unfold cloFrom
    rw [hk, if_neg Bool.false_ne_true]
    exact clo_nil fun y hy => h y (List.mem_cons_of_mem _ hy)
section
variable {X : Cx}
theorem pe_lam {c P0 : Addr} {q : Str} {params : Arguments} {body : Expr} {scope : Scope} {pos : Pos} (TB : LamX.TabB X.base X.mg c P0) (hcode : X.env.code = .ref c) (hq : X.env.qual ++ "<lambda>" = q) (hdef : defaultsOf params X.env = ([], [])) (hfree : ∀ y ∈ scope.names, y.2 ≠ .free) :
    PE X (.Lambda params body scope pos) (tLamE P0 q fun pm c' ctv => kla_obj "<lambda>" q params body scope [] pm c' ctv) := by
  refine ⟨fun pins s σ H Q I h => ?_⟩
  obtain ⟨⟨ps, hP, ht, ha⟩, h⟩ := h
  subst hq
  have bP : s.heap.BuiltinsAt X.mg P0 := TB.bm.keeps I.bk
  have hP' : s.heap.get? P0 = some { cls := .none, data := .fields ps } := I.hok P0 _ hP
  have clo : closureFor scope X.env = pure [] := by
    have := closure_ok (env := X.env) (scope := scope) fun y hy e => absurd e (hfree y hy)
    rwa [clo_nil hfree] at this
  refine kla_eval hdef ?_
  cases hc : codeAmong pos ps.toList with
  | none =>
    refine kla_makeFunction (mg := X.mg) (c := c) (P := P0) (ps := ps) clo I.ok.glob (I.mod.glob.keeps I.bk) hcode (TB.code.keeps I.bk) hP' ht hc TB.gP bP fun c' ctv h' tk hx hge hlt hrec htb => ?_
    obtain ⟨c2, oc, us, t, e2, hoc, hd, hv⟩ := hrec
    cases e2
    have nC : H c' = none := I.hok.fresh hge
    have J1 := LamX.inv_table (t' := tk) (more := #[rawInt pos.line, rawInt pos.col, .ref c']) (h' := h') I hP (fun b o hb e => hx b o hb e) htb hge ⟨oc, us, t, hoc, hd, hv⟩
    generalize eT : (ps ++ #[rawInt pos.line, rawInt pos.col, Value.ref c']) = pz at J1 htb
    have eL : pz.toList = ps.toList ++ [rawInt pos.line, rawInt pos.col, .ref c'] := by rw [← eT]; simp
    generalize eF : kla_obj "<lambda>" (X.env.qual ++ "<lambda>") params body scope [] ((X.mg "__name__").getD .none) c' ctv = fo
    have J2 := J1.laid (a := h'.objs.size) (o := LamO h'.objs.size fo) (t' := tk) (h' := h'.push fo) (fun b o e => Heap.get?_push_of_some _ e) (Nat.le_refl _) (lamO_ok (Heap.get?_push_size _ (by rw [← eF]; rfl)))
    have nF : (upd (upd H P0 (.tbl pz)) c' (LamX.CodeO c' (X.env.qual ++ "<lambda>"))) h'.objs.size = none := J1.hok.fresh (Nat.le_refl _)
    have nF' : H h'.objs.size = none := I.hok.fresh (Nat.le_trans hge (Nat.le_of_lt hlt))
    have nPc : P0 ≠ c' := ne_of_none hP nC
    have nPf : P0 ≠ h'.objs.size := ne_of_none hP nF'
    have old : ∀ b o, b ≠ P0 → H b = some o → upd (upd (upd H P0 (.tbl pz)) c' (LamX.CodeO c' (X.env.qual ++ "<lambda>"))) h'.objs.size (LamO h'.objs.size fo) b = some o := fun b o nb e => by
      rw [upd_ne (ne_of_none e nF'), upd_ne (ne_of_none e nC), upd_ne nb]
      exact e
    have hcF : c' ≠ h'.objs.size := Nat.ne_of_lt hlt
    refine ⟨.ref h'.objs.size, _, J2, rfl, h _ c' ((X.mg "__name__").getD .none) ctv _ nF' old ⟨pz, by rw [upd_ne nPf, upd_ne nPc, upd_same], by rw [eL]; exact PySem.TriplesOk_snoc _ _ _ _ ht, fun p' cv hcv => ?_⟩ (by rw [← eF]; exact upd_same) (by rw [upd_ne hcF, upd_same])⟩
    rw [eL] at hcv
    rcases LamX.among_app _ ht hcv with z | z
    · obtain ⟨c0, e1, e2⟩ := ha p' cv z
      exact ⟨c0, e1, old _ _ (fun z => by rw [z, hP] at e2; exact LamX.codeO_ne _ (Option.some.inj e2).symm) e2⟩
    · exact ⟨c', z, by rw [upd_ne hcF, upd_same]⟩
  | some cv =>
    obtain ⟨c', e, hco⟩ := ha pos cv hc
    subst e
    refine kla_makeFunctionHit (mg := X.mg) (c := c) (P := P0) (ps := ps) clo I.ok.glob (I.mod.glob.keeps I.bk) hcode (TB.code.keeps I.bk) hP' ht hc bP fun ctv h' tk hx hsz => ?_
    have J1 : Inv X pins σ H { s with heap := h', toks := tk } := I.kept (t' := tk) hx
    have nF' : H h'.objs.size = none := J1.hok.fresh (Nat.le_refl _)
    have J2 := J1.laid (a := h'.objs.size) (o := LamO h'.objs.size (kla_obj "<lambda>" (X.env.qual ++ "<lambda>") params body scope [] ((X.mg "__name__").getD .none) c' ctv)) (t' := tk) (h' := h'.push (kla_obj "<lambda>" (X.env.qual ++ "<lambda>") params body scope [] ((X.mg "__name__").getD .none) c' ctv)) (fun b o e => Heap.get?_push_of_some _ e) (Nat.le_refl _) (lamO_ok (Heap.get?_push_size _ rfl))
    have g := fun b o (e : H b = some o) => (show upd H h'.objs.size (LamO h'.objs.size (kla_obj "<lambda>" (X.env.qual ++ "<lambda>") params body scope [] ((X.mg "__name__").getD .none) c' ctv)) b = some o from by rw [upd_ne (ne_of_none e nF')]; exact e)
    exact ⟨.ref h'.objs.size, _, J2, rfl, h _ c' ((X.mg "__name__").getD .none) ctv _ nF' (fun b o _ e => g b o e) (LamX.TabS.ext ⟨ps, hP, ht, ha⟩ g) upd_same (g _ _ hco)⟩
end
section
variable {X : Cx} {pins : List (Addr × Obj)} {σ : L2.St} {G : Hp} {z : Shared}
/-- it is called with one argument -/
theorem lam_run {A : Around} {k : Nat} {f c' : Addr} {q p1 : Str} {N : List Str} {params : Arguments} {body : Expr} {scope : Scope} {pm ctv u : Value} {v : V} {t : TE} {Q : VK} (I : Inv X pins σ G z) (hf : G f = some (LamO f (kla_obj "<lambda>" q params body scope [] pm c' ctv))) (hc : G c' = some (LamX.CodeO c' q))
    (S : FnScope N [p1] scope) (hbind : bindArgs (kla_fn "<lambda>" q params body scope [] pm (.ref c') ctv) ⟨[u], []⟩ = pure [(p1, u)]) (e0 : Env0 X.prog X.w X.K X.mg X.base A X.stack z G) (hr : Room (k + 1) A) (r : RelV v u)
    (hbody : Room k (A.deeper (envOfC q scope z.heap.objs.size f (.ref c'))) → PE (cxOf CX0 X.prog X.w X.K X.mg X.base N q scope f (.ref c') A X.stack z G E0) body t) (ht : t (start N [v]) G Q) :
    wpAny (model X.prog X.w) A (call (.ref f) [u]) (fun w z' => CE X.stack X.prog X.w G z Q w z') (fun _ _ => False) z := by
  obtain ⟨of, _, _⟩ := I.hok f _ hf
  obtain ⟨⟨oc, us, tt, hoc, hdc, hvc⟩, _, _⟩ := I.hok c' _ hc
  have hkind : ∀ y ∈ [(p1, u)], scope.names.lookup y.1 = some .local ∨ (scope.names.lookup y.1 = some .cell ∧ ((cellsFrom (z.heap.objs.size + 1) scope.names []).lookup y.1).isSome = true) := fun y hy => by
    rw [List.mem_singleton.mp hy]
    rcases S.par p1 (List.mem_singleton_self _) with w | w
    · exact .inl w
    · exact .inr ⟨w, PySem.W.cellsFrom_some _ _ _ (.inl w)⟩
  have lim : z.heap.NoLimit := I.nolimit
  have rc : codeAny (model X.prog X.w) A (.call (.ref f) ⟨[u], []⟩) (CR CX0 X.stack X.prog X.w G z Q E0) z := by
    refine kla_callFunE hr.depth of rfl S.co S.gen rfl ⟨c', oc, us, tt, rfl, hoc, hdc, hvc⟩ ?_
    rw [hbind]
    refine wpAny_pure (wpAny_newFunctionEnv_cells S.kind hkind fun env he s1 x => ?_)
    subst he
    refine ⟨lim.keeps x.toInCall.keep, ?_⟩
    have J : Inv (cxOf CX0 X.prog X.w X.K X.mg X.base N q scope f (.ref c') A X.stack z G E0) [] (start N [v]) G s1 := inv_start S hr.hd e0 rfl (.cons r .nil) x
    refine kla_codeExpr (wpAny_mono ((hbody (hr.deeper _)).run [] s1 _ G Q J ht) (fun w s' hs => ?_) fun e s' hs => hs)
    obtain ⟨v', H', J', rv, q'⟩ := hs
    exact ⟨v', H', J'.os, J'.bare, J'.base, J'.hok, rv, q'⟩
  refine wpAny_call (codeAny_mono rc fun w z' hq => ?_)
  cases w with
  | error e => exact hq.elim
  | ok fl =>
    cases fl with
    | ret w => exact hq
    | next => exact False.elim hq
    | brk => exact False.elim hq
    | cont => exact False.elim hq
end
/-! ### sorted(d, key=lambda x: e) -/
/-- what stands for a lambda that was just made -/
def IsLam (H : Hp) (q : Str) (params : Arguments) (body : Expr) (scope : Scope) (v : V) : Prop := ∃ f c' pm ctv, v = .ref f ∧ H f = some (LamO f (kla_obj "<lambda>" q params body scope [] pm c' ctv)) ∧ H c' = some (LamX.CodeO c' q)
def rSortLamN (w : World) {β : Type} (enc : β → NestedKey) (q : Str) (params : Arguments) (body : Expr) (scope : Scope) (N : List Str) (t : TE) : List V → List V → Hp → VK → Prop := fun vs zs H Q => ∃ (d : Addr) (xs : List Ent) (bs : List β) (R : V → β → Prop) (lv : V), vs = [.ref d] ∧ zs = [lv] ∧ IsLam H q params body scope lv ∧ Dn w H d xs ∧ Paired R (keyRefs xs) bs ∧ KeysOk enc bs ∧
  (∀ v b, R v b → b ∈ bs → ∀ G, Same H G → ∀ Q' : VK, (∀ w G', Same G G' → KeyV G' (enc b) w → Q' w G') → t (start N [v]) G Q') ∧
  ∀ (ys : List V) (p : Addr) (H' : Hp), Same H H' → H p = none → H' p = some (.lst ys) → Paired R ys (bs.mergeSort (leK enc)) → Q (.ref p) H'
theorem cr_sortLamN {X : Cx} {β : Type} {enc : β → NestedKey} {k : Nat} {q p1 : Str} {N : List Str} {params : Arguments} {body : Expr} {scope : Scope} {t : TE} (hc : X.calm = true) (S : FnScope N [p1] scope)
    (hbind : ∀ (pm ctv u : Value) (c' : Addr), bindArgs (kla_fn "<lambda>" q params body scope [] pm (.ref c') ctv) ⟨[u], []⟩ = pure [(p1, u)]) (hr : Room (k + 2) X.A)
    (hbody : ∀ (A : Around) (z : Shared) (G : Hp) (f c' : Addr), Room k (A.deeper (envOfC q scope z.heap.objs.size f (.ref c'))) → PE (cxOf CX0 X.prog X.w X.K X.mg X.base N q scope f (.ref c') A X.stack z G E0) body t) :
    CallRK X (.builtin "sorted") [Str.ofString "key"] (rSortLamN X.w enc q params body scope N t) := by
  intro pins s σ H vs zs us ws Q I rv rz h
  obtain ⟨d, xs, bs, R, lv, rfl, rfl, ⟨f, c', pm, ctv, rfl, hf, hco⟩, g, hp, kok, tr, qq⟩ := h
  obtain ⟨uf, rfl, rf⟩ := Vals.one rz
  obtain rfl : uf = Value.ref f := rf
  rw [Vals.ref1 rv]
  refine sortN_core hc hr.units (Kf := noKf) stays_no I trivial g hp kok (fun v b u hR hm rx z G Iz sG _ => ?_) qq
  exact wpAny_mono (lam_run Iz (sG _ _ hf) (sG _ _ hco) S (hbind pm ctv u c') Iz.env0.in1.in1 (room2 hr) rx (hbody _ z G f c') (tr v b hR hm G sG _ fun w G' a b => ⟨a, b⟩)) (fun w z' hq => ce_told Iz hq) fun _ _ hF => hF
end Lma
namespace Sqc
open PySem L2
/-- a statement, by what is to hold behind it -/
theorem seq_cut {t u : TS} {D : Ends} {σ : L2.St} {H : Hp} (Inv : L2.St → Hp → Prop) (ht : (∀ σ' H', Inv σ' H' → u D σ' H') → t { D with nx := u D } σ H) (hk : ∀ σ' H', Inv σ' H' → u D σ' H') : tSeq t u D σ H := ht hk
theorem next_cut {D : Ends} {σ : L2.St} {H : Hp} (h : D.nx σ H) : tNext D σ H := h
theorem name_cut {i : Nat} {v : V} {σ : L2.St} {H : Hp} {Q : L2.St → Hp → Prop} (h : Q (σ.set i (some v)) H) : gName i v σ H Q := h
end Sqc
namespace Q64
open PySem L2 Ln Dn Srk Lma
abbrev sSpans : Stmt := top 19
def itOf : Option Stmt → Expr
  | some (.For _ e _ _ _) => e
  | _ => .Constant .none 0 ⟨0, 0, 0, 0⟩
def kwOf : Expr → Expr
  | .Call _ _ (k :: _) _ => k.value
  | e => e
def lamA : Expr → Arguments
  | .Lambda a _ _ _ => a
  | _ => ⟨[], [], none, [], [], none, []⟩
def lamB : Expr → Expr
  | .Lambda _ b _ _ => b
  | e => e
def lamS : Expr → Scope
  | .Lambda _ _ c _ => c
  | _ => defScope sSpans
abbrev lamX : Expr := kwOf (itOf (defBody sSpans)[3]?)
abbrev spansN : List Str := ["_law_hand_here", "_law_things", "_law_some", "_law_wide", "_law_k", "_law_row", "_law_far", "_law_lo", "_law_rows", "_law_turn", "_law_hi", "_law_told", "_law_j"]
theorem scSpans : FnScope spansN ["_law_hand_here"] (defScope sSpans) := ⟨rfl, rfl, rfl, by decide +kernel, rfl, by decide +kernel, by decide +kernel⟩
theorem scLam : FnScope ["_law_one"] ["_law_one"] (lamS lamX) := ⟨rfl, rfl, rfl, by decide +kernel, rfl, by decide +kernel, by decide +kernel⟩
abbrev lamQ : Str := "_law_spans.<locals>.<lambda>"
/-! ### spans of rows: an end behind the last day is no end -/
abbrev Span : Type := List NestedKey × Int × Int
structure SpanOk (s : Span) : Prop where
  lo0 : 0 ≤ s.2.1
  lo1 : s.2.1 ≤ 10 ^ 11
  lt : s.2.1 < s.2.2
  top_ : s.2.2 ≤ 10 ^ 11 ∨ s.2.2 = 10 ^ 12 + 1
  wide : s.1.length ≤ 4
def SpanV (H : Hp) (v : V) (s : Span) : Prop := SpanOk s ∧ ∃ (a r : Addr) (xs : List V), v = .ref a ∧ H a = some (.tup [.ref r, .int s.2.1, endV s.2.2]) ∧ H r = some (.tup xs) ∧ Paired ThV xs s.1
theorem SpanV.keep {H H' : Hp} (k : Keep H H') {v : V} {s : Span} (h : SpanV H v s) : SpanV H' v s := by
  obtain ⟨ok, a, r, xs, e, h1, h2, h3⟩ := h
  exact ⟨ok, a, r, xs, e, k _ _ h1, k _ _ h2, h3⟩
abbrev Grp : Type := List NestedKey × List (Int × Int)
structure GrpOk (g : Grp) : Prop where
  some_ : 0 < g.2.length
  few : g.2.length ≤ 4
  shut : ∀ s ∈ g.2.dropLast, s.2 ≤ 10 ^ 11
  wide : g.1.length ≤ 4
  pos : 0 < g.1.length
  leaf : ∀ k ∈ g.1, ∀ ks, k ≠ .tup ks
def grpS (g : Grp) : List Span := g.2.map fun s => (g.1, s)
def flatG (gs : List Grp) : List Span := gs.flatMap grpS
def But2 (p q : Addr) (H H' : Hp) : Prop := ∀ b o, b ≠ p → b ≠ q → H b = some o → H' b = some o
theorem end_open : endV (10 ^ 12 + 1) = .non := if_pos (by decide)
theorem end_shut {e : Int} (h : e ≤ 10 ^ 11) : endV e = .int e := if_neg (by omega)
theorem tabs_lst {H H' : Hp} {p P0 : Addr} {us : List V} {q : Str} (hp : H p = some (.lst us)) (h : LamX.TabS H P0 q) (s : But p H H') : LamX.TabS H' P0 q := by
  obtain ⟨ps, h1, h2, h3⟩ := h
  refine ⟨ps, s _ _ (fun z => ?_) h1, h2, fun pos cv e => ?_⟩
  · rw [z, hp] at h1
    cases h1
  · obtain ⟨c', e1, e2⟩ := h3 pos cv e
    refine ⟨c', e1, s _ _ (fun z => ?_) e2⟩
    rw [z, hp] at e2
    cases e2
theorem tabs_but {H H' : Hp} {p P0 : Addr} {n : Nat} {q : Str} (hU : Hand H p n) (h : LamX.TabS H P0 q) (s : But p H H') : LamX.TabS H' P0 q := by
  obtain ⟨g, s0, c, hp, _⟩ := hU
  exact tabs_lst hp h s
theorem th_leaf : ∀ {vs : List V} {ks : List NestedKey}, Paired ThV vs ks → ∀ k ∈ ks, ∀ js, k ≠ .tup js
  | _, _, .cons h r, k, hk, js => by
    rcases List.mem_cons.mp hk with rfl | hk
    · intro z
      subst z
      cases h
    · exact th_leaf r k hk js
theorem th_of {H : Hp} : ∀ {ks : List NestedKey} {vs : List V}, KeysV H ks vs → (∀ k ∈ ks, ∀ js, k ≠ .tup js) → Paired ThV vs ks
  | _, _, .nil, _ => .nil
  | _, _, .cons h r, lf => by
    refine .cons ?_ (th_of r fun k hk => lf k (List.mem_cons_of_mem _ hk))
    cases h with
    | none => exact .non
    | num i => exact .int i
    | text y => exact .str y
    | tup a b => exact absurd rfl (lf _ (List.mem_cons_self ..) _)
theorem leaf_depth : ∀ {ks : List NestedKey}, (∀ k ∈ ks, ∀ js, k ≠ .tup js) → NestedKey.depthAll ks = 0
  | [], _ => rfl
  | .none :: ks, lf => by simp [NestedKey.depthAll, NestedKey.depth, leaf_depth fun k hk => lf k (List.mem_cons_of_mem _ hk)]
  | .num _ :: ks, lf => by simp [NestedKey.depthAll, NestedKey.depth, leaf_depth fun k hk => lf k (List.mem_cons_of_mem _ hk)]
  | .text _ :: ks, lf => by simp [NestedKey.depthAll, NestedKey.depth, leaf_depth fun k hk => lf k (List.mem_cons_of_mem _ hk)]
  | .tup js :: ks, lf => absurd rfl (lf _ (List.mem_cons_self ..) js)
theorem row_depth {ks : List NestedKey} (lf : ∀ k ∈ ks, ∀ js, k ≠ .tup js) : (NestedKey.tup ks).depth ≤ 8 := by
  simp [NestedKey.depth, leaf_depth lf]
/-! the ranks of rows -/
abbrev encR (ks : List NestedKey) : NestedKey := .tup (ks.map rankT)
theorem rank_alike : ∀ {ks js : List NestedKey}, (∀ k ∈ ks, ∀ xs, k ≠ .tup xs) → (∀ k ∈ js, ∀ xs, k ≠ .tup xs) → PySem.W.alikeAll (NestedKey.datas (ks.map rankT)) (NestedKey.datas (js.map rankT)) = true
  | [], [], _, _ => rfl
  | [], _ :: _, _, _ => by simp [NestedKey.datas, PySem.W.alikeAll]
  | _ :: _, [], _, _ => by simp [NestedKey.datas, PySem.W.alikeAll]
  | k :: ks, j :: js, a, b => by
    have r := rank_alike (fun x hx => a x (List.mem_cons_of_mem _ hx)) (fun x hx => b x (List.mem_cons_of_mem _ hx)) (ks := ks) (js := js)
    have h : PySem.W.alike (rankT k).data (rankT j).data = true := by
      cases k with
      | tup xs => exact absurd rfl (a _ (List.mem_cons_self ..) xs)
      | none => cases j with
        | tup xs => exact absurd rfl (b _ (List.mem_cons_self ..) xs)
        | none => rfl
        | num _ => rfl
        | text _ => rfl
      | num _ => cases j with
        | tup xs => exact absurd rfl (b _ (List.mem_cons_self ..) xs)
        | none => rfl
        | num _ => rfl
        | text _ => rfl
      | text _ => cases j with
        | tup xs => exact absurd rfl (b _ (List.mem_cons_self ..) xs)
        | none => rfl
        | num _ => rfl
        | text _ => rfl
    show PySem.W.alikeAll ((rankT k).data :: NestedKey.datas (ks.map rankT)) ((rankT j).data :: NestedKey.datas (js.map rankT)) = true
    simp only [PySem.W.alikeAll, h, r, Bool.and_self]
theorem paired_mono {α β : Type} {R S : α → β → Prop} (h : ∀ a b, R a b → S a b) : ∀ {xs : List α} {ys : List β}, Paired R xs ys → Paired S xs ys
  | _, _, .nil => .nil
  | _, _, .cons a r => .cons (h _ _ a) (paired_mono h r)
theorem none_but {H H' : Hp} {p a : Addr} (s : But p H H') (ne : a ≠ p) (h : H' a = none) : H a = none := by
  cases e : H a with
  | none => rfl
  | some o =>
    rw [s _ _ ne e] at h
    cases h
theorem putN_cases {xs : List Ent} {k : NestedKey} {b : Addr} {v : V} {x : Ent} (h : x ∈ putN xs k b v) : x ∈ xs ∨ (x.1 = k ∧ x.2.2 = v) := by
  unfold putN at h
  split at h
  · obtain ⟨y, hy, rfl⟩ := List.mem_map.mp h
    by_cases c : y.1 = k
    · rw [if_pos c]
      exact .inr ⟨c, rfl⟩
    · rw [if_neg c]
      exact .inl hy
  · rcases List.mem_append.mp h with h | h
    · exact .inl h
    · rw [List.mem_singleton.mp h]
      exact .inr ⟨rfl, rfl⟩
theorem rank_depth : ∀ {ks : List NestedKey}, (∀ k ∈ ks, ∀ xs, k ≠ .tup xs) → PyData.depthAll (NestedKey.datas (ks.map rankT)) ≤ 1
  | [], _ => by simp [NestedKey.datas, PyData.depthAll]
  | k :: ks, a => by
    have r := rank_depth (ks := ks) fun x hx => a x (List.mem_cons_of_mem _ hx)
    show PyData.depthAll ((rankT k).data :: NestedKey.datas (ks.map rankT)) ≤ 1
    have h : (rankT k).data.depth ≤ 1 := by
      cases k with
      | tup xs => exact absurd rfl (a _ (List.mem_cons_self ..) xs)
      | none => simp [rankT, NestedKey.data, NestedKey.datas, PyData.depth, PyData.depthAll]
      | num _ => simp [rankT, NestedKey.data, NestedKey.datas, PyData.depth, PyData.depthAll]
      | text _ => simp [rankT, NestedKey.data, NestedKey.datas, PyData.depth, PyData.depthAll]
    simp only [PyData.depthAll]
    omega
theorem keys_ok {bs : List (List NestedKey)} (lf : ∀ b ∈ bs, ∀ k ∈ b, ∀ xs, k ≠ .tup xs) (pos : ∀ b ∈ bs, 0 < b.length) : KeysOk encR bs := by
  refine ⟨fun d hd e he => ?_, .inl fun d hd => ?_, fun b hb => ?_⟩
  · obtain ⟨b, hb, rfl⟩ := List.mem_map.mp hd
    obtain ⟨c, hc, rfl⟩ := List.mem_map.mp he
    show PySem.W.alike (.tuple (NestedKey.datas (b.map rankT))) (.tuple (NestedKey.datas (c.map rankT))) = true
    simp only [PySem.W.alike]
    exact rank_alike (lf b hb) (lf c hc)
  · obtain ⟨b, hb, rfl⟩ := List.mem_map.mp hd
    cases b with
    | nil => exact absurd (pos _ hb) (by simp)
    | cons k ks => exact ⟨_, _, rfl⟩
  · have h := rank_depth (lf b hb)
    show (PyData.tuple (NestedKey.datas (b.map rankT))).depth ≤ 8
    simp only [PyData.depth]
    omega
/-- an entry's key -/
def keyL (x : Ent) : List NestedKey := match x.1 with
  | .tup ks => ks
  | _ => []
theorem paired_two {α β γ : Type} {R : β → γ → Prop} {f : α → β} {g : α → γ} : ∀ {l : List α}, (∀ x ∈ l, R (f x) (g x)) → Paired R (l.map f) (l.map g)
  | [], _ => .nil
  | x :: l, h => .cons (h x (List.mem_cons_self ..)) (paired_two fun y hy => h y (List.mem_cons_of_mem _ hy))
theorem valN_mem {xs : List Ent} : (xs.map (·.1)).Nodup → ∀ x ∈ xs, valN xs x.1 = some x.2.2 := by
  induction xs with
  | nil => exact fun _ x hx => nomatch hx
  | cons y r ih =>
    intro nd x hx
    rw [List.map_cons, List.nodup_cons] at nd
    unfold valN
    rw [List.find?_cons]
    rcases List.mem_cons.mp hx with rfl | hx
    · rw [decide_eq_true rfl]
      rfl
    · have ne : y.1 ≠ x.1 := fun z => nd.1 (by rw [z]; exact List.mem_map.mpr ⟨x, hx, rfl⟩)
      rw [decide_eq_false ne]
      exact ih nd.2 x hx
theorem keep_butT {H H' : Hp} {T : Addr} {us : List V} (hT : H T = some (.lst us)) (s : But T H H') : Keep H H' := fun b zs hb => s b _ (fun z => by rw [z, hT] at hb; cases hb) hb
/-- what stands in the dict at a key -/
def RowsAt (p : Addr) (wd : Nat) (H : Hp) (x : Ent) : Prop := ∃ (L : Addr) (us : List V) (g : Grp), x.1 = .tup g.1 ∧ x.2.2 = .ref L ∧ H L = some (.lst us) ∧ L ≠ p ∧ Paired (SpanV H) us (grpS g) ∧ GrpOk g ∧ g.1.length = wd
theorem RowsAt.but {p : Addr} {wd n : Nat} {H H' : Hp} {x : Ent} (hU : Hand H p n) (s : But p H H') (h : RowsAt p wd H x) : RowsAt p wd H' x := by
  obtain ⟨L, us, g, a, b, c, d, e, f⟩ := h
  exact ⟨L, us, g, a, b, s _ _ d c, d, paired_mono (fun _ _ z => z.keep (keep_but hU s)) e, f⟩
theorem RowsAt.same {p : Addr} {wd : Nat} {H H' : Hp} {x : Ent} (s : Same H H') (h : RowsAt p wd H x) : RowsAt p wd H' x := by
  obtain ⟨L, us, g, a, b, c, d, e, f⟩ := h
  exact ⟨L, us, g, a, b, s _ _ c, d, paired_mono (fun _ _ z => z.keep (Keep.of s)) e, f⟩
theorem RowsAt.put {p D : Addr} {wd : Nat} {w : World} {H : Hp} {xs : List Ent} {o : HO} {x : Ent} (e0 : H D = some (DnO w D xs)) (h : RowsAt p wd H x) : RowsAt p wd (upd H D o) x := by
  obtain ⟨L, us, g, a, b, c, d, e, f⟩ := h
  refine ⟨L, us, g, a, b, ?_, d, paired_mono (fun _ _ z => z.keep (keep_upd e0)) e, f⟩
  rw [upd_ne (ne_of c e0 (by intro z; cases z))]
  exact c
theorem paired_sn {α β : Type} {R : α → β → Prop} {a : α} {b : β} (h : R a b) : ∀ {xs : List α} {ys : List β}, Paired R xs ys → Paired R (xs ++ [a]) (ys ++ [b])
  | _, _, .nil => .cons h .nil
  | _, _, .cons x r => .cons x (paired_sn h r)
theorem paired_ap {α β : Type} {R : α → β → Prop} {zs : List α} {ws : List β} (h : Paired R zs ws) : ∀ {xs : List α} {ys : List β}, Paired R xs ys → Paired R (xs ++ zs) (ys ++ ws)
  | _, _, .nil => h
  | _, _, .cons x r => .cons x (paired_ap h r)
theorem paired_unsn {α β : Type} {R : α → β → Prop} {b : β} : ∀ {ys : List β} {xs : List α}, Paired R xs (ys ++ [b]) → ∃ xs0 a, xs = xs0 ++ [a] ∧ Paired R xs0 ys ∧ R a b
  | [], _, .cons h .nil => ⟨[], _, rfl, .nil, h⟩
  | _ :: ys, _, .cons h r => by
    obtain ⟨xs0, a, rfl, h1, h2⟩ := paired_unsn r
    exact ⟨_ :: xs0, a, rfl, .cons h h1, h2⟩
def spSpans (P0 : Addr) : Sp := fun vs H Q _ => ∃ (p : Addr) (n : Nat), vs = [.ref p] ∧ Hand H p n ∧ n ≤ 40000 ∧ LamX.TabS H P0 lamQ ∧
  ∀ (T : Addr) (us : List V) (gs : List Grp) (H' : Hp), H' T = some (.tup us) → Paired (SpanV H') us (flatG gs) → gs.length ≤ 14 → (gs.map (·.1)).Nodup → (∀ g ∈ gs, GrpOk g) → H T = none → Hand H' p (n + 500) → LamX.TabS H' P0 lamQ → But2 p P0 H H' → Q (.ref T) H'
section
variable {P : Program} {w : World} {K : PySem.W.Frag} {mg : Str → Option Value} {base : Heap}
variable {f fT fO fW fR c0 P0 : Addr} {fd fdT fdO fdW fdR : FuncData}
theorem ok_spans (F : FunC K "_law_spans" "_law_spans" sSpans f fd c0) (TB : LamX.TabB base mg c0 P0)
    (GT : FnOk P w K mg base CX0 1 fT fdT ["_law_hand_here", "_law_many"] spTake) (bT : Binds K fdT ["_law_hand_here", "_law_many"] []) (kT : PySem.W.keepIn K (.ref fT) = true) (mT : mg "_law_take" = some (.ref fT))
    (GO : FnOk P w K mg base CX0 2 fO fdO ["_law_hand_here", "_law_some"] spOf) (bO : Binds K fdO ["_law_hand_here", "_law_some"] []) (kO : PySem.W.keepIn K (.ref fO) = true) (mO : mg "_law_of" = some (.ref fO))
    (GW : FnOk P w K mg base CX0 3 fW fdW ["_law_hand_here", "_law_many"] spWords) (bW : Binds K fdW ["_law_hand_here", "_law_many"] []) (kW : PySem.W.keepIn K (.ref fW) = true) (mW : mg "_law_words" = some (.ref fW))
    (GR : FnOk P w K mg base CX0 2 fR fdR ["_law_row"] spRank) (bR : Binds K fdR ["_law_row"] []) (kR : PySem.W.keepIn K (.ref fR) = true) (mR : mg "_law_rank" = some (.ref fR))
    (mr : mg "range" = none) (mt : mg "tuple" = none) (mi : mg "int" = none) (ms : mg "sorted" = none) : FnOk P w K mg base CX0 6 f fd ["_law_hand_here"] (spSpans P0) := by
  refine F.ok scSpans (fun vs H Q E h => ?_) (fun A outer s H vs Q E hr h => ?_)
  · obtain ⟨p, n, rfl, _⟩ := h
    rfl
  obtain ⟨p, n, rfl, hU, n4, hT0, qq⟩ := h
  have hr1 : Room 1 _ := hr.mono (by decide)
  have hr2 : Room 2 _ := hr.mono (by decide)
  have hr3 : Room 3 _ := hr.mono (by decide)
  have hr4 : Room 4 _ := hr.mono (by decide)
  have hu : (A.deeper (PyProof.Rows.envOfC "_law_spans" (defScope sSpans) s.heap.objs.size f (Value.ref c0))).units + 16 < cLine := Nat.lt_of_le_of_lt (Nat.add_le_add_left (by decide) _) hr.units
  have hL : ∀ (st : List Env) (A' : Around) (z : Shared) (G : Hp) (g' c' : Addr), Room 2 (A'.deeper (PyProof.Rows.envOfC lamQ (lamS lamX) z.heap.objs.size g' (.ref c'))) → PE (cxOf CX0 P w K mg base ["_law_one"] lamQ (lamS lamX) g' (.ref c') A' st z G E0) (lamB lamX) (tCall spRank [] E0 (tCons (tVar 0) tNil)) := fun st A' z G g' c' hrl => pe_call GR hrl (by rfl) mR kR bR .nil pass0 (pa_cons (pv 0) pa_nil)
  refine ⟨_, (pss_cons (ps_asg (pe_tup (pa_cons (pe_op op_cat (pe_call GW hr3 (by rfl) mW kW bW .nil pass0 (pa_cons (pv 0) (pa_cons pe_int pa_nil))) (pe_lst (pa_cons pe_non (pa_cons pe_int (pa_cons pe_int (pa_cons (pe_un un_neg pe_int) (pa_cons (pe_op op_sub (pe_op op_pow pe_int pe_int) pe_int) pa_nil))))))) (pa_cons pe_nnew (pa_cons (pe_op op_add pe_int (pe_call GT hr1 (by rfl) mT kT bT .nil pass0 (pa_cons (pv 0) (pa_cons pe_int pa_nil)))) pa_nil)))) (pg_tup (by rfl) (pgs_cons (pg_name (i := 1) scSpans.nd rfl (.inr rfl)) (pgs_cons (pg_name (i := 2) scSpans.nd rfl (.inl rfl)) (pgs_cons (pg_name (i := 3) scSpans.nd rfl (.inl rfl)) pgs_nil)))))
    (pss_cons (ps_for PassesOwn.never rfl (pi_range1 (by rfl) mr (pa_cons (pe_call GO hr2 (by rfl) mO kO bO .nil pass0 (pa_cons (pv 0) (pa_cons (pe_lst (pa_cons pe_int (pa_cons pe_int (pa_cons pe_int (pa_cons pe_int (pa_cons pe_int (pa_cons pe_int (pa_cons pe_int pa_nil)))))))) pa_nil))) pa_nil)) (pg_name (i := 4) scSpans.nd rfl (.inl rfl))
      (pss_cons (ps_set (i := 5) scSpans.nd rfl (Or.inl rfl) (pe_callTy call_tuple_of (by rfl) mt (by decide +kernel) (pa_cons (pe_lc (own := [("_law_j", 12)]) (g := gName 12) (by rfl) scSpans.nd (pi_range1 (by rfl) mr (pa_cons (pv 3) pa_nil)) (blkOk_by (own := [("_law_j", 12)]) (N := spansN) (sc := defScope sSpans) (by decide +kernel)) (fun _ _ _ _ _ => pg_name (i := 12) scSpans.nd rfl (Or.inl rfl)) (fun _ _ _ _ _ => pts_nil) (fun _ _ _ _ _ => (pe_call GO hr2 (by rfl) mO kO bO .nil pass0 (pa_cons (pv 0) (pa_cons (pv 1) pa_nil))))) pa_nil)))
      (pss_cons (ps_par3 (by rfl) scSpans.nd (i := 6) (j := 7) (l := 8) rfl rfl rfl (by decide) (by decide) (by decide) rfl rfl rfl (pa_cons (pe_call GO hr2 (by rfl) mO kO bO .nil pass0 (pa_cons (pv 0) (pa_cons (pe_lst (pa_cons pe_int (pa_cons pe_int (pa_cons pe_int (pa_cons (pe_op op_pow pe_int pe_int) pa_nil))))) pa_nil))) (pa_cons pe_int (pa_cons (pe_lst pa_nil) pa_nil))) (by rfl))
      (pss_cons (ps_for PassesOwn.never rfl (pi_range1 (by rfl) mr (pa_cons (pe_op op_add pe_int (pe_call GT hr1 (by rfl) mT kT bT .nil pass0 (pa_cons (pv 0) (pa_cons pe_int pa_nil)))) pa_nil)) (pg_name (i := 9) scSpans.nd rfl (.inl rfl))
        (pss_cons (ps_set (i := 7) scSpans.nd rfl (Or.inl rfl) (pe_op op_add (pe_op op_add (pv 7) (pe_call GT hr1 (by rfl) mT kT bT .nil pass0 (pa_cons (pv 0) (pa_cons (pv 6) pa_nil)))) (pe_callTy call_int1 (by rfl) mi (by decide +kernel) (pa_cons (pe_cmpR op_gt (pv 9) pe_int (nomark _)) pa_nil))))
        (pss_cons (ps_set (i := 10) scSpans.nd rfl (Or.inl rfl) (pe_op op_add (pe_op op_add (pv 7) pe_int) (pe_call GT hr1 (by rfl) mT kT bT .nil pass0 (pa_cons (pv 0) (pa_cons (pv 6) pa_nil)))))
        (pss_cons (ps_expr (pe_bm PySem.F.plainAttrs_list PySem.F.slot_list_append PySem.F.type_list_append mt_append (pv 8) (pa_cons (pe_tup (pa_cons (pv 5) (pa_cons (pv 7) (pa_cons (pv 10) pa_nil)))) pa_nil)))
        (pss_one (ps_set (i := 7) scSpans.nd rfl (Or.inl rfl) (pv 10)))))))
      (pss_cons (ps_if (pt_cmpR op_eq (pe_call GT hr1 (by rfl) mT kT bT .nil pass0 (pa_cons (pv 0) (pa_cons pe_int pa_nil))) pe_int (nomark _)) (pss_one (ps_asg (pe_tup (pa_cons (pv 5) (pa_cons (pe_ix ix_tup (pe_ix ix_list (pv 8) (pe_un un_neg pe_int) (fun _ _ => rfl)) pe_int (fun _ _ => rfl)) (pa_cons pe_non pa_nil)))) (pg_sub (pv 8) (pe_un un_neg pe_int) set_list))) pss_nil)
      (pss_one (ps_nput hu (pv 2) (pv 5) (pv 8) rfl)))))))
    (pss_cons (ps_set (i := 11) scSpans.nd rfl (Or.inl rfl) (pe_lst pa_nil))
    (pss_cons (ps_for PassesOwn.never rfl (pi_list (pe_callBK (cr_sortLamN (β := List NestedKey) (enc := fun ks => .tup (ks.map rankT)) (k := 2) (q := lamQ) (p1 := "_law_one") (N := ["_law_one"]) (params := lamA lamX) (body := lamB lamX) (scope := lamS lamX) (t := tCall spRank [] E0 (tCons (tVar 0) tNil)) rfl scLam (fun _ _ _ _ => rfl) hr4 (fun A' z G g' c' hrl => hL _ A' z G g' c' hrl)) (by rfl) ms (by decide +kernel) (pa_cons (pv 2) pa_nil) (pk_cons (pe_lam (q := lamQ) (params := lamA lamX) (body := lamB lamX) (scope := lamS lamX) TB rfl (by show (Str.ofString "_law_spans" ++ Str.ofString ".<locals>.") ++ Str.ofString "<lambda>" = lamQ; decide +kernel) rfl (by decide +kernel)) pk_nil))) (pg_name (i := 5) scSpans.nd rfl (.inl rfl))
      (pss_one (ps_expr (pe_bm PySem.F.plainAttrs_list PySem.F.slot_list_extend PySem.F.type_list_extend mt_extend (pv 11) (pa_cons (pe_nget hu (pv 2) (pv 5) (fun _ _ => rfl)) pa_nil)))))
    (pss_one (ps_ret (pe_callTy call_tuple_of (by rfl) mt (by decide +kernel) (pa_cons (pv 11) pa_nil)))))))), ?_⟩
  refine ⟨_, rfl, p, 2, n, rfl, by decide, hU, by omega, fun L ys H1 nL hL ly wd nd hU1 sb1 => ?_⟩
  refine ⟨_, rfl, _, _, rfl, rfl, ⟨by decide, by decide, by decide⟩, _, _, rfl, rfl, ?_⟩
  refine ⟨(by rw [sizeLine_eq]; simp), fun Z nZ => ?_⟩
  have gZ := same_new nZ (.lst [.non, .int 0, .int 1, .int (-5), .int (10 ^ 18 - 1)])
  refine ⟨L, Z, _, _, rfl, rfl, gZ _ _ hL, upd_same, (by rw [List.length_map, ly, sizeLine_eq]; simp), fun M nM => ?_⟩
  have gM := same_new nM (.lst (ys.map V.str ++ [.non, .int 0, .int 1, .int (-5), .int (10 ^ 18 - 1)]))
  refine fun D nD => ?_
  have gD := same_new nD (DnO w D [])
  have hU2 := ((hU1.same gZ).same gM).same gD
  have nMp := (hU1.same gZ).ne_none nM
  have nDp := ((hU1.same gZ).same gM).ne_none nD
  refine ⟨_, rfl, p, 3, n + 12 * 2, rfl, hU2, by omega, by decide, by decide, fun wv H3 w0 w1 hU3 sb3 => ?_⟩
  refine ⟨_, _, rfl, rfl, (by rw [sizeLine_eq]; simp), fun t0 n0 => ?_⟩
  refine ⟨t0, _, rfl, SqT.of upd_same, rfl, _, _, rfl, _, _, rfl, _, _, rfl, rfl, ?_⟩
  have g0 := same_new n0 (.tup [.ref M, .ref D, .int (1 + wv)])
  obtain ⟨things, tl, tk, hM⟩ : ∃ things : List V, things.length = 7 ∧ (∀ x ∈ things, ∃ k, ThV x k) ∧ H3 M = some (.lst things) := by
    refine ⟨_, ?_, fun x hx => ?_, sb3 _ _ nMp (gD _ _ upd_same)⟩
    · rw [List.length_append, List.length_map, ly]; rfl
    · rcases List.mem_append.mp hx with hx | hx
      · obtain ⟨y, _, rfl⟩ := List.mem_map.mp hx
        exact ⟨_, .str y⟩
      · simp only [List.mem_cons, List.mem_nil_iff, or_false] at hx
        rcases hx with rfl | rfl | rfl | rfl | rfl
        · exact ⟨_, .non⟩
        all_goals exact ⟨_, .int _⟩
  have hD3 : H3 D = some (DnO w D []) := sb3 _ _ nDp upd_same
  have sbA : But p H H3 := (sb1.trans (But.of ((gZ.trans gM).trans gD))).trans sb3
  have nD0 : H D = none := none_but (sb1.trans (But.of (gZ.trans gM))) nDp nD
  clear gD gM gZ hU2 sb3
  -- how many rows
  refine ⟨_, rfl, (by rw [sizeLine_eq]; simp), fun B nB => ?_⟩
  have gB := same_new nB (.lst [.int 0, .int 1, .int 2, .int 3, .int 4, .int 6, .int 14])
  have hU4 := (hU3.same g0).same gB
  refine .inl ⟨p, B, _, n + 12 * 2 + 1, rfl, upd_same, (hU3.same g0).ne_none nB, by simp, by simp, hU4, by omega, fun v H5 hv hU5 sb5 => ?_⟩
  obtain ⟨m, rfl, m14⟩ : ∃ m : Nat, v = .int (m : Int) ∧ m ≤ 14 := by
    simp only [List.mem_cons, List.mem_nil_iff, or_false] at hv
    rcases hv with rfl | rfl | rfl | rfl | rfl | rfl | rfl
    · exact ⟨0, rfl, by decide⟩
    · exact ⟨1, rfl, by decide⟩
    · exact ⟨2, rfl, by decide⟩
    · exact ⟨3, rfl, by decide⟩
    · exact ⟨4, rfl, by decide⟩
    · exact ⟨6, rfl, by decide⟩
    · exact ⟨14, rfl, by decide⟩
  have sb05 : But p H3 H5 := (But.of (g0.trans gB)).trans sb5
  refine ⟨(m : Int), rfl, by omega, by omega, ?_⟩
  refine for_range (lo := 0) (n := ((m : Nat) : Int).toNat) (fun i σ' H1 => ∃ (v4 v5 v6 v7 v8 v9 v10 v11 v12 : Option V) (xs : List Ent), σ' = [some (.ref p), some (.ref M), some (.ref D), some (.int (1 + wv)), v4, v5, v6, v7, v8, v9, v10, v11, v12] ∧ Dn w H1 D xs ∧ (∀ x ∈ xs, RowsAt p (1 + wv).toNat H1 x) ∧ (xs.map (·.1)).Nodup ∧ xs.length ≤ i ∧ Hand H1 p (n + 26 + 20 * i) ∧ But p H H1 ∧ H1 M = some (.lst things))
    ⟨none, none, none, none, none, none, none, none, none, [], rfl, Dn.nil (sb05 _ _ nDp hD3), (fun x hx => nomatch hx), List.nodup_nil, Nat.le_refl _, hU5.mono (by omega), sbA.trans sb05, sb05 _ _ nMp hM⟩ ?_ ?_
  · rintro k σ' H6 hk ⟨v4, v5, v6, v7, v8, v9, v10, v11, v12, xs, rfl, hD6, rows6, nd6, len6, hU6, sb6, hM6⟩
    have k14 : k < 14 := by omega
    -- a row
    refine ⟨_, rfl, 1 + wv, rfl, by omega, by omega, fun Zr nZr => ?_⟩
    have nZp := hU6.ne_none nZr
    have gZr := same_new nZr (.lst [])
    refine lc_range (lo := 0) (n := (1 + wv).toNat) (fun j H7 => ∃ (us : List V) (ks : List NestedKey), H7 Zr = some (.lst us) ∧ Paired ThV us ks ∧ us.length = j ∧ Hand H7 p (n + 26 + 20 * k + j) ∧ But p H6 H7)
      ⟨[], [], upd_same, .nil, rfl, hU6.same gZr, But.of gZr⟩ ?_ ?_
    · rintro j H7 hj ⟨us, ks, hZ7, hth, lu, hU7, sb7⟩
      refine ⟨rfl, ?_⟩
      refine ⟨_, rfl, _, rfl, .inl ⟨p, M, things, n + 26 + 20 * k + j, rfl, sb7 _ _ nMp hM6, nMp, by omega, by omega, hU7, by omega, fun v H8 hv hU8 sb8 => ?_⟩⟩
      obtain ⟨kk, hkk⟩ := tk v hv
      refine ⟨us, sb8 _ _ nZp hZ7, small1000 (by omega), us ++ [v], ks ++ [kk], upd_same, paired_sn hkk hth, by rw [List.length_append, lu]; rfl, hU8.upd nZp, (sb7.trans sb8).upd nZr⟩
    rintro H7 ⟨us, ks, hZ7, hth, lu, hU7, sb7⟩
    refine ⟨Zr, us, rfl, .inl ⟨SqL.of hZ7, fun r nr => ?_⟩⟩
    have gr := same_new nr (.tup us)
    have hU8 := hU7.same gr
    have sb68 : But p H6 _ := sb7.trans (But.of gr)
    -- how far, from where, its list
    refine ⟨_, rfl, _, _, rfl, rfl, ⟨by decide, by decide, by decide⟩, (by rw [sizeLine_eq]; simp), fun F nF => ?_⟩
    have gF := same_new nF (.lst [.int 4, .int 4, .int 9, .int (10 ^ 10)])
    refine .inl ⟨p, F, _, n + 26 + 20 * k + 3, rfl, upd_same, hU8.ne_none nF, by simp, by simp, (hU8.same gF).mono (by omega), by omega, fun v H9 hv hU9 sb9 => ?_⟩
    obtain ⟨fr, rfl, fr1, fr2⟩ : ∃ fr : Int, v = .int fr ∧ 4 ≤ fr ∧ fr ≤ 10 ^ 10 := by
      simp only [List.mem_cons, List.mem_nil_iff, or_false] at hv
      rcases hv with rfl | rfl | rfl | rfl
      · exact ⟨4, rfl, by decide, by decide⟩
      · exact ⟨4, rfl, by decide, by decide⟩
      · exact ⟨9, rfl, by decide, by decide⟩
      · exact ⟨10 ^ 10, rfl, by decide, by decide⟩
    refine ⟨(by show 0 ≤ sizeLine; decide), fun R nR => ?_⟩
    refine ⟨_, _, _, rfl, ?_⟩
    have gR := same_new nR (.lst [])
    have nRp := hU9.ne_none nR
    have nrp := hU7.ne_none nr
    have sb69 : But p H6 (upd H9 R (.lst [])) := ((sb68.trans (But.of gF)).trans sb9).trans (But.of gR)
    have nR6 : H6 R = none := none_but ((sb68.trans (But.of gF)).trans sb9) nRp nR
    have hr9 : (upd H9 R (.lst [])) r = some (.tup us) := gR _ _ (sb9 _ _ nrp (gF _ _ upd_same))
    have hU10 := hU9.same gR
    have hRe : (upd H9 R (.lst [])) R = some (.lst []) := upd_same
    obtain ⟨H10, eH10⟩ : ∃ H10, H10 = upd H9 R (.lst []) := ⟨_, rfl⟩
    rw [← eH10] at sb69 hr9 hU10 hRe ⊢
    clear gR gF eH10 gr gZr
    have lks : ks.length = (1 + wv).toNat := by rw [← lu, Paired.length hth]
    refine ⟨_, rfl, p, 4, n + 26 + 20 * k + 3 + 1, rfl, hU10, by omega, by decide, by decide, fun tv H11 t0 t1 hU11 sb11 => ?_⟩
    refine ⟨_, _, rfl, rfl, 1 + tv, rfl, by omega, by omega, ?_⟩
    refine for_range (lo := 0) (n := (1 + tv).toNat) (fun i σ' H1 => ∃ (v4 v9 v10 v11 v12 : Option V) (lo : Int) (bs : List V) (ss : List (Int × Int)), σ' = [some (.ref p), some (.ref M), some (.ref D), some (.int (1 + wv)), v4, some (.ref r), some (.int fr), some (.int lo), some (.ref R), v9, v10, v11, v12] ∧ H1 R = some (.lst bs) ∧ Paired (SpanV H1) bs (grpS (ks, ss)) ∧ ss.length = i ∧ (∀ s ∈ ss, s.2 ≤ 10 ^ 11) ∧ 0 ≤ lo ∧ lo ≤ i * (2 * 10 ^ 10 + 2) ∧ Hand H1 p (n + 26 + 20 * k + 3 + 2 + 2 * i) ∧ But p H6 H1 ∧ H1 r = some (.tup us))
      ⟨_, _, _, _, _, 0, [], [], rfl, sb11 _ _ nRp hRe, .nil, rfl, (fun s hs => nomatch hs), Int.le_refl _, by omega, hU11, sb69.trans sb11, sb11 _ _ nrp hr9⟩ ?_ ?_
    · rintro i σ' H12 hi ⟨v4, v9, v10, v11, v12, lo, bs, ss, rfl, hR12, hP12, ls, shut, lo0, lo1, hU12, sb12, hr12⟩
      have i4 : i < 4 := by omega
      refine ⟨_, rfl, _, rfl, _, rfl, p, fr, _, rfl, hU12, by omega, by omega, by omega, fun a H13 a0 a1 hU13 sb13 => ?_⟩
      refine ⟨_, _, rfl, rfl, _, rfl, _, _, rfl, rfl, .inr ⟨_, rfl, _, _, rfl, rfl, ?_⟩⟩
      have flg : ∀ c : Bool, 0 ≤ (if c = true then (1 : Int) else 0) ∧ (if c = true then (1 : Int) else 0) ≤ 1 := fun c => by cases c <;> decide
      have f01 := flg (decide ((0 : Int) < 0 + (i : Int)))
      obtain ⟨fl, hfl⟩ : ∃ fl : Int, (if decide ((0 : Int) < 0 + (i : Int)) = true then (1 : Int) else 0) = fl := ⟨_, rfl⟩
      rw [hfl] at f01
      show gName 7 (V.int (lo + a + (if decide ((0 : Int) < 0 + (i : Int)) = true then (1 : Int) else 0))) _ _ _
      rw [hfl]
      refine ⟨_, rfl, _, _, rfl, rfl, _, rfl, _, rfl, p, fr, _, rfl, hU13, by omega, by omega, by omega, fun b H14 b0 b1 hU14 sb14 => ?_⟩
      refine ⟨_, _, rfl, rfl, ?_⟩
      have sb1214 := sb13.trans sb14
      have hR14 := sb1214 _ _ nRp hR12
      refine ⟨_, rfl, .inl ⟨rfl, _, SqL.of hR14⟩, _, rfl, _, rfl, _, rfl, (by rw [sizeLine_eq]; simp), fun t nt => ?_⟩
      have gt := same_new nt (.tup [.ref r, .int (lo + a + fl), .int (lo + a + fl + 1 + b)])
      have hR15 := gt _ _ hR14
      have lbs : bs.length = i := by rw [Paired.length hP12, ← ls]; exact List.length_map _
      refine ⟨R, bs, .ref t, rfl, rfl, hR15, small1000 (by omega), ?_⟩
      refine ⟨_, rfl, ?_⟩
      have ilo : (i : Int) ≤ 3 := by omega
      have kR : Keep _ (upd (upd H14 t (.tup [.ref r, .int (lo + a + fl), .int (lo + a + fl + 1 + b)])) R (.lst (bs ++ [.ref t]))) := fun c zs hc => by
        rw [upd_ne (ne_of hc hR15 (by intro z; cases z))]
        exact hc
      have kall := (keep_but hU12 sb1214).trans ((Keep.of gt).trans kR)
      have nRr : R ≠ r := fun z => by rw [z, hr12] at hR12; cases hR12
      refine ⟨_, _, _, _, _, lo + a + fl + 1 + b, bs ++ [.ref t], ss ++ [(lo + a + fl, lo + a + fl + 1 + b)], rfl, upd_same, ?_, by rw [List.length_append, ls]; rfl, fun s hs => ?_, by omega, by omega, ?_, ?_, ?_⟩
      · unfold grpS
        rw [List.map_append]
        refine paired_sn ⟨⟨by show 0 ≤ lo + a + fl; omega, by show lo + a + fl ≤ 10 ^ 11; omega, by show lo + a + fl < lo + a + fl + 1 + b; omega, .inl (by show lo + a + fl + 1 + b ≤ 10 ^ 11; omega), by show ks.length ≤ 4; omega⟩, t, r, us, rfl, ?_, kall _ _ hr12, hth⟩ (paired_mono (fun _ _ z => z.keep kall) hP12)
        show _ = some (HO.tup [.ref r, .int (lo + a + fl), endV (lo + a + fl + 1 + b)])
        rw [end_shut (by omega)]
        exact kR _ _ upd_same
      · rcases List.mem_append.mp hs with hs | hs
        · exact shut s hs
        · rw [List.mem_singleton.mp hs]
          show lo + a + fl + 1 + b ≤ 10 ^ 11
          omega
      · exact ((hU14.same gt).upd nRp).mono (by omega)
      · exact ((sb12.trans sb1214).trans (But.of gt)).upd nR6
      · rw [upd_ne (Ne.symm nRr)]
        exact gt _ _ (sb1214 _ _ nrp hr12)
    · rintro σ' H12 ⟨v4, v9, v10, v11, v12, lo, bs, ss, rfl, hR12, hP12, ls, shut, lo0, lo1, hU12, sb12, hr12⟩
      dsimp only
      have lf : ∀ k ∈ ks, ∀ js, k ≠ .tup js := th_leaf hth
      have ssl : ss.length ≤ 4 := by omega
      have ss0 : 0 < ss.length := by omega
      refine Sqc.seq_cut (fun σ2 H2 => ∃ (v4 v9 v10 v11 v12 : Option V) (lo : Int) (bs : List V) (g : Grp), σ2 = [some (.ref p), some (.ref M), some (.ref D), some (.int (1 + wv)), v4, some (.ref r), some (.int fr), some (.int lo), some (.ref R), v9, v10, v11, v12] ∧ H2 R = some (.lst bs) ∧ Paired (SpanV H2) bs (grpS g) ∧ g.1 = ks ∧ GrpOk g ∧ Hand H2 p (n + 26 + 20 * k + 14) ∧ But p H6 H2 ∧ H2 r = some (.tup us)) (fun go => ?_) ?_
      · refine ⟨_, rfl, p, 3, _, rfl, hU12, by omega, by decide, by decide, fun c H13 c0 c1 hU13 sb13 => ⟨rfl, _, rfl, ?_⟩⟩
        have hR13 := sb13 _ _ nRp hR12
        have hP13 := paired_mono (fun _ _ z => z.keep (keep_but hU12 sb13)) hP12
        have hr13 := sb13 _ _ nrp hr12
        by_cases c00 : c = 0
        · refine tt2 (decide_eq_true (by rw [c00])) ?_
          obtain ⟨s1, sl, rfl⟩ : ∃ s1 sl, ss = s1 ++ [sl] := ⟨ss.dropLast, ss.getLast (List.ne_nil_of_length_pos ss0), (List.dropLast_concat_getLast _).symm⟩
          have eg : grpS (ks, s1 ++ [sl]) = grpS (ks, s1) ++ [(ks, sl)] := by unfold grpS; rw [List.map_append]; rfl
          rw [eg] at hP13
          obtain ⟨bs0, vl, rfl, hP0, okl, al, rl, xl, rfl, hal, hrl, hthl⟩ := paired_unsn hP13
          refine ⟨_, rfl, _, rfl, _, rfl, R, _, _, _, rfl, rfl, SqL.of hR13, atI_last bs0 (.ref al), al, _, _, _, rfl, rfl, SqT.of hal, rfl, (by rw [sizeLine_eq]; simp), fun t nt => ?_⟩
          have gt := same_new nt (.tup [.ref r, .int sl.1, .non])
          have hR14 := gt _ _ hR13
          refine ⟨_, rfl, _, rfl, R, _, _, bs0.length, rfl, rfl, hR14, ?_, ?_⟩
          · unfold ixN
            rw [List.length_append, List.length_singleton]
            rw [if_neg (by omega), if_pos (by omega)]
            congr 1
            omega
          have st : (bs0 ++ [V.ref al]).set bs0.length (.ref t) = bs0 ++ [.ref t] := by
            rw [List.set_append_right _ _ (Nat.le_refl _), Nat.sub_self]
            rfl
          rw [st]
          have kR : Keep _ (upd (upd H13 t (.tup [.ref r, .int sl.1, .non])) R (.lst (bs0 ++ [.ref t]))) := fun b zs hb => by
            rw [upd_ne (ne_of hb hR14 (by intro z; cases z))]
            exact hb
          have kk := (Keep.of gt).trans kR
          have nRr : R ≠ r := fun z => by rw [z, hr13] at hR13; cases hR13
          have le := shut sl (List.mem_append.mpr (.inr (List.mem_singleton_self _)))
          refine go _ _ ⟨_, _, _, _, _, lo, bs0 ++ [.ref t], (ks, s1 ++ [(sl.1, 10 ^ 12 + 1)]), rfl, upd_same, ?_, rfl, ⟨by simp, ?_, fun s hs => ?_, by show ks.length ≤ 4; omega, by show 0 < ks.length; omega, lf⟩, ((hU13.same gt).upd nRp).mono (by omega), ((sb12.trans sb13).trans (But.of gt)).upd nR6, ?_⟩
          · have eg2 : grpS (ks, s1 ++ [(sl.1, 10 ^ 12 + 1)]) = grpS (ks, s1) ++ [(ks, (sl.1, 10 ^ 12 + 1))] := by unfold grpS; rw [List.map_append]; rfl
            rw [eg2]
            refine paired_sn ⟨⟨okl.lo0, okl.lo1, ?_, .inr rfl, okl.wide⟩, t, r, us, rfl, ?_, kk _ _ hr13, hth⟩ (paired_mono (fun _ _ z => z.keep kk) hP0)
            · have h := okl.lo1
              show sl.1 < 10 ^ 12 + 1
              have h' : sl.1 ≤ 10 ^ 11 := h
              omega
            · show _ = some (HO.tup [.ref r, .int sl.1, endV (10 ^ 12 + 1)])
              rw [end_open]
              exact kR _ _ upd_same
          · have := ssl
            simp only [List.length_append, List.length_cons, List.length_nil] at this ⊢
            exact this
          · have hs' : s ∈ s1 := by
              have e : (s1 ++ [(sl.1, (10 : Int) ^ 12 + 1)]).dropLast = s1 := List.dropLast_concat
              rw [← e]
              exact hs
            exact shut s (List.mem_append.mpr (.inl hs'))
          · rw [upd_ne (Ne.symm nRr)]
            exact gt _ _ hr13
        · refine ff2 (decide_eq_false fun z => c00 (V.int.inj z)) ?_
          exact go _ _ ⟨_, _, _, _, _, lo, bs, (ks, ss), rfl, hR13, hP13, rfl, ⟨ss0, ssl, fun s hs => shut s ((List.dropLast_sublist _).subset hs), by show ks.length ≤ 4; omega, by show 0 < ks.length; omega, lf⟩, hU13.mono (by omega), sb12.trans sb13, hr13⟩
      · rintro σ2 H13 ⟨v4, v9, v10, v11, v12, lo, bs, g, rfl, hR13, hP13, egk, okg, hU13, sb13, hr13⟩
        refine ⟨_, rfl, _, rfl, _, rfl, ?_⟩
        have hD13 := hD6.keep (keep_but hU6 sb13) ((sb13 _ _ nDp hD6.1).trans hD6.1.symm)
        have hkey : KeyV H13 (.tup ks) (.ref r) := .tup hr13 (keysV_of hth)
        refine ⟨D, xs, .tup ks, r, rfl, hD13, rfl, hkey, row_depth lf, small1000 (by omega), ?_⟩
        refine ⟨_, _, _, _, _, _, _, _, _, putN xs (.tup ks) r (.ref R), rfl, Dn.put hD13 hkey, fun x hx => ?_, ?_, ?_, (hU13.upd nDp).mono (by omega), ?_, ?_⟩
        · refine RowsAt.put hD13.1 ?_
          rcases putN_cases hx with hx | ⟨e1, e2⟩
          · exact RowsAt.but hU6 sb13 (rows6 x hx)
          · exact ⟨R, bs, g, by rw [e1, egk], e2, hR13, nRp, hP13, okg, by rw [egk, lks]⟩
        · rw [putN_keys]
          cases c : valN xs (.tup ks) with
          | some _ => exact nd6
          | none => exact nodup_snoc nd6 (valN_none c)
        · have := putN_len (xs := xs) (.tup ks) r (.ref R)
          omega
        · intro b o hb e
          have e6 := (sb6.trans sb13) b o hb e
          rw [upd_ne (fun z => ?_)]
          · exact e6
          · subst z
            rw [nD0] at e
            cases e
        · rw [upd_ne (ne_of (sb13 _ _ nMp hM6) hD13.1 (by intro z; cases z))]
          exact sb13 _ _ nMp hM6
  · rintro σ' H6 ⟨v4, v5, v6, v7, v8, v9, v10, v11, v12, xs, rfl, hD6, rows6, nd6, len6, hU6, sb6, hM6⟩
    refine ⟨(by show 0 ≤ sizeLine; decide), fun T nT => ?_⟩
    have gT := same_new nT (.lst [])
    have nTp := hU6.ne_none nT
    have hT7 : (upd H6 T (.lst [])) T = some (.lst []) := upd_same
    have hU7 := hU6.same gT
    have hD7 := hD6.same gT
    have rows7 : ∀ x ∈ xs, RowsAt p (1 + wv).toNat (upd H6 T (.lst [])) x := fun x hx => (rows6 x hx).same gT
    have sb7 : But p H (upd H6 T (.lst [])) := sb6.trans (But.of gT)
    have nT0 : H T = none := none_but sb6 nTp nT
    have dT : ∀ x ∈ xs, x.2.2 ≠ .ref T := fun x hx z => by
      obtain ⟨L, us, g, a, b, c, _⟩ := rows6 x hx
      rw [b] at z
      cases z
      rw [nT] at c
      cases c
    obtain ⟨H7, eH7⟩ : ∃ H7, H7 = upd H6 T (.lst []) := ⟨_, rfl⟩
    have tabs7 := tabs_but hU hT0 sb7
    rw [← eH7] at hT7 hU7 hD7 rows7 sb7 tabs7 ⊢
    clear eH7 gT
    refine ⟨_, rfl, tabs7, fun fl c' pm ctv H8 nfl keep8 tabs8 hfl hc' => ?_⟩
    obtain ⟨ps7, hP7, _⟩ := tabs7
    obtain ⟨hg, hs, hc, hp7, _⟩ := id hU7
    have pP : p ≠ P0 := fun z => by rw [z, hP7] at hp7; cases hp7
    have TP : T ≠ P0 := fun z => by rw [z, hP7] at hT7; cases hT7
    have k78 : Keep H7 H8 := fun b zs hb => keep8 b _ (fun z => by rw [z, hP7] at hb; cases hb) hb
    have hD8 := hD7.keep k78 ((keep8 _ _ (fun z => by have h := hD7.1; rw [z, hP7] at h; cases h) hD7.1).trans hD7.1.symm)
    have rows8 : ∀ x ∈ xs, RowsAt p (1 + wv).toNat H8 x := fun x hx => by
      obtain ⟨L, us, g, a, b, c, d, e, f⟩ := rows7 x hx
      exact ⟨L, us, g, a, b, keep8 _ _ (fun z => by rw [z, hP7] at c; cases c) c, d, paired_mono (fun _ _ z => z.keep k78) e, f⟩
    have sb8 : But2 p P0 H H8 := fun b o h1 h2 e => keep8 b o h2 (sb7 b o h1 e)
    have hT8 := keep8 _ _ TP hT7
    have hU8 : Hand H8 p (n + 306) := by
      obtain ⟨g', s', c2, a, b⟩ := hU7.mono (show n + 26 + 20 * ((m : Nat) : Int).toNat ≤ n + 306 by omega)
      exact ⟨g', s', c2, keep8 _ _ pP a, b⟩
    clear keep8 hU7 hD7 rows7 sb7 hT7 hp7 hP7 k78 rows6 hD6 hM6 sb6
    have rk : ∀ x ∈ xs, ∃ us, x.1 = .tup (keyL x) ∧ H8 x.2.1 = some (.tup us) ∧ Paired ThV us (keyL x) ∧ (keyL x).length ≤ 4 ∧ 0 < (keyL x).length := fun x hx => by
      obtain ⟨L, us, g, a, b, c, d, e, ok, f⟩ := rows8 x hx
      have ek : keyL x = g.1 := by unfold keyL; rw [a]
      have hk := hD8.2 x hx
      rw [a] at hk
      cases hk with
      | tup h1 h2 =>
        rw [ek]
        exact ⟨_, a, h1, th_of h2 ok.leaf, ok.wide, ok.pos⟩
    have hlf : ∀ b ∈ xs.map keyL, (∀ k ∈ b, ∀ js, k ≠ .tup js) ∧ 0 < b.length := fun b hb => by
      obtain ⟨x, hx, rfl⟩ := List.mem_map.mp hb
      obtain ⟨us, a, h1, h2, h3, h4⟩ := rk x hx
      exact ⟨th_leaf h2, h4⟩
    refine ⟨D, xs, xs.map keyL, fun v b => ∃ x ∈ xs, v = .ref x.2.1 ∧ keyL x = b, .ref fl, rfl, rfl, ⟨fl, c', pm, ctv, rfl, hfl, hc'⟩, hD8, paired_two (fun x hx => ⟨x, hx, rfl, rfl⟩), keys_ok (fun b hb => (hlf b hb).1) (fun b hb => (hlf b hb).2), ?_, ?_⟩
    · rintro v b ⟨x, hx, rfl, rfl⟩ hb G sG Q' hQ'
      obtain ⟨us, a, h1, h2, h3, h4⟩ := rk x hx
      have := Paired.length h2
      exact ⟨_, rfl, x.2.1, us, keyL x, rfl, sG _ _ h1, h2, by omega, fun R' H' s hk => hQ' _ _ s hk⟩
    intro zs S H9 sG9 nS hS hys
    obtain ⟨sbs, hsbs⟩ : ∃ sbs, sbs = (xs.map keyL).mergeSort (leK encR) := ⟨_, rfl⟩
    rw [← hsbs] at hys
    have perm : sbs.Perm (xs.map keyL) := hsbs ▸ List.mergeSort_perm _ _
    have lsb : sbs.length = xs.length := by rw [perm.length_eq, List.length_map]
    have lzs : zs.length = xs.length := by rw [Paired.length hys, lsb]
    have ndk : (xs.map keyL).Nodup := by
      have h : (xs.map keyL).map NestedKey.tup = xs.map (·.1) := by
        rw [List.map_map]
        refine List.map_congr_left fun x hx => ?_
        obtain ⟨us, a, _⟩ := rk x hx
        exact a.symm
      rw [← h] at nd6
      exact (List.pairwise_map.mp nd6).imp fun h z => h (by rw [z])
    have nd : sbs.Nodup := perm.nodup_iff.mpr ndk
    have hT9 := sG9 _ _ hT8
    refine ⟨S, rfl, ⟨_, SqL.of hS⟩, for_list (K := K) (a := S) (xs := zs) (fun i σ' H1 => ∃ (v4 v5 v6 v7 v8 v9 v10 v12 : Option V) (us : List V) (gs : List Grp), σ' = [some (.ref p), some (.ref M), some (.ref D), some (.int (1 + wv)), v4, v5, v6, v7, v8, v9, v10, some (.ref T), v12] ∧ H1 T = some (.lst us) ∧ Paired (SpanV H1) us (flatG gs) ∧ gs.map (·.1) = sbs.take i ∧ (∀ g ∈ gs, GrpOk g) ∧ us.length ≤ 4 * i ∧ But T H9 H1)
      ⟨_, _, _, _, _, _, _, _, [], [], rfl, hT9, .nil, rfl, (fun g hg => nomatch hg), Nat.le_refl _, But.of (Same.refl _)⟩ (fun i σ' H1 _ ⟨_, _, _, _, _, _, _, _, _, _, _, _, _, _, _, _, s1⟩ => SqL.of (s1 _ _ (ne_of_none hT8 nS).symm hS)) ?_ ?_⟩
    · rintro i v σ' H1 hi ⟨v4, v5, v6, v7, v8, v9, v10, v12, us, gs, rfl, hT1, hP1, hgs, okgs, lus, s1⟩
      obtain ⟨b, hb, x, hx, rfl, ek⟩ := paired_at hys hi
      obtain ⟨L, vs', g, e1, e2, hL8, nLp, hP8, okg, _⟩ := rows8 x hx
      have nLT : L ≠ T := fun z => dT x hx (by rw [e2, z])
      have k19 := keep_butT hT9 s1
      have hL1 := s1 _ _ nLT (sG9 _ _ hL8)
      have nDT : D ≠ T := fun z => by have h := hD8.1; rw [z, hT8] at h; cases h
      have hD9 := hD8.same sG9
      have hD1 := hD9.keep k19 ((s1 _ _ nDT hD9.1).trans hD9.1.symm)
      have lvs := Paired.length hP8
      have lg : (grpS g).length = g.2.length := List.length_map _
      have l4 := okg.few
      have i14 : i < 14 := by
        have := (List.getElem?_eq_some_iff.mp hi).1
        omega
      have egb : g.1 = b := by
        rw [← ek]
        unfold keyL
        rw [e1]
      refine ⟨_, rfl, .inl ⟨rfl, _, SqL.of hT1⟩, _, rfl, _, rfl, D, xs, x.1, x.2.1, x.2.2, rfl, hD1, rfl, hD1.2 x hx, valN_mem nd6 x hx, T, L, us, vs', rfl, by rw [e2], hT1, hL1, by rw [sizeLine_eq]; omega, ?_⟩
      have kT : Keep _ (upd H1 T (.lst (us ++ vs'))) := fun c ws hc => by
        rw [upd_ne (ne_of hc hT1 (by intro z; cases z))]
        exact hc
      refine ⟨_, _, _, _, _, _, _, _, us ++ vs', gs ++ [g], rfl, upd_same, ?_, ?_, fun g' hg' => ?_, by rw [List.length_append]; omega, fun c o hc e => ?_⟩
      · unfold flatG
        rw [List.flatMap_append]
        show Paired _ _ (_ ++ List.flatMap grpS [g])
        rw [show List.flatMap grpS [g] = grpS g from by simp]
        exact paired_ap (paired_mono (fun _ _ z => z.keep (((Keep.of sG9).trans k19).trans kT)) hP8) (paired_mono (fun _ _ z => z.keep kT) hP1)
      · rw [List.map_append, hgs, List.take_add_one, hb]
        show _ ++ [g.1] = _ ++ [b]
        rw [egb]
      · rcases List.mem_append.mp hg' with h | h
        · exact okgs g' h
        · rw [List.mem_singleton.mp h]
          exact okg
      · rw [upd_ne hc]
        exact s1 c o hc e
    · rintro σ' H1 ⟨v4, v5, v6, v7, v8, v9, v10, v12, us, gs, rfl, hT1, hP1, hgs, okgs, lus, s1⟩
      rw [lzs, ← lsb, List.take_length] at hgs
      refine ⟨_, rfl, T, us, rfl, .inl ⟨SqL.of hT1, fun T2 nT2 => ?_⟩⟩
      have g2 := same_new nT2 (.tup us)
      have nTp' : p ≠ T := Ne.symm nTp
      have hU1 : Hand H1 p (n + 306) := by
        obtain ⟨g', s', c2, a, b⟩ := hU8.same sG9
        exact ⟨g', s', c2, s1 _ _ nTp' a, b⟩
      have tabs1 : LamX.TabS H1 P0 lamQ := tabs_lst hT9 (LamX.TabS.ext tabs8 sG9) s1
      have b1 : But2 p P0 H H1 := fun b o h1 h2 e => s1 b o (fun z => by rw [z, nT0] at e; cases e) (sG9 _ _ (sb8 b o h1 h2 e))
      have n2p : T2 ≠ p := hU1.ne_none nT2
      have n2P : T2 ≠ P0 := fun z => by
        obtain ⟨ps, h, _⟩ := tabs1
        rw [z, h] at nT2
        cases nT2
      have nT20 : H T2 = none := by
        cases e : H T2 with
        | none => rfl
        | some o =>
          rw [b1 _ _ n2p n2P e] at nT2
          cases nT2
      have lgs : gs.length = sbs.length := by rw [← hgs, List.length_map]
      exact qq T2 us gs _ upd_same (paired_mono (fun _ _ z => z.keep (Keep.of g2)) hP1) (by omega) (hgs ▸ nd) okgs nT20 ((hU1.same g2).mono (by omega)) (LamX.TabS.ext tabs1 g2) (fun b o h1 h2 e => g2 _ _ (b1 b o h1 h2 e))
end
end Q64
/-! set(a list of numbers), and sorted of such a set, whatever its size below the scan's bound. -/
namespace L2
namespace SetL
open PySem PySem.Spec PyProof.Rows
/-- a set as it is born -/
abbrev born (w : World) : Obj := { cls := .type "set", dict := none, data := .set #[] 0 (.fresh 0 0 (!w.params.followText "set-order")) }
section
variable {P : Program} {w : World} {A : Around} {E : Value → Shared → Prop} {s : Shared} {l : Addr} {items : Array Value}
theorem set_of_list (ns : List Int) {Q : Value → Shared → Prop} (hh : A.handled = none) (hl : s.heap.IsList l items) (hit : IntsAre items.toList ns) (hb : ns.length + 1 < scanBound)
    (h : ∀ (h' : Heap) (tk c : Nat), SetR w h' s.heap.objs.size (fun j => decide (j ∈ ns)) c → c ≤ ns.length → (∀ b o, s.heap.get? b = some o → h'.get? b = some o) → Q (.ref s.heap.objs.size) { s with heap := h', toks := tk }) :
    wpAny (model P w) A (call (.type "set") [.ref l]) Q E s := by
  have many : items.size = ns.length := by
    rw [← Array.length_toList]
    exact IntsAre.length hit
  obtain ⟨c, tl, hmro⟩ := F.called_set.mro
  have hmade := F.called_set.made
  have hsub := F.called_set.sub
  refine wpAny_call (codeAny_of_tree ?_)
  show wpAny _ _ (callAny (.type "set") _) _ _ _
  refine wpAny_pure ⟨Code.quiet_builtin _ (by decide +kernel), codeAny_builtin F.entry_type_call ?_⟩
  rw [Around.under_plain (weight_type_call_type "set" [.ref l] []) rfl]
  have h1 := F.called_set.notType
  have h2 := F.called_set.canCreate
  have hct := F.typeCall_set_1 (.ref l)
  repeat (any_goals (first | assumption | wp_step))
  refine codeAny_mono (code_set_led1 (.ref l) (E := E) (Q₁ := fun obj s1 => obj = .ref s.heap.objs.size ∧ s1 = { s with heap := s.heap.push (born w) }) ⟨rfl, rfl⟩) fun r s1 hr => ?_
  cases r with
  | error e => exact hr
  | ok fl =>
    cases fl with
    | next => exact hr.elim
    | brk => exact hr.elim
    | cont => exact hr.elim
    | ret obj =>
      obtain ⟨rfl, rfl⟩ := hr
      have hS : (s.heap.push (born w)).get? s.heap.objs.size = some (born w) := Heap.get?_push_size _ rfl
      have hT : Shared.TypeIs { s with heap := s.heap.push (born w) } (.ref s.heap.objs.size) "set" := ⟨_, hS, rfl⟩
      have hli := F.called_set.init.lookup
      have hbi := F.called_set.init.bind (.ref s.heap.objs.size)
      repeat (any_goals (first | assumption | wp_step))
      refine codeAny_mono (codeAny_call_builtin (R := wants (fun r s2 => r = .none ∧ ∃ h' tk c, s2 = { s with heap := h', toks := tk } ∧ SetR w h' s.heap.objs.size (fun j => decide (j ∈ ns)) c ∧ c ≤ ns.length ∧
          (∀ b o, s.heap.get? b = some o → h'.get? b = some o)) E) F.called_set.init.plain F.entry_set_init (check_set_init_1 hT ?_)) fun r2 s2 hr2 => ?_
      · obtain ⟨ol, hol, hcl, nl, hdl⟩ := hl
        obtain ⟨ocls, odict, odata, oslots⟩ := ol
        simp only at hcl hdl
        subst hcl
        subst hdl
        have hol' : (s.heap.push (born w)).get? l = some { cls := .type "list", dict := odict, data := .seq items nl, slots := oslots } := Heap.get?_push_of_some _ hol
        have hsls := F.sub_list_set
        have hslf := F.sub_list_frozenset
        have hne : (Value.type "list" == Value.type "dict") = false := by decide
        have hl1 : (s.heap.push (born w)).IsList l items := ⟨_, hol', rfl, nl, rfl⟩
        unfold Builtin.«set.__init__» noKeywords Builtin.Frozenset.updateFrom
        generalize hPI : pyIter = PI
        wp_walk
        subst hPI
        refine wpAny_pyIter_list hl1 ?_
        refine wpAny_bind (wpAny_runValue ?_)
        have hlS : l < s.heap.objs.size := Heap.lt_size hol
        have hh3 : A.in1.in1.in1.handled = none := by simp [hh]
        have sz1 : (s.heap.push (born w)).objs.size = s.heap.objs.size + 1 := Heap.size_push ..
        have apart : l ≠ (s.heap.push (born w)).objs.size := by
          rw [sz1]
          exact Nat.ne_of_lt (Nat.lt_succ_of_lt hlS)
        have notin : s.heap.objs.size ∉ [(s.heap.push (born w)).objs.size, l] := by
          rw [sz1]
          simp only [List.mem_cons, List.not_mem_nil, or_false, not_or]
          exact ⟨Nat.ne_of_lt (Nat.lt_succ_self _), Nat.ne_of_gt hlS⟩
        have hval : ∀ (i : Nat) (v : Value), items[i]? = some v → ∃ k t, ns[i]? = some k ∧ v = .int k t := fun i v hv => by
          have hi : i < ns.length := by rw [← many]; exact (Array.getElem?_eq_some_iff.mp hv).1
          obtain ⟨t, e⟩ := PyProof.Rows.IntsAre.int_at hit i v (by rw [Array.getElem?_toList]; exact hv)
          refine ⟨ns[i], t, List.getElem?_eq_getElem hi, ?_⟩
          rw [e, List.getD_eq_getElem?_getD, List.getElem?_eq_getElem hi] <;> rfl
        refine set_update_ints ((Walks.list hh3 _ l apart items).toS) s.heap.objs.size notin ns many hb hval (items.size - 0) 0 _ (by omega) (Nat.zero_le _) ⟨⟨_, Heap.get?_push_size _ rfl, rfl, rfl⟩, (hl1.push _)⟩ ?hS0 ?hR
        case hS0 => exact ⟨0, Nat.le_refl 0, setR_new_at (Heap.get?_push_of_some _ hS)⟩
        case hR =>
          intro s' c' hm hc' hS'
          obtain ⟨h', g2, d', tk', os'⟩ := s'
          obtain rfl : g2 = s.gens := hm.gens
          obtain rfl : d' = s.drawn := hm.drawn
          obtain rfl : os' = s.os := hm.os
          show wpAny _ _ _ _ _ _
          refine wpAny_pure ?_
          show wpAny _ _ (ret Value.none) _ _ _
          rw [many] at hc'
          refine wpAny_pure ⟨rfl, h', tk', c', rfl, hS', hc', fun b o e => ?_⟩
          have b0 : b < s.heap.objs.size := Heap.lt_size e
          refine hm.heap b o ?_ (Heap.get?_push_of_some _ (Heap.get?_push_of_some _ e))
          rw [sz1]
          simp only [List.mem_cons, List.mem_singleton, List.not_mem_nil, or_false, not_or]
          exact ⟨Nat.ne_of_lt b0, Nat.ne_of_lt (Nat.lt_succ_of_lt b0)⟩
      · cases r2 with
        | error e => exact hr2
        | ok fl2 =>
          cases fl2 with
          | next => exact hr2.elim
          | brk => exact hr2.elim
          | cont => exact hr2.elim
          | ret r =>
            obtain ⟨rfl, h', tk, c', rfl, hS', hc', hk'⟩ := hr2
            repeat (any_goals (first | assumption | wp_step))
            exact h _ _ _ hS' hc' hk'
/-- sorted of a set of numbers -/
theorem set_sorted {a : Addr} {S : Int → Bool} {n : Nat} {Q : Value → Shared → Prop} (R : SetR w s.heap a S n) (hh : A.handled = none) (few : n ≤ 16000000)
    (hQ : ∀ s' p (out : Array Value) (c : Nat) (ns : List Int), (∀ b o, s.heap.get? b = some o → s'.heap.get? b = some o) → s'.gens = s.gens → s'.os = s.os → s.heap.objs.size ≤ p →
      s'.heap.get? p = some (seqObj "list" out c) → IntsAre out.toList ns → ns.Pairwise (· < ·) → (∀ k, k ∈ ns ↔ S k = true) → ns.length = n → Q (.ref p) s') :
    wpAny (model P w) A (call (.builtin "sorted") [.ref a]) Q E s := by
  obtain ⟨o, es, ep, t, ho, hex, hd, g, nd, hm, hb, hf, hn, hr, hl⟩ := R
  refine Calls.call_function_entry kind_sorted plain_sorted entry_sorted (args_sorted1 _) ?_
  unfold Builtin.«sorted»
  refine wpAny_bind (m := checkCount "sorted" 1 1 _) (wpAny_pure (wpAny_bind (collect_set (A := A.in1) hh ⟨o, ho, hex.1, hd⟩ hf hb hr hl fun s1 vs k1 hz g1 o1 pm => ?_)))
  have len : vs.length = n := by
    rw [pm.length_eq, List.length_map, Array.length_toList]
    exact hn
  have hI : IntsAre vs (vs.map Builtin.Re.reRawOf) := ints_of vs fun v hv => by
    obtain ⟨e, he, q⟩ := List.mem_map.mp (pm.mem_iff.mp hv)
    obtain ⟨k, tk, z, _⟩ := g e he
    exact ⟨k, tk, q.symm.trans z⟩
  have keys : (vs.map Builtin.Re.reRawOf).Perm (es.toList.map keyOf) := by
    have q := pm.map Builtin.Re.reRawOf
    rw [List.map_map] at q
    exact q
  have small : vs.length ≤ sizeLine := by
    rw [len, sizeLine_eq]
    omega
  refine wpAny_bind (wpAny_newList ?_ small)
  have here : (s1.heap.push (seqObj "list" vs.toArray 0)).get? s1.heap.objs.size = some (seqObj "list" vs.toArray 0) := Heap.get?_push_size _ rfl
  refine wpAny_bind (wpAny_holding (wpAny_call_entry slot_list_sort ⟨_, here, rfl⟩ entry_list_sort (list_sort_treeAny here hI small fun out ns' a1 a2 a3 => ⟨_, rfl, ?_⟩) (args_list_sort _)))
  obtain ⟨c, hc⟩ := sortedHeap_at (vs := vs) (out := out) here
  have pn := a2.trans keys
  refine wpAny_pure ⟨_, rfl, hQ _ s1.heap.objs.size out c ns' (fun b u e => ?_) g1 o1 hz hc a1 (lt_of_le_nodup ns' a3 (pn.nodup_iff.mpr nd)) (fun k => (pn.mem_iff).trans (by rw [← hm k])) ?_⟩
  · have old := k1 b u e
    have below := Heap.lt_size old
    show (sortedHeap (s1.heap.push (seqObj "list" vs.toArray 0)) s1.heap.objs.size vs out).get? b = some u
    rw [sortedHeap_old (Nat.ne_of_lt below) (by rw [size_push']; exact Nat.lt_succ_of_lt below)]
    exact Heap.get?_push_of_some _ old
  · rw [pn.length_eq, List.length_map, Array.length_toList]
    exact hn
end
section
variable {X : Cx}
/-- set(xs), xs a list of numbers -/
def rSetL (K : PySem.W.Frag) (w : World) : List V → Hp → VK → Prop := fun vs H Q => ∃ (a : Addr) (ns : List Int), vs = [V.ref a] ∧ SqL K H a (ns.map V.int) ∧ ns.length ≤ 4000 ∧ ∀ (p : Addr) (c : Nat), H p = none → c ≤ ns.length → Q (.ref p) (upd H p (SetO w p (fun j => decide (j ∈ ns)) c))
theorem cr_setL (hc : X.calm = true) : CallR X (.type "set") (rSetL X.K X.w) := by
  intro pins s σ H vs us Q I r h
  obtain ⟨a, ns, rfl, hS, hl, q⟩ := h
  rw [Vals.ref1 r]
  obtain ⟨its, rv, ⟨o, n, e, c1, c2, c3⟩, _⟩ := I.list hS
  refine set_of_list ns (I.ok.hd hc) (items := its.toArray) ⟨o, e, c1, n, by rw [c3]⟩ (ints_of_vals rv) (by unfold scanBound; omega) fun h' tk c R hcn k => ?_
  have hn : H s.heap.objs.size = none := I.hok.fresh (Nat.le_refl _)
  exact ⟨.ref s.heap.objs.size, _, I.laid (t' := tk) k (Nat.le_refl _) (setO_new R), rfl, q _ c hn hcn⟩
/-- sorted(such a set) -/
def rSortedAll (w : World) : List V → Hp → VK → Prop := fun vs H Q => ∃ (a : Addr) (S : Int → Bool) (n : Nat), vs = [V.ref a] ∧ H a = some (SetO w a S n) ∧ n ≤ 16000000 ∧
  ∀ (ns : List Int) (p : Addr), ns.Pairwise (· < ·) → (∀ k : Int, k ∈ ns ↔ S k = true) → ns.length = n → H p = none → Q (.ref p) (upd H p (.lst (ns.map V.int)))
theorem cr_sortedAll (hc : X.calm = true) : CallR X (.builtin "sorted") (rSortedAll X.w) := by
  intro pins s σ H vs us Q I r h
  obtain ⟨a, S, n, rfl, ha, few, q⟩ := h
  rw [Vals.ref1 r]
  refine set_sorted (setO_get I ha) (I.ok.hd hc) few fun s' p out c ns k g o hp hg hi hs hm hl => ?_
  have small : (ns.map V.int).length ≤ sizeLine := by
    rw [List.length_map, hl, sizeLine_eq]
    omega
  have hn : H p = none := I.hok.fresh hp
  have J : Inv X pins σ (upd H p (.lst (ns.map V.int))) s' := I.call' (ch := []) o (Un.laid k hp hn) (I.hok.laid k hp ⟨small, out.toList, c, vals_of_ints hi, hg⟩) (by rw [g]; exact I.bare) (fun _ z => nomatch z)
  exact ⟨.ref p, _, J, rfl, q ns p hs hm hl hn⟩
end
end SetL
end L2
/-! enumerate of a tuple: an iterator of the hand layer -/
namespace EnT
open PySem PySem.Spec PyProof.Rows L2
def ItT (K : PySem.W.Frag) (a : Addr) : It where
  go := fun n G => ∃ (zs : List V) (z : V), SqT K G a zs ∧ zs[n]? = some z
  yld := fun n G y G' => ∃ T z, y = .ref T ∧ G T = none ∧ G' = upd G T (.tup [.int (n : Nat), z]) ∧ ∀ zs, SqT K G a zs → zs[n]? = some z
  stop := fun n G => ∃ zs : List V, SqT K G a zs ∧ zs.length = n
theorem new1 {v : Value} {ob : Obj} {S : Heap → Prop} (B : Begins v ob S) :
    Meets (Builtin.«enumerate.__new__» ⟨[.type "enumerate", v], []⟩) (fun _ R σ => S σ.heap ∧
      R (.ok (.ret (.ref (σ.heap.push ob).objs.size))) { σ with heap := (σ.heap.push ob).push { cls := .type "enumerate", data := .fields #[.none, .bool false, .ref σ.heap.objs.size, rawInt 0, .none, .none] } }) :=
  .of_wp fun pr wo A R σ g => by
    obtain ⟨hp, gl, dd, tk, os⟩ := σ
    obtain ⟨g1, g2⟩ := g
    have hsub := sub_enumerate
    have go : ∀ {A' : Around} {E : Value → Shared → Prop} {Q : Value → Shared → Prop}, Q (.ref hp.objs.size) ⟨hp.push ob, gl, dd, tk, os⟩ → wpAny (model pr wo) A' (pyIter v) Q E ⟨hp, gl, dd, tk, os⟩ :=
      fun z => B.iter pr wo _ _ ⟨hp, gl, dd, tk, os⟩ _ g1 z
    wp_walk using go
    refine wpAny_stack_any fun zz => wpAny_pure ?_
    split
    · rename_i cc _ _ _ _ _
      cases (cc == Value.type "enumerate") <;> (wp_walk using go; exact ⟨_, rfl, g2⟩)
    · wp_walk using go
      exact ⟨_, rfl, g2⟩
theorem begins1 {pr : Program} {wo : World} {A : Around} {E : Value → Shared → Prop} {σ : Shared} {v : Value} {ob : Obj} {S : Heap → Prop} {Q : Value → Shared → Prop} (B : Begins v ob S) (g1 : S σ.heap)
    (g : ∀ h', IsEnum h' (σ.heap.objs.size + 1) σ.heap.objs.size 0 .none → h'.get? σ.heap.objs.size = some ob → (∀ b o, σ.heap.get? b = some o → h'.get? b = some o) → Q (.ref (σ.heap.objs.size + 1)) { σ with heap := h' }) :
    wpAny (model pr wo) A (call (.type "enumerate") [v]) Q E σ := by
  refine callType_new F.called_enumerate (by decide) (F.typeCall_enumerate_1 _) (F.newCall_enumerate_1 _) (fun x => F.args_object_init_2 x _) F.entry_enumerate_new (new1 B) ⟨g1, ?_⟩
  have sz : (σ.heap.push ob).objs.size = σ.heap.objs.size + 1 := Heap.size_push ..
  show _ ∧ _
  rw [sz]
  have en := Heap.get?_push_size (σ.heap.push ob) (o := { cls := .type "enumerate", data := .fields #[.none, .bool false, .ref σ.heap.objs.size, rawInt 0, .none, .none] }) rfl
  rw [sz] at en
  exact ⟨⟨_, en, rfl⟩, g _ en (Heap.get?_push_of_some _ (Heap.get?_push_size _ B.free)) fun b o z => Heap.get?_push_of_some _ (Heap.get?_push_of_some _ z)⟩
theorem two {b c d : Addr} {P : Addr → Prop} (hb : b ∈ [c, d]) (h1 : P c) (h2 : P d) : P b := by
  rcases List.mem_cons.mp hb with z | z
  · exact z ▸ h1
  · rw [List.mem_singleton.mp z]
    exact h2
theorem turnT {pr : Program} {wo : World} {K : PySem.W.Frag} {elts : List Expr} {kk : Nat} {tp : Pos} (a en it : Addr) (n1 : en ≠ it) (n2 : a ≠ it) (n3 : a ≠ en) :
    Turn pr wo K (.Tuple elts kk tp) (ItT K a) [en, it] en (fun n h => (∃ old, IsEnum h en it ((n : Nat) : Int) old) ∧ h.IsTupleIter it a n) where
  mem := by simp
  obj := fun n h st b hb => by
    obtain ⟨⟨old, e1⟩, ⟨o, e2, _, e3⟩⟩ := st
    exact two (P := fun b => ∃ o, h.get? b = some o ∧ ∀ v, o.data ≠ Data.cell v) hb ⟨_, e1, fun v z => nomatch z⟩ ⟨o, e2, fun v z => by rw [e3] at z; cases z⟩
  keep := fun n h h' st k => ⟨⟨_, k en (by simp) _ st.1.choose_spec⟩, st.2.at fun o z => k it (by simp) o z⟩
  item := by
    intro X hP hw hK hc n pins s σ H E I hf st hg
    subst hP hw hK
    obtain ⟨⟨old, e1⟩, e2⟩ := st
    obtain ⟨zs, z, hq, hz⟩ := hg
    obtain ⟨its, rv, tu, _⟩ := I.tuple hq
    obtain ⟨u, hu, ru⟩ := rv.get hz
    have l1 : en < s.heap.objs.size := Heap.lt_size e1
    have l2 : it < s.heap.objs.size := by obtain ⟨_, g, _⟩ := e2; exact Heap.lt_size g
    have hn : n < its.toArray.size := by
      have := (List.getElem?_eq_some_iff.mp hu).1
      simpa using this
    refine wpAny_pyNext_enum_itemD (Draws.tuple (A := X.A.in1) (I.ok.hd hc) it a n2 its.toArray) e1 ⟨e2, tu⟩ hn n1 (by simp [n1, Ne.symm n3]) fun x h' tk hx ho hst hT hsz hk => ?_
    have xu : x = u := by
      rw [show its.toArray[n]? = some u by simpa using hu] at hx
      exact (Option.some.inj hx).symm
    subst xu
    refine ⟨_, rfl, wpAny_letOwnedTupleGo_enum (s := { s with heap := h', toks := tk + 1 }) ho fun h2 ee sb => ?_⟩
    have hT2 : h2.get? s.heap.objs.size = some { cls := .type "tuple", data := .seq #[.int n tk, x] } := (sb.2 _ (Nat.ne_of_gt l1)).trans hT
    have fresh_ : ObjOk X.prog X.w (upd H s.heap.objs.size (.tup [.int (n : Nat), z])) h2 s.heap.objs.size (.tup [.int (n : Nat), z]) :=
      ⟨by show 2 ≤ sizeLine; decide, [.int n tk, x], .cons ⟨_, rfl⟩ (.cons ru .nil), ⟨_, hT2, rfl, _, rfl⟩⟩
    have J : Inv X pins σ (upd H s.heap.objs.size (.tup [.int (n : Nat), z])) { s with heap := h2, toks := tk + 1 } :=
      I.turnedNew (ch := [en, it]) (fun b ob hb y => (sb.2 b (fun c => hb (by simp [c]))).trans (hk b ob (fun c => hb (by simp [c])) (fun c => hb (by simp [c])) y)) hf (Nat.le_refl _) fresh_
    refine ⟨.ref s.heap.objs.size, _, J, rfl, ⟨_, z, rfl, I.hok.fresh (Nat.le_refl _), rfl, fun ys hy => by rw [I.tuple_inj hy hq]; exact hz⟩, ⟨⟨x, ?_⟩, hst.1.at fun o g => (sb.2 it (Ne.symm n1)).trans g⟩, fun b hb => ?_⟩
    · rw [show ((n + 1 : Nat) : Int) = (n : Int) + 1 by omega]
      exact ee
    · rw [upd_ne (Nat.ne_of_lt (two (P := fun c => c < s.heap.objs.size) hb l1 l2))]
      exact (hf b hb).1
  done := by
    intro X hP hw hK hc n pins s σ H E I hf st hg
    subst hP hw hK
    obtain ⟨⟨old, e1⟩, e2⟩ := st
    obtain ⟨zs, hq, hz⟩ := hg
    obtain ⟨its, rv, tu, _⟩ := I.tuple hq
    obtain ⟨f0, f1, f2, f3, f4, f5⟩ := hf it (by simp)
    have l1 : its.toArray.size = n := by
      have := rv.length
      simp
      omega
    refine wpAny_pyNext_enum_endD (n := its.toArray.size) (Draws.tuple (A := X.A.in1) (I.ok.hd hc) it a n2 its.toArray) e1 ⟨by rw [l1]; exact e2, tu⟩ fun h' eb => ⟨rfl, I.turned (t' := s.toks) (fun b o hb g => eb b o hb g) f0 f1 f3 f4 f5⟩
  self := fun A n s Q E st h => wpAny_pyIter_enum st.1.choose_spec h
def iEnT (K : PySem.W.Frag) (ta : TA) : TI := fun σ H R => ta σ H fun vs H1 => ∃ a zs, vs = [.ref a] ∧ SqT K H1 a zs ∧ R (ItT K a) H1
theorem pi_enT {X : Cx} {x : Expr} {ta : TA} {p q r : Pos} {elts : List Expr} {kk : Nat} (hg : Gl X "enumerate") (hm : X.mg "enumerate" = none) (ha : PA X [x] ta) (hs : starEach [x] X.env = [(false, eval x X.env)] := by rfl) :
    PI X (.Tuple elts kk r) (.Call (.Name "enumerate" p) [x] [] q) (iEnT X.K ta) := by
  refine ⟨fun pins s σ H R I h => ?_⟩
  refine Call_ (ld_blt I hg hm boot_enumerate (PyProof.Rows.callWith_type1 (thn (ha.run q pins s σ H _ I h) fun us s1 ⟨vs, H1, I1, r1, q1⟩ => ?_) hs rfl))
  obtain ⟨a, zs, rfl, hq, q1⟩ := q1
  cases r1 with
  | cons u rr =>
    cases rr
    cases u
    obtain ⟨its, rv, tu, _⟩ := I1.tuple hq
    have la : a < s1.heap.objs.size := by obtain ⟨o, g, _⟩ := id tu; exact Heap.lt_size g
    refine begins1 (begins_tuple a its.toArray) tu fun h' e1 e2 hk => wpAny_pyIter_enum e1 ?_
    have J : Inv X pins σ H1 { s1 with heap := h' } := I1.kept (t' := s1.toks) hk
    refine ⟨s1.heap.objs.size + 1, [s1.heap.objs.size + 1, s1.heap.objs.size], _, _, H1, rfl, J, turnT a (s1.heap.objs.size + 1) s1.heap.objs.size (Nat.succ_ne_self _) (Nat.ne_of_lt la) (Nat.ne_of_lt (Nat.lt_succ_of_lt la)), ⟨⟨.none, e1⟩, ⟨_, e2, rfl, rfl⟩⟩, fun b hb => ?_, q1⟩
    have le : s1.heap.objs.size ≤ b := two (P := fun c => s1.heap.objs.size ≤ c) hb (Nat.le_succ _) (Nat.le_refl _)
    exact I1.fpOk le (I1.hok.fresh le)
theorem walk_enT {K : PySem.W.Frag} {a : Addr} {xs : List V} : Walk (ItT K a) xs.length (fun H => SqT K H a xs) (YPair (fun i => some (.int (i : Nat))) (fun i => xs[i]?)) where
  goes := fun i H hi h => ⟨xs, xs[i], h, List.getElem?_eq_getElem hi⟩
  stops := fun H h => ⟨xs, h, rfl⟩
  yields := fun i H x H' hi h y => by
    obtain ⟨T, z, e1, e2, e3, e4⟩ := y
    exact ⟨T, _, z, e1, e2, e3, rfl, e4 xs h⟩
end EnT
namespace Ln
open PySem L2
/-! ### pieces that rise; cut to a span; joined -/
def Rise (ps : List Pt) : Prop := (∀ p ∈ ps, p.lo < p.e) ∧ ps.Pairwise fun x y => x.e ≤ y.lo
theorem down_of : ∀ {l : List Pt}, (∀ q ∈ l, q.lo < q.e) → (l.Pairwise fun x y => y.e ≤ x.lo) → Down l
  | [], _, _ => trivial
  | q :: r, h, hp => ⟨h q (List.mem_cons_self ..), (List.pairwise_cons.mp hp).1, down_of (fun x hx => h x (List.mem_cons_of_mem _ hx)) (List.pairwise_cons.mp hp).2⟩
theorem rise_up {ps : List Pt} (h : Rise ps) : Up ps := by
  refine down_of (fun q hq => h.1 q (List.mem_reverse.mp hq)) ?_
  rw [List.pairwise_reverse]
  exact h.2
theorem up_rise {ps : List Pt} (h : Up ps) : Rise ps := ⟨up_each h, up_pair h⟩
def clipP (a b : Int) (p : Pt) : Option Pt := if max p.lo a < min p.e b then some ⟨max p.lo a, min p.e b, p.v, p.r⟩ else none
def clip (a b : Int) (qs : List Pt) : List Pt := qs.filterMap (clipP a b)
theorem clipP_some {a b : Int} {p x : Pt} (h : clipP a b p = some x) : x.lo = max p.lo a ∧ x.e = min p.e b ∧ x.v = p.v ∧ x.r = p.r ∧ x.lo < x.e := by
  unfold clipP at h
  split at h
  · next c =>
    cases h
    exact ⟨rfl, rfl, rfl, rfl, c⟩
  · cases h
theorem clip_mem {a b : Int} {qs : List Pt} {x : Pt} (h : x ∈ clip a b qs) : ∃ p ∈ qs, clipP a b p = some x := List.mem_filterMap.mp h
theorem clip_rise {a b : Int} : ∀ {qs : List Pt}, Rise qs → Rise (clip a b qs)
  | [], _ => ⟨fun p hp => (nomatch hp), .nil⟩
  | q :: r, h => by
    have hr : Rise r := ⟨fun x hx => h.1 x (List.mem_cons_of_mem _ hx), (List.pairwise_cons.mp h.2).2⟩
    have ih := clip_rise (a := a) (b := b) hr
    unfold clip
    rw [List.filterMap_cons]
    cases hc : clipP a b q with
    | none => exact ih
    | some x =>
      obtain ⟨e1, e2, _, _, e5⟩ := clipP_some hc
      refine ⟨fun p hp => ?_, List.pairwise_cons.mpr ⟨fun y hy => ?_, ih.2⟩⟩
      · rcases List.mem_cons.mp hp with rfl | hp
        · exact e5
        · exact ih.1 p hp
      · obtain ⟨p, hp, hpy⟩ := clip_mem hy
        obtain ⟨f1, f2, _, _, f5⟩ := clipP_some hpy
        have := (List.pairwise_cons.mp h.2).1 p hp
        omega
/-- what rising pieces tell of a day -/
theorem text_cases {ps : List Pt} (h : Rise ps) (d : Int) : (∃ p ∈ ps, (p.lo ≤ d ∧ d < p.e) ∧ textAt ps.reverse d = p.r) ∨ ((∀ p ∈ ps, ¬ (p.lo ≤ d ∧ d < p.e)) ∧ textAt ps.reverse d = nonR) := by
  by_cases c : ∃ p ∈ ps, cov p d = true
  · obtain ⟨p, hp, hc⟩ := c
    exact .inl ⟨p, hp, cov_true.mp hc, text_of (rise_up h) hp hc⟩
  · refine .inr ⟨fun p hp z => c ⟨p, hp, cov_true.mpr z⟩, text_none fun p hp => ?_⟩
    rw [← Bool.not_eq_true]
    exact fun z => c ⟨p, hp, z⟩
theorem text_at {ps : List Pt} (h : Rise ps) {d : Int} {p : Pt} (hp : p ∈ ps) (h1 : p.lo ≤ d) (h2 : d < p.e) : textAt ps.reverse d = p.r := text_of (rise_up h) hp (cov_true.mpr ⟨h1, h2⟩)
theorem text_no {ps : List Pt} {d : Int} (h : ∀ p ∈ ps, ¬ (p.lo ≤ d ∧ d < p.e)) : textAt ps.reverse d = nonR := text_none fun p hp => cov_false.mpr (h p hp)
theorem clip_text {a b : Int} {qs : List Pt} (h : Rise qs) (d : Int) : textAt (clip a b qs).reverse d = if a ≤ d ∧ d < b then textAt qs.reverse d else nonR := by
  have hc := clip_rise (a := a) (b := b) h
  by_cases c : a ≤ d ∧ d < b
  · rw [if_pos c]
    rcases text_cases h d with ⟨p, hp, z, e⟩ | ⟨no, e⟩
    · have hx : clipP a b p = some ⟨max p.lo a, min p.e b, p.v, p.r⟩ := by
        unfold clipP
        rw [if_pos (by omega)]
      rw [e]
      exact text_at hc (p := ⟨max p.lo a, min p.e b, p.v, p.r⟩) (List.mem_filterMap.mpr ⟨p, hp, hx⟩) (by dsimp only; omega) (by dsimp only; omega)
    · rw [e]
      refine text_no fun x hx z => ?_
      obtain ⟨p, hp, hpx⟩ := clip_mem hx
      obtain ⟨f1, f2, _, _, _⟩ := clipP_some hpx
      exact no p hp (by omega)
  · rw [if_neg c]
    refine text_no fun x hx z => ?_
    obtain ⟨p, hp, hpx⟩ := clip_mem hx
    obtain ⟨f1, f2, _, _, _⟩ := clipP_some hpx
    omega
theorem clip_len (a b : Int) (qs : List Pt) : (clip a b qs).length ≤ qs.length := List.length_filterMap_le ..
/-- painted: ahead, amid, behind -/
theorem paint_rise {qs amid : List Pt} {low h z : Int} {r : Str} (hq : Rise qs) (hA : ∀ p ∈ amid, p.lo = low ∧ p.e = h) (hA1 : amid.length ≤ 1) (hl : low < h) : Rise (clip 0 low qs ++ amid ++ clip h z qs) := by
  have r1 := clip_rise (a := 0) (b := low) hq
  have r2 := clip_rise (a := h) (b := z) hq
  refine ⟨fun p hp => ?_, ?_⟩
  · rcases List.mem_append.mp hp with hp | hp
    · rcases List.mem_append.mp hp with hp | hp
      · exact r1.1 p hp
      · have := hA p hp
        omega
    · exact r2.1 p hp
  · rw [List.pairwise_append, List.pairwise_append]
    refine ⟨⟨r1.2, ?_, fun x hx y hy => ?_⟩, r2.2, fun x hx y hy => ?_⟩
    · match amid, hA1 with
      | [], _ => exact .nil
      | [p], _ => exact List.pairwise_singleton ..
    · obtain ⟨p, hp, hpx⟩ := clip_mem hx
      obtain ⟨f1, f2, _, _, _⟩ := clipP_some hpx
      have := hA y hy
      omega
    · obtain ⟨p, hp, hpy⟩ := clip_mem hy
      obtain ⟨g1, g2, _, _, _⟩ := clipP_some hpy
      rcases List.mem_append.mp hx with hx | hx
      · obtain ⟨p', hp', hpx⟩ := clip_mem hx
        obtain ⟨f1, f2, _, _, _⟩ := clipP_some hpx
        omega
      · have := hA x hx
        omega
theorem paint_text {qs amid : List Pt} {low h z : Int} {r : Str} (hq : Rise qs) (hin : ∀ q ∈ qs, 0 ≤ q.lo ∧ q.e ≤ z) (hA : ∀ p ∈ amid, p.lo = low ∧ p.e = h) (hA2 : ∀ p ∈ amid, p.r = r) (hA1 : amid.length ≤ 1) (hN : amid = [] → r = nonR) (hl : low < h) (d : Int) :
    textAt (clip 0 low qs ++ amid ++ clip h z qs).reverse d = if low ≤ d ∧ d < h then r else textAt qs.reverse d := by
  have R := paint_rise (r := r) (z := z) hq hA hA1 hl
  have noA : ∀ p ∈ clip 0 low qs, ¬ (low ≤ d ∧ p.lo ≤ d ∧ d < p.e) := fun p hp c => by
    obtain ⟨p', hp', hpx⟩ := clip_mem hp
    obtain ⟨f1, f2, _, _, _⟩ := clipP_some hpx
    omega
  have noC : ∀ p ∈ clip h z qs, ¬ (d < h ∧ p.lo ≤ d ∧ d < p.e) := fun p hp c => by
    obtain ⟨p', hp', hpx⟩ := clip_mem hp
    obtain ⟨f1, f2, _, _, _⟩ := clipP_some hpx
    omega
  by_cases c : low ≤ d ∧ d < h
  · rw [if_pos c]
    match amid, hA, hA2, hA1, hN, R with
    | [], _, _, _, hN, R =>
      rw [hN rfl]
      refine text_no fun p hp w => ?_
      rcases List.mem_append.mp hp with hp | hp
      · rcases List.mem_append.mp hp with hp | hp
        · exact noA p hp ⟨c.1, w⟩
        · cases hp
      · exact noC p hp ⟨c.2, w⟩
    | [p], hA, hA2, _, _, R =>
      have e := hA p (List.mem_cons_self ..)
      rw [text_at R (p := p) (by simp) (by omega) (by omega)]
      exact hA2 p (List.mem_cons_self ..)
  · rw [if_neg c]
    rcases text_cases hq d with ⟨p, hp, w, e⟩ | ⟨no, e⟩
    · rw [e]
      have hp0 := hin p hp
      by_cases c1 : d < low
      · have hx : clipP 0 low p = some ⟨max p.lo 0, min p.e low, p.v, p.r⟩ := by
          unfold clipP
          rw [if_pos (by omega)]
        exact text_at R (p := ⟨max p.lo 0, min p.e low, p.v, p.r⟩) (List.mem_append.mpr (.inl (List.mem_append.mpr (.inl (List.mem_filterMap.mpr ⟨p, hp, hx⟩))))) (by dsimp only; omega) (by dsimp only; omega)
      · have hx : clipP h z p = some ⟨max p.lo h, min p.e z, p.v, p.r⟩ := by
          unfold clipP
          rw [if_pos (by omega)]
        exact text_at R (p := ⟨max p.lo h, min p.e z, p.v, p.r⟩) (List.mem_append.mpr (.inr (List.mem_filterMap.mpr ⟨p, hp, hx⟩))) (by dsimp only; omega) (by dsimp only; omega)
    · rw [e]
      refine text_no fun p hp w => ?_
      rcases List.mem_append.mp hp with hp | hp
      · rcases List.mem_append.mp hp with hp | hp
        · obtain ⟨p', hp', hpx⟩ := clip_mem hp
          obtain ⟨f1, f2, _, _, _⟩ := clipP_some hpx
          exact no p' hp' (by omega)
        · have := hA p hp
          omega
      · obtain ⟨p', hp', hpx⟩ := clip_mem hp
        obtain ⟨f1, f2, _, _, _⟩ := clipP_some hpx
        exact no p' hp' (by omega)
/-! ### joined: those that touch and are alike as one; the last one first -/
def joinStep (acc : List Pt) (p : Pt) : List Pt := match acc with
  | q :: rest => if q.e = p.lo ∧ q.r = p.r then ⟨q.lo, p.e, p.v, p.r⟩ :: rest else p :: q :: rest
  | [] => [p]
theorem join_step {acc : List Pt} {p : Pt} (hc : Can acc) (h1 : p.lo < p.e) (h2 : p.r ≠ nonR) (h3 : ∀ q ∈ acc, q.e ≤ p.lo) : Can (joinStep acc p) ∧ (∀ d, textAt (joinStep acc p) d = textAt (p :: acc) d) ∧ (∀ q ∈ joinStep acc p, q.e ≤ p.e) ∧ (joinStep acc p).length ≤ acc.length + 1 := by
  cases acc with
  | nil => exact ⟨⟨⟨h1, fun x hx => (nomatch hx), trivial⟩, trivial, fun q hq => by rw [List.mem_singleton.mp hq]; exact h2⟩, fun _ => rfl, fun q hq => by rw [List.mem_singleton.mp hq]; exact Int.le_refl _, Nat.le_refl _⟩
  | cons q rest =>
    have q1 := hc.down.1
    have q2 := hc.down.2.1
    have q3 := h3 q (List.mem_cons_self ..)
    unfold joinStep
    by_cases c : q.e = p.lo ∧ q.r = p.r
    · simp only [if_pos c]
      refine ⟨⟨⟨?_, q2, hc.down.2.2⟩, ?_, fun x hx => ?_⟩, fun d => ?_, fun x hx => ?_, by simp⟩
      · show q.lo < p.e
        omega
      · refine Sep.cons hc.sep.tail fun x s hx hxe => ?_
        show x.r ≠ p.r
        rw [← c.2]
        subst hx
        exact hc.sep.head hxe
      · rcases List.mem_cons.mp hx with rfl | hx
        · exact h2
        · exact hc.full x (List.mem_cons_of_mem _ hx)
      · by_cases c1 : p.lo ≤ d ∧ d < p.e
        · rw [text_head (q := p) c1.1 c1.2, text_head (q := ⟨q.lo, p.e, p.v, p.r⟩) (by dsimp only; omega) c1.2]
        · rw [text_skip c1]
          by_cases c2 : q.lo ≤ d ∧ d < q.e
          · rw [text_head c2.1 c2.2, text_head (q := ⟨q.lo, p.e, p.v, p.r⟩) c2.1 (by dsimp only; omega)]
            exact c.2.symm
          · rw [text_skip c2, text_skip (q := ⟨q.lo, p.e, p.v, p.r⟩) (by dsimp only; omega)]
      · rcases List.mem_cons.mp hx with rfl | hx
        · exact Int.le_refl _
        · have := q2 x hx
          omega
    · simp only [if_neg c]
      refine ⟨⟨⟨h1, h3, hc.down⟩, ⟨fun e z => c ⟨e, z⟩, hc.sep⟩, fun x hx => ?_⟩, fun d => by first | trivial | rfl, fun x hx => ?_, by simp⟩
      · rcases List.mem_cons.mp hx with rfl | hx
        · exact h2
        · exact hc.full x hx
      · rcases List.mem_cons.mp hx with rfl | hx
        · exact Int.le_refl _
        · have := h3 x hx
          omega
theorem text_congr {p : Pt} {a b : List Pt} {d : Int} (h : textAt a d = textAt b d) : textAt (p :: a) d = textAt (p :: b) d := by
  rw [textAt_cons, textAt_cons, h]
theorem text_app : ∀ {a b c : List Pt} {d : Int}, textAt b d = textAt c d → textAt (a ++ b) d = textAt (a ++ c) d
  | [], _, _, _, h => h
  | _ :: _, _, _, _, h => text_congr (text_app h)
theorem join_all : ∀ {ps acc : List Pt}, Can acc → Rise ps → (∀ p ∈ ps, p.r ≠ nonR) → (∀ q ∈ acc, ∀ p ∈ ps, q.e ≤ p.lo) → Can (ps.foldl joinStep acc) ∧ (∀ d, textAt (ps.foldl joinStep acc) d = textAt (ps.reverse ++ acc) d) ∧ (ps.foldl joinStep acc).length ≤ acc.length + ps.length
  | [], acc, hc, _, _, _ => ⟨hc, fun _ => rfl, Nat.le_refl _⟩
  | p :: ps, acc, hc, hr, hn, hb => by
    have hp := List.pairwise_cons.mp hr.2
    obtain ⟨s1, s2, s3, s4⟩ := join_step hc (hr.1 p (List.mem_cons_self ..)) (hn p (List.mem_cons_self ..)) fun q hq => hb q hq p (List.mem_cons_self ..)
    obtain ⟨t1, t2, t3⟩ := join_all (ps := ps) s1 ⟨fun x hx => hr.1 x (List.mem_cons_of_mem _ hx), hp.2⟩ (fun x hx => hn x (List.mem_cons_of_mem _ hx)) fun q hq x hx => by
      have := s3 q hq
      have := hp.1 x hx
      omega
    refine ⟨t1, fun d => ?_, ?_⟩
    · rw [List.foldl_cons, t2 d, List.reverse_cons, List.append_assoc]
      exact text_app (s2 d)
    · rw [List.foldl_cons, List.length_cons]
      omega
theorem join_can {ps : List Pt} (hr : Rise ps) (hn : ∀ p ∈ ps, p.r ≠ nonR) : Can (ps.foldl joinStep []) ∧ (∀ d, textAt (ps.foldl joinStep []) d = textAt ps.reverse d) ∧ (ps.foldl joinStep []).length ≤ ps.length := by
  obtain ⟨a, b, c⟩ := join_all (acc := []) ⟨trivial, trivial, fun q hq => (nomatch hq)⟩ hr hn fun q hq => (nomatch hq)
  refine ⟨a, fun d => ?_, by simpa using c⟩
  rw [b d, List.append_nil]
/-- what paints tell with one more -/
theorem atR_snoc {ps : List Pt} {p : Pt} (d : Int) : atR (ps ++ [p]) d = if p.lo ≤ d ∧ d < p.e then p.r else atR ps d := by
  unfold atR lastAt
  rw [List.reverse_append, List.reverse_singleton, List.singleton_append, List.find?_cons]
  by_cases c : p.lo ≤ d ∧ d < p.e
  · rw [if_pos c, cov_true.mpr c]
  · rw [if_neg c, cov_false.mpr c]
end Ln
namespace Ln
open PySem L2
/-! ### told lines, by pairs -/
structure CanP (l : List Pt) : Prop where
  lt : ∀ p ∈ l, p.lo < p.e
  pair : l.Pairwise fun x y => x.e ≤ y.lo ∧ (x.e = y.lo → x.r ≠ y.r)
  full : ∀ p ∈ l, p.r ≠ nonR
theorem sep_of : ∀ {l : List Pt}, (l.Pairwise fun x y => y.e = x.lo → y.r ≠ x.r) → Sep l
  | [], _ => trivial
  | [_], _ => trivial
  | q :: x :: r, h => ⟨(List.pairwise_cons.mp h).1 x (List.mem_cons_self ..), sep_of (List.pairwise_cons.mp h).2⟩
theorem of_sep : ∀ {l : List Pt}, Down l → Sep l → l.Pairwise fun x y => y.e = x.lo → y.r ≠ x.r
  | [], _, _ => .nil
  | [_], _, _ => List.pairwise_singleton ..
  | q :: x :: r, hd, hs => by
    refine List.pairwise_cons.mpr ⟨fun y hy e => ?_, of_sep hd.2.2 hs.2⟩
    rcases List.mem_cons.mp hy with rfl | hy
    · exact hs.1 e
    · have h1 := hd.2.1 x (List.mem_cons_self ..)
      have h2 := hd.2.2.1
      have h3 := hd.2.2.2.1 y hy
      omega
theorem CanP.can {l : List Pt} (h : CanP l) : Can l.reverse := by
  refine ⟨rise_up ⟨h.lt, h.pair.imp fun z => z.1⟩, sep_of ?_, fun q hq => h.full q (List.mem_reverse.mp hq)⟩
  rw [List.pairwise_reverse]
  exact h.pair.imp fun z => z.2
theorem Can.pairs {l : List Pt} (h : Can l.reverse) : CanP l := by
  refine ⟨up_each h.down, ?_, fun p hp => h.full p (List.mem_reverse.mpr hp)⟩
  have a := up_pair h.down
  have b := of_sep h.down h.sep
  rw [List.pairwise_reverse] at b
  exact a.and b
theorem CanP.rise {l : List Pt} (h : CanP l) : Rise l := ⟨h.lt, h.pair.imp fun z => z.1⟩
theorem clip_can {a b : Int} : ∀ {qs : List Pt}, CanP qs → CanP (clip a b qs)
  | [], _ => ⟨fun p hp => (nomatch hp), .nil, fun p hp => (nomatch hp)⟩
  | q :: r, h => by
    have hp := List.pairwise_cons.mp h.pair
    have ih := clip_can (a := a) (b := b) (qs := r) ⟨fun x hx => h.lt x (List.mem_cons_of_mem _ hx), hp.2, fun x hx => h.full x (List.mem_cons_of_mem _ hx)⟩
    unfold clip
    rw [List.filterMap_cons]
    cases hc : clipP a b q with
    | none => exact ih
    | some x =>
      obtain ⟨e1, e2, _, e4, e5⟩ := clipP_some hc
      refine ⟨fun p hp => ?_, List.pairwise_cons.mpr ⟨fun y hy => ?_, ih.pair⟩, fun p hp => ?_⟩
      · rcases List.mem_cons.mp hp with rfl | hp
        · exact e5
        · exact ih.lt p hp
      · obtain ⟨p, hp', hpy⟩ := clip_mem hy
        obtain ⟨f1, f2, _, f4, f5⟩ := clipP_some hpy
        have z := hp.1 p hp'
        refine ⟨by omega, fun e => ?_⟩
        rw [e4, f4]
        exact z.2 (by omega)
      · rcases List.mem_cons.mp hp with rfl | hp
        · rw [e4]
          exact h.full q (List.mem_cons_self ..)
        · exact ih.full p hp
theorem same_keys {x y : List Pt} (hx : Can x.reverse) (hy : Can y.reverse) (h : ∀ d, textAt x.reverse d = textAt y.reverse d) : x.map key = y.map key := by
  have := can_uniq hx hy h
  rw [List.map_reverse, List.map_reverse] at this
  exact List.reverse_inj.mp this
/-- how many pieces stand ahead and behind -/
theorem clip_two : ∀ {qs : List Pt} {a b z : Int}, Rise qs → a < b → (clip 0 a qs).length + (clip b z qs).length ≤ qs.length + 1
  | [], _, _, _, _, _ => by simp [clip]
  | q :: r, a, b, z, h, hab => by
    have hp := List.pairwise_cons.mp h.2
    have hr : Rise r := ⟨fun x hx => h.1 x (List.mem_cons_of_mem _ hx), hp.2⟩
    have ih := clip_two (a := a) (b := b) (z := z) hr hab
    have q0 := h.1 q (List.mem_cons_self ..)
    unfold clip at ih ⊢
    rw [List.filterMap_cons, List.filterMap_cons]
    cases c1 : clipP 0 a q with
    | none =>
      cases c2 : clipP b z q with
      | none => simp only [List.length_cons]; omega
      | some y => simp only [List.length_cons]; omega
    | some x =>
      cases c2 : clipP b z q with
      | none => simp only [List.length_cons]; omega
      | some y =>
        obtain ⟨e1, e2, _, _, e5⟩ := clipP_some c1
        obtain ⟨f1, f2, _, _, f5⟩ := clipP_some c2
        have none_ : r.filterMap (clipP 0 a) = [] := by
          rw [List.filterMap_eq_nil_iff]
          intro p hp'
          have := hp.1 p hp'
          exact if_neg (by omega)
        have l2 : (r.filterMap (clipP b z)).length ≤ r.length := List.length_filterMap_le ..
        rw [none_]
        simp only [List.length_cons, List.length_nil]
        omega
/-! ### days on which nothing is, as spans with a text of their own -/
def gapR : Str := "-"
theorem gap_ne : gapR ≠ nonR := by decide +kernel
def gapP (a b : Int) : Pt := ⟨a, b, .non, gapR⟩
/-- from beg on, to below h, between pieces that rise -/
def bareP (h : Int) : Int → List Pt → List Pt
  | beg, [] => if beg < h then [gapP beg h] else []
  | beg, p :: r => (if beg < p.lo then [gapP beg p.lo] else []) ++ bareP h p.e r
theorem bareP_from {h : Int} : ∀ {qs : List Pt} {beg : Int}, Rise qs → (∀ p ∈ qs, beg ≤ p.lo ∧ p.e ≤ h) → ∀ g ∈ bareP h beg qs, beg ≤ g.lo ∧ g.e ≤ h ∧ g.lo < g.e ∧ g.r = gapR
  | [], beg, _, _, g, hg => by
    unfold bareP at hg
    split at hg
    · rw [List.mem_singleton.mp hg]
      next c => exact ⟨Int.le_refl _, Int.le_refl _, c, rfl⟩
    · cases hg
  | p :: r, beg, hr, hb, g, hg => by
    have hp := List.pairwise_cons.mp hr.2
    have b0 := hb p (List.mem_cons_self ..)
    have l0 := hr.1 p (List.mem_cons_self ..)
    unfold bareP at hg
    rcases List.mem_append.mp hg with hg | hg
    · split at hg
      · rw [List.mem_singleton.mp hg]
        next c => exact ⟨Int.le_refl _, by show p.lo ≤ h; omega, c, rfl⟩
      · cases hg
    · have := bareP_from (beg := p.e) ⟨fun x hx => hr.1 x (List.mem_cons_of_mem _ hx), hp.2⟩ (fun x hx => ⟨hp.1 x hx, (hb x (List.mem_cons_of_mem _ hx)).2⟩) g hg
      exact ⟨by omega, this.2⟩
theorem bareP_can {h : Int} : ∀ {qs : List Pt} {beg : Int}, Rise qs → (∀ p ∈ qs, beg ≤ p.lo ∧ p.e ≤ h) → CanP (bareP h beg qs)
  | [], beg, _, _ => by
    unfold bareP
    split
    · next c => exact ⟨fun p hp => by rw [List.mem_singleton.mp hp]; exact c, List.pairwise_singleton .., fun p hp => by rw [List.mem_singleton.mp hp]; exact gap_ne⟩
    · exact ⟨fun p hp => (nomatch hp), .nil, fun p hp => (nomatch hp)⟩
  | p :: r, beg, hr, hb => by
    have hp := List.pairwise_cons.mp hr.2
    have hr' : Rise r := ⟨fun x hx => hr.1 x (List.mem_cons_of_mem _ hx), hp.2⟩
    have hb' : ∀ x ∈ r, p.e ≤ x.lo ∧ x.e ≤ h := fun x hx => ⟨hp.1 x hx, (hb x (List.mem_cons_of_mem _ hx)).2⟩
    have ih := bareP_can (beg := p.e) hr' hb'
    have fr := bareP_from (beg := p.e) hr' hb'
    have l0 := hr.1 p (List.mem_cons_self ..)
    unfold bareP
    split
    · next c =>
      refine ⟨fun x hx => ?_, ?_, fun x hx => ?_⟩
      · rcases List.mem_append.mp hx with hx | hx
        · rw [List.mem_singleton.mp hx]
          exact c
        · exact ih.lt x hx
      · rw [List.pairwise_append]
        refine ⟨List.pairwise_singleton .., ih.pair, fun x hx y hy => ?_⟩
        rw [List.mem_singleton.mp hx]
        have := fr y hy
        refine ⟨by show p.lo ≤ y.lo; omega, fun e => ?_⟩
        have e' : p.lo = y.lo := e
        omega
      · rcases List.mem_append.mp hx with hx | hx
        · rw [List.mem_singleton.mp hx]
          exact gap_ne
        · exact ih.full x hx
    · simpa using ih
theorem bareP_text {h : Int} : ∀ {qs : List Pt} {beg : Int}, Rise qs → (∀ p ∈ qs, beg ≤ p.lo ∧ p.e ≤ h) → ∀ d, textAt (bareP h beg qs).reverse d = if (beg ≤ d ∧ d < h) ∧ ∀ p ∈ qs, ¬ (p.lo ≤ d ∧ d < p.e) then gapR else nonR := by
  intro qs beg hr hb d
  have can := bareP_can hr hb
  have cover : (∃ g ∈ bareP h beg qs, g.lo ≤ d ∧ d < g.e) ↔ ((beg ≤ d ∧ d < h) ∧ ∀ p ∈ qs, ¬ (p.lo ≤ d ∧ d < p.e)) := by
    clear can
    induction qs generalizing beg with
    | nil =>
      unfold bareP
      constructor
      · rintro ⟨g, hg, h1, h2⟩
        split at hg
        · rw [List.mem_singleton.mp hg] at h1 h2
          exact ⟨⟨h1, h2⟩, fun p hp => (nomatch hp)⟩
        · cases hg
      · rintro ⟨⟨h1, h2⟩, _⟩
        rw [if_pos (by omega)]
        exact ⟨_, List.mem_cons_self .., h1, h2⟩
    | cons p r ih =>
      have hp := List.pairwise_cons.mp hr.2
      have hr' : Rise r := ⟨fun x hx => hr.1 x (List.mem_cons_of_mem _ hx), hp.2⟩
      have hb' : ∀ x ∈ r, p.e ≤ x.lo ∧ x.e ≤ h := fun x hx => ⟨hp.1 x hx, (hb x (List.mem_cons_of_mem _ hx)).2⟩
      have ih' := ih (beg := p.e) hr' hb'
      have l0 := hr.1 p (List.mem_cons_self ..)
      have b0 := hb p (List.mem_cons_self ..)
      unfold bareP
      constructor
      · rintro ⟨g, hg, h1, h2⟩
        rcases List.mem_append.mp hg with hg | hg
        · split at hg
          · rw [List.mem_singleton.mp hg] at h1 h2
            have h1' : beg ≤ d := h1
            have h2' : d < p.lo := h2
            refine ⟨by omega, fun x hx => ?_⟩
            rcases List.mem_cons.mp hx with rfl | hx
            · omega
            · have := hb' x hx
              omega
          · cases hg
        · obtain ⟨z1, z2⟩ := ih'.mp ⟨g, hg, h1, h2⟩
          refine ⟨by omega, fun x hx => ?_⟩
          rcases List.mem_cons.mp hx with rfl | hx
          · omega
          · exact z2 x hx
      · rintro ⟨⟨h1, h2⟩, h3⟩
        have n0 := h3 p (List.mem_cons_self ..)
        by_cases c : d < p.lo
        · refine ⟨gapP beg p.lo, List.mem_append.mpr (.inl ?_), h1, c⟩
          rw [if_pos (by omega)]
          exact List.mem_cons_self ..
        · obtain ⟨g, hg, z⟩ := ih'.mpr ⟨by omega, fun x hx => h3 x (List.mem_cons_of_mem _ hx)⟩
          exact ⟨g, List.mem_append.mpr (.inr hg), z⟩
  by_cases c : (beg ≤ d ∧ d < h) ∧ ∀ p ∈ qs, ¬ (p.lo ≤ d ∧ d < p.e)
  · rw [if_pos c]
    obtain ⟨g, hg, h1, h2⟩ := cover.mpr c
    rw [text_at can.rise hg h1 h2]
    exact (bareP_from hr hb g hg).2.2.2
  · rw [if_neg c]
    exact text_no fun g hg z => c (cover.mp ⟨g, hg, z⟩)
theorem bareP_len {h : Int} : ∀ {qs : List Pt} {beg : Int}, (bareP h beg qs).length ≤ qs.length + 1
  | [], _ => by
    unfold bareP
    split <;> simp
  | p :: r, _ => by
    have ih := bareP_len (h := h) (qs := r) (beg := p.e)
    unfold bareP
    rw [List.length_append, List.length_cons]
    split
    · rw [List.length_singleton]
      omega
    · rw [List.length_nil]
      omega
/-- nothing covers a day just where the text is None's -/
theorem text_iff {qs : List Pt} (hr : Rise qs) (hf : ∀ p ∈ qs, p.r ≠ nonR) (d : Int) : (∀ p ∈ qs, ¬ (p.lo ≤ d ∧ d < p.e)) ↔ textAt qs.reverse d = nonR := by
  rcases text_cases hr d with ⟨p, hp, z, e⟩ | ⟨no, e⟩
  · refine ⟨fun h => absurd z (h p hp), fun h => ?_⟩
    rw [e] at h
    exact absurd h (hf p hp)
  · exact ⟨fun _ => e, fun _ => no⟩
/-! ### the law's own walk over gaps -/
def gapsOf (ps : List Pt) : List Int → List Pt
  | a :: b :: r => (if atV ps a = .non then [gapP a b] else []) ++ gapsOf ps (b :: r)
  | _ => []
theorem gaps_from {ps : List Pt} : ∀ {ds : List Int} {a : Int}, (a :: ds).Pairwise (· < ·) → ∀ g ∈ gapsOf ps (a :: ds), a ≤ g.lo ∧ g.lo < g.e ∧ g.r = gapR
  | [], a, _, g, hg => by cases hg
  | b :: r, a, hs, g, hg => by
    have s1 := List.pairwise_cons.mp hs
    have hab := s1.1 b (List.mem_cons_self ..)
    unfold gapsOf at hg
    rcases List.mem_append.mp hg with hg | hg
    · split at hg
      · rw [List.mem_singleton.mp hg]
        exact ⟨Int.le_refl _, hab, rfl⟩
      · cases hg
    · have := gaps_from s1.2 g hg
      exact ⟨by omega, this.2⟩
theorem gaps_rise {ps : List Pt} : ∀ {ds : List Int}, ds.Pairwise (· < ·) → Rise (gapsOf ps ds)
  | [], _ => ⟨fun p hp => (nomatch hp), .nil⟩
  | [_], _ => ⟨fun p hp => (nomatch hp), .nil⟩
  | a :: b :: r, hs => by
    have s1 := List.pairwise_cons.mp hs
    have hab := s1.1 b (List.mem_cons_self ..)
    have ih := gaps_rise (ps := ps) s1.2
    unfold gapsOf
    split
    · refine ⟨fun x hx => ?_, ?_⟩
      · rcases List.mem_append.mp hx with hx | hx
        · rw [List.mem_singleton.mp hx]
          exact hab
        · exact ih.1 x hx
      · rw [List.pairwise_append]
        refine ⟨List.pairwise_singleton .., ih.2, fun x hx y hy => ?_⟩
        rw [List.mem_singleton.mp hx]
        exact (gaps_from s1.2 y hy).1
    · simpa using ih
/-- between cut days nothing changes -/
theorem gaps_text {ps : List Pt} (hpl : Plain ps) (hso : Solid ps) : ∀ {ds : List Int} {a : Int}, (a :: ds).Pairwise (· < ·) → (∀ p ∈ ps, (p.lo ≤ a ∨ p.lo ∈ ds ∨ (a :: ds).getLast (by simp) ≤ p.lo) ∧ (p.e ≤ a ∨ p.e ∈ ds ∨ (a :: ds).getLast (by simp) ≤ p.e)) → ∀ d, textAt (gapsOf ps (a :: ds)).reverse d = if (a ≤ d ∧ d < (a :: ds).getLast (by simp)) ∧ atR ps d = nonR then gapR else nonR := by
  intro ds
  induction ds with
  | nil =>
    intro a _ _ d
    rw [if_neg (by simp; omega)]
    rfl
  | cons b r ih =>
    intro a hs hm d
    have s1 := List.pairwise_cons.mp hs
    have s2 := List.pairwise_cons.mp s1.2
    have hab := s1.1 b (List.mem_cons_self ..)
    have last_ : (a :: b :: r).getLast (by simp) = (b :: r).getLast (by simp) := List.getLast_cons (by simp)
    have most := last_most r b s1.2 b (List.mem_cons_self ..)
    have between : ∀ x, (x ≤ a ∨ x ∈ b :: r ∨ (a :: b :: r).getLast (by simp) ≤ x) → x ≤ a ∨ b ≤ x := fun x hx => by
      rcases hx with h | h | h
      · exact .inl h
      · rcases List.mem_cons.mp h with rfl | h
        · exact .inr (Int.le_refl _)
        · have := s2.1 x h
          exact .inr (by omega)
      · rw [last_] at h
        exact .inr (by omega)
    have now : ∀ x, a ≤ x → x < b → lastAt ps x = lastAt ps a := fun x h1 h2 => atR_const (fun p h => ⟨between _ (hm p h).1, between _ (hm p h).2⟩) h1 h2
    have ih' := ih s1.2 (fun p h => by
      have onward : ∀ x, (x ≤ a ∨ x ∈ b :: r ∨ (a :: b :: r).getLast (by simp) ≤ x) → x ≤ b ∨ x ∈ r ∨ (b :: r).getLast (by simp) ≤ x := fun x hx => by
        rcases hx with h | h | h
        · exact .inl (by omega)
        · rcases List.mem_cons.mp h with rfl | h
          · exact .inl (Int.le_refl _)
          · exact .inr (.inl h)
        · rw [last_] at h
          exact .inr (.inr h)
      exact ⟨onward _ (hm p h).1, onward _ (hm p h).2⟩) d
    have rise := gaps_rise (ps := ps) hs
    have riseR := gaps_rise (ps := ps) s1.2
    have non_iff : atV ps a = .non ↔ atR ps a = nonR := by
      refine ⟨atR_non hpl, fun h => ?_⟩
      cases e : lastAt ps a with
      | none =>
        unfold atV
        rw [e]
      | some p =>
        have hp := (lastAt_mem e).1
        have h1 : atR ps a = p.r := by unfold atR; rw [e]
        have h2 : atV ps a = p.v := by unfold atV; rw [e]
        rw [h2]
        by_cases z : p.v = .non
        · exact z
        · rw [h1] at h
          exact absurd h (hso p hp z)
    rw [last_]
    have sub : ∀ g ∈ gapsOf ps (b :: r), g ∈ gapsOf ps (a :: b :: r) := fun g hg => by
      unfold gapsOf
      exact List.mem_append.mpr (.inr hg)
    by_cases c : d < b
    · have noR : ∀ g ∈ gapsOf ps (b :: r), ¬ (g.lo ≤ d ∧ d < g.e) := fun g hg z => by
        have := gaps_from s1.2 g hg
        omega
      by_cases c1 : a ≤ d
      · have eq : atR ps d = atR ps a := atR_of (now d c1 c)
        rw [eq]
        by_cases hv : atV ps a = .non
        · rw [if_pos ⟨by omega, non_iff.mp hv⟩]
          refine text_at rise (p := gapP a b) ?_ c1 c
          unfold gapsOf
          rw [if_pos hv]
          exact List.mem_append.mpr (.inl (List.mem_cons_self ..))
        · rw [if_neg (fun z => hv (non_iff.mpr z.2))]
          refine text_no fun g hg z => ?_
          unfold gapsOf at hg
          rw [if_neg hv] at hg
          exact noR g (by simpa using hg) z
      · rw [if_neg (fun z => c1 z.1.1)]
        refine text_no fun g hg z => ?_
        have := (gaps_from hs g hg).1
        omega
    · have e : textAt (gapsOf ps (a :: b :: r)).reverse d = textAt (gapsOf ps (b :: r)).reverse d := by
        rcases text_cases riseR d with ⟨g, hg, z, e⟩ | ⟨no, e⟩
        · rw [e]
          exact text_at rise (sub g hg) z.1 z.2
        · rw [e]
          refine text_no fun g hg z => ?_
          unfold gapsOf at hg
          rcases List.mem_append.mp hg with hg | hg
          · split at hg
            · rw [List.mem_singleton.mp hg] at z
              have z2 : d < b := z.2
              omega
            · cases hg
          · exact no g hg z
      rw [e, ih']
      by_cases c2 : (b ≤ d ∧ d < (b :: r).getLast (by simp)) ∧ atR ps d = nonR
      · rw [if_pos c2, if_pos ⟨by omega, c2.2⟩]
      · rw [if_neg c2, if_neg fun z => c2 ⟨by omega, z.2⟩]
end Ln
/-! pieces between ends, the last one without an end -/
namespace Ln
open PySem L2
theorem layStep_congr {a b acc : List Pt} {x y : Int} (h1 : atV a x = atV b x) (h2 : atR a x = atR b x) : layStep a acc x y = layStep b acc x y := by
  unfold layStep
  rw [h1, h2]
theorem lay_congr {a b : List Pt} (h1 : ∀ d, atV a d = atV b d) (h2 : ∀ d, atR a d = atR b d) : ∀ (ds : List Int) (acc : List Pt), lay a ds acc = lay b ds acc
  | [], _ => rfl
  | [_], _ => rfl
  | x :: y :: r, acc => by
    show lay a (y :: r) (layStep a acc x y) = lay b (y :: r) (layStep b acc x y)
    rw [layStep_congr (h1 x) (h2 x), lay_congr h1 h2 (y :: r)]
theorem dummy {ps : List Pt} {l e : Int} (d : Int) : atV (⟨l, e, .non, nonR⟩ :: ps) d = atV ps d ∧ atR (⟨l, e, .non, nonR⟩ :: ps) d = atR ps d := by
  unfold atV atR lastAt
  rw [List.reverse_cons, List.find?_append]
  cases h : ps.reverse.find? fun p => cov p d with
  | some q => exact ⟨rfl, rfl⟩
  | none =>
    rw [Option.none_or]
    by_cases hc : cov ⟨l, e, .non, nonR⟩ d = true
    · rw [show List.find? (fun p => cov p d) [(⟨l, e, .non, nonR⟩ : Pt)] = some ⟨l, e, .non, nonR⟩ by simp [List.find?, hc]]
      exact ⟨rfl, rfl⟩
    · rw [show List.find? (fun p => cov p d) [(⟨l, e, .non, nonR⟩ : Pt)] = none by simp [List.find?, hc]]
      exact ⟨rfl, rfl⟩
theorem lay_far {ps : List Pt} {ds : List Int} (hp : Plain ps) (hso : Solid ps) (hlt : ∀ p ∈ ps, p.lo < p.e) (htop : ∀ p ∈ ps, p.e ≤ 10 ^ 12 + 1) (hs : ds.Pairwise (· < ·)) (hm : ∀ x, x ∈ ds ↔ ∃ p ∈ ps, x = p.lo ∨ (x = p.e ∧ p.e ≤ 10 ^ 12)) :
    Can (lay ps (ds ++ [10 ^ 12 + 1]) []) ∧ ∀ d, textAt (lay ps (ds ++ [10 ^ 12 + 1]) []) d = atR ps d := by
  cases ps with
  | nil =>
    have e : ds = [] := by
      cases ds with
      | nil => rfl
      | cons x r =>
        obtain ⟨p, hp, _⟩ := (hm x).mp (List.mem_cons_self ..)
        cases hp
    rw [e]
    exact ⟨⟨trivial, trivial, fun x hx => (nomatch hx)⟩, fun d => rfl⟩
  | cons p r =>
    have lc := lay_congr (a := p :: r) (b := ⟨p.lo, 10 ^ 12 + 1, .non, nonR⟩ :: p :: r) (fun d => (dummy d).1.symm) (fun d => (dummy d).2.symm) (ds ++ [10 ^ 12 + 1]) []
    have pl : Plain (⟨p.lo, 10 ^ 12 + 1, .non, nonR⟩ :: p :: r) := fun x hx hv => by
      rcases List.mem_cons.mp hx with z | z
      · rw [z]
      · exact hp x z hv
    have so : Solid (⟨p.lo, 10 ^ 12 + 1, .non, nonR⟩ :: p :: r) := fun x hx hv => by
      rcases List.mem_cons.mp hx with z | z
      · rw [z] at hv
        exact absurd rfl hv
      · exact hso x z hv
    have lt : ∀ x ∈ (⟨p.lo, 10 ^ 12 + 1, .non, nonR⟩ :: p :: r : List Pt), x.lo < x.e := fun x hx => by
      rcases List.mem_cons.mp hx with z | z
      · have h1 := hlt p (List.mem_cons_self ..)
        have h2 := htop p (List.mem_cons_self ..)
        rw [z]
        show p.lo < 10 ^ 12 + 1
        omega
      · exact hlt x z
    have low : ∀ x ∈ ds, x ≤ 10 ^ 12 := fun x hx => by
      obtain ⟨y, hy, h⟩ := (hm x).mp hx
      have h1 := hlt y hy
      have h2 := htop y hy
      omega
    have hs' : (ds ++ [10 ^ 12 + 1]).Pairwise (· < ·) := List.pairwise_append.mpr ⟨hs, List.pairwise_singleton .., fun a ha b hb => by
      rw [List.mem_singleton.mp hb]
      have := low a ha
      omega⟩
    have hm' : ∀ x, x ∈ ds ++ [10 ^ 12 + 1] ↔ ∃ q ∈ (⟨p.lo, 10 ^ 12 + 1, .non, nonR⟩ :: p :: r : List Pt), x = q.lo ∨ x = q.e := fun x => by
      constructor
      · intro hx
        rcases List.mem_append.mp hx with h | h
        · obtain ⟨y, hy, h⟩ := (hm x).mp h
          exact ⟨y, List.mem_cons_of_mem _ hy, h.imp id And.left⟩
        · exact ⟨_, List.mem_cons_self .., .inr (List.mem_singleton.mp h)⟩
      · rintro ⟨q, hq, h⟩
        rcases List.mem_cons.mp hq with z | z
        · rw [z] at h
          rcases h with h | h
          · exact List.mem_append.mpr (.inl ((hm x).mpr ⟨p, List.mem_cons_self .., .inl h⟩))
          · exact List.mem_append.mpr (.inr (List.mem_singleton.mpr h))
        · rcases h with h | h
          · exact List.mem_append.mpr (.inl ((hm x).mpr ⟨q, z, .inl h⟩))
          · by_cases c : q.e ≤ 10 ^ 12
            · exact List.mem_append.mpr (.inl ((hm x).mpr ⟨q, z, .inr ⟨h, c⟩⟩))
            · have := htop q z
              refine List.mem_append.mpr (.inr (List.mem_singleton.mpr ?_))
              omega
    rw [lc]
    exact ⟨lay_can pl so lt hs' hm', fun d => by rw [(lay_all pl lt hs' hm').2.1 d, (dummy d).2]⟩
end Ln
/-! what the laying asks, for the urn's laws -/
namespace Ln
open PySem L2
theorem take_more {α β : Type} {l : List α} {i : Nat} {x : α} (g : α → β) (h : l[i]? = some x) : (l.take (i + 1)).map g = (l.take i).map g ++ [g x] := by
  rw [List.take_add_one, h, List.map_append]
  rfl
theorem cut_one (xs : List V) : cutV xs (some 1) none = xs.drop 1 := by
  unfold cutV
  rw [show HT.sIx xs.length 0 (some 1) = min 1 xs.length from HT.sIx_nat xs.length 0 1, HT.sIx_none]
  cases xs with
  | nil => rfl
  | cons x r =>
    have e : min 1 (x :: r).length = 1 := by
      rw [List.length_cons]
      omega
    rw [e]
    exact List.take_of_length_le (by rw [List.length_drop]; omega)
theorem lay_go {ps acc : List Pt} {ds : List Int} {i : Nat} {a b : Int} (ha : ds[i]? = some a) (hb : ds[i + 1]? = some b) : lay ps (ds.drop i) acc = lay ps (ds.drop (i + 1)) (layStep ps acc a b) := by
  obtain ⟨la, rfl⟩ := List.getElem?_eq_some_iff.mp ha
  obtain ⟨lb, rfl⟩ := List.getElem?_eq_some_iff.mp hb
  rw [List.drop_eq_getElem_cons la, List.drop_eq_getElem_cons lb]
  rfl
theorem lay_end {ps acc : List Pt} {ds : List Int} {i : Nat} (h : ds.length ≤ i + 1) : lay ps (ds.drop i) acc = acc := by
  have l : (ds.drop i).length ≤ 1 := by
    rw [List.length_drop]
    omega
  match hz : ds.drop i, l with
  | [], _ => rfl
  | [_], _ => rfl
theorem pts_dp {K : PySem.W.Frag} {H : Hp} : ∀ {bs : List V} {ps : List Pt}, Pts H bs ps → ∃ ds, DpAll K H bs ds ∧ PyData.canLayAll0 ds = true ∧ PyData.depthAll ds ≤ 62 ∧ ds.length = bs.length
  | _, _, .nil => ⟨[], .nil, rfl, Nat.zero_le _, rfl⟩
  | _, _, .cons (b := p) h r => by
    obtain ⟨ds, h1, h2, h3, h4⟩ := pts_dp r
    obtain ⟨a, rfl, ha⟩ := h.at_
    obtain ⟨d, hd, _⟩ := h.what
    obtain ⟨_, _, f3, _, f5⟩ := hd.facts
    have ev : ∃ ed, Dp K H (endV p.e) ed ∧ ed.canLay0 = true ∧ ed.depth = 0 := by
      unfold endV
      by_cases c : p.e > 10 ^ 12
      · rw [if_pos c]
        exact ⟨.none, .non, rfl, rfl⟩
      · rw [if_neg c]
        exact ⟨.int p.e, .int p.e, rfl, rfl⟩
    obtain ⟨ed, e1, e2, e3⟩ := ev
    refine ⟨.tuple [.int p.lo, ed, d] :: ds, .cons (.tup (SqT.of ha) (.cons (.int p.lo) (.cons e1 (.cons hd.dp .nil)))) h1, ?_, ?_, by rw [List.length_cons, List.length_cons, h4]⟩
    · simp [PyData.canLayAll0, PyData.canLay0, e2, f5, h2]
    · simp only [PyData.depthAll, PyData.depth, e3]
      omega
theorem pts_snoc {H : Hp} : ∀ {cs : List V} {qs : List Pt} {q : Pt}, Pts H cs (qs ++ [q]) → ∃ cs0 c, cs = cs0 ++ [c] ∧ Pts H cs0 qs ∧ PtOk H c q
  | _, [], _, .cons h .nil => ⟨[], _, rfl, .nil, h⟩
  | _, _ :: qs, q, .cons h r => by
    obtain ⟨cs0, c, rfl, h1, h2⟩ := pts_snoc (qs := qs) r
    exact ⟨_ :: cs0, c, rfl, .cons h h1, h2⟩
theorem ls_merge {ps rest : List Pt} {q : Pt} {a b : Int} (h1 : q.e = a) (h2 : q.r = atR ps a) : layStep ps (q :: rest) a b = if atV ps a = .non then rest else ⟨q.lo, b, atV ps a, atR ps a⟩ :: rest := by
  unfold layStep
  rw [if_pos (show ((q :: rest).head?.any fun q => decide (q.e = a) && decide (q.r = atR ps a)) = true by simp [h1, h2])]
  rfl
theorem ls_plain {ps acc : List Pt} {a b : Int} (h : ∀ q rest, acc = q :: rest → ¬ (q.e = a ∧ q.r = atR ps a)) : layStep ps acc a b = if atV ps a = .non then acc else ⟨a, b, atV ps a, atR ps a⟩ :: acc := by
  unfold layStep
  cases acc with
  | nil => rfl
  | cons q rest =>
    rw [if_neg]
    intro z
    have z' : (decide (q.e = a) && decide (q.r = atR ps a)) = true := z
    rw [Bool.and_eq_true, decide_eq_true_eq, decide_eq_true_eq] at z'
    exact h q rest rfl z'
end Ln
namespace Q64
open PySem L2 L2.SetL Ln Dn
abbrev sEnds : Stmt := top 20
theorem take_mp {α β : Type} {l : List α} {i : Nat} {x : α} (g : α → β) (h : l[i]? = some x) : (l.take (i + 1)).map g = (l.take i).map g ++ [g x] := by
  rw [List.take_add_one, h, List.map_append]
  rfl
/-- the days where a span begins or ends -/
def EdgeOf (ss : List Span) (x : Int) : Prop := ∃ s ∈ ss, x = s.2.1 ∨ (x = s.2.2 ∧ s.2.2 ≤ 10 ^ 11)
def spEnds : Sp := fun vs H Q _ => ∃ (T : Addr) (us : List V) (ss : List Span), vs = [.ref T] ∧ H T = some (.tup us) ∧ Paired (SpanV H) us ss ∧ ss.length ≤ 56 ∧
  ∀ (L : Addr) (es : List Int) (H' : Hp), H' L = some (.lst (es.map V.int)) → es.Pairwise (· < ·) → (∀ x, x ∈ es ↔ EdgeOf ss x) → es.length ≤ 112 → H L = none → Same H H' → Q (.ref L) H'
theorem SpanOk.end_ {s : Span} (h : SpanOk s) : (endV s.2.2 = .non ∧ s.2.2 = 10 ^ 12 + 1) ∨ (endV s.2.2 = .int s.2.2 ∧ s.2.2 ≤ 10 ^ 11) := by
  rcases h.top_ with h | h
  · exact .inr ⟨end_shut h, h⟩
  · exact .inl ⟨by rw [h, end_open], h⟩
section
variable {P : Program} {w : World} {K : PySem.W.Frag} {mg : Str → Option Value} {base : Heap}
variable {f : Addr} {fd : FuncData}
abbrev endsN : List Str := ["_law_told", "_law_days", "_law_row", "_law_lo", "_law_hi"]
theorem scEnds : FnScope endsN ["_law_told"] (defScope sEnds) := ⟨rfl, rfl, rfl, by decide +kernel, rfl, by decide +kernel, by decide +kernel⟩
theorem ok_ends (F : Fun K "_law_ends" "_law_ends" sEnds f fd) (mo : mg "sorted" = none) (me : mg "set" = none) : FnOk P w K mg base CX0 1 f fd ["_law_told"] spEnds := by
  refine F.ok scEnds (fun vs H Q E h => ?_) (fun cdv A outer s H vs Q E hr h => ?_)
  · obtain ⟨T, us, ss, rfl, _⟩ := h
    rfl
  obtain ⟨T, us, ss, rfl, hT, hP, l56, q⟩ := h
  refine ⟨_, pss_cons (ps_set (i := 1) scEnds.nd rfl (Or.inl rfl) (pe_op op_cat
      (pe_lc (own := [("_law_row", 2), ("_law_lo", 3), ("_law_hi", 4)]) (g := gTup K 3 (gCons (gName 2) (gCons (gName 3) (gCons (gName 4) gNil)))) (by rfl) scEnds.nd (pi_tup (pv 0)) (blkOk_by (own := [("_law_row", 2), ("_law_lo", 3), ("_law_hi", 4)]) (N := endsN) (sc := defScope sEnds) (by decide +kernel))
        (fun _ _ _ _ _ => pg_tup rfl (pgs_cons (pg_name (i := 2) scEnds.nd rfl (Or.inl rfl)) (pgs_cons (pg_name (i := 3) scEnds.nd rfl (Or.inl rfl)) (pgs_cons (pg_name (i := 4) scEnds.nd rfl (Or.inl rfl)) pgs_nil)))) (fun _ _ _ _ _ => pts_nil) (fun _ _ _ _ _ => pv 3))
      (pe_lc (own := [("_law_row", 2), ("_law_lo", 3), ("_law_hi", 4)]) (g := gTup K 3 (gCons (gName 2) (gCons (gName 3) (gCons (gName 4) gNil)))) (by rfl) scEnds.nd (pi_tup (pv 0)) (blkOk_by (own := [("_law_row", 2), ("_law_lo", 3), ("_law_hi", 4)]) (N := endsN) (sc := defScope sEnds) (by decide +kernel))
        (fun _ _ _ _ _ => pg_tup rfl (pgs_cons (pg_name (i := 2) scEnds.nd rfl (Or.inl rfl)) (pgs_cons (pg_name (i := 3) scEnds.nd rfl (Or.inl rfl)) (pgs_cons (pg_name (i := 4) scEnds.nd rfl (Or.inl rfl)) pgs_nil)))) (fun _ _ _ _ _ => pts_one (pt_cmp (pc_notN (pv 4)))) (fun _ _ _ _ _ => pv 4))))
    (pss_one (ps_ret (pe_callB (cr_sortedAll rfl) (by rfl) mo (by decide +kernel) (pa_cons (pe_callTy (cr_setL rfl) (by rfl) me (by decide +kernel) (pa_cons (pv 1) pa_nil)) pa_nil)))), ?_⟩
  have lu : us.length = ss.length := Paired.length hP
  refine ⟨_, rfl, T, rfl, ⟨_, SqT.of hT⟩, fun D nD => ?_⟩
  refine lc_tup (K := K) (a := T) (xs := us) (fun i H1 => H1 D = some (.lst (((ss.take i).map (·.2.1)).map V.int)) ∧ Same H H1) ⟨upd_same, same_new nD _⟩ (fun i H1 _ ⟨_, s1⟩ => SqT.of (s1 _ _ hT)) ?_ ?_
  · rintro i b H1 hi ⟨g1, s1⟩
    obtain ⟨sp, hsp, ok, a, r, xs, rfl, ha, _⟩ := paired_at hP hi
    have i56 : i < 56 := by
      have := (List.getElem?_eq_some_iff.mp hsp).1
      omega
    refine ⟨a, _, rfl, SqT.of (s1 _ _ ha), rfl, _, _, rfl, _, _, rfl, _, _, rfl, rfl, rfl, ?_⟩
    refine ⟨_, rfl, _, g1, ?_, ?_, fun b o e => ?_⟩
    · rw [List.length_map, List.length_map, List.length_take]
      exact small1000 (by omega)
    · rw [upd_same, take_mp _ hsp, List.map_append]
      rfl
    · rw [upd_ne (ne_of_none e nD)]
      exact s1 b o e
  rintro H1 ⟨g1, s1⟩
  rw [lu, List.take_length] at g1
  refine ⟨_, rfl, T, rfl, ⟨_, SqT.of (s1 _ _ hT)⟩, fun D2 nD2 => ?_⟩
  refine lc_tup (K := K) (a := T) (xs := us) (fun i H2 => H2 D2 = some (.lst ((((ss.take i).filter fun s => decide (s.2.2 ≤ 10 ^ 11)).map (·.2.2)).map V.int)) ∧ Same H1 H2) ⟨upd_same, same_new nD2 _⟩ (fun i H2 _ ⟨_, s2⟩ => SqT.of (s2 _ _ (s1 _ _ hT))) ?_ ?_
  · rintro i b H2 hi ⟨g2, s2⟩
    obtain ⟨sp, hsp, ok, a, r, xs, rfl, ha, _⟩ := paired_at hP hi
    have i56 : i < 56 := by
      have := (List.getElem?_eq_some_iff.mp hsp).1
      omega
    have ef : ((ss.take (i + 1)).filter fun s => decide (s.2.2 ≤ 10 ^ 11)) = ((ss.take i).filter fun s => decide (s.2.2 ≤ 10 ^ 11)) ++ (if sp.2.2 ≤ 10 ^ 11 then [sp] else []) := by
      rw [List.take_add_one, hsp, List.filter_append]
      show _ ++ List.filter _ [sp] = _
      by_cases c : sp.2.2 ≤ 10 ^ 11
      · rw [if_pos c, List.filter_cons_of_pos (by exact decide_eq_true c)]
        rfl
      · rw [if_neg c, List.filter_cons_of_neg (by exact fun z => c (of_decide_eq_true z))]
        rfl
    refine ⟨a, _, rfl, SqT.of (s2 _ _ (s1 _ _ ha)), rfl, _, _, rfl, _, _, rfl, _, _, rfl, rfl, rfl, ?_⟩
    rcases ok.end_ with ⟨ev, eh⟩ | ⟨ev, eh⟩
    · refine ⟨_, rfl, _, rfl, ?_⟩
      rw [ev]
      refine ff2 rfl ⟨?_, s2⟩
      rw [ef, if_neg (by omega), List.append_nil]
      exact g2
    · refine ⟨_, rfl, _, rfl, ?_⟩
      rw [ev]
      refine tt2 rfl ⟨_, rfl, _, g2, ?_, ?_, fun b o e => ?_⟩
      · rw [List.length_map, List.length_map]
        have := List.length_filter_le (fun s : Span => decide (s.2.2 ≤ 10 ^ 11)) (ss.take i)
        rw [List.length_take] at this
        exact small1000 (by omega)
      · rw [upd_same, ef, if_pos eh, List.map_append, List.map_append]
        rfl
      · rw [upd_ne (ne_of_none e nD2)]
        exact s2 b o e
  rintro H2 ⟨g2, s2⟩
  rw [lu, List.take_length] at g2
  have lf := List.length_filter_le (fun s : Span => decide (s.2.2 ≤ 10 ^ 11)) ss
  refine ⟨D, D2, _, _, rfl, rfl, s2 _ _ g1, g2, ?_, fun M nM => ?_⟩
  · rw [List.length_map, List.length_map, List.length_map, List.length_map, sizeLine_eq]
    omega
  have sM : Same H _ := (s1.trans s2).trans (same_new nM (.lst (((ss.map (·.2.1)).map V.int) ++ (((ss.filter fun s => decide (s.2.2 ≤ 10 ^ 11)).map (·.2.2)).map V.int))))
  refine ⟨_, rfl, M, ss.map (·.2.1) ++ (ss.filter fun s => decide (s.2.2 ≤ 10 ^ 11)).map (·.2.2), rfl, SqL.of (by rw [upd_same, List.map_append]), ?_, fun S c nS hc => ?_⟩
  · rw [List.length_append, List.length_map, List.length_map]
    omega
  have hc' : c ≤ 112 := by
    rw [List.length_append, List.length_map, List.length_map] at hc
    omega
  refine ⟨S, _, c, rfl, upd_same, by omega, fun ds Z hs hm hz nZ => ?_⟩
  have s4 := fun o => sM.trans (same_new nS o)
  refine q Z ds _ upd_same hs (fun x => ?_) (by omega) ((s4 _).free nZ) ((s4 _).trans (same_new nZ _))
  rw [hm x, decide_eq_true_eq, List.mem_append, List.mem_map, List.mem_map]
  constructor
  · rintro (⟨p, h1, h2⟩ | ⟨p, h1, h2⟩)
    · exact ⟨p, h1, .inl h2.symm⟩
    · obtain ⟨h3, h4⟩ := List.mem_filter.mp h1
      exact ⟨p, h3, .inr ⟨h2.symm, of_decide_eq_true h4⟩⟩
  · rintro ⟨p, h1, h2 | ⟨h2, h3⟩⟩
    · exact .inl ⟨p, h1, h2.symm⟩
    · exact .inr ⟨p, List.mem_filter.mpr ⟨h1, decide_eq_true h3⟩, h2.symm⟩
end
end Q64
/-! Defs that are called while no repr is under way: so repr of data may be asked in them. -/
namespace L2
namespace Gd
open PySem PySem.Spec PyProof.Rows
/-- as FnOk, where no repr is under way -/
structure FnG (P : Program) (w : World) (K : PySem.W.Frag) (mg : Str → Option Value) (base : Heap) (CX : CXT) (k : Nat) (f : Addr) (fd : FuncData) (ps : List Str) (sp : Sp) : Prop where
  len : ∀ vs H Q E, sp vs H Q E → vs.length = ps.length
  run : ∀ (A : Around) (outer : List Env) (s : Shared) (H : Hp) (args : Args) (us : List Value) (vs : List V) (Q : VK) (E : XK), A.guards = some [] → Room k A → Env0 P w K mg base A outer s H → BindsTo s fd args (ps.zip us) → Vals vs us → sp vs H Q E →
    codeAny (model P w) A (.call (.ref f) args) (CR CX outer P w H s Q E) s
section
variable {P : Program} {w : World} {K : PySem.W.Frag} {mg : Str → Option Value} {base : Heap} {k : Nat}
/-- a def by its body, where no repr is under way -/
theorem okG {x qual : Str} {st : Stmt} {f : Addr} {fd : FuncData} {N ps : List Str} {sp : Sp} (F : Fun K x qual st f fd) (S : FnScope N ps (defScope st)) (len : ∀ vs H Q E, sp vs H Q E → vs.length = ps.length)
    (body : ∀ (cdv : Value) (A : Around) (outer : List Env) (s : Shared) (H : Hp) (vs : List V) (Q : VK) (E : XK), A.guards = some [] → Room k (A.deeper (envOfC qual (defScope st) s.heap.objs.size f cdv)) → sp vs H Q E →
      ∃ t, PSs (cxOf CX0 P w K mg base N qual (defScope st) f cdv A outer s H E).nox (defBody st) t ∧ t { nx := fun _ H' => Q .non H', rt := Q } (start N vs) H) : FnG P w K mg base CX0 (k + 1) f fd ps sp := by
  obtain ⟨oc, od, kV, doc, pm, an, cdv, ct, osl, rfl, lk, hcd⟩ := F.ex
  refine ⟨len, fun A outer s H args us vs Q E hg hr e0 hb r hsp => ?_⟩
  have kept : ∀ b o, base.get? b = some o → s.heap.get? b = some o := fun b o e => (e0.bs b o e).1
  have inK : K.In s.heap := e0.mod.kin.keeps kept
  have kinds : ∀ y ∈ ps.zip us, (defScope st).names.lookup y.1 = some .local ∨ ((defScope st).names.lookup y.1 = some .cell ∧ ((cellsFrom (s.heap.objs.size + 1) (defScope st).names []).lookup y.1).isSome = true) := by
    rintro ⟨n, v⟩ hy
    cases S.par n (List.of_mem_zip hy).1 with
    | inl q => exact .inl q
    | inr q => exact .inr ⟨q, PySem.W.cellsFrom_some _ _ _ (.inl q)⟩
  refine codeAny_call_function hr.depth (inK _ _ lk) rfl S.co S.gen rfl (PySem.W.codeRec_of inK hcd) (hb _ _ _ _ (wpAny_newFunctionEnv_cells S.kind kinds fun env he s1 z => ?_))
  subst he
  refine ⟨(e0.mod.nolimit.keeps kept).keeps z.toInCall.keep, codeAny_func ?_⟩
  obtain ⟨t, ht, hq⟩ := body cdv A outer s H vs Q E hg (hr.deeper _) hsp
  have J0 : Inv (cxOf CX0 P w K mg base N qual (defScope st) f cdv A outer s H E) [] (start N vs) H s1 := inv_start S hr.hd e0 (len _ _ _ _ hsp) r z
  refine wpAny_mono (ht.nox.run [] s1 (start N vs) H _ J0 hq) (fun fl s' hs => ?_) fun _ _ hs => hs
  match fl, hs with
  | .ret u, ⟨v, σ', H', J, rv, q⟩ => exact ⟨v, H', J.os, J.bare, J.base, J.hok, rv, q⟩
  | .next, ⟨σ', H', J, q⟩ => exact ⟨.non, H', J.os, J.bare, J.base, J.hok, rfl, q⟩
  | .brk, ⟨_, _, _, q⟩ => exact q.elim
  | .cont, ⟨_, _, _, q⟩ => exact q.elim
end
section
variable {X : Cx} {CX : CXT} {k : Nat} {f : Addr} {fd : FuncData} {ps : List Str} {sp : Sp} {E : XK} {x : Str} {p pos : Pos} {e : Expr} {es : List Expr} {t : TA}
/-- f(e, ..), f such a def -/
theorem pe_callG (F : FnG X.prog X.w X.K X.mg X.base CX k f fd ps sp) (hgd : X.A.guards = some []) (hr : Room k X.A) (hg : Gl X x) (hm : X.mg x = some (.ref f)) (hk : PySem.W.keepIn X.K (.ref f) = true) (hb : Binds X.K fd ps []) (hx : Passes CX X E)
    (ha : PA X (e :: es) t) (hdb : (x == ("__debug__" : Str)) = false := by decide) (he : starEach (e :: es) X.env = (false, eval e X.env) :: starEach es X.env := by rfl) (hpl : (backTo pos (starEach es X.env)).any (·.1) = false := by rfl) :
    PE X (.Call (.Name x p) (e :: es) [] pos) (tCall sp [] E t) := by
  refine ⟨fun pins s σ H Q I h => wpAny_Call_Name_kw (ld_glob I hg hm ?_ hdb)⟩
  refine PySem.W.callWith_K (h₀ := X.base) I.ok.mod.kin hk (thn (ha.run pos pins s σ H _ I h) fun us s1 hh => ?_) he hpl
  obtain ⟨vs, H1, I1, r, q⟩ := hh
  have hl : (us ++ []).length = ps.length := by
    rw [List.append_nil, ← Paired.length r, ← F.len _ _ _ _ q, List.append_nil]
  refine ⟨I1.kIn, wpAny_call (codeAny_mono (F.run X.A X.stack s1 H1 ⟨us, []⟩ (us ++ []) (vs ++ []) Q E hgd hr I1.env0 (hb s1 us I1.kIn hl) (r.append .nil) q) fun rs s' hq => ?_)⟩
  match rs, hq with
  | .error er, hq => exact hx pins σ H1 s1 er s' I1 hq
  | .ok (.ret u), hq => exact I1.after hq
  | .ok .next, hq => exact False.elim hq
  | .ok .brk, hq => exact False.elim hq
  | .ok .cont, hq => exact False.elim hq
/-- repr(x), x data without dicts -/
def rRepr (K : PySem.W.Frag) : List V → Hp → VK → Prop := fun xs H Q => ∃ (x : V) (d : PyData), xs = [x] ∧ Dp K H x d ∧ d.showable = true ∧ d.hasDict = false ∧ d.depth ≤ 60 ∧ d.shown.length ≤ sizeLine ∧ Q (.str d.shown) H
theorem call_repr (hgd : X.A.guards = some []) (hu : X.A.units + 64 < cLine) : CallR X (.builtin "repr") (rRepr X.K) := by
  intro pins s σ H xs us Q I r h
  obtain ⟨x, d, rfl, hd, hs, hn, hp, hz, q⟩ := h
  obtain ⟨u, rfl, ru⟩ := vals1 r
  obtain ⟨as, hr⟩ := hd.reads I d x u ru
  have tail : ∀ {a : Addr}, Reads s.heap (.ref a) d as → wpAny (model X.prog X.w) X.A (call (.builtin "repr") [.ref a]) (EP X pins σ Q) X.xe s := fun {a} r1 =>
    repr_of_reads' r1 hs (fun z => by rw [hn] at z; cases z) hgd (by omega) (fun _ _ e => e) (fun h' w' tk k => ⟨.str d.shown, H, I.kept (t' := tk) k, ⟨_, rfl⟩, q⟩) hz
  cases hd with
  | non => cases ru; exact PySem.P.repr_of_none ⟨.str _, H, I.tok _, ⟨_, rfl⟩, q⟩
  | bl b => cases ru; exact PySem.P.repr_of_bool ⟨.str _, H, I.tok _, ⟨_, rfl⟩, q⟩
  | int i =>
    obtain ⟨tk, rfl⟩ := ru
    exact PySem.P.repr_of_int (of_decide_eq_true hs) ⟨.str _, H, I.tok _, ⟨_, rfl⟩, q⟩
  | str y => obtain ⟨tk, rfl⟩ := ru; exact PySem.P.repr_of_str ⟨.str _, H, I.tok _, ⟨_, rfl⟩, q⟩ hz
  | lst a b => cases ru; exact tail hr
  | tup a b => cases ru; exact tail hr
end
/-! ### the end of a law -/
section
variable {P : Program} {w : World} {K : PySem.W.Frag} {mg mb : Str → Option Value} {k : Nat} {fa a : Addr} {fd : FuncData} {x : Str} {sp : Sp} {z : Shared} {us : List Value} {ns : List Int}
/-- from an abstract heap in which nothing but the script is tracked, and that as it stands -/
theorem law_core (KX : K.In z.heap) (hns : z.heap.Ns mainGlobals mg) (hb : z.heap.Ns builtinsNs mb) (hbb : ∀ x : Str, x ≠ "__name__" → mb x = bootBuiltins x) (hlim : z.heap.NoLimit) (hg : z.gens = #[])
    (hr : Room k callerA) (F : ∀ base : Heap, K.In base → base.Ns mainGlobals mg → FnG P w K mg base CX0 k fa fd [x] sp) (hbind : ∀ (s : Shared) (u : Value), BindsTo s fd ⟨[u], []⟩ [(x, u)])
    {H : Hp} (only : Only H) (hok : HOk P w H z.heap) (tell : ∀ b o es ep, z.heap.get? b = some o → o.data = .dict es ep → H b = none) (apart : ∀ b o, K.lookup b = some o → H b = none) (hsp : sp [.ref a] H (fun v _ => v = .bl true) fun _ _ _ => False) :
    codeAny (model P w) callerA (.call (.ref fa) ⟨[.ref a], []⟩) (fun r s' => r = .ok (.ret (.bool true)) ∧ OldK z.heap s'.heap ∧ s'.os = z.os ∧ AllBare s'.gens) z := by
  have ns2 : ∀ {b : Addr} {m : Str → Option Value}, z.heap.Ns b m → (hidT z.heap H).Ns b m := by
    rintro b m ⟨o, es, ep, e, d, r⟩
    exact ⟨o, es, ep, hidT_get e (tell b o es ep e d), d, r⟩
  have kin : K.In (hidT z.heap H) := fun b o e => hidT_get (KX b o e) (apart b o e)
  have md : Mod K mg (hidT z.heap H) := ⟨kin, ns2 hns, ⟨mb, ns2 hb, hbb⟩, by
    obtain ⟨mc, h1, h2⟩ := hlim
    exact ⟨mc, ns2 h1, h2⟩⟩
  have e0 : Env0 P w K mg (hidT z.heap H) callerA [] z H := ⟨rfl, md, fun b o e => of_hidT e, Nat.le_of_eq (hidT_size _ _), trivial, fun b hm => (nomatch (show b ∈ ([] : List Addr) from hm)), hok, .of_eq hg⟩
  refine codeAny_mono ((F _ kin (ns2 hns)).run callerA [] z H ⟨[.ref a], []⟩ [.ref a] [.ref a] _ _ rfl hr e0 (hbind z (.ref a)) (.cons rfl .nil) hsp) fun r s' h => ?_
  match r, h with
  | .error e, h => exact False.elim h
  | .ok .next, h => exact False.elim h
  | .ok .brk, h => exact False.elim h
  | .ok .cont, h => exact False.elim h
  | .ok (.ret u), ⟨v, H', os, bare, un, hok', r', q⟩ =>
    have q' : v = .bl true := q
    subst q'
    obtain rfl : u = Value.bool true := r'
    refine ⟨rfl, OldK.of_keep fun b o e => ?_, os, bare⟩
    rcases only b with n | ⟨ob, xs, y⟩
    · exact un.keep b o e n (fun hm => (nomatch (show b ∈ ([] : List Addr) from hm))) (fun hm => nomatch hm)
    · have e1 := (hok b _ y).1
      rw [e] at e1
      cases e1
      exact (hok' b _ (un.frzs b _ _ y)).1
theorem law_runs (KX : K.In z.heap) (hns : z.heap.Ns mainGlobals mg) (hb : z.heap.Ns builtinsNs mb) (hbb : ∀ x : Str, x ≠ "__name__" → mb x = bootBuiltins x) (hlim : z.heap.NoLimit) (hg : z.gens = #[])
    (ha : z.heap.get? a = some { cls := .type "list", data := .seq us.toArray }) (hi : IntsAre us ns) (hl : ns.length ≤ sizeLine) (hr : Room k callerA) (F : ∀ base : Heap, K.In base → base.Ns mainGlobals mg → FnG P w K mg base CX0 k fa fd [x] sp)
    (hbind : ∀ (s : Shared) (u : Value), BindsTo s fd ⟨[u], []⟩ [(x, u)]) (hsp : ∀ H : Hp, Only H → SqL K H a (ns.map V.int) → sp [.ref a] H (fun v _ => v = .bl true) fun _ _ _ => False) :
    codeAny (model P w) callerA (.call (.ref fa) ⟨[.ref a], []⟩) (fun r s' => r = .ok (.ret (.bool true)) ∧ OldK z.heap s'.heap ∧ s'.os = z.os ∧ AllBare s'.gens) z := by
  have rv := vals_ints hi
  have lenV := hi.length
  cases hk : K.lookup a with
  | some o =>
    have e := KX a o hk
    rw [ha] at e
    cases e
    refine law_core KX hns hb hbb hlim hg hr F hbind (H := fun _ => none) (fun _ => .inl rfl) (fun b u y => nomatch y) (fun _ _ _ _ _ _ => rfl) (fun _ _ _ => rfl) (hsp _ (fun _ => .inl rfl) ?_)
    exact .inr ⟨_, us.toArray, _, hk, rfl, rfl, rfl, by rw [List.size_toArray, lenV]; exact hl, by simpa using rv⟩
  | none =>
    have at1 : ∀ b u, (if b = a then some (HO.frz { cls := .type "list", data := .seq us.toArray } (.lst (ns.map V.int))) else none) = some u → b = a ∧ u = .frz { cls := .type "list", data := .seq us.toArray } (.lst (ns.map V.int)) := by
      intro b u y
      by_cases h : b = a
      · rw [if_pos h] at y
        exact ⟨h, (Option.some.inj y).symm⟩
      · rw [if_neg h] at y
        cases y
    have on : Only (fun b => if b = a then some (HO.frz { cls := .type "list", data := .seq us.toArray } (.lst (ns.map V.int))) else none) := fun b => by
      by_cases h : b = a
      · exact .inr ⟨_, _, if_pos h⟩
      · exact .inl (if_neg h)
    refine law_core KX hns hb hbb hlim hg hr F hbind on (fun b u y => ?_) (fun b o es ep e d => if_neg fun h => ?_) (fun b o e => if_neg fun h => ?_) (hsp _ on (.inl (.inr ⟨_, if_pos rfl⟩)))
    · obtain ⟨rfl, rfl⟩ := at1 b u y
      exact ⟨ha, by rw [List.length_map]; exact hl, us, _, rv, ha⟩
    · rw [h, ha] at e
      cases e
      cases d
    · rw [h, hk] at e
      cases e
end
/-- the goal that the head leaves, from a law's promise -/
theorem walkG {l : PySem.W.OpenLaw} {n k : Nat} {q : Program} {loose : List Str} {XP : (Str → Option Value) → Heap → Prop} {YP : World → Heap → Prop} {d : DefRec} {K : Params → PySem.W.Frag} {sp : World → Sp} {x : Str}
    (hn : l.most = some n) (hn2 : n ≤ sizeLine) (hdf : d.params.defaults = []) (hr : Room k callerA) (hY : ∀ (w : World) (h : Heap), YP w h → (K w.params).In h)
    (F : ∀ (w : World) (mg : Str → Option Value) (fa : Addr) (h : Heap), (K w.params).In h → h.Ns mainGlobals mg → mg d.name = some (.ref fa) →
      ∃ fd : FuncData, (∀ (s : Shared) (u : Value), BindsTo s fd ⟨[u], []⟩ [(x, u)]) ∧ ∀ base : Heap, (K w.params).In base → base.Ns mainGlobals mg → FnG l.prog w (K w.params) mg base CX0 k fa fd [x] (sp w))
    (hsp : ∀ (w : World) (H : Hp) (a : Addr) (ns : List Int), ns.length ≤ n → Only H → SqL (K w.params) H a (ns.map V.int) → sp w [.ref a] H (fun v _ => v = .bl true) fun _ _ _ => False) :
    PySem.W.WalkO q loose XP YP l.row.toRowW d [] (fun f vs => PySem.call f vs) := by
  refine Att.attach_call hn hdf fun w s0 s1 mg mb fa o pm cd doc a vs ns G Y ho hd hcd hmg hobj hints hlen hg => ?_
  have KX := hY w _ Y
  obtain ⟨fd, hb, hF⟩ := F w mg fa _ KX G.T.g hmg
  exact law_runs KX G.T.g G.T.b G.T.builtins G.T.nolimit hg hobj hints (Nat.le_trans hlen hn2) hr hF hb fun H hO hS => hsp w H a ns hlen hO hS
end Gd
end L2
namespace Q64
open PySem L2 L2.Gd L2.SetL Ln
abbrev sEarly : Stmt := top 3
abbrev sClip : Stmt := top 2
abbrev sLonger : Stmt := top 10
def spEarly : Sp := fun vs H Q _ => ∃ a b : Int, vs = [endV a, endV b] ∧ a ≤ 10 ^ 12 + 1 ∧ b ≤ 10 ^ 12 + 1 ∧ Q (endV (min a b)) H
def spClip : Sp := fun vs H Q _ => ∃ (T : Addr) (a b : Int) (cs : List V) (qs : List Pt), vs = [.ref T, .int a, endV b] ∧ H T = some (.lst cs) ∧ Pts H cs qs ∧ qs.length ≤ 10000 ∧ 0 ≤ a ∧ a ≤ 10 ^ 12 ∧ b ≤ 10 ^ 12 + 1 ∧
  ∀ (L : Addr) (bs : List V) (H' : Hp), H L = none → H' L = some (.lst bs) → Pts H' bs (clip a b qs) → Same H H' → Q (.ref L) H'
abbrev kwP : List (Str × V) := [("low", .int 0), ("high", .non)]
section
variable {P : Program} {w : World} {K : PySem.W.Frag} {mg : Str → Option Value} {base : Heap}
variable {f fE fC fJ : Addr} {fd fdE fdC fdJ : FuncData}
theorem scEarly : FnScope ["one", "other"] ["one", "other"] (defScope sEarly) := ⟨rfl, rfl, rfl, by decide +kernel, rfl, by decide +kernel, by decide +kernel⟩
theorem ok_early (F : Fun K "earlier_end" "earlier_end" sEarly f fd) (mi : mg "min" = none) : FnOk P w K mg base CX0 1 f fd ["one", "other"] spEarly := by
  refine F.ok scEarly (fun vs H Q E h => ?_) (fun cdv A outer s H vs Q E hr h => ?_)
  · obtain ⟨a, b, rfl, _⟩ := h
    rfl
  obtain ⟨a, b, rfl, ha, hb, q⟩ := h
  refine ⟨_, pss_cons (ps_if (pt_cmp (pc_isN (pv 0))) (pss_one (ps_ret (pv 1))) pss_nil)
    (pss_cons (ps_if (pt_cmp (pc_isN (pv 1))) (pss_one (ps_ret (pv 0))) pss_nil)
    (pss_one (ps_ret (pe_callB (call_min2 rfl) (by rfl) mi (by decide +kernel) (pa_cons (pv 0) (pa_cons (pv 1) pa_nil)))))), ?_⟩
  refine ⟨endV a, rfl, _, rfl, ?_⟩
  by_cases c1 : a > 10 ^ 12
  · have e1 : endV a = .non := if_pos c1
    rw [e1]
    refine iteT ⟨_, rfl, ?_⟩
    rw [show min a b = b by omega] at q
    exact q
  · have e1 : endV a = .int a := if_neg c1
    rw [e1]
    refine iteF ⟨endV b, rfl, _, rfl, ?_⟩
    by_cases c2 : b > 10 ^ 12
    · have e2 : endV b = .non := if_pos c2
      rw [e2]
      refine iteT ⟨_, rfl, ?_⟩
      rw [show min a b = a by omega, e1] at q
      exact q
    · have e2 : endV b = .int b := if_neg c2
      rw [e2]
      refine iteF ⟨_, rfl, _, rfl, _, _, rfl, ?_⟩
      have e3 : endV (min a b) = .int (if b < a then b else a) := by
        unfold endV
        rw [if_neg (by omega)]
        refine congrArg V.int ?_
        split <;> omega
      rw [e3] at q
      exact q
theorem scClip : FnScope ["line", "low", "high", "pieces", "start", "end", "what", "first", "last"] ["line", "low", "high"] (defScope sClip) := ⟨rfl, rfl, rfl, by decide +kernel, rfl, by decide +kernel, by decide +kernel⟩
theorem clip_take {a b : Int} {qs : List Pt} {i : Nat} {p : Pt} (h : qs[i]? = some p) : clip a b (qs.take (i + 1)) = clip a b (qs.take i) ++ (clipP a b p).toList := by
  unfold clip
  rw [List.take_add_one, h, List.filterMap_append]
  congr 1
theorem ok_clip (F : Fun K "clipped" "clipped" sClip f fd) (GE : FnOk P w K mg base CX0 1 fE fdE ["one", "other"] spEarly) (bE : Binds K fdE ["one", "other"] []) (kE : PySem.W.keepIn K (.ref fE) = true) (mE : mg "earlier_end" = some (.ref fE)) (mx : mg "max" = none) :
    FnOk P w K mg base CX0 2 f fd ["line", "low", "high"] spClip := by
  refine F.ok scClip (fun vs H Q E h => ?_) (fun cdv A outer s H vs Q E hr h => ?_)
  · obtain ⟨T, a, b, cs, qs, rfl, _⟩ := h
    rfl
  obtain ⟨T, a, b, cs, qs, rfl, hT, hP, hl, a0, a1, b1, q⟩ := h
  refine ⟨_, pss_cons (ps_set (i := 3) scClip.nd rfl (Or.inl rfl) (pe_lst pa_nil))
    (pss_cons (ps_for PassesOwn.never rfl (pi_list (pv 0)) (pg_tup rfl (pgs_cons (pg_name (i := 4) scClip.nd rfl (.inl rfl)) (pgs_cons (pg_name (i := 5) scClip.nd rfl (.inl rfl)) (pgs_cons (pg_name (i := 6) scClip.nd rfl (.inl rfl)) pgs_nil))))
      (pss_cons (ps_set (i := 7) scClip.nd rfl (Or.inl rfl) (pe_callB (call_max2 rfl) (by rfl) mx (by decide +kernel) (pa_cons (pv 4) (pa_cons (pv 1) pa_nil))))
      (pss_cons (ps_set (i := 8) scClip.nd rfl (Or.inl rfl) (pe_call GE hr (by rfl) mE kE bE .nil pass0 (pa_cons (pv 5) (pa_cons (pv 2) pa_nil))))
      (pss_one (ps_if (PW.pt (pw_or (pt_cmp (pc_isN (pv 8))) (pw_or1 (pt_cmpR op_lt (pv 7) (pv 8) (nomark _)))))
        (pss_one (ps_expr (pe_bm PySem.F.plainAttrs_list PySem.F.slot_list_append PySem.F.type_list_append mt_append (pv 3) (pa_cons (pe_tup (pa_cons (pv 7) (pa_cons (pv 8) (pa_cons (pv 6) pa_nil)))) pa_nil)))) pss_nil)))))
    (pss_one (ps_ret (pv 3)))), ?_⟩
  refine ⟨(by show 0 ≤ sizeLine; decide), fun Z nZ => ?_⟩
  have len := pts_len hP
  refine ⟨_, rfl, T, rfl, ⟨_, SqL.of (same_new nZ _ _ _ hT)⟩, for_list (K := K) (a := T) (xs := cs) (fun i σ' H1 => ∃ v4 v5 v6 v7 v8 bs, σ' = [some (.ref T), some (.int a), some (endV b), some (.ref Z), v4, v5, v6, v7, v8] ∧ H1 Z = some (.lst bs) ∧ Pts H1 bs (clip a b (qs.take i)) ∧ Same H H1)
    ⟨none, none, none, none, none, [], rfl, upd_same, .nil, same_new nZ _⟩ (fun i σ' H1 _ ⟨_, _, _, _, _, _, _, _, _, s1⟩ => SqL.of (s1 _ _ hT)) ?_ ?_⟩
  · rintro i c σ' H1 hi ⟨v4, v5, v6, v7, v8, bs, rfl, hZ, hPz, s1⟩
    obtain ⟨p, hp, ok⟩ := pts_at hP hi
    obtain ⟨t, rfl, ht⟩ := ok.at_
    obtain ⟨d, hd, hrd⟩ := ok.what
    have o1 := ok.lo0
    have o2 := ok.lt
    have o3 := ok.top_
    have hil : i < 10000 := by
      have := (List.getElem?_eq_some_iff.mp hp).1
      omega
    refine ⟨t, _, rfl, SqT.of (s1 _ _ ht), rfl, _, _, rfl, _, _, rfl, _, _, rfl, rfl, ?_⟩
    refine ⟨_, rfl, _, rfl, _, _, rfl, ?_⟩
    have mx : (if a > p.lo then a else p.lo) = max p.lo a := by split <;> omega
    rw [mx]
    refine ⟨_, rfl, _, rfl, p.e, b, rfl, o3, b1, ?_⟩
    refine ⟨endV (min p.e b), rfl, _, rfl, ?_⟩
    have yes : max p.lo a < min p.e b → ∀ H2 : Hp, H2 = H1 → ∀ t2, H2 t2 = none → ∃ (l : Addr) (xs : List V) (x : V), V.ref Z = .ref l ∧ [V.ref t2] = [x] ∧ (upd H2 t2 (.tup [.int (max p.lo a), endV (min p.e b), p.v])) l = some (.lst xs) ∧ xs.length < sizeLine ∧
        ∃ v4 v5 v6 v7 v8 bs, [some (V.ref T), some (.int a), some (endV b), some (.ref Z), some (.int p.lo), some (endV p.e), some p.v, some (.int (max p.lo a)), some (endV (min p.e b))] = [some (V.ref T), some (.int a), some (endV b), some (.ref Z), v4, v5, v6, v7, v8] ∧
          (upd (upd H2 t2 (.tup [.int (max p.lo a), endV (min p.e b), p.v])) l (.lst (xs ++ [x]))) Z = some (.lst bs) ∧ Pts (upd (upd H2 t2 (.tup [.int (max p.lo a), endV (min p.e b), p.v])) l (.lst (xs ++ [x]))) bs (clip a b (qs.take (i + 1))) ∧ Same H (upd (upd H2 t2 (.tup [.int (max p.lo a), endV (min p.e b), p.v])) l (.lst (xs ++ [x]))) := by
      intro c H2 e2 t2 nt
      subst e2
      have g : Same H2 _ := same_new nt (.tup [.int (max p.lo a), endV (min p.e b), p.v])
      have hZ2 := g _ _ hZ
      have kz : Keep _ (upd (upd H2 t2 (.tup [.int (max p.lo a), endV (min p.e b), p.v])) Z (.lst (bs ++ [.ref t2]))) := fun c zs hc => by
        rw [upd_ne (ne_of hc hZ2 (by intro z; cases z))]
        exact hc
      have cp : clipP a b p = some ⟨max p.lo a, min p.e b, p.v, p.r⟩ := if_pos c
      refine ⟨Z, bs, _, rfl, rfl, hZ2, ?_, _, _, _, _, _, bs ++ [.ref t2], rfl, upd_same, ?_, fun c o e => ?_⟩
      · rw [pts_len hPz]
        have := clip_len a b (qs.take i)
        rw [List.length_take] at this
        rw [sizeLine_eq]
        omega
      · rw [clip_take hp, cp]
        exact pts_app (pts_keep ((Keep.of g).trans kz) hPz) (.cons ⟨⟨t2, rfl, kz _ _ upd_same⟩, ⟨d, ((hd.keep (Keep.of s1)).keep (Keep.of g)).keep kz, hrd⟩, by dsimp only; omega, c, by dsimp only; omega⟩ .nil)
      · rw [upd_ne (ne_of_none e nZ)]
        exact g _ _ (s1 _ _ e)
    have no : ¬ max p.lo a < min p.e b → Pts H1 bs (clip a b (qs.take (i + 1))) := fun c => by
      have cp : clipP a b p = none := if_neg c
      rw [clip_take hp, cp]
      simpa using hPz
    by_cases c2 : min p.e b > 10 ^ 12
    · have ev : endV (min p.e b) = .non := if_pos c2
      have y := yes (by omega) H1 rfl
      rw [ev] at y ⊢
      refine iteT (iteT ?_)
      refine ⟨_, rfl, .inl ⟨rfl, _, SqL.of hZ⟩, _, rfl, _, rfl, _, rfl, (by rw [sizeLine_eq]; simp), fun t2 nt => ?_⟩
      exact y t2 nt
    · have ev : endV (min p.e b) = .int (min p.e b) := if_neg c2
      have y := yes
      rw [ev] at y ⊢
      refine iteF ⟨_, rfl, _, rfl, _, _, rfl, rfl, _, rfl, ite2 (fun c => ?_) (fun c => ?_)⟩
      · refine ⟨_, rfl, .inl ⟨rfl, _, SqL.of hZ⟩, _, rfl, _, rfl, _, rfl, (by rw [sizeLine_eq]; simp), fun t2 nt => ?_⟩
        exact y (of_decide_eq_true c) H1 rfl t2 nt
      · exact ⟨_, _, _, _, _, bs, rfl, hZ, no fun z => c (decide_eq_true z), s1⟩
  · rintro σ' H1 ⟨v4, v5, v6, v7, v8, bs, rfl, hZ, hPz, s1⟩
    rw [len, List.take_length] at hPz
    exact ⟨_, rfl, q Z bs H1 nZ hZ hPz s1⟩
end
/-! ### how long a row lasts -/
def optV : Option Int → V
  | none => .non
  | some n => .int n
/-- an end that is none makes the count none -/
def longD (o : Option Int) (lo e : Int) : Option Int := if e > 10 ^ 12 then none else o.map fun n => n + e - lo
def spLonger : Sp := fun vs H Q _ => ∃ (o : Option Int) (lo e : Int), vs = [optV o, .int lo, endV e] ∧ Q (optV (longD o lo e)) H
section
variable {P : Program} {w : World} {K : PySem.W.Frag} {mg : Str → Option Value} {base : Heap}
variable {f : Addr} {fd : FuncData}
theorem scLonger : FnScope ["days", "low", "high"] ["days", "low", "high"] (defScope sLonger) := ⟨rfl, rfl, rfl, by decide +kernel, rfl, by decide +kernel, by decide +kernel⟩
theorem ok_longer (F : Fun K "longer" "longer" sLonger f fd) : FnOk P w K mg base CX0 1 f fd ["days", "low", "high"] spLonger := by
  refine F.ok scLonger (fun vs H Q E h => ?_) (fun cdv A outer s H vs Q E hr h => ?_)
  · obtain ⟨o, lo, e, rfl, _⟩ := h
    rfl
  obtain ⟨o, lo, e, rfl, q⟩ := h
  refine ⟨_, pss_cons (ps_if (PW.pt (pw_or (pt_cmp (pc_isN (pv 0))) (pw_or1 (pt_cmp (pc_isN (pv 2)))))) (pss_one (ps_ret pe_non)) pss_nil)
    (pss_one (ps_ret (pe_op op_sub (pe_op op_add (pv 0) (pv 2)) (pv 1)))), ?_⟩
  unfold longD at q
  cases o with
  | none =>
    refine ⟨_, rfl, _, rfl, tt2 rfl ?_⟩
    split at q <;> exact q
  | some n =>
    refine ⟨_, rfl, _, rfl, ff2 rfl ⟨_, rfl, _, rfl, ?_⟩⟩
    by_cases c : e > 10 ^ 12
    · rw [if_pos c] at q
      have ev : endV e = .non := if_pos c
      exact tt2 (by rw [ev]; rfl) q
    · rw [if_neg c] at q
      have ev : endV e = .int e := if_neg c
      exact ff2 (by rw [ev]; rfl) ⟨_, rfl, _, by rw [ev]; rfl, _, _, rfl, rfl, _, rfl, _, _, rfl, rfl, q⟩
end
end Q64
/-! a dict by a comprehension, its keys tuples at any depth -/
namespace L2
namespace Dcn
open PySem PySem.Spec PyProof.Rows Dn
/-- a pair goes into such a dict -/
def NPut (w : World) (H : Hp) (D : Addr) (y v : V) (G : Hp) : Prop := ∃ xs k b, Dn w H D xs ∧ y = .ref b ∧ KeyV H k y ∧ k.depth ≤ 8 ∧ xs.length < sizeLine ∧ G = upd H D (DnO w D (putN xs k b v))
/-- a pair goes in -/
theorem room0 {A : Around} (hu : A.units + 16 < cLine) {P : Program} {w : World} : (nestedKind P w).room A := by
  have h := room1 hu (P := P) (w := w)
  first
  | exact h
  | (show _ < _; omega)
  | (unfold nestedKind at *; simp at *; omega)
theorem put_in {X : Cx} {ps : List (Addr × Obj)} {τ : St} {G : Hp} {z : Shared} {E : Value → Shared → Prop} {D : Addr} {y v : V} {G' : Hp} {u r : Value} {Q : Unit → Shared → Prop}
    (hu : X.A.units + 16 < cLine) (J : Inv X ps τ G z) (g : NPut X.w G D y v G') (ry : RelV y u) (rv : RelV v r) (q : ∀ z', Inv X ps τ G' z' → Q () z') : wpAny (model X.prog X.w) X.A (dictSet D u r) Q E z := by
  obtain ⟨xs, k, b, gd, rfl, hk, kd, l, rfl⟩ := g
  cases ry
  obtain ⟨_, hd, dp, nd, ys, rel, dd⟩ := dn_of J.hok gd
  have hz : ys.length ≤ sizeLine := by rw [← Paired.length rel]; omega
  refine wpAny_dictSet_heap (hsz := hz) (room0 hu) (dn_key J.hok hk kd) dd fun h' dd' hs => q _ ?_
  have z := dz_put (P := X.prog) l hd dp nd kd rel rv dd'
  have ⟨_, _, _, _, _, _, q, _, _, hq, _⟩ := z
  exact d_write J (by rw [gd.1]; exact True.intro) hs ⟨q, hq⟩ (dz_ok z)
/-- {k: v for .. in .. if ..}: o0 is what the new dict is at first -/
def tDcP (w : World) (o0 : Addr → HO) (wi : TI) (g : TG) (tt : TT) (tk tv : TE) (sl : List Nat) : TE := fun σ H Q => wi σ H fun J H1 => ∀ D, H1 D = none → ∃ W : Nat → Nat → Hp → Prop, (∃ m, W 0 m (upd H1 D (o0 D))) ∧ ∀ i m H, W i m H →
  (J.stop i H ∧ Q (.ref D) H) ∨ (J.go i H ∧ ∃ Nx : Hp → Prop, (∀ H', Nx H' → ∃ m', m' < m ∧ W (i + 1) m' H') ∧ ∀ x H', J.yld i H x H' → g x (wipe σ sl) H' fun σ2 H2 => wipe σ2 sl = wipe σ sl ∧ tt σ2 H2 fun b H3 =>
    if b = true then tk σ2 H3 fun y H4 => tv σ2 H4 fun z H5 => ∃ H6, NPut w H5 D y z H6 ∧ Nx H6 else Nx H3)
def Fresh (w : World) (o0 : Addr → HO) : Prop := ∀ {P : Program} {H : Hp} (h : Heap), sysModules < h.objs.size → ObjOk P w H (h.push { cls := .type "dict", data := .dict #[] }) h.objs.size (o0 h.objs.size)
theorem fresh_n (w : World) : Fresh w (fun d => DnO w d []) := by
  intro P H h hb
  exact dz_ok (dz_nil h hb)
section
variable {X : Cx}
theorem core {ps : List (Addr × Obj)} {z : Shared} {τ : St} {G : Hp} {Q : VK} {o0 : Addr → HO} {kx vx tg itx : Expr} {fs : List Expr} {sc : Scope} {own : List (Str × Nat)} {p1 p2 : Pos} {wi : TI} {g : TG} {tt : TT} {tk tv : TE} {use : Option (Value → Sem Unit)} {Qf : Value → Shared → Prop}
    (fo : Fresh X.w o0) (hu : X.A.units + 16 < cLine) (hc : X.calm = true) (hN : X.N.Nodup) (J0 : Inv X ps τ G z) (hi : PI X tg itx wi) (ok : BlkOk X.N X.env.scope sc own)
    (hg : ∀ (z : Shared) (H : Hp) (C : Addr) (cl : List (Str × Addr)) (fp : List Addr), PG (X.blk z H sc (compEnvC sc cl C X.env) fp) tg g)
    (ht : ∀ (z : Shared) (H : Hp) (C : Addr) (cl : List (Str × Addr)) (fp : List Addr), PTs (X.blk z H sc (compEnvC sc cl C X.env) fp) fs tt)
    (hk : ∀ (z : Shared) (H : Hp) (C : Addr) (cl : List (Str × Addr)) (fp : List Addr), PE (X.blk z H sc (compEnvC sc cl C X.env) fp) kx tk)
    (he : ∀ (z : Shared) (H : Hp) (C : Addr) (cl : List (Str × Addr)) (fp : List Addr), PE (X.blk z H sc (compEnvC sc cl C X.env) fp) vx tv) (hs : ∀ x, foldedSetIterable itx X.env x = pure x)
    (q0 : tDcP X.w o0 wi g tt tk tv (own.map (·.2)) τ G Q)
    (out : ∀ D C z' m G', Inv X ps τ G' z' → Q (.ref D) G' → z'.heap.Ns C m → FpOk X ps G' C → compPost (model X.prog X.w) X.A X.xe use Qf (.ref D) C (.ok .next) z') :
    wpAny (model X.prog X.w) X.A (comprehension (.DictComp kx vx [⟨tg, itx, fs, 0⟩] sc p1) sc X.env p2 newDict false (eval itx X.env) use) Qf X.xe z := by
  have frees : ∀ y ∈ sc.names, y.2 = .free → ∃ c, X.env.cells.lookup y.1 = some c := fun y hy e => (ok.free y hy e).elim (fun k => J0.ok.has _ (.inl k)) fun k => J0.ok.has _ (.inr k)
  refine wpAny_comprehension_free (use := use) rfl hs (closure_ok frees) ok.kind (fun y hy e => by rw [ok.uniq y hy, e]) (thn (hi.run ps z τ G _ J0 q0) fun xv z1 hx => thn hx fun itv z2 h2 => ?_)
  obtain ⟨it, fp, tn, J, G2, e, J2, T, tn2, ex2, turn0⟩ := h2
  subst e
  refine wpAny_newObj_type (newEnv_comp ?_)
  generalize eD : z2.heap.objs.size = D
  have nD : G2 D = none := J2.hok.fresh (Nat.le_of_eq eD)
  obtain ⟨W, ⟨n0, w0⟩, turn⟩ := turn0 D nD
  generalize ez3 : ({ z2 with heap := z2.heap.push { cls := .type "dict", data := .dict #[] } } : Shared) = z3
  have J3 : Inv X ps τ (upd G2 D (o0 D)) z3 := by
    rw [← ez3]
    refine J2.laid (t' := z2.toks) (fun b o e => Heap.get?_push_of_some _ e) (Nat.le_of_eq eD) ?_
    rw [← eD]
    exact fo z2.heap J2.big
  have hp3 : z3.heap = z2.heap.push { cls := .type "dict", data := .dict #[] } := by rw [← ez3]
  have old : ∀ b ∈ fp, b < z2.heap.objs.size := fun b hb => let ⟨o, e, _⟩ := T.obj _ _ tn2 b hb; Heap.lt_size e
  have ex3 : ∀ b ∈ fp, FpOk X ps (upd G2 D (o0 D)) b ∧ b < z3.heap.objs.size := fun b hb => by
    have lt := old b hb
    have ne : b ≠ D := by rw [← eD]; exact Nat.ne_of_lt lt
    exact ⟨⟨by rw [upd_ne ne]; exact (ex2 b hb).1, (ex2 b hb).2⟩, by rw [hp3, Heap.size_push]; exact Nat.lt_succ_of_lt lt⟩
  have tn3 : tn 0 z3.heap := T.keep _ _ _ tn2 fun b _ o e => by rw [hp3]; exact Heap.get?_push_of_some _ e
  have J4 := block_start J3 ok hN ex3
  obtain ⟨cl, ecl⟩ : ∃ cl, cl = cellsFrom (z3.heap.objs.size + 1) sc.names (cloFrom X.env.cells sc.names []) := ⟨_, rfl⟩
  have rg := hg z3 (upd G2 D (o0 D)) z3.heap.objs.size cl fp
  have rt := ht z3 (upd G2 D (o0 D)) z3.heap.objs.size cl fp
  have rk := hk z3 (upd G2 D (o0 D)) z3.heap.objs.size cl fp
  have rv := he z3 (upd G2 D (o0 D)) z3.heap.objs.size cl fp
  rw [← ecl] at J4
  show codeAny _ _ (.compStart (.DictComp kx vx [⟨tg, itx, fs, 0⟩] sc p1) 0 (.ref it) (.ref D) (compEnvC sc (cellsFrom (z3.heap.objs.size + 1) sc.names (cloFrom X.env.cells sc.names [])) z3.heap.objs.size X.env)) (compPost (model X.prog X.w) X.A X.xe use Qf (.ref D) z3.heap.objs.size) { z3 with heap := pushCells (z3.heap.push { cls := .type "dict", data := .dict #[] }) sc.names }
  rw [← ecl]
  have nfp : ∀ b ∈ fp, (upd G2 D (o0 D)) b = none := fun b hb => (ex3 b hb).1.1
  generalize ece : compEnvC sc cl z3.heap.objs.size X.env = ce at J4 rg rt rk rv ⊢
  have lce : ce.locals = z3.heap.objs.size := by subst ece; rfl
  generalize eG3 : upd G2 D (o0 D) = G3 at J3 J4 rg rt rk rv w0 nfp ex3
  generalize ez4 : ({ z3 with heap := pushCells (z3.heap.push { cls := .type "dict", data := .dict #[] }) sc.names } : Shared) = z4 at J4 ⊢
  have tn4 : tn 0 z4.heap := T.keep _ _ _ tn3 fun b _ o e => by rw [← ez4]; exact pushCells_keeps _ _ _ _ (Heap.get?_push_of_some _ e)
  obtain ⟨B, eB⟩ : ∃ B, B = X.blk z3 G3 sc ce fp := ⟨_, rfl⟩
  have fpB : ∀ {τ' : St} {G' : Hp} {z' : Shared}, Inv (X.blk z3 G3 sc ce fp) [] τ' G' z' → (∀ b ∈ fp, G' b = none) → ∀ b ∈ fp, FpOk (X.blk z3 G3 sc ce fp) [] G' b := fun {τ' G' z'} J' hn b hb =>
    ⟨hn b hb, (J'.ok.exf b hb).1, J'.ok.exfs b hb, .inl hb, fun x c e => (J'.ok.exf b hb).2 x c e, fun p hp => absurd (show p ∈ ([] : List (Addr × Obj)) ++ [] from hp) (by simp)⟩
  have all : codeAny (model X.prog X.w) X.A (.compLoop (.DictComp kx vx [⟨tg, itx, fs, 0⟩] sc p1) 0 (.ref it) (.ref D) ce) (compPost (model X.prog X.w) X.A X.xe use Qf (.ref D) z3.heap.objs.size) z4 := by
    refine compLoop_anyD (fun n z' => ∃ i G', Inv (X.blk z3 G3 sc ce fp) [] (wipe τ (own.map (·.2))) G' z' ∧ tn i z'.heap ∧ (∀ b ∈ fp, G' b = none) ∧ W i n G') ?_ n0 ⟨0, G3, J4, tn4, nfp, w0⟩
    rintro n z5 ⟨i, G5, J5, tn5, n5, w5⟩
    rcases turn i n G5 w5 with ⟨stop, qq⟩ | ⟨go, Nx, less, step⟩
    · refine thnF (T.done (X.blk z3 G3 sc ce fp) rfl rfl rfl hc i [] z5 _ G5 (fun _ _ => False) J5 (fpB J5 n5) tn5 stop) fun r z6 ⟨hr, J6⟩ => ?_
      subst hr
      have J7 : Inv X ps τ G5 z6 := J3.call' (ch := fp) J6.os J6.base J6.hok J6.bare fun b hb => ⟨(ex3 b hb).1.2.2.2.1, (ex3 b hb).1.2.1, (ex3 b hb).1.2.2.2.2.1, (ex3 b hb).1.2.2.2.2.2⟩
      have nC : G5 ce.locals = none := J6.free
      rw [lce] at nC
      obtain ⟨m, hn, _⟩ := J6.loc
      have hn2 : z6.heap.Ns ce.locals m := hn
      rw [lce] at hn2
      exact out D z3.heap.objs.size z6 m G5 J7 qq hn2 (J3.fpOk (Nat.le_refl _) nC)
    · refine thnF (T.item (X.blk z3 G3 sc ce fp) rfl rfl rfl hc i [] z5 _ G5 (fun _ _ => False) J5 (fpB J5 n5) tn5 go) fun r z6 ⟨u, hr, h6⟩ => ?_
      subst hr
      refine thnF h6 fun _ z7 ⟨x, G7, J7, r7, y7, tn7, n7⟩ => ?_
      refine thnF (rg.run _ z7 _ G7 x u _ (J7.pinned (fpB J7 n7) (T.obj _ _ tn7)) r7 (step x G7 y7)) fun _ z8 ⟨τ8, G8, J8, hw8, q8⟩ => ?_
      refine thnF (rt.run _ z8 τ8 G8 _ J8 q8) fun b z9 ⟨G9, J9, q9⟩ => ?_
      have fin : ∀ {z' : Shared} {G' : Hp}, Inv (X.blk z3 G3 sc ce fp) ([] ++ pinsAt fp z7.heap) τ8 G' z' → Nx G' → ∃ m, m < n ∧ ∃ i G', Inv (X.blk z3 G3 sc ce fp) [] (wipe τ (own.map (·.2))) G' z' ∧ tn i z'.heap ∧ (∀ b ∈ fp, G' b = none) ∧ W i m G' := fun {z' G'} J' nx => by
        obtain ⟨m', lt, w'⟩ := less G' nx
        have pinned : ∀ b ∈ fp, ∀ o, z7.heap.get? b = some o → z'.heap.get? b = some o ∧ G' b = none := fun b hb o e =>
          ⟨(J'.pin (b, o) (List.mem_append_right _ (List.mem_append_right _ (mem_pinsAt hb e)))).1, (J'.pin (b, o) (List.mem_append_right _ (List.mem_append_right _ (mem_pinsAt hb e)))).2.1⟩
        have len : (wipe τ (own.map (·.2))).length = τ8.length := by rw [← hw8, wipe_length]
        have tn' : tn (i + 1) z'.heap := T.keep _ _ _ tn7 fun b hb o e => (pinned b hb o e).1
        refine ⟨m', lt, i + 1, G', (J'.unpinned (pins := [])).weak len (fun j v e => (wipe_some (by rw [hw8]; exact e)).1), tn', fun b hb => ?_, w'⟩
        obtain ⟨o, e, _⟩ := T.obj _ _ tn7 b hb
        exact (pinned b hb o e).2
      cases b with
      | false =>
        simp only [Bool.false_eq_true, if_false] at q9 ⊢
        exact fin J9 q9
      | true =>
        simp only [if_true] at q9 ⊢
        refine thnF (rk.run _ z9 τ8 G9 _ J9 q9) fun kv z10 ⟨yk, G10, J10, r10, q10⟩ => ?_
        refine thnF (rv.run _ z10 τ8 G10 _ J10 q10) fun vv z11 ⟨yv, G11, J11, r11, G12, dp, nx⟩ => ?_
        exact put_in (X := X.blk z3 G3 sc ce fp) hu J11 dp r10 r11 fun z12 J12 => fin J12 nx
  exact codeAny_compStart_dict all (T.self X.A 0 _ _ _ tn4 all)
theorem pe_dcP {o0 : Addr → HO} {kx vx tg itx : Expr} {fs : List Expr} {sc : Scope} {own : List (Str × Nat)} {p1 : Pos} {wi : TI} {g : TG} {tt : TT} {tk tv : TE} (fo : Fresh X.w o0) (hu : X.A.units + 16 < cLine) (hc : X.calm = true) (hN : X.N.Nodup) (hi : PI X tg itx wi) (ok : BlkOk X.N X.env.scope sc own)
    (hg : ∀ (z : Shared) (H : Hp) (C : Addr) (cl : List (Str × Addr)) (fp : List Addr), PG (X.blk z H sc (compEnvC sc cl C X.env) fp) tg g)
    (ht : ∀ (z : Shared) (H : Hp) (C : Addr) (cl : List (Str × Addr)) (fp : List Addr), PTs (X.blk z H sc (compEnvC sc cl C X.env) fp) fs tt)
    (hk : ∀ (z : Shared) (H : Hp) (C : Addr) (cl : List (Str × Addr)) (fp : List Addr), PE (X.blk z H sc (compEnvC sc cl C X.env) fp) kx tk)
    (he : ∀ (z : Shared) (H : Hp) (C : Addr) (cl : List (Str × Addr)) (fp : List Addr), PE (X.blk z H sc (compEnvC sc cl C X.env) fp) vx tv) (hs : ∀ x, foldedSetIterable itx X.env x = pure x := by intro _; rfl) :
    PE X (.DictComp kx vx [⟨tg, itx, fs, 0⟩] sc p1) (tDcP X.w o0 wi g tt tk tv (own.map (·.2))) := by
  refine ⟨fun ps z τ G Q J q => ?_⟩
  rw [arm_eval_DictComp]
  refine core fo hu hc hN J hi ok hg ht hk he hs q fun D C z' m G' J' qq hn f => ⟨m, hn, fun h2 sb => ?_⟩
  obtain ⟨f0, f1, f2, f3, f4, f5⟩ := f
  exact ⟨.ref D, G', J'.turned (t' := z'.toks) (fun b o hb e => (sb.2 b hb).trans e) f0 f1 f3 f4 f5, rfl, qq⟩
end
/-- over a walk -/
theorem dc_it {w : World} {J : It} {n : Nat} {Gd : Hp → Prop} {Y : Nat → Hp → V → Hp → Prop} (wk : Walk J n Gd Y) {o0 : Addr → HO} {g : TG} {tt : TT} {tk tv : TE} {sl : List Nat} {σ : St} {H1 : Hp} {D : Addr} {Qd : Hp → Prop} (Pv : Nat → Hp → Prop) (h0 : Pv 0 (upd H1 D (o0 D))) (hG : ∀ i H, i ≤ n → Pv i H → Gd H)
    (hs : ∀ i x H H', i < n → Pv i H → Y i H x H' → g x (wipe σ sl) H' fun σ2 H2 => wipe σ2 sl = wipe σ sl ∧ tt σ2 H2 fun b H3 =>
      if b = true then tk σ2 H3 fun y H4 => tv σ2 H4 fun z H5 => ∃ H6, NPut w H5 D y z H6 ∧ Pv (i + 1) H6 else Pv (i + 1) H3) (hd : ∀ H, Pv n H → Qd H) :
    ∃ W : Nat → Nat → Hp → Prop, (∃ m, W 0 m (upd H1 D (o0 D))) ∧ ∀ i m H, W i m H → (J.stop i H ∧ Qd H) ∨ (J.go i H ∧ ∃ Nx : Hp → Prop, (∀ H', Nx H' → ∃ m', m' < m ∧ W (i + 1) m' H') ∧ ∀ x H', J.yld i H x H' → g x (wipe σ sl) H' fun σ2 H2 => wipe σ2 sl = wipe σ sl ∧ tt σ2 H2 fun b H3 =>
        if b = true then tk σ2 H3 fun y H4 => tv σ2 H4 fun z H5 => ∃ H6, NPut w H5 D y z H6 ∧ Nx H6 else Nx H3) := by
  refine ⟨fun i m H => m = n - i ∧ i ≤ n ∧ Pv i H, ⟨n - 0, rfl, Nat.zero_le _, h0⟩, fun i m H ⟨em, le, p⟩ => ?_⟩
  subst em
  have gd := hG i H le p
  rcases Nat.lt_or_ge i n with lt | ge
  · exact .inr ⟨wk.goes i H lt gd, Pv (i + 1), fun H' p' => ⟨n - (i + 1), by omega, rfl, lt, p'⟩, fun x H' y => hs i x H H' lt p (wk.yields i H x H' lt gd y)⟩
  · obtain rfl : i = n := by omega
    exact .inl ⟨wk.stops H gd, hd H p⟩
end Dcn
end L2
namespace Q64
open PySem L2 Ln Dn Srk
abbrev sThing : Stmt := top 7
abbrev sRow : Stmt := top 6
abbrev sRising : Stmt := top 5
/-- the program's own order of things is the same: a triple -/
def spThingO : Sp := fun vs H Q _ => ∃ (v : V) (k : NestedKey), vs = [v] ∧ ThV v k ∧ ∀ (R : Addr) (H' : Hp), Same H H' → KeyV H' (rankT k) (.ref R) → Q (.ref R) H'
section
variable {P : Program} {w : World} {K : PySem.W.Frag} {mg : Str → Option Value} {base : Heap}
variable {f fT fR : Addr} {fd fdT fdR : FuncData}
theorem scThing : FnScope ["thing"] ["thing"] (defScope sThing) := ⟨rfl, rfl, rfl, by decide +kernel, rfl, by decide +kernel, by decide +kernel⟩
theorem ok_thingO (F : Fun K "thing_order" "thing_order" sThing f fd) (ms : mg "isinstance" = none) (mi : mg "int" = none) : FnOk P w K mg base CX0 1 f fd ["thing"] spThingO := by
  refine F.ok scThing (fun vs H Q E h => ?_) (fun cdv A outer s H vs Q E hr h => ?_)
  · obtain ⟨v, k, rfl, _⟩ := h
    rfl
  obtain ⟨v, k, rfl, ha, q⟩ := h
  refine ⟨_, pss_cons (ps_if (pt_cmp (pc_isN (pv 0))) (pss_one (ps_ret (pe_tup (pa_cons pe_int (pa_cons pe_int (pa_cons pe_str pa_nil)))))) pss_nil)
    (pss_cons (ps_if (pt_val (pe_callB call_isi (by rfl) ms (by decide +kernel) (pa_cons (pv 0) (pa_cons (pe_bltn (v := .ty "int") (by rfl) mi (by decide +kernel) rfl) pa_nil)))) (pss_one (ps_ret (pe_tup (pa_cons pe_int (pa_cons (pv 0) (pa_cons pe_str pa_nil)))))) pss_nil)
    (pss_one (ps_ret (pe_tup (pa_cons pe_int (pa_cons pe_int (pa_cons (pv 0) pa_nil))))))), ?_⟩
  have fin : ∀ (ys : List V), (∀ t2 (H2 : Hp), H2 t2 = some (.tup ys) → KeyV H2 (rankT k) (.ref t2)) → ∀ t2, H t2 = none → Q (.ref t2) (upd H t2 (.tup ys)) := fun ys mk t2 n2 => q t2 _ (same_new n2 _) (mk t2 _ upd_same)
  cases ha with
  | non => exact ⟨_, rfl, _, rfl, tt2 rfl ⟨(by rw [sizeLine_eq]; simp), fun t2 n2 => fin [V.int 0, V.int 0, V.str ""] (fun t3 H3 h3 => .tup h3 (.cons (.num 0) (.cons (.num 0) (.cons (.text "") .nil)))) t2 n2⟩⟩
  | int j => exact ⟨_, rfl, _, rfl, ff2 rfl ⟨_, rfl, _, _, _, _, _, rfl, .ty "int", .base (.int j), An.kit_int (.int j), _, rfl, tt2 rfl ⟨_, rfl, (by rw [sizeLine_eq]; simp), fun t2 n2 => fin [V.int 1, V.int j, V.str ""] (fun t3 H3 h3 => .tup h3 (.cons (.num 1) (.cons (.num j) (.cons (.text "") .nil)))) t2 n2⟩⟩⟩
  | str y => exact ⟨_, rfl, _, rfl, ff2 rfl ⟨_, rfl, _, _, _, _, _, rfl, .ty "int", .base (.str y), An.kit_int (.str y), _, rfl, ff2 rfl ⟨_, rfl, (by rw [sizeLine_eq]; simp), fun t2 n2 => fin [V.int 2, V.int 0, V.str y] (fun t3 H3 h3 => .tup h3 (.cons (.num 2) (.cons (.num 0) (.cons (.text y) .nil)))) t2 n2⟩⟩⟩
abbrev rowN : List Str := ["row", "thing"]
theorem scRow : FnScope rowN ["row"] (defScope sRow) := ⟨rfl, rfl, rfl, by decide +kernel, rfl, by decide +kernel, by decide +kernel⟩
theorem ok_rowO (F : Fun K "row_order" "row_order" sRow f fd) (mt : mg "tuple" = none)
    (GT : FnOk P w K mg base CX0 1 fT fdT ["thing"] spThingO) (bT : Binds K fdT ["thing"] []) (kT : PySem.W.keepIn K (.ref fT) = true) (mT : mg "thing_order" = some (.ref fT)) : FnOk P w K mg base CX0 2 f fd ["row"] spRank := by
  refine F.ok scRow (fun vs H Q E h => ?_) (fun cdv A outer s H vs Q E hr h => ?_)
  · obtain ⟨r, xs, ks, rfl, _⟩ := h
    rfl
  obtain ⟨r, xs, ks, rfl, hr0, hth, lx, qq⟩ := h
  refine ⟨_, pss_one (ps_ret (pe_callTy call_tuple_of (by rfl) mt (by decide +kernel) (pa_cons (pe_lc (own := [("thing", 1)]) (g := gName 1) (by rfl) scRow.nd (pi_tup (pv 0)) (blkOk_by (own := [("thing", 1)]) (N := rowN) (sc := defScope sRow) (by decide +kernel)) (fun _ _ _ _ _ => pg_name (i := 1) scRow.nd rfl (Or.inl rfl)) (fun _ _ _ _ _ => pts_nil) (fun _ _ _ _ _ => pe_call GT hr (by rfl) mT kT bT .nil pass0 (pa_cons (pv 1) pa_nil))) pa_nil))), ?_⟩
  have lc : xs.length = ks.length := Paired.length hth
  refine ⟨_, rfl, r, rfl, ⟨_, SqT.of hr0⟩, fun D nD => ?_⟩
  refine lc_tup (K := K) (a := r) (xs := xs) (fun i H1 => ∃ us, H1 D = some (.lst us) ∧ KeysV H1 ((ks.map rankT).take i) us ∧ us.length = i ∧ Same H H1) ⟨[], upd_same, by rw [List.take_zero]; exact .nil, rfl, same_new nD _⟩ (fun i H1 _ ⟨_, _, _, _, s1⟩ => SqT.of (s1 _ _ hr0)) ?_ ?_
  · rintro i v H1 hi ⟨us, hD, hk, lu, s1⟩
    obtain ⟨k, hk0, ok⟩ := paired_at hth hi
    have il : i < 20 := by
      have := (List.getElem?_eq_some_iff.mp hi).1
      omega
    refine ⟨rfl, _, rfl, v, k, rfl, ok, fun R H2 s2 hR => ?_⟩
    have hD2 := s2 _ _ hD
    have kD : Keep H2 (upd H2 D (.lst (us ++ [.ref R]))) := fun b zs hc => by
      rw [upd_ne (ne_of hc hD2 (by intro z; cases z))]
      exact hc
    refine ⟨us, hD2, small1000 (by omega), us ++ [.ref R], upd_same, ?_, by rw [List.length_append, lu]; rfl, fun b o e => ?_⟩
    · have e : (ks.map rankT)[i]? = some (rankT k) := by rw [List.getElem?_map, hk0]; rfl
      rw [List.take_add_one, e]
      exact keysV_snoc (KeyV.keep kD _ _ hR) (KeysV.keep ((Keep.of s2).trans kD) _ _ hk)
    · rw [upd_ne (ne_of_none e nD)]
      exact s2 _ _ (s1 _ _ e)
  rintro H1 ⟨us, hD, hk, lu, s1⟩
  rw [lc, ← List.length_map rankT, List.take_length] at hk
  refine ⟨D, us, rfl, .inl ⟨SqL.of hD, fun R nR => ?_⟩⟩
  have gR : Same H1 _ := same_new nR (.tup us)
  exact qq R _ (s1.trans gR) (.tup upd_same (KeysV.keep (Keep.of gR) _ _ hk))
end
end Q64
namespace Q64
open PySem L2 Ln Dn Srk
def RowV (H : Hp) (v : V) (ks : List NestedKey) : Prop := ∃ (r : Addr) (xs : List V), v = .ref r ∧ H r = some (.tup xs) ∧ Paired ThV xs ks ∧ 0 < ks.length ∧ ks.length ≤ 20
theorem RowV.keep {H H' : Hp} (k : Keep H H') {v : V} {ks : List NestedKey} (h : RowV H v ks) : RowV H' v ks := by
  obtain ⟨r, xs, e, h1, h2⟩ := h
  exact ⟨r, xs, e, k _ _ h1, h2⟩
theorem paired_each' {α β : Type} {R : α → β → Prop} {S : β → Prop} (h : ∀ a b, R a b → S b) : ∀ {xs : List α} {ys : List β}, Paired R xs ys → ∀ y ∈ ys, S y
  | _, _, .cons a r, y, hy => by
    rcases List.mem_cons.mp hy with rfl | hy
    · exact h _ _ a
    · exact paired_each' h r y hy
def spRising : Sp := fun vs H Q _ => ∃ (L : Addr) (us : List V) (ks : List (List NestedKey)), vs = [.ref L] ∧ H L = some (.lst us) ∧ Paired (RowV H) us ks ∧ ks.Nodup ∧ ks.length ≤ 200 ∧
  ∀ (S : Addr) (ys : List V) (H' : Hp), Same H H' → H S = none → H' S = some (.lst ys) → Paired (RowV H') ys (ks.mergeSort (leK encR)) → Q (.ref S) H'
section
variable {P : Program} {w : World} {K : PySem.W.Frag} {mg : Str → Option Value} {base : Heap}
variable {f fR : Addr} {fd fdR : FuncData}
theorem scRising : FnScope ["rows", "row"] ["rows"] (defScope sRising) := ⟨rfl, rfl, rfl, by decide +kernel, rfl, by decide +kernel, by decide +kernel⟩
theorem ok_rising (F : Fun K "rising" "rising" sRising f fd) (GR : FnOk P w K mg base CX0 2 fR fdR ["row"] spRank) (bR : Binds K fdR ["row"] []) (kR : PySem.W.keepIn K (.ref fR) = true) (mR : mg "row_order" = some (.ref fR))
    (mo : mg "sorted" = none) (ml : mg "list" = none) : FnOk P w K mg base CX0 5 f fd ["rows"] spRising := by
  refine F.ok scRising (fun vs H Q E h => ?_) (fun cdv A outer s H vs Q E hr h => ?_)
  · obtain ⟨L, us, ks, rfl, _⟩ := h
    rfl
  obtain ⟨L, us, ks, rfl, hL, hP, nd, l200, qq⟩ := h
  have hr3 : Room 3 _ := hr.mono (by decide)
  have hu : (A.deeper (PyProof.Rows.envOfC "rising" (defScope sRising) s.heap.objs.size f cdv)).units + 16 < cLine := Nat.lt_of_le_of_lt (Nat.add_le_add_left (by decide) _) hr.units
  refine ⟨_, pss_one (ps_ret (pe_callBK (cr_sortKey (β := List NestedKey) (enc := encR) GR bR hr3) (by rfl) mo (by decide +kernel) (pa_cons (pe_callTy (call_listN rfl) (by rfl) ml (by decide +kernel) (pa_cons (Dcn.pe_dcP (o0 := fun d => DnO w d []) (own := [("row", 1)]) (g := gName 1) (Dcn.fresh_n w) hu rfl scRising.nd (pi_list (pv 0)) (blkOk_by (own := [("row", 1)]) (N := ["rows", "row"]) (sc := defScope sRising) (by decide +kernel)) (fun _ _ _ _ _ => pg_name (i := 1) scRising.nd rfl (Or.inl rfl)) (fun _ _ _ _ _ => pts_nil) (fun _ _ _ _ _ => pv 1) (fun _ _ _ _ _ => pe_bl)) pa_nil)) pa_nil) (pk_cons (pe_glob (v := .ref fR) (by rfl) mR rfl) pk_nil))), ?_⟩
  have lu := Paired.length hP
  refine ⟨_, rfl, L, rfl, ⟨_, SqL.of hL⟩, fun D nD => ?_⟩
  refine Dcn.dc_it (w := w) (o0 := fun d => DnO w d []) (walk_list (K := K) (a := L) (xs := us)) (fun i H1 => ∃ xs : List Ent, Dn w H1 D xs ∧ xs.map (·.1) = (ks.take i).map NestedKey.tup ∧ Same H H1)
    ⟨[], Dn.nil upd_same, by rw [List.take_zero]; rfl, same_new nD _⟩ (fun i H1 _ ⟨_, _, _, s1⟩ => SqL.of (s1 _ _ hL)) ?_ ?_
  · rintro i v H1' H1 hi ⟨xs, hD, hk, s1⟩ ⟨rfl, hv⟩
    obtain ⟨kk, hkk, ok0⟩ := paired_at hP hv
    obtain ⟨r, ts, rfl, hr, hth, p0, p20⟩ := ok0.keep (Keep.of s1)
    have li : i < ks.length := (List.getElem?_eq_some_iff.mp hkk).1
    have lx : xs.length = i := by
      have := congrArg List.length hk
      rw [List.length_map, List.length_map, List.length_take] at this
      omega
    have hkey : KeyV H1 (.tup kk) (.ref r) := .tup hr (keysV_of hth)
    have hn : valN xs (.tup kk) = none := by
      cases c : valN xs (.tup kk) with
      | none => rfl
      | some u =>
        exfalso
        obtain ⟨x, hx, e1, _⟩ := valN_some c
        have m : NestedKey.tup kk ∈ (ks.take i).map NestedKey.tup := by
          rw [← hk]
          exact List.mem_map.mpr ⟨x, hx, e1⟩
        obtain ⟨b, hb, e2⟩ := List.mem_map.mp m
        cases e2
        obtain ⟨j, hj, ej⟩ := List.mem_iff_getElem.mp hb
        rw [List.length_take] at hj
        rw [List.getElem_take] at ej
        obtain ⟨_, ei⟩ := List.getElem?_eq_some_iff.mp hkk
        exact List.pairwise_iff_getElem.mp nd j i (by omega) li (by omega) (ej.trans ei.symm)
    refine ⟨rfl, _, rfl, _, ⟨xs, .tup kk, r, hD, rfl, hkey, row_depth (th_leaf hth), small1000 (by omega), rfl⟩, putN xs (.tup kk) r (.bl true), Dn.put hD hkey, ?_, fun b o e => ?_⟩
    · rw [putN_keys, hn, hk, List.take_add_one, hkk, List.map_append]
      rfl
    · rw [upd_ne (ne_of_none e nD)]
      exact s1 _ _ e
  rintro H1 ⟨xs, hD, hk, s1⟩
  rw [lu, List.take_length] at hk
  refine ⟨D, xs, rfl, hD, fun M nM => ?_⟩
  have gM := same_new nM (.lst (keyRefs xs))
  have s2 : Same H _ := s1.trans gM
  have hD2 := hD.same gM
  have rk : ∀ x ∈ xs, ∃ ts, x.1 = .tup (keyL x) ∧ (upd H1 M (.lst (keyRefs xs))) x.2.1 = some (.tup ts) ∧ Paired ThV ts (keyL x) ∧ 0 < (keyL x).length ∧ (keyL x).length ≤ 20 := fun x hx => by
    have m : x.1 ∈ ks.map NestedKey.tup := by
      rw [← hk]
      exact List.mem_map.mpr ⟨x, hx, rfl⟩
    obtain ⟨b, hb, e⟩ := List.mem_map.mp m
    have ek : keyL x = b := by unfold keyL; rw [← e]
    have lf : (∀ k ∈ b, ∀ js, k ≠ .tup js) ∧ 0 < b.length ∧ b.length ≤ 20 := by
      refine paired_each' (R := RowV H) (S := fun b => (∀ k ∈ b, ∀ js, k ≠ .tup js) ∧ 0 < b.length ∧ b.length ≤ 20) (fun v b z => ?_) hP b hb
      obtain ⟨r, ts, _, _, h, p0, p1⟩ := z
      exact ⟨th_leaf h, p0, p1⟩
    have hkx := hD2.2 x hx
    rw [← e] at hkx
    cases hkx with
    | tup h1 h2 =>
      rw [ek]
      exact ⟨_, e.symm, h1, th_of h2 lf.1, lf.2.1, lf.2.2⟩
  have hbs : xs.map keyL = ks := by
    have h : (xs.map keyL).map NestedKey.tup = ks.map NestedKey.tup := by
      rw [List.map_map, ← hk]
      refine List.map_congr_left fun x hx => ?_
      obtain ⟨ts, a, _⟩ := rk x hx
      exact a.symm
    exact List.map_inj_right (fun _ _ e => NestedKey.tup.inj e) |>.mp h
  have hlf : ∀ b ∈ xs.map keyL, (∀ k ∈ b, ∀ js, k ≠ .tup js) ∧ 0 < b.length := fun b hb => by
    obtain ⟨x, hx, rfl⟩ := List.mem_map.mp hb
    obtain ⟨ts, a, h1, h2, h3, h4⟩ := rk x hx
    exact ⟨th_leaf h2, h3⟩
  refine ⟨M, keyRefs xs, xs.map keyL, fun v b => ∃ x ∈ xs, v = .ref x.2.1 ∧ keyL x = b, rfl, rfl, SqL.of upd_same, paired_two (fun x hx => ⟨x, hx, rfl, rfl⟩), keys_ok (fun b hb => (hlf b hb).1) (fun b hb => (hlf b hb).2), ?_, ?_⟩
  · rintro v b ⟨x, hx, rfl, rfl⟩ hb G sG Q' hQ'
    obtain ⟨ts, a, h1, h2, h3, h4⟩ := rk x hx
    have := Paired.length h2
    exact ⟨x.2.1, ts, keyL x, rfl, sG _ _ h1, h2, by omega, fun R' H' s hk => hQ' _ _ s hk⟩
  · intro zs S H3 s3 nS hS hys
    rw [hbs] at hys
    refine qq S zs H3 (s2.trans s3) (s2.free nS) hS (paired_mono (fun v b ⟨x, hx, ev, ek⟩ => ?_) hys)
    obtain ⟨ts, a, h1, h2, h3, h4⟩ := rk x hx
    rw [ek] at h2 h3 h4
    exact ⟨x.2.1, ts, ev, s3 _ _ h1, h2, h3, h4⟩
end
end Q64
namespace Q64
open PySem L2 Ln Dn Srk
abbrev sLasting : Stmt := top 9
/-! how long each row lasts: the rows in their first order, and the days of each (none at all, None, a number) -/
abbrev LSt : Type := List (List NestedKey) × (List NestedKey → Option (Option Int))
def putL (st : LSt) (k : List NestedKey) (o : Option Int) : LSt := (if (st.2 k).isSome then st.1 else st.1 ++ [k], fun j => if j = k then some o else st.2 j)
def stepL (a b : Int) (st : LSt) (s : Span) : LSt := if max s.2.1 a < min s.2.2 b then putL st s.1 (longD ((st.2 s.1).getD (some 0)) (max s.2.1 a) (min s.2.2 b)) else st
def lastL (a b : Int) (ss : List Span) : LSt := ss.foldl (stepL a b) ([], fun _ => none)
/-- the dict holds the state -/
structure DL (w : World) (H : Hp) (D : Addr) (st : LSt) : Prop where
  ex : ∃ xs : List Ent, Dn w H D xs ∧ xs.map (·.1) = st.1.map NestedKey.tup ∧ ∀ k, valN xs (.tup k) = (st.2 k).map optV
  nd : st.1.Nodup
  mem : ∀ k, k ∈ st.1 ↔ (st.2 k).isSome = true
  rows : ∀ k ∈ st.1, (∀ j ∈ k, ∀ js, j ≠ .tup js) ∧ 0 < k.length ∧ k.length ≤ 4
theorem DL.same {w : World} {H H' : Hp} {D : Addr} {st : LSt} (h : DL w H D st) (s : Same H H') : DL w H' D st := by
  obtain ⟨xs, a, b, c⟩ := h.ex
  exact ⟨⟨xs, a.same s, b, c⟩, h.nd, h.mem, h.rows⟩
theorem DL.put {w : World} {H : Hp} {D r : Addr} {st : LSt} {xs : List Ent} {k : List NestedKey} {o : Option Int} (h : DL w H D st) (hx : Dn w H D xs) (e1 : xs.map (·.1) = st.1.map NestedKey.tup) (e2 : ∀ k, valN xs (.tup k) = (st.2 k).map optV) (hk : KeyV H (.tup k) (.ref r)) (ok : (∀ j ∈ k, ∀ js, j ≠ .tup js) ∧ 0 < k.length ∧ k.length ≤ 4) :
    DL w (upd H D (DnO w D (putN xs (.tup k) r (optV o)))) D (putL st k o) := by
  have hs : (valN xs (.tup k)).isSome = (st.2 k).isSome := by rw [e2]; cases st.2 k <;> rfl
  refine ⟨⟨_, Dn.put hx hk, ?_, fun j => ?_⟩, ?_, fun j => ?_, fun j hj => ?_⟩
  · rw [putN_keys, hs]
    show _ = (if (st.2 k).isSome = true then st.1 else st.1 ++ [k]).map NestedKey.tup
    split
    · exact e1
    · rw [List.map_append, e1]
      rfl
  · rw [valN_put]
    show _ = (if j = k then some o else st.2 j).map optV
    by_cases c : j = k
    · rw [if_pos (by rw [c]), if_pos c]
      rfl
    · rw [if_neg (fun z => c (NestedKey.tup.inj z)), if_neg c, e2]
  · show (if (st.2 k).isSome = true then st.1 else st.1 ++ [k]).Nodup
    split
    · exact h.nd
    · rename_i c
      exact nodup_snoc h.nd fun z => c ((h.mem k).mp z)
  · show j ∈ (if (st.2 k).isSome = true then st.1 else st.1 ++ [k]) ↔ (if j = k then some o else st.2 j).isSome = true
    by_cases c : j = k
    · rw [if_pos c, c]
      split
      · rename_i d
        exact ⟨fun _ => rfl, fun _ => (h.mem k).mpr d⟩
      · exact ⟨fun _ => rfl, fun _ => List.mem_append.mpr (.inr (List.mem_singleton_self _))⟩
    · rw [if_neg c]
      refine Iff.trans ?_ (h.mem j)
      split
      · exact Iff.rfl
      · rw [List.mem_append, List.mem_singleton]
        exact ⟨fun z => z.elim id fun z => absurd z c, .inl⟩
  · have hj' : j ∈ (if (st.2 k).isSome = true then st.1 else st.1 ++ [k]) := hj
    split at hj'
    · exact h.rows j hj'
    · rcases List.mem_append.mp hj' with m | m
      · exact h.rows j m
      · rw [List.mem_singleton.mp m]
        exact ok
def LastV (H : Hp) (v : V) (p : List NestedKey × Option Int) : Prop := ∃ (c r : Addr) (xs : List V), v = .ref c ∧ H c = some (.tup [.ref r, optV p.2]) ∧ H r = some (.tup xs) ∧ Paired ThV xs p.1
noncomputable def lastR (st : LSt) : List (List NestedKey × Option Int) := (st.1.mergeSort (leK encR)).map fun k => (k, (st.2 k).getD none)
def spLasting : Sp := fun vs H Q _ => ∃ (T : Addr) (a b : Int) (us : List V) (ss : List Span), vs = [.ref T, .int a, endV b] ∧ H T = some (.tup us) ∧ Paired (SpanV H) us ss ∧ ss.length ≤ 56 ∧ (∀ s ∈ ss, 0 < s.1.length) ∧ 0 ≤ a ∧ a ≤ 10 ^ 12 ∧ b ≤ 10 ^ 12 + 1 ∧
  ∀ (C : Addr) (cs : List V) (H' : Hp), H' C = some (.tup cs) → Paired (LastV H') cs (lastR (lastL a b ss)) → Same H H' → Q (.ref C) H'
section
variable {P : Program} {w : World} {K : PySem.W.Frag} {mg : Str → Option Value} {base : Heap}
variable {f fC fL fR : Addr} {fd fdC fdL fdR : FuncData}
abbrev lastN : List Str := ["spans", "low", "high", "lasts", "row", "first", "last", "start", "end", "one"]
theorem scLasting : FnScope lastN ["spans", "low", "high"] (defScope sLasting) := ⟨rfl, rfl, rfl, by decide +kernel, rfl, by decide +kernel, by decide +kernel⟩
theorem ok_lasting {kws : List (Str × V)} (F : FunD K "lasting" "lasting" (defArgs sLasting) (defBody sLasting) (defScope sLasting) [] kws f fd)
    (GC : FnOk P w K mg base CX0 2 fC fdC ["line", "low", "high"] spClip) (bC : Binds K fdC ["line", "low", "high"] []) (kC : PySem.W.keepIn K (.ref fC) = true) (mC : mg "clipped" = some (.ref fC))
    (GL : FnOk P w K mg base CX0 1 fL fdL ["days", "low", "high"] spLonger) (bL : Binds K fdL ["days", "low", "high"] []) (kL : PySem.W.keepIn K (.ref fL) = true) (mL : mg "longer" = some (.ref fL))
    (GR : FnOk P w K mg base CX0 5 fR fdR ["rows"] spRising) (bR : Binds K fdR ["rows"] []) (kR : PySem.W.keepIn K (.ref fR) = true) (mR : mg "rising" = some (.ref fR))
    (mt : mg "tuple" = none) (ml : mg "list" = none) : FnOk P w K mg base CX0 6 f fd ["spans", "low", "high"] spLasting := by
  refine F.ok scLasting (fun vs H Q E h => ?_) (fun cdv A outer s H vs Q E hr h => ?_)
  · obtain ⟨T, a, b, us, ss, rfl, _⟩ := h
    rfl
  obtain ⟨T, a, b, us, ss, rfl, hT, hP, l56, pos, a0, a1, b1, q⟩ := h
  have hr1 : Room 1 _ := hr.mono (by decide)
  have hr2 : Room 2 _ := hr.mono (by decide)
  have hu : (A.deeper (PyProof.Rows.envOfC "lasting" (defScope sLasting) s.heap.objs.size f cdv)).units + 16 < cLine := Nat.lt_of_le_of_lt (Nat.add_le_add_left (by decide) _) hr.units
  refine ⟨_, PSs.nox (pss_cons (ps_set (i := 3) scLasting.nd rfl (Or.inr rfl) pe_nnew)
    (pss_cons (ps_for PassesOwn.never rfl (pi_tup (pv 0)) (pg_tup rfl (pgs_cons (pg_name (i := 4) scLasting.nd rfl (.inl rfl)) (pgs_cons (pg_name (i := 5) scLasting.nd rfl (.inl rfl)) (pgs_cons (pg_name (i := 6) scLasting.nd rfl (.inl rfl)) pgs_nil))))
      (pss_one (ps_for PassesOwn.never rfl (pi_list (pe_call GC hr2 (by rfl) mC kC bC .nil pass0 (pa_cons (pe_lst (pa_cons (pe_tup (pa_cons (pv 5) (pa_cons (pv 6) (pa_cons pe_int pa_nil)))) pa_nil)) (pa_cons (pv 1) (pa_cons (pv 2) pa_nil))))) (pg_tup rfl (pgs_cons (pg_name (i := 7) scLasting.nd rfl (.inl rfl)) (pgs_cons (pg_name (i := 8) scLasting.nd rfl (.inl rfl)) (pgs_cons (pg_name (i := 9) scLasting.nd rfl (.inl rfl)) pgs_nil))))
        (pss_one (ps_nput hu (pv 3) (pv 4) (pe_call GL hr1 (by rfl) mL kL bL .nil pass0 (pa_cons (pe_nbm PySem.F.slot_dict_get PySem.F.type_dict_get (mt_nget2 hu) (pv 3) (pa_cons (pv 4) (pa_cons pe_int pa_nil))) (pa_cons (pv 7) (pa_cons (pv 8) pa_nil)))) rfl)))))
    (pss_one (ps_ret (pe_callTy call_tuple_of (by rfl) mt (by decide +kernel) (pa_cons (pe_lc (own := [("row", 4)]) (g := gName 4) (by rfl) scLasting.nd (pi_list (pe_call GR hr (by rfl) mR kR bR .nil pass0 (pa_cons (pe_callTy (call_listN rfl) (by rfl) ml (by decide +kernel) (pa_cons (pv 3) pa_nil)) pa_nil))) (blkOk_by (own := [("row", 4)]) (N := lastN) (sc := defScope sLasting) (by decide +kernel)) (fun _ _ _ _ _ => pg_name (i := 4) scLasting.nd rfl (Or.inl rfl)) (fun _ _ _ _ _ => pts_nil) (fun _ _ _ _ _ => pe_tup (pa_cons (pv 4) (pa_cons (te := tNGet w (tVar 3) (tVar 4)) (pe_nget hu (pv 3) (pv 4) (fun _ _ => rfl)) pa_nil)))) pa_nil)))))), ?_⟩
  have lu := Paired.length hP
  refine fun D nD => ?_
  have gD := same_new nD (DnO w D [])
  have st0 : DL w (upd H D (DnO w D [])) D ([], fun _ => none) := ⟨⟨[], Dn.nil upd_same, rfl, fun k => rfl⟩, List.nodup_nil, fun k => ⟨fun h => absurd h List.not_mem_nil, fun h => absurd h Bool.false_ne_true⟩, fun k h => absurd h List.not_mem_nil⟩
  refine ⟨_, rfl, T, rfl, ⟨_, SqT.of (gD _ _ hT)⟩, for_tup (K := K) (a := T) (xs := us) (fun i σ' H1 => ∃ (v4 v5 v6 v7 v8 v9 : Option V) (st : LSt), σ' = [some (.ref T), some (.int a), some (endV b), some (.ref D), v4, v5, v6, v7, v8, v9] ∧ st = (ss.take i).foldl (stepL a b) ([], fun _ => none) ∧ DL w H1 D st ∧ st.1.length ≤ i ∧ Same H H1)
    ⟨_, _, _, _, _, _, _, rfl, rfl, st0, Nat.le_refl _, gD⟩ (fun i σ' H1 _ ⟨_, _, _, _, _, _, _, _, _, _, _, s1⟩ => SqT.of (s1 _ _ hT)) ?_ ?_⟩
  · rintro i v σ' H1 hi ⟨v4, v5, v6, v7, v8, v9, st, rfl, hst, hD1, lst, s1⟩
    obtain ⟨sp, hsp, ok0⟩ := paired_at hP hi
    have il : i < 56 := by
      have := (List.getElem?_eq_some_iff.mp hsp).1
      omega
    obtain ⟨ok, t, r, xs, rfl, ht, hr', hth⟩ := ok0.keep (Keep.of s1)
    have okk : (∀ j ∈ sp.1, ∀ js, j ≠ .tup js) ∧ 0 < sp.1.length ∧ sp.1.length ≤ 4 := ⟨th_leaf hth, pos sp (List.mem_of_getElem? hsp), ok.wide⟩
    refine ⟨t, _, rfl, SqT.of ht, rfl, _, _, rfl, _, _, rfl, _, _, rfl, rfl, ?_⟩
    refine ⟨_, rfl, _, rfl, (by rw [sizeLine_eq]; simp), fun t1 n1 => ⟨(by rw [sizeLine_eq]; simp), fun L n2 => ?_⟩⟩
    have g1 := same_new n1 (.tup [.int sp.2.1, endV sp.2.2, .int 1])
    have g2 := same_new n2 (.lst [.ref t1])
    have o1 := ok.lo0
    have o2 := ok.lt
    have o3 := ok.top_
    have hpt : PtOk (upd (upd H1 t1 (.tup [.int sp.2.1, endV sp.2.2, .int 1])) L (.lst [.ref t1])) (.ref t1) ⟨sp.2.1, sp.2.2, .int 1, (PyData.int 1).shown⟩ := ⟨⟨t1, rfl, g2 _ _ upd_same⟩, ⟨.int 1, .inl (.int 1 (by decide)), rfl⟩, o1, o2, by show sp.2.2 ≤ 10 ^ 12 + 1; omega⟩
    refine ⟨_, rfl, _, rfl, L, a, b, [.ref t1], [⟨sp.2.1, sp.2.2, .int 1, (PyData.int 1).shown⟩], rfl, upd_same, .cons hpt .nil, by show 1 ≤ 10000; decide, a0, a1, b1, fun L2 bs H3 nL2 hL2 hPb s3 => ?_⟩
    have s13 := (g1.trans g2).trans s3
    have hD3 := hD1.same s13
    have hr3 := s13 _ _ hr'
    have lb := pts_len hPb
    have lcl : (clip a b [(⟨sp.2.1, sp.2.2, .int 1, (PyData.int 1).shown⟩ : Pt)]).length ≤ 1 := clip_len a b [(⟨sp.2.1, sp.2.2, .int 1, (PyData.int 1).shown⟩ : Pt)]
    have fold1 : ∀ st : LSt, (clip a b [(⟨sp.2.1, sp.2.2, .int 1, (PyData.int 1).shown⟩ : Pt)]).foldl (fun st p => putL st sp.1 (longD ((st.2 sp.1).getD (some 0)) p.lo p.e)) st = stepL a b st sp := fun st => by
      unfold stepL clip
      rw [List.filterMap_cons]
      unfold clipP
      by_cases c : max sp.2.1 a < min sp.2.2 b
      · rw [if_pos c, if_pos c]
        rfl
      · rw [if_neg c, if_neg c]
        rfl
    have nLD : L2 ≠ D := fun z => by
      obtain ⟨xs, h, _⟩ := hD3.ex
      have := h.1
      rw [← z, hL2] at this
      cases this
    refine ⟨L2, rfl, ⟨_, SqL.of hL2⟩, for_list (K := K) (a := L2) (xs := bs) (fun j σ' H4 => ∃ (v7 v8 v9 : Option V) (st' : LSt), σ' = [some (.ref T), some (.int a), some (endV b), some (.ref D), some (.ref r), some (.int sp.2.1), some (endV sp.2.2), v7, v8, v9] ∧ st' = ((clip a b [(⟨sp.2.1, sp.2.2, .int 1, (PyData.int 1).shown⟩ : Pt)]).take j).foldl (fun st p => putL st sp.1 (longD ((st.2 sp.1).getD (some 0)) p.lo p.e)) st ∧ DL w H4 D st' ∧ st'.1.length ≤ i + j ∧ But D H3 H4)
      ⟨_, _, _, st, rfl, rfl, hD3, lst, But.of (Same.refl _)⟩ (fun j σ' H4 _ ⟨_, _, _, _, _, _, _, _, b4⟩ => SqL.of (b4 _ _ nLD hL2)) ?_ ?_⟩
    · rintro j v σ' H4 hj ⟨v7, v8, v9, st', rfl, hst', hD4, lst', b4⟩
      obtain ⟨p, hp, okp⟩ := pts_at hPb hj
      obtain ⟨tp, rfl, htp⟩ := okp.at_
      have lj := (List.getElem?_eq_some_iff.mp hp).1
      obtain ⟨xs4, hx4, e1, e2⟩ := hD4.ex
      have ntD : tp ≠ D := fun z => by
        obtain ⟨_, h, _⟩ := hD3.ex
        have := h.1
        rw [← z, htp] at this
        cases this
      have nrD : r ≠ D := fun z => by
        obtain ⟨_, h, _⟩ := hD3.ex
        have := h.1
        rw [← z, hr3] at this
        cases this
      have hr4 := b4 _ _ nrD hr3
      have hkey : KeyV H4 (.tup sp.1) (.ref r) := .tup hr4 (keysV_of hth)
      have lx4 : xs4.length = st'.1.length := by
        have := congrArg List.length e1
        rwa [List.length_map, List.length_map] at this
      have ev : (valN xs4 (.tup sp.1)).getD (.int 0) = optV ((st'.2 sp.1).getD (some 0)) := by
        rw [e2]
        cases st'.2 sp.1 <;> rfl
      refine ⟨tp, _, rfl, SqT.of (b4 _ _ ntD htp), rfl, _, _, rfl, _, _, rfl, _, _, rfl, rfl, ?_⟩
      refine ⟨_, rfl, ⟨D, xs4, rfl, hx4⟩, _, rfl, D, xs4, .tup sp.1, r, .int 0, rfl, hx4, rfl, hkey, row_depth okk.1, ?_⟩
      rw [ev]
      refine ⟨_, rfl, _, rfl, (st'.2 sp.1).getD (some 0), p.lo, p.e, rfl, ?_⟩
      refine ⟨_, rfl, _, rfl, D, xs4, .tup sp.1, r, rfl, hx4, rfl, hkey, row_depth okk.1, small1000 (by omega), ?_⟩
      refine ⟨_, _, _, putL st' sp.1 (longD ((st'.2 sp.1).getD (some 0)) p.lo p.e), rfl, ?_, DL.put hD4 hx4 e1 e2 hkey okk, ?_, fun c o hc e => ?_⟩
      · rw [List.take_add_one, hp, List.foldl_append, ← hst']
        rfl
      · show (if (st'.2 sp.1).isSome = true then st'.1 else st'.1 ++ [sp.1]).length ≤ _
        split
        · omega
        · rw [List.length_append]
          exact Nat.succ_le_succ lst'
      · rw [upd_ne hc]
        exact b4 c o hc e
    · rintro σ' H4 ⟨v7, v8, v9, st', rfl, hst', hD4, lst', b4⟩
      rw [lb, List.take_length, fold1] at hst'
      refine ⟨_, _, _, _, _, _, st', rfl, ?_, hD4, ?_, fun c o e => b4 c o (ne_of_none e nD) (s13 _ _ (s1 _ _ e))⟩
      · rw [List.take_add_one, hsp, List.foldl_append, ← hst, hst']
        rfl
      · have : bs.length ≤ 1 := by rw [lb]; exact lcl
        omega
  rintro σ' H1 ⟨v4, v5, v6, v7, v8, v9, st, rfl, hst, hD1, lst, s1⟩
  rw [lu, List.take_length] at hst
  obtain ⟨xs, hx, e1, e2⟩ := hD1.ex
  have l56' : st.1.length ≤ 56 := by omega
  refine ⟨_, rfl, D, xs, rfl, hx, fun M nM => ?_⟩
  have gM := same_new nM (.lst (keyRefs xs))
  have hx2 := hx.same gM
  have hks : st.1 = xs.map keyL := by
    have h : (xs.map keyL).map NestedKey.tup = st.1.map NestedKey.tup := by
      rw [← e1, List.map_map]
      refine List.map_congr_left fun x hx' => ?_
      have m : x.1 ∈ st.1.map NestedKey.tup := by
        rw [← e1]
        exact List.mem_map.mpr ⟨x, hx', rfl⟩
      obtain ⟨b, _, e⟩ := List.mem_map.mp m
      show NestedKey.tup (keyL x) = x.1
      unfold keyL
      rw [← e]
    exact (List.map_inj_right (fun _ _ e => NestedKey.tup.inj e) |>.mp h).symm
  have rows2 : Paired (RowV (upd H1 M (.lst (keyRefs xs)))) (keyRefs xs) st.1 := by
    rw [hks]
    refine paired_two fun x hx' => ?_
    have m : x.1 ∈ st.1.map NestedKey.tup := by
      rw [← e1]
      exact List.mem_map.mpr ⟨x, hx', rfl⟩
    obtain ⟨b, hb, e⟩ := List.mem_map.mp m
    have ek : keyL x = b := by unfold keyL; rw [← e]
    obtain ⟨lf, p0, p4⟩ := hD1.rows b hb
    have hkx := hx2.2 x hx'
    rw [← e] at hkx
    cases hkx with
    | tup h1 h2 =>
      rw [ek]
      exact ⟨_, _, rfl, h1, th_of h2 lf, p0, by omega⟩
  refine ⟨M, keyRefs xs, st.1, rfl, upd_same, rows2, hD1.nd, by omega, fun S ys H3 s3 nS hS hys => ⟨S, rfl, ⟨_, SqL.of hS⟩, fun C nC => ?_⟩⟩
  have ly := Paired.length hys
  have perm : (st.1.mergeSort (leK encR)).Perm st.1 := List.mergeSort_perm _ _
  have lm : (st.1.mergeSort (leK encR)).length ≤ 56 := by rw [perm.length_eq]; exact l56'
  refine lc_list (K := K) (a := S) (xs := ys) (fun i H4 => ∃ cs, H4 C = some (.lst cs) ∧ Paired (LastV H4) cs (((st.1.mergeSort (leK encR)).take i).map fun k => (k, (st.2 k).getD none)) ∧ cs.length = i ∧ Same H3 H4) ⟨[], upd_same, .nil, rfl, same_new nC _⟩ (fun i H4 _ ⟨_, _, _, _, s4⟩ => SqL.of (s4 _ _ hS)) ?_ ?_
  · rintro i v H4 hi ⟨cs, hC, hPc, lc, s4⟩
    obtain ⟨k, hk, ok0⟩ := paired_at hys hi
    obtain ⟨r, ts, rfl, hr4, hth, _, _⟩ := ok0.keep (Keep.of s4)
    have il := (List.getElem?_eq_some_iff.mp hk).1
    have hm : k ∈ st.1 := perm.mem_iff.mp (List.mem_of_getElem? hk)
    obtain ⟨o, ho⟩ := Option.isSome_iff_exists.mp ((hD1.mem k).mp hm)
    have hx4 := hx2.same (s3.trans s4)
    have hkey : KeyV H4 (.tup k) (.ref r) := .tup hr4 (keysV_of hth)
    refine ⟨rfl, _, rfl, _, rfl, _, rfl, D, xs, .tup k, r, optV o, rfl, hx4, rfl, hkey, by rw [e2, ho]; rfl, (by rw [sizeLine_eq]; simp), fun t nt => ?_⟩
    have gt := same_new nt (.tup [.ref r, optV o])
    have hC5 := gt _ _ hC
    have kz : Keep _ (upd (upd H4 t (.tup [.ref r, optV o])) C (.lst (cs ++ [.ref t]))) := fun c zs hc => by
      rw [upd_ne (ne_of hc hC5 (by intro z; cases z))]
      exact hc
    refine ⟨cs, hC5, small1000 (by omega), cs ++ [.ref t], upd_same, ?_, by rw [List.length_append, lc]; rfl, fun c o' e => ?_⟩
    · rw [List.take_add_one, hk, List.map_append]
      refine paired_sn ⟨t, r, ts, rfl, ?_, kz _ _ (gt _ _ hr4), hth⟩ (paired_mono (fun v p z => ?_) hPc)
      · obtain ⟨c, r', ts', e, h1, h2, h3⟩ := z
        have kk := (Keep.of gt).trans kz
        exact ⟨c, r', ts', e, kk _ _ h1, kk _ _ h2, h3⟩
      · show _ = some (HO.tup [.ref r, optV ((st.2 k).getD none)])
        rw [ho]
        exact kz _ _ upd_same
    · rw [upd_ne (ne_of_none e nC)]
      exact gt _ _ (s4 _ _ e)
  rintro H4 ⟨cs, hC, hPc, lc, s4⟩
  rw [ly, List.take_length] at hPc
  refine ⟨C, cs, rfl, .inl ⟨SqL.of hC, fun R nR => ?_⟩⟩
  have gR := same_new nR (.tup cs)
  refine q R cs _ upd_same ?_ ((((s1.trans gM).trans s3).trans s4).trans gR)
  have e : lastL a b ss = st := hst.symm
  rw [e]
  exact paired_mono (fun v p ⟨c, r', ts', e, h1, h2, h3⟩ => ⟨c, r', ts', e, gR _ _ h1, gR _ _ h2, h3⟩) hPc
end
end Q64
namespace Q64
open PySem L2 Ln Dn
/-- all but one table stands -/
def ButP (P1 : Addr) (H H' : Hp) : Prop := ∀ b o, b ≠ P1 → H b = some o → H' b = some o
/-- another table stands while the hand and a table change -/
theorem tabs_two {H H' : Hp} {p P0 P1 : Addr} {n : Nat} {q q1 : Str} (hU : Hand H p n) (h0 : LamX.TabS H P0 q) (h : LamX.TabS H P1 q1) (ne : P1 ≠ P0) (b : But2 p P0 H H') : LamX.TabS H' P1 q1 := by
  obtain ⟨ps, h1, h2, h3⟩ := h
  obtain ⟨g, s0, c, hp, _⟩ := hU
  obtain ⟨ps0, k1, _⟩ := h0
  refine ⟨ps, b _ _ (fun z => ?_) ne h1, h2, fun pos cv e => ?_⟩
  · rw [z, hp] at h1
    cases h1
  · obtain ⟨c', e1, e2⟩ := h3 pos cv e
    refine ⟨c', e1, b _ _ (fun z => ?_) (fun z => ?_) e2⟩
    · rw [z, hp] at e2
      cases e2
    · rw [z, k1] at e2
      cases e2
theorem tabs_one {H H' : Hp} {P0 P1 : Addr} {q q1 : Str} (h0 : LamX.TabS H P0 q) (h : LamX.TabS H P1 q1) (ne : P1 ≠ P0) (b : ButP P0 H H') : LamX.TabS H' P1 q1 := by
  obtain ⟨ps, h1, h2, h3⟩ := h
  obtain ⟨ps0, k1, _⟩ := h0
  refine ⟨ps, b _ _ ne h1, h2, fun pos cv e => ?_⟩
  obtain ⟨c', e1, e2⟩ := h3 pos cv e
  refine ⟨c', e1, b _ _ (fun z => ?_) e2⟩
  rw [z, k1] at e2
  cases e2
end Q64
namespace Q64
open PySem L2 Ln Dn Srk Lma
abbrev sDueL : Stmt := top 22
def retOf : Option Stmt → Expr
  | some (.Return (some e) _) => e
  | _ => .Constant .none 0 ⟨0, 0, 0, 0⟩
def arg1 : Expr → Expr
  | .Call _ (e :: _) _ _ => e
  | e => e
def iter1 : Expr → Expr
  | .ListComp _ (g :: _) _ _ => g.iter
  | e => e
abbrev lamY : Expr := kwOf (iter1 (arg1 (retOf (defBody sDueL)[2]?)))
abbrev dueQ : Str := "_law_due.<locals>.<lambda>"
theorem scLamY : FnScope ["_law_one"] ["_law_one"] (lamS lamY) := ⟨rfl, rfl, rfl, by decide +kernel, rfl, by decide +kernel, by decide +kernel⟩
end Q64
namespace Q64
open PySem L2 Ln Dn Srk Lma
/-! the law's own days: the same steps, for a row whose days are None is met no more -/
def Shut (ss : List Span) : Prop := ss.Pairwise fun s t => s.1 = t.1 → s.2.2 ≤ 10 ^ 11
theorem pair_last {α : Type} {p : α → Prop} : ∀ {l : List α}, (∀ s ∈ l.dropLast, p s) → l.Pairwise fun s _ => p s
  | [], _ => .nil
  | [x], _ => List.pairwise_singleton _ _
  | x :: y :: r, h => by
    rw [List.dropLast_cons_of_ne_nil (List.cons_ne_nil _ _)] at h
    exact .cons (fun _ _ => h x (List.mem_cons_self ..)) (pair_last fun s hs => h s (List.mem_cons_of_mem _ hs))
theorem shut_flat {gs : List Grp} (h : ∀ g ∈ gs, GrpOk g) (nd : (gs.map (·.1)).Nodup) : Shut (flatG gs) := by
  unfold Shut flatG
  rw [List.pairwise_flatMap]
  refine ⟨fun g hg => ?_, ?_⟩
  · unfold grpS
    rw [List.pairwise_map]
    exact List.Pairwise.imp (fun {a b} (z : a.2 ≤ 10 ^ 11) _ => z) (pair_last (p := fun s : Int × Int => s.2 ≤ 10 ^ 11) (h g hg).shut)
  · refine (List.pairwise_map.mp nd).imp fun {a b} ne x hx y hy e => ?_
    unfold grpS at hx hy
    obtain ⟨_, _, rfl⟩ := List.mem_map.mp hx
    obtain ⟨_, _, rfl⟩ := List.mem_map.mp hy
    exact absurd e ne
theorem put_none {st : LSt} {k j : List NestedKey} {o : Option Int} : (putL st k o).2 j = some none → (k = j ∧ o = none) ∨ st.2 j = some none := by
  show (if j = k then some o else st.2 j) = some none → _
  split
  · rename_i c
    exact fun z => .inl ⟨c.symm, Option.some.inj z⟩
  · exact .inr
theorem none_from {a b : Int} : ∀ {ss : List Span} {st : LSt} {k : List NestedKey}, (ss.foldl (stepL a b) st).2 k = some none → st.2 k = some none ∨ ∃ s ∈ ss, s.1 = k ∧ (s.2.2 > 10 ^ 12 ∨ st.2 k = some none)
  | [], _, _, h => .inl h
  | s :: ss, st, k, h => by
    rw [List.foldl_cons] at h
    have one : (stepL a b st s).2 k = some none → st.2 k = some none ∨ (s.1 = k ∧ s.2.2 > 10 ^ 12) := fun z => by
      unfold stepL at z
      split at z
      · rcases put_none z with ⟨e, z⟩ | z
        · by_cases c : s.2.2 > 10 ^ 12
          · exact .inr ⟨e, c⟩
          · refine .inl ?_
            unfold longD at z
            rw [if_neg (by omega)] at z
            rw [← e]
            cases f : st.2 s.1 with
            | none => rw [f] at z; exact absurd z (by simp)
            | some o =>
              rw [f] at z
              cases o with
              | none => rfl
              | some _ => exact absurd z (by simp)
        · exact .inl z
      · exact .inl z
    rcases none_from h with z | ⟨t, ht, e, z⟩
    · rcases one z with z | ⟨e, z⟩
      · exact .inl z
      · exact .inr ⟨s, List.mem_cons_self .., e, .inl z⟩
    · rcases z with z | z
      · exact .inr ⟨t, List.mem_cons_of_mem _ ht, e, .inl z⟩
      · rcases one z with z | ⟨e, z⟩
        · exact .inl z
        · exact .inr ⟨s, List.mem_cons_self .., e, .inl z⟩
/-- a row that is met has its days told -/
theorem met {a b : Int} {ss : List Span} {i : Nat} {s : Span} (h : Shut ss) (hi : ss[i]? = some s) : ((ss.take i).foldl (stepL a b) ([], fun _ => none)).2 s.1 ≠ some none := fun z => by
  rcases none_from z with z | ⟨t, ht, e, z⟩
  · cases z
  · rcases z with z | z
    · obtain ⟨j, hj, ej⟩ := List.mem_take_iff_getElem.mp ht
      obtain ⟨hi1, hi2⟩ := List.getElem?_eq_some_iff.mp hi
      have := List.pairwise_iff_getElem.mp h j i (by omega) hi1 (by omega) (by rw [ej, hi2]; exact e)
      rw [ej] at this
      omega
    · cases z
theorem keep_tab {H H' : Hp} {P1 : Addr} {q : Str} (h : LamX.TabS H P1 q) (b : ButP P1 H H') : Keep H H' := fun c zs hc => by
  obtain ⟨ps, h1, _⟩ := h
  exact b c _ (fun z => by rw [z, h1] at hc; cases hc) hc
def spDueL (P1 : Addr) : Sp := fun vs H Q _ => ∃ (T : Addr) (a b : Int) (us : List V) (ss : List Span), vs = [.ref T, .int a, endV b] ∧ H T = some (.tup us) ∧ Paired (SpanV H) us ss ∧ ss.length ≤ 56 ∧ (∀ s ∈ ss, 0 < s.1.length) ∧ Shut ss ∧ 0 ≤ a ∧ a ≤ 10 ^ 12 ∧ b ≤ 10 ^ 12 + 1 ∧ LamX.TabS H P1 dueQ ∧
  ∀ (C : Addr) (cs : List V) (H' : Hp), H' C = some (.tup cs) → Paired (LastV H') cs (lastR (lastL a b ss)) → LamX.TabS H' P1 dueQ → ButP P1 H H' → Q (.ref C) H'
abbrev dueLN : List Str := ["_law_told", "_law_lo", "_law_hi", "_law_some", "_law_row", "_law_begin", "_law_end", "_law_first", "_law_last"]
theorem scDueL : FnScope dueLN ["_law_told", "_law_lo", "_law_hi"] (defScope sDueL) := ⟨rfl, rfl, rfl, by decide +kernel, rfl, by decide +kernel, by decide +kernel⟩
section
variable {P : Program} {w : World} {K : PySem.W.Frag} {mg : Str → Option Value} {base : Heap}
variable {f fR c1 P1 : Addr} {fd fdR : FuncData}
theorem ok_dueL (F : FunC K "_law_due" "_law_due" sDueL f fd c1) (TB : LamX.TabB base mg c1 P1)
    (GR : FnOk P w K mg base CX0 2 fR fdR ["_law_row"] spRank) (bR : Binds K fdR ["_law_row"] []) (kR : PySem.W.keepIn K (.ref fR) = true) (mR : mg "_law_rank" = some (.ref fR))
    (mt : mg "tuple" = none) (ms : mg "sorted" = none) : FnOk P w K mg base CX0 6 f fd ["_law_told", "_law_lo", "_law_hi"] (spDueL P1) := by
  refine F.ok scDueL (fun vs H Q E h => ?_) (fun A outer s H vs Q E hr h => ?_)
  · obtain ⟨T, a, b, us, ss, rfl, _⟩ := h
    rfl
  obtain ⟨T, a, b, us, ss, rfl, hT, hP, l56, pos, sh, a0, a1, b1, hT0, q⟩ := h
  have hr4 : Room 4 _ := hr.mono (by decide)
  have hu : (A.deeper (PyProof.Rows.envOfC "_law_due" (defScope sDueL) s.heap.objs.size f (Value.ref c1))).units + 16 < cLine := Nat.lt_of_le_of_lt (Nat.add_le_add_left (by decide) _) hr.units
  have hL : ∀ (st : List Env) (A' : Around) (z : Shared) (G : Hp) (g' c' : Addr), Room 2 (A'.deeper (PyProof.Rows.envOfC dueQ (lamS lamY) z.heap.objs.size g' (.ref c'))) → PE (cxOf CX0 P w K mg base ["_law_one"] dueQ (lamS lamY) g' (.ref c') A' st z G E0) (lamB lamY) (tCall spRank [] E0 (tCons (tVar 0) tNil)) := fun st A' z G g' c' hrl => pe_call GR hrl (by rfl) mR kR bR .nil pass0 (pa_cons (pv 0) pa_nil)
  refine ⟨_, PSs.nox (pss_cons (ps_set (i := 3) scDueL.nd rfl (Or.inr rfl) pe_nnew)
    (pss_cons (ps_for PassesOwn.never rfl (pi_tup (pv 0)) (pg_tup rfl (pgs_cons (pg_name (i := 4) scDueL.nd rfl (.inl rfl)) (pgs_cons (pg_name (i := 5) scDueL.nd rfl (.inl rfl)) (pgs_cons (pg_name (i := 6) scDueL.nd rfl (.inl rfl)) pgs_nil))))
      (pss_cons (ps_set (i := 7) scDueL.nd rfl (Or.inl rfl) (pe_ifExp (pt_cmpR op_gt (pv 5) (pv 1) (nomark _)) (pv 5) (pv 1)))
      (pss_cons (ps_set (i := 8) scDueL.nd rfl (Or.inl rfl) (pe_ifExp (PW.pt (pw_or (pt_cmp (pc_isN (pv 6))) (pw_or1 (PW.pt (pw_and (pt_cmp (pc_notN (pv 2))) (pw_and1 (pt_cmpR op_lt (pv 2) (pv 6) (nomark _)))))))) (pv 2) (pv 6)))
      (pss_one (ps_if (pt_cmp (pc_isN (pv 8))) (pss_one (ps_nput hu (pv 3) (pv 4) pe_non rfl))
        (pss_one (ps_if (pt_cmpR op_gt (pv 8) (pv 7) (nomark _)) (pss_one (ps_nput hu (pv 3) (pv 4) (pe_op op_sub (pe_op op_add (pe_nbm PySem.F.slot_dict_get PySem.F.type_dict_get (mt_nget2 hu) (pv 3) (pa_cons (pv 4) (pa_cons pe_int pa_nil))) (pv 8)) (pv 7)) rfl)) pss_nil)))))))
    (pss_one (ps_ret (pe_callTy call_tuple_of (by rfl) mt (by decide +kernel) (pa_cons (pe_lc (own := [("_law_row", 4)]) (g := gName 4) (by rfl) scDueL.nd (pi_list (pe_callBK (cr_sortLamN (β := List NestedKey) (enc := fun ks => .tup (ks.map rankT)) (k := 2) (q := dueQ) (p1 := "_law_one") (N := ["_law_one"]) (params := lamA lamY) (body := lamB lamY) (scope := lamS lamY) (t := tCall spRank [] E0 (tCons (tVar 0) tNil)) rfl scLamY (fun _ _ _ _ => rfl) hr4 (fun A' z G g' c' hrl => hL _ A' z G g' c' hrl)) (by rfl) ms (by decide +kernel) (pa_cons (pv 3) pa_nil) (pk_cons (pe_lam (q := dueQ) (params := lamA lamY) (body := lamB lamY) (scope := lamS lamY) TB rfl (by show (Str.ofString "_law_due" ++ Str.ofString ".<locals>.") ++ Str.ofString "<lambda>" = dueQ; decide +kernel) rfl (by decide +kernel)) pk_nil)))
      (blkOk_by (own := [("_law_row", 4)]) (N := dueLN) (sc := defScope sDueL) (by decide +kernel)) (fun _ _ _ _ _ => pg_name (i := 4) scDueL.nd rfl (Or.inl rfl)) (fun _ _ _ _ _ => pts_nil) (fun _ _ _ _ _ => pe_tup (pa_cons (pv 4) (pa_cons (te := tNGet w (tVar 3) (tVar 4)) (pe_nget hu (pv 3) (pv 4) (fun _ _ => rfl)) pa_nil)))) pa_nil)))))), ?_⟩
  have lu := Paired.length hP
  refine fun D nD => ?_
  have gD := same_new nD (DnO w D [])
  have st0 : DL w (upd H D (DnO w D [])) D ([], fun _ => none) := ⟨⟨[], Dn.nil upd_same, rfl, fun k => rfl⟩, List.nodup_nil, fun k => ⟨fun h => absurd h List.not_mem_nil, fun h => absurd h Bool.false_ne_true⟩, fun k h => absurd h List.not_mem_nil⟩
  refine ⟨_, rfl, T, rfl, ⟨_, SqT.of (gD _ _ hT)⟩, for_tup (K := K) (a := T) (xs := us) (fun i σ' H1 => ∃ (v4 v5 v6 v7 v8 : Option V) (st : LSt), σ' = [some (.ref T), some (.int a), some (endV b), some (.ref D), v4, v5, v6, v7, v8] ∧ st = (ss.take i).foldl (stepL a b) ([], fun _ => none) ∧ DL w H1 D st ∧ st.1.length ≤ i ∧ Same H H1)
    ⟨_, _, _, _, _, _, rfl, rfl, st0, Nat.le_refl _, gD⟩ (fun i σ' H1 _ ⟨_, _, _, _, _, _, _, _, _, _, s1⟩ => SqT.of (s1 _ _ hT)) ?_ ?_⟩
  · rintro i v σ' H1 hi ⟨v4, v5, v6, v7, v8, st, rfl, hst, hD1, lst, s1⟩
    obtain ⟨sp, hsp, ok0⟩ := paired_at hP hi
    have il : i < 56 := by
      have := (List.getElem?_eq_some_iff.mp hsp).1
      omega
    obtain ⟨ok, t, r, xs, rfl, ht, hr', hth⟩ := ok0.keep (Keep.of s1)
    have okk : (∀ j ∈ sp.1, ∀ js, j ≠ .tup js) ∧ 0 < sp.1.length ∧ sp.1.length ≤ 4 := ⟨th_leaf hth, pos sp (List.mem_of_getElem? hsp), ok.wide⟩
    have hkey : KeyV H1 (.tup sp.1) (.ref r) := .tup hr' (keysV_of hth)
    have o0 := ok.lo1
    have o2 := ok.lt
    have o3 := ok.top_
    have dn : st.2 sp.1 ≠ some none := hst ▸ met sh hsp
    have next : (ss.take (i + 1)).foldl (stepL a b) ([], fun _ => none) = stepL a b st sp := by
      rw [List.take_add_one, hsp, List.foldl_append, ← hst]
      rfl
    obtain ⟨xs1, hx1, e1, e2⟩ := hD1.ex
    have lx1 : xs1.length = st.1.length := by
      have := congrArg List.length e1
      rwa [List.length_map, List.length_map] at this
    have fin : ∀ o : Option Int, (putL st sp.1 o).1.length ≤ i + 1 ∧ Same H (upd H1 D (DnO w D (putN xs1 (.tup sp.1) r (optV o)))) := fun o => ⟨by
      show (if (st.2 sp.1).isSome = true then st.1 else st.1 ++ [sp.1]).length ≤ _
      split
      · omega
      · rw [List.length_append]
        exact Nat.succ_le_succ lst, fun c ob e => by
      rw [upd_ne (ne_of_none e nD)]
      exact s1 _ _ e⟩
    refine ⟨t, _, rfl, SqT.of ht, rfl, _, _, rfl, _, _, rfl, _, _, rfl, rfl, ?_⟩
    dsimp only
    refine Sqc.seq_cut (fun σ' H' => σ' = [some (.ref T), some (.int a), some (endV b), some (.ref D), some (.ref r), some (.int sp.2.1), some (endV sp.2.2), some (.int (max sp.2.1 a)), v8] ∧ H1 = H') (fun go => ?_) ?_
    · refine ⟨_, rfl, _, rfl, _, _, rfl, rfl, _, rfl, ?_⟩
      refine ite2 (fun c => ?_) (fun c => ?_)
      · have c := of_decide_eq_true c
        refine ⟨_, rfl, go _ _ ⟨?_, rfl⟩⟩
        rw [show max sp.2.1 a = sp.2.1 by omega]
        rfl
      · have c : ¬ sp.2.1 > a := fun z => c (decide_eq_true z)
        refine ⟨_, rfl, go _ _ ⟨?_, rfl⟩⟩
        rw [show max sp.2.1 a = a by omega]
        rfl
    rintro _ _ ⟨rfl, rfl⟩
    refine Sqc.seq_cut (fun σ' H' => σ' = [some (.ref T), some (.int a), some (endV b), some (.ref D), some (.ref r), some (.int sp.2.1), some (endV sp.2.2), some (.int (max sp.2.1 a)), some (endV (min sp.2.2 b))] ∧ H1 = H') (fun go => ?_) ?_
    · refine ⟨_, rfl, _, rfl, ?_⟩
      by_cases ce : sp.2.2 > 10 ^ 12
      · have ev : endV sp.2.2 = .non := if_pos ce
        rw [ev] at go ⊢
        refine tt2 rfl ⟨_, rfl, go _ _ ⟨?_, rfl⟩⟩
        rw [show min sp.2.2 b = b by omega]
        rfl
      · have ev : endV sp.2.2 = .int sp.2.2 := if_neg ce
        rw [ev] at go ⊢
        refine ff2 rfl ?_
        refine ⟨_, rfl, _, rfl, ?_⟩
        by_cases cb : b > 10 ^ 12
        · have eb : endV b = .non := if_pos cb
          rw [eb] at go ⊢
          refine ff2 rfl ?_
          refine ⟨_, rfl, go _ _ ⟨?_, rfl⟩⟩
          rw [show min sp.2.2 b = sp.2.2 by omega, ev]
          rfl
        · have eb : endV b = .int b := if_neg cb
          rw [eb] at go ⊢
          refine tt2 rfl ?_
          refine ⟨_, rfl, _, rfl, _, _, rfl, rfl, _, rfl, ?_⟩
          refine ite2 (fun c => ?_) (fun c => ?_)
          · have c := of_decide_eq_true c
            refine ⟨_, rfl, go _ _ ⟨?_, rfl⟩⟩
            rw [show min sp.2.2 b = b by omega, eb]
            rfl
          · have c : ¬ b < sp.2.2 := fun z => c (decide_eq_true z)
            refine ⟨_, rfl, go _ _ ⟨?_, rfl⟩⟩
            rw [show min sp.2.2 b = sp.2.2 by omega, ev]
            rfl
    rintro _ _ ⟨rfl, rfl⟩
    refine ⟨_, rfl, _, rfl, ?_⟩
    by_cases cm : min sp.2.2 b > 10 ^ 12
    · have ev : endV (min sp.2.2 b) = .non := if_pos cm
      rw [ev]
      refine tt2 rfl ?_
      have es : stepL a b st sp = putL st sp.1 none := by
        unfold stepL longD
        rw [if_pos (by omega), if_pos cm]
      refine ⟨_, rfl, _, rfl, D, xs1, .tup sp.1, r, rfl, hx1, rfl, hkey, row_depth okk.1, small1000 (by omega), ?_⟩
      exact ⟨_, _, _, _, _, putL st sp.1 none, rfl, by rw [next, es], DL.put (o := none) hD1 hx1 e1 e2 hkey okk, (fin none).1, (fin none).2⟩
    · have ev : endV (min sp.2.2 b) = .int (min sp.2.2 b) := if_neg cm
      rw [ev]
      refine ff2 rfl ?_
      refine ⟨_, rfl, _, rfl, _, _, rfl, rfl, _, rfl, ?_⟩
      refine ite2 (fun c => ?_) (fun c => ?_)
      · have c := of_decide_eq_true c
        obtain ⟨n, hn, hv⟩ : ∃ n : Int, (st.2 sp.1).getD (some 0) = some n ∧ (valN xs1 (.tup sp.1)).getD (.int 0) = .int n := by
          rw [e2]
          cases h : st.2 sp.1 with
          | none => exact ⟨0, rfl, rfl⟩
          | some o =>
            cases o with
            | none => exact absurd h dn
            | some n => exact ⟨n, rfl, rfl⟩
        have es : stepL a b st sp = putL st sp.1 (some (n + min sp.2.2 b - max sp.2.1 a)) := by
          unfold stepL longD
          rw [if_pos (by omega), if_neg cm, hn]
          rfl
        refine ⟨_, rfl, ⟨D, xs1, rfl, hx1⟩, _, rfl, D, xs1, .tup sp.1, r, .int 0, rfl, hx1, rfl, hkey, row_depth okk.1, ?_⟩
        rw [hv]
        refine ⟨_, rfl, _, _, rfl, rfl, _, rfl, _, _, rfl, rfl, ?_⟩
        refine ⟨_, rfl, _, rfl, D, xs1, .tup sp.1, r, rfl, hx1, rfl, hkey, row_depth okk.1, small1000 (by omega), ?_⟩
        exact ⟨_, _, _, _, _, putL st sp.1 (some (n + min sp.2.2 b - max sp.2.1 a)), rfl, by rw [next, es], DL.put (o := some (n + min sp.2.2 b - max sp.2.1 a)) hD1 hx1 e1 e2 hkey okk, (fin (some (n + min sp.2.2 b - max sp.2.1 a))).1, (fin (some (n + min sp.2.2 b - max sp.2.1 a))).2⟩
      · have c : ¬ min sp.2.2 b > max sp.2.1 a := fun z => c (decide_eq_true z)
        have es : stepL a b st sp = st := by
          unfold stepL
          rw [if_neg (by omega)]
        exact ⟨_, _, _, _, _, st, rfl, by rw [next, es], hD1, by omega, s1⟩
  rintro σ' H1 ⟨v4, v5, v6, v7, v8, st, rfl, hst, hD1, lst, s1⟩
  rw [lu, List.take_length] at hst
  obtain ⟨xs, hx, e1, e2⟩ := hD1.ex
  have l56' : st.1.length ≤ 56 := by omega
  refine ⟨_, rfl, LamX.TabS.ext hT0 s1, fun fl c' pm ctv H2 nfl keep2 tabs2 hfl hc' => ?_⟩
  have t1 := LamX.TabS.ext hT0 s1
  have k12 : Keep H1 H2 := keep_tab t1 keep2
  have b12 : ButP P1 H1 H2 := keep2
  have nDP : D ≠ P1 := fun z => by
    obtain ⟨ps, h, _⟩ := t1
    have h2 := hx.1
    rw [z, h] at h2
    cases h2
  have hx2 := hx.keep k12 ((keep2 _ _ nDP hx.1).trans hx.1.symm)
  have hD2 : DL w H2 D st := ⟨⟨xs, hx2, e1, e2⟩, hD1.nd, hD1.mem, hD1.rows⟩
  have hks : st.1 = xs.map keyL := by
    have h : (xs.map keyL).map NestedKey.tup = st.1.map NestedKey.tup := by
      rw [← e1, List.map_map]
      refine List.map_congr_left fun x hx' => ?_
      have m : x.1 ∈ st.1.map NestedKey.tup := by
        rw [← e1]
        exact List.mem_map.mpr ⟨x, hx', rfl⟩
      obtain ⟨b, _, e⟩ := List.mem_map.mp m
      show NestedKey.tup (keyL x) = x.1
      unfold keyL
      rw [← e]
    exact (List.map_inj_right (fun _ _ e => NestedKey.tup.inj e) |>.mp h).symm
  have rk : ∀ x ∈ xs, ∃ us, x.1 = .tup (keyL x) ∧ H2 x.2.1 = some (.tup us) ∧ Paired ThV us (keyL x) ∧ (keyL x).length ≤ 4 ∧ 0 < (keyL x).length := fun x hx' => by
    have m : x.1 ∈ st.1.map NestedKey.tup := by
      rw [← e1]
      exact List.mem_map.mpr ⟨x, hx', rfl⟩
    obtain ⟨b, hb, e⟩ := List.mem_map.mp m
    have ek : keyL x = b := by unfold keyL; rw [← e]
    obtain ⟨lf, p0, p4⟩ := hD1.rows b hb
    have hkx := hx2.2 x hx'
    rw [← e] at hkx
    cases hkx with
    | tup h1 h2 =>
      rw [ek]
      exact ⟨_, e.symm, h1, th_of h2 lf, p4, p0⟩
  have hlf : ∀ b ∈ xs.map keyL, (∀ k ∈ b, ∀ js, k ≠ .tup js) ∧ 0 < b.length := fun b hb => by
    obtain ⟨x, hx, rfl⟩ := List.mem_map.mp hb
    obtain ⟨us, a, h1, h2, h3, h4⟩ := rk x hx
    exact ⟨th_leaf h2, h4⟩
  refine ⟨D, xs, xs.map keyL, fun v b => ∃ x ∈ xs, v = .ref x.2.1 ∧ keyL x = b, .ref fl, rfl, rfl, ⟨fl, c', pm, ctv, rfl, hfl, hc'⟩, hx2, paired_two (fun x hx => ⟨x, hx, rfl, rfl⟩), keys_ok (fun b hb => (hlf b hb).1) (fun b hb => (hlf b hb).2), ?_, ?_⟩
  · rintro v b ⟨x, hx, rfl, rfl⟩ hb G sG Q' hQ'
    obtain ⟨us, a, h1, h2, h3, h4⟩ := rk x hx
    have := Paired.length h2
    exact ⟨_, rfl, x.2.1, us, keyL x, rfl, sG _ _ h1, h2, by omega, fun R' H' s hk => hQ' _ _ s hk⟩
  intro zs S H3 s3 nS hS hys
  rw [← hks] at hys
  have lzs := Paired.length hys
  have perm : (st.1.mergeSort (leK encR)).Perm st.1 := List.mergeSort_perm _ _
  have lm : (st.1.mergeSort (leK encR)).length ≤ 56 := by rw [perm.length_eq]; exact l56'
  refine ⟨S, rfl, ⟨_, SqL.of hS⟩, fun C nC => ?_⟩
  refine lc_list (K := K) (a := S) (xs := zs) (fun i H4 => ∃ cs, H4 C = some (.lst cs) ∧ Paired (LastV H4) cs (((st.1.mergeSort (leK encR)).take i).map fun k => (k, (st.2 k).getD none)) ∧ cs.length = i ∧ Same H3 H4) ⟨[], upd_same, .nil, rfl, same_new nC _⟩ (fun i H4 _ ⟨_, _, _, _, s4⟩ => SqL.of (s4 _ _ hS)) ?_ ?_
  · rintro i v H4 hi ⟨cs, hC, hPc, lc, s4⟩
    obtain ⟨k, hk, x, hx', rfl, ekx⟩ := paired_at hys hi
    obtain ⟨us', ex, hr2, hth, _, _⟩ := rk x hx'
    rw [ekx] at ex hth
    have hr4 := s4 _ _ (s3 _ _ hr2)
    have il := (List.getElem?_eq_some_iff.mp hk).1
    have i56 : i < 56 := Nat.lt_of_lt_of_le il lm
    have hm : k ∈ st.1 := perm.mem_iff.mp (List.mem_of_getElem? hk)
    obtain ⟨o, ho⟩ := Option.isSome_iff_exists.mp ((hD1.mem k).mp hm)
    have hx4 := hx2.same (s3.trans s4)
    have hkey : KeyV H4 (.tup k) (.ref x.2.1) := .tup hr4 (keysV_of hth)
    refine ⟨rfl, _, rfl, _, rfl, _, rfl, D, xs, .tup k, x.2.1, optV o, rfl, hx4, rfl, hkey, by rw [e2, ho]; rfl, (by rw [sizeLine_eq]; simp), fun t nt => ?_⟩
    have gt := same_new nt (.tup [.ref x.2.1, optV o])
    have hC5 := gt _ _ hC
    have kz : Keep _ (upd (upd H4 t (.tup [.ref x.2.1, optV o])) C (.lst (cs ++ [.ref t]))) := fun c zs hc => by
      rw [upd_ne (ne_of hc hC5 (by intro z; cases z))]
      exact hc
    refine ⟨cs, hC5, small1000 (by omega), cs ++ [.ref t], upd_same, ?_, by rw [List.length_append, lc]; rfl, fun c o' e => ?_⟩
    · rw [List.take_add_one, hk, List.map_append]
      refine paired_sn ⟨t, x.2.1, us', rfl, ?_, kz _ _ (gt _ _ hr4), hth⟩ (paired_mono (fun v p z => ?_) hPc)
      · obtain ⟨c, r', ts', e, h1, h2, h3⟩ := z
        have kk := (Keep.of gt).trans kz
        exact ⟨c, r', ts', e, kk _ _ h1, kk _ _ h2, h3⟩
      · show _ = some (HO.tup [.ref x.2.1, optV ((st.2 k).getD none)])
        rw [ho]
        exact kz _ _ upd_same
    · rw [upd_ne (ne_of_none e nC)]
      exact gt _ _ (s4 _ _ e)
  rintro H4 ⟨cs, hC, hPc, lc, s4⟩
  rw [lzs, List.take_length] at hPc
  refine ⟨C, cs, rfl, .inl ⟨SqL.of hC, fun R nR => ?_⟩⟩
  have gR := same_new nR (.tup cs)
  have s24 := (s3.trans s4).trans gR
  refine q R cs _ upd_same ?_ (LamX.TabS.ext tabs2 s24) (fun c o h e => s24 _ _ (b12 c o h (s1 _ _ e)))
  have e : lastL a b ss = st := hst.symm
  rw [e]
  exact paired_mono (fun v p ⟨c, r', ts', e, h1, h2, h3⟩ => ⟨c, r', ts', e, gR _ _ h1, gR _ _ h2, h3⟩) hPc
end
end Q64
namespace Q64
open PySem L2 Ln Dn
abbrev sBound : Stmt := top 21
def spBound : Sp := fun vs H Q _ => ∃ (p T : Addr) (n : Nat) (us : List V) (ss : List Span), vs = [.ref p, .ref T] ∧ Hand H p n ∧ n ≤ 50000 ∧ H T = some (.tup us) ∧ Paired (SpanV H) us ss ∧ ss.length ≤ 56 ∧
  ∀ (B : Addr) (lo hi : Int) (H' : Hp), H' B = some (.tup [.int lo, endV hi]) → 0 ≤ lo → lo ≤ 10 ^ 11 + 1 → lo < hi → (hi ≤ 10 ^ 11 + 3 ∨ hi = 10 ^ 12 + 1) → Hand H' p (n + 4) → But p H H' → Q (.ref B) H'
section
variable {P : Program} {w : World} {K : PySem.W.Frag} {mg : Str → Option Value} {base : Heap}
variable {f fT fO fE : Addr} {fd fdT fdO fdE : FuncData}
abbrev boundN : List Str := ["_law_hand_here", "_law_told", "_law_days", "_law_end", "_law_one", "_law_other"]
theorem scBound : FnScope boundN ["_law_hand_here", "_law_told"] (defScope sBound) := ⟨rfl, rfl, rfl, by decide +kernel, rfl, by decide +kernel, by decide +kernel⟩
theorem ok_bound (F : Fun K "_law_bound" "_law_bound" sBound f fd)
    (GT : FnOk P w K mg base CX0 1 fT fdT ["_law_hand_here", "_law_many"] spTake) (bT : Binds K fdT ["_law_hand_here", "_law_many"] []) (kT : PySem.W.keepIn K (.ref fT) = true) (mT : mg "_law_take" = some (.ref fT))
    (GO : FnOk P w K mg base CX0 2 fO fdO ["_law_hand_here", "_law_some"] spOf) (bO : Binds K fdO ["_law_hand_here", "_law_some"] []) (kO : PySem.W.keepIn K (.ref fO) = true) (mO : mg "_law_of" = some (.ref fO))
    (GE : FnOk P w K mg base CX0 1 fE fdE ["_law_told"] spEnds) (bE : Binds K fdE ["_law_told"] []) (kE : PySem.W.keepIn K (.ref fE) = true) (mE : mg "_law_ends" = some (.ref fE))
    (mx : mg "max" = none) (mn : mg "min" = none) (mi : mg "int" = none) : FnOk P w K mg base CX0 3 f fd ["_law_hand_here", "_law_told"] spBound := by
  refine F.ok scBound (fun vs H Q E h => ?_) (fun cdv A outer s H vs Q E hr h => ?_)
  · obtain ⟨p, T, n, us, ss, rfl, _⟩ := h
    rfl
  obtain ⟨p, T, n, us, ss, rfl, hU, n5, hT, hP, l56, q⟩ := h
  have hr1 : Room 1 _ := hr.mono (by decide)
  refine ⟨_, pss_cons (ps_set (i := 2) scBound.nd rfl (Or.inl rfl) (pe_lst (pa_cons pe_int (pa_cons (pe_call GT hr1 (by rfl) mT kT bT .nil pass0 (pa_cons (pv 0) (pa_cons (pe_op op_pow pe_int pe_int) pa_nil))) pa_nil))))
    (pss_cons (ps_for PassesOwn.never rfl (pi_list (pe_call GE hr1 (by rfl) mE kE bE .nil pass0 (pa_cons (pv 1) pa_nil))) (pg_name (i := 3) scBound.nd rfl (.inl rfl)) (pss_one (ps_expr (pe_bm PySem.F.plainAttrs_list PySem.F.slot_list_extend PySem.F.type_list_extend mt_extend (pv 2) (pa_cons (pe_lst (pa_cons (pv 3) (pa_cons (pe_op op_add (pv 3) pe_int) (pa_cons (pe_callB (call_max2 rfl) (by rfl) mx (by decide +kernel) (pa_cons pe_int (pa_cons (pe_op op_sub (pv 3) pe_int) pa_nil))) pa_nil)))) pa_nil)))))
    (pss_cons (ps_par (by rfl) scBound.nd (i := 4) (j := 5) rfl rfl (by decide) rfl rfl (pa_cons (pe_call GO hr (by rfl) mO kO bO .nil pass0 (pa_cons (pv 0) (pa_cons (pv 2) pa_nil))) (pa_cons (pe_call GO hr (by rfl) mO kO bO .nil pass0 (pa_cons (pv 0) (pa_cons (pv 2) pa_nil))) pa_nil)) (by rfl))
    (pss_one (ps_ret (pe_tup (pa_cons (pe_callB (call_min2 rfl) (by rfl) mn (by decide +kernel) (pa_cons (pv 4) (pa_cons (pv 5) pa_nil))) (pa_cons (pe_call GO hr (by rfl) mO kO bO .nil pass0 (pa_cons (pv 0) (pa_cons (pe_lst (pa_cons pe_non (pa_cons (pe_op op_add (pe_callB (call_max2 rfl) (by rfl) mx (by decide +kernel) (pa_cons (pv 4) (pa_cons (pv 5) pa_nil))) (pe_callTy call_int1 (by rfl) mi (by decide +kernel) (pa_cons (pe_cmpR op_eq (pv 4) (pv 5) (nomark _)) pa_nil))) (pa_cons (pe_op op_add (pe_callB (call_max2 rfl) (by rfl) mx (by decide +kernel) (pa_cons (pv 4) (pa_cons (pv 5) pa_nil))) pe_int) pa_nil)))) pa_nil))) pa_nil))))))), ?_⟩
  refine ⟨_, rfl, _, _, rfl, rfl, ⟨by decide, by decide, by decide⟩, p, 10 ^ 11, n, rfl, hU, by omega, by decide, by decide, fun t H1 t0 t1 hU1 sb1 => ⟨(by rw [sizeLine_eq]; simp), fun Z nZ => ?_⟩⟩
  have nZp := hU1.ne_none nZ
  have gZ := same_new nZ (.lst [.int 0, .int t])
  have hT1 := gZ _ _ (keep_but hU sb1 _ _ hT)
  have hP1 := paired_mono (fun _ _ z => z.keep ((keep_but hU sb1).trans (Keep.of gZ))) hP
  have hZ1 : (upd H1 Z (.lst [.int 0, .int t])) Z = some (.lst ([0, t].map V.int)) := upd_same
  have hU2 := hU1.same gZ
  have sb2 : But p H _ := sb1.trans (But.of gZ)
  obtain ⟨H2, eH2⟩ : ∃ H2, H2 = upd H1 Z (.lst [.int 0, .int t]) := ⟨_, rfl⟩
  have nZ0 : H Z = none := none_but sb1 nZp nZ
  rw [← eH2] at hT1 hP1 hZ1 hU2 sb2
  show gName 2 (.ref Z) _ (upd H1 Z (.lst [.int 0, .int t])) _
  rw [← eH2]
  clear eH2 gZ
  refine ⟨_, rfl, T, us, ss, rfl, hT1, hP1, l56, fun L es H3 hL hs hm lE nL s3 => ?_⟩
  have nLZ : L ≠ Z := (ne_of_none hZ1 nL).symm
  have range_ : ∀ x ∈ es, 0 ≤ x ∧ x ≤ 10 ^ 11 := fun x hx => by
    obtain ⟨sp, hsp, h⟩ := (hm x).mp hx
    have ok : SpanOk sp := by
      have gen : ∀ {xs : List V} {ys : List Span}, Paired (SpanV H2) xs ys → ∀ y ∈ ys, SpanOk y := fun {xs ys} r => by
        induction r with
        | nil => exact fun y hy => absurd hy List.not_mem_nil
        | cons a r ih =>
          intro y hy
          rcases List.mem_cons.mp hy with rfl | hy
          · exact a.1
          · exact ih y hy
      exact gen hP1 sp hsp
    have := ok.lo0
    have := ok.lo1
    have := ok.lt
    rcases h with rfl | ⟨rfl, c⟩ <;> omega
  have mxE : ∀ x y : Int, (if y > x then y else x) = max x y := fun x y => by split <;> omega
  have mnE : ∀ x y : Int, (if y < x then y else x) = min x y := fun x y => by split <;> omega
  have hU3 := hU2.same s3
  refine ⟨L, rfl, ⟨_, SqL.of hL⟩, for_list (K := K) (a := L) (xs := es.map V.int) (fun i σ' H4 => ∃ (v3 : Option V) (xs : List Int), σ' = [some (.ref p), some (.ref T), some (.ref Z), v3, none, none] ∧ H4 Z = some (.lst (xs.map V.int)) ∧ (∀ x ∈ xs, 0 ≤ x ∧ x ≤ 10 ^ 11 + 1) ∧ xs.length = 2 + 3 * i ∧ But Z H3 H4)
    ⟨_, [0, t], rfl, s3 _ _ hZ1, fun x hx => ?_, rfl, But.of (Same.refl _)⟩ (fun i σ' H4 _ ⟨_, _, _, _, _, _, b⟩ => SqL.of (b _ _ nLZ hL)) ?_ ?_⟩
  · simp only [List.mem_cons, List.mem_nil_iff, or_false] at hx
    rcases hx with rfl | rfl <;> omega
  · rintro i x σ' H4 hi ⟨v3, xs, rfl, hZ4, hx4, lx, b4⟩
    rw [List.getElem?_map] at hi
    obtain ⟨d, hd, rfl⟩ := Option.map_eq_some_iff.mp hi
    have i112 : i < 112 := by
      have := (List.getElem?_eq_some_iff.mp hd).1
      omega
    have dr := range_ d (List.mem_of_getElem? hd)
    refine ⟨_, rfl, .inl ⟨rfl, _, SqL.of hZ4⟩, _, rfl, _, rfl, _, _, rfl, rfl, _, rfl, _, _, rfl, rfl, _, _, rfl, (by rw [sizeLine_eq]; simp), fun W nW => ?_⟩
    have gW := same_new nW (.lst [.int d, .int (d + 1), .int (if d - 1 > 0 then d - 1 else 0)])
    refine ⟨Z, W, xs.map V.int, [d, d + 1, (if d - 1 > 0 then d - 1 else 0)].map V.int, rfl, rfl, gW _ _ hZ4, upd_same, by rw [List.length_map, List.length_map, sizeLine_eq]; simp only [List.length_cons, List.length_nil]; omega, ?_⟩
    refine ⟨_, xs ++ [d, d + 1, (if d - 1 > 0 then d - 1 else 0)], rfl, by rw [upd_same, List.map_append], fun y hy => ?_, ?_, fun b o hb e => ?_⟩
    · rcases List.mem_append.mp hy with hy | hy
      · exact hx4 y hy
      · simp only [List.mem_cons, List.mem_nil_iff, or_false] at hy
        rcases hy with rfl | rfl | rfl
        · omega
        · omega
        · split <;> omega
    · rw [List.length_append, lx]
      simp only [List.length_cons, List.length_nil]
      omega
    · rw [upd_ne hb]
      exact gW _ _ (b4 b o hb e)
  · rintro σ' H4 ⟨v3, xs, rfl, hZ4, hx4, lx, b4⟩
    rw [List.length_map] at lx
    have hU4 : Hand H4 p (n + 1) := by
      obtain ⟨g', s', c2, a, b⟩ := hU3
      exact ⟨g', s', c2, b4 _ _ (Ne.symm nZp) a, b⟩
    have sb4 : But p H H4 := fun b o hb e => b4 b o (fun z => by rw [z, nZ0] at e; cases e) (s3 _ _ (sb2 b o hb e))
    have pos : 0 < (xs.map V.int).length := by rw [List.length_map]; omega
    have l1000 : (xs.map V.int).length ≤ 1000 := by rw [List.length_map]; omega
    refine ⟨_, rfl, _, rfl, .inl ⟨p, Z, xs.map V.int, n + 1, rfl, hZ4, nZp, pos, l1000, hU4, by omega, fun v H5 hv hU5 sb5 => ?_⟩⟩
    obtain ⟨one, h1, rfl⟩ := List.mem_map.mp hv
    refine ⟨_, rfl, _, rfl, .inl ⟨p, Z, xs.map V.int, n + 1 + 1, rfl, sb5 _ _ nZp hZ4, nZp, pos, l1000, hU5, by omega, fun v H6 hv hU6 sb6 => ?_⟩⟩
    obtain ⟨oth, h2, rfl⟩ := List.mem_map.mp hv
    have r1 := hx4 one h1
    have r2 := hx4 oth h2
    refine ⟨_, _, rfl, ?_⟩
    refine ⟨_, rfl, _, rfl, _, _, rfl, _, rfl, _, rfl, _, rfl, _, _, rfl, _, rfl, _, rfl, rfl, .inr ⟨_, rfl, _, _, rfl, rfl, _, rfl, _, rfl, _, _, rfl, _, _, rfl, rfl, (by rw [sizeLine_eq]; simp), fun W nW => ?_⟩⟩
    have gW := same_new nW (.lst [.non, .int ((if oth > one then oth else one) + (if decide (V.int one = V.int oth) = true then 1 else 0)), .int ((if oth > one then oth else one) + 1)])
    refine .inl ⟨p, W, _, n + 1 + 1 + 1, rfl, upd_same, hU6.ne_none nW, by simp, by simp, hU6.same gW, by omega, fun y H7 hy hU7 sb7 => ⟨(by rw [sizeLine_eq]; simp), fun B nB => ?_⟩⟩
    have gB := fun o => same_new nB o
    have sbE : ∀ o, But p H (upd H7 B o) := fun o => ((sb4.trans (sb5.trans sb6)).trans ((But.of gW).trans sb7)).trans (But.of (gB o))
    have lo0 : 0 ≤ (if oth < one then oth else one) := by split <;> omega
    have lo1 : (if oth < one then oth else one) ≤ 10 ^ 11 + 1 := by split <;> omega
    obtain ⟨hi, rfl, h3, h4⟩ : ∃ hi : Int, y = endV hi ∧ (if oth < one then oth else one) < hi ∧ (hi ≤ 10 ^ 11 + 3 ∨ hi = 10 ^ 12 + 1) := by
      simp only [List.mem_cons, List.mem_nil_iff, or_false] at hy
      rcases hy with rfl | rfl | rfl
      · exact ⟨10 ^ 12 + 1, end_open.symm, by omega, .inr rfl⟩
      · by_cases c : one = oth
        · refine ⟨one + 1, ?_, ?_, .inl (by omega)⟩
          · have e1 : endV (one + 1) = .int (one + 1) := if_neg (by omega)
            rw [e1, c]
            simp
          · rw [c]
            split <;> omega
        · refine ⟨max one oth, ?_, ?_, .inl (by omega)⟩
          · have e1 : endV (max one oth) = .int (max one oth) := if_neg (by omega)
            rw [e1, mxE, decide_eq_false (fun z => c (V.int.inj z))]
            show V.int (max one oth + 0) = _
            rw [Int.add_zero]
          · split <;> omega
      · refine ⟨max one oth + 1, ?_, ?_, .inl (by omega)⟩
        · have e1 : endV (max one oth + 1) = .int (max one oth + 1) := if_neg (by omega)
          rw [e1, mxE]
        · split <;> omega
    exact q B _ hi _ upd_same lo0 lo1 h3 h4 ((hU7.same (gB _)).mono (by omega)) (sbE _)
end
end Q64
namespace Q64
open PySem L2 L2.Gd L2.SetL Ln Dn Srk Lma
abbrev sLaw : Stmt := top 23
abbrev psL : List Str := ["spans", "low", "high"]
theorem vals_swapL {vs : List V} {us : List Value} (r : Vals vs us) : Vals vs.reverse us.reverse := by
  induction r with
  | nil => exact .nil
  | cons h _ ih =>
    rw [List.reverse_cons, List.reverse_cons]
    exact ih.append (.cons h .nil)
section
variable {K : PySem.W.Frag} {f : Addr} {fd : FuncData}
theorem lst_hl (F : FunD K "lasting" "lasting" (defArgs sLasting) (defBody sLasting) (defScope sLasting) [] kwP f fd) : KBn K fd psL 1 ["high", "low"] (fun us ws => us ++ ws.reverse) (fun vs zs => vs ++ zs.reverse) := by
  obtain ⟨mv, h⟩ := FunD.kbinds0 (ps := psL) F 1 ["high", "low"] [] (fun us _ ws => us ++ ws.reverse) (by simp) (fun q hq => (nomatch hq)) (fun r1 _ r3 => r1.append (vals_swapL r3)) (fun D doc pm an cdv ct us mv ws h1 h2 h3 => match us, mv, ws, h1, h2, h3 with | [_], [], [_, _], _, _, _ => rfl)
  exact h
theorem lst_h (F : FunD K "lasting" "lasting" (defArgs sLasting) (defBody sLasting) (defScope sLasting) [] kwP f fd) : ∃ mv, KBn K fd psL 1 ["high"] (fun us ws => us ++ mv ++ ws) (fun vs zs => vs ++ [.int 0] ++ zs) := by
  obtain ⟨mv, h⟩ := FunD.kbinds0 (ps := psL) F 1 ["high"] [("low", .int 0)] (fun us mv ws => us ++ mv ++ ws) (by simp) (fun q hq => by simp at hq; simp [hq]) (fun r1 r2 r3 => (r1.append r2).append r3) (fun D doc pm an cdv ct us mv ws h1 h2 h3 => match us, mv, ws, h1, h2, h3 with | [_], [_], [_], _, _, _ => ⟨_, _, _, _, _, _, rfl, rfl, rfl⟩)
  exact ⟨mv, h⟩
theorem lst_l (F : FunD K "lasting" "lasting" (defArgs sLasting) (defBody sLasting) (defScope sLasting) [] kwP f fd) : ∃ mv, KBn K fd psL 1 ["low"] (fun us ws => us ++ ws ++ mv) (fun vs zs => vs ++ zs ++ [.non]) := by
  obtain ⟨mv, h⟩ := FunD.kbinds0 (ps := psL) F 1 ["low"] [("high", .non)] (fun us mv ws => us ++ ws ++ mv) (by simp) (fun q hq => by simp at hq; simp [hq]) (fun r1 r2 r3 => (r1.append r3).append r2) (fun D doc pm an cdv ct us mv ws h1 h2 h3 => match us, mv, ws, h1, h2, h3 with | [_], [_], [_], _, _, _ => ⟨_, _, _, _, _, _, rfl, rfl, rfl⟩)
  exact ⟨mv, h⟩
theorem lst_0 (F : FunD K "lasting" "lasting" (defArgs sLasting) (defBody sLasting) (defScope sLasting) [] kwP f fd) : ∃ ds, Vals [.int 0, .non] ds ∧ Binds K fd psL ds :=
  F.binds0 (ps := psL) 1 (by simp) rfl (fun D doc pm an cdv ct us ks h1 h2 => match us, ks, h1, h2 with | [_], [_, _], _, _ => ⟨_, _, _, _, _, _, rfl, rfl, _, _, _, _, _, _, rfl, rfl, rfl⟩)
end
/-! what is told, as a key -/
def optK : Option Int → NestedKey
  | none => .none
  | some n => .num n
def lastK (l : List (List NestedKey × Option Int)) : NestedKey := .tup (l.map fun p => .tup [.tup p.1, optK p.2])
theorem opt_key {H : Hp} : ∀ o : Option Int, KeyV H (optK o) (optV o)
  | none => .none
  | some n => .num n
theorem last_keys {H : Hp} : ∀ {cs : List V} {l : List (List NestedKey × Option Int)}, Paired (LastV H) cs l → KeysV H (l.map fun p => .tup [.tup p.1, optK p.2]) cs
  | _, _, .nil => .nil
  | _, _, .cons a r => by
    obtain ⟨c, r', xs, e, h1, h2, h3⟩ := a
    subst e
    exact .cons (.tup h1 (.cons (.tup h2 (keysV_of h3)) (.cons (opt_key _) .nil))) (last_keys r)
theorem fold_len {a b : Int} : ∀ {ss : List Span} {st : LSt}, (ss.foldl (stepL a b) st).1.length ≤ st.1.length + ss.length
  | [], _ => Nat.le_refl _
  | s :: ss, st => by
    rw [List.foldl_cons]
    have h := fold_len (a := a) (b := b) (ss := ss) (st := stepL a b st s)
    have one : (stepL a b st s).1.length ≤ st.1.length + 1 := by
      unfold stepL
      split
      · show (if (st.2 s.1).isSome = true then st.1 else st.1 ++ [s.1]).length ≤ _
        split
        · omega
        · rw [List.length_append]
          exact Nat.le_refl _
      · omega
    rw [List.length_cons]
    omega
theorem fold_mem {a b : Int} {k : List NestedKey} : ∀ {ss : List Span} {st : LSt}, k ∈ (ss.foldl (stepL a b) st).1 → k ∈ st.1 ∨ ∃ s ∈ ss, s.1 = k
  | [], _, h => .inl h
  | s :: ss, st, h => by
    rw [List.foldl_cons] at h
    rcases fold_mem h with z | ⟨t, ht, e⟩
    · unfold stepL at z
      split at z
      · have z : k ∈ (if (st.2 s.1).isSome = true then st.1 else st.1 ++ [s.1]) := z
        split at z
        · exact .inl z
        · rcases List.mem_append.mp z with z | z
          · exact .inl z
          · exact .inr ⟨s, List.mem_cons_self .., (List.mem_singleton.mp z).symm⟩
      · exact .inl z
    · exact .inr ⟨t, List.mem_cons_of_mem _ ht, e⟩
theorem last_fit {a b : Int} {ss : List Span} (l56 : ss.length ≤ 56) (ok : ∀ s ∈ ss, s.1.length ≤ 4 ∧ ∀ k ∈ s.1, ∀ js, k ≠ .tup js) : fitK 3 (lastK (lastR (lastL a b ss))) := by
  intro ks e
  unfold lastK at e
  cases e
  have hl := fold_len (a := a) (b := b) (ss := ss) (st := ([], fun _ => none))
  refine ⟨?_, fun j hj => ?_⟩
  · rw [List.length_map]
    unfold lastR
    rw [List.length_map, (List.mergeSort_perm _ _).length_eq]
    unfold lastL
    have h0 : (List.foldl (stepL a b) ([], fun _ => none) ss).1.length ≤ 0 + ss.length := hl
    omega
  · obtain ⟨p, hp, rfl⟩ := List.mem_map.mp hj
    unfold lastR at hp
    obtain ⟨k, hk, rfl⟩ := List.mem_map.mp hp
    have hk := (List.mergeSort_perm _ _).mem_iff.mp hk
    unfold lastL at hk
    rcases fold_mem hk with z | ⟨s, hs, rfl⟩
    · exact absurd z List.not_mem_nil
    obtain ⟨w4, lf⟩ := ok s hs
    intro ks e
    cases e
    refine ⟨by simp, fun j hj => ?_⟩
    simp only [List.mem_cons, List.mem_nil_iff, or_false] at hj
    rcases hj with rfl | rfl
    · intro ks e
      cases e
      exact ⟨by omega, fun j hj => fit_leaf (lf j hj)⟩
    · refine fit_leaf fun ks z => ?_
      cases h : ((lastL a b ss).2 s.1).getD none with
      | none => rw [h] at z; cases z
      | some _ => rw [h] at z; cases z
theorem flat_len {gs : List Grp} (h : ∀ g ∈ gs, GrpOk g) : (flatG gs).length ≤ 4 * gs.length := by
  induction gs with
  | nil => exact Nat.le_refl _
  | cons g gs ih =>
    show (grpS g ++ flatG gs).length ≤ _
    have h1 := ih fun x hx => h x (List.mem_cons_of_mem _ hx)
    have h2 := (h g (List.mem_cons_self ..)).few
    have h3 : (grpS g).length = g.2.length := List.length_map _
    rw [List.length_append, List.length_cons]
    omega
theorem tri_nil : TriplesOk ([] : List Value) := by
  first
  | trivial
  | decide
  | simp
theorem span_leaf {H : Hp} : ∀ {us : List V} {ss : List Span}, Paired (SpanV H) us ss → ∀ s ∈ ss, s.1.length ≤ 4 ∧ ∀ k ∈ s.1, ∀ js, k ≠ .tup js
  | _, _, .cons a r, s, hs => by
    rcases List.mem_cons.mp hs with rfl | hs
    · obtain ⟨ok, _, _, xs, _, _, _, h⟩ := a
      exact ⟨ok.wide, th_leaf h⟩
    · exact span_leaf r s hs
/-! what stands while one row of spans is asked -/
structure At (p T P0 P1 : Addr) (n : Nat) (us : List V) (ss : List Span) (H : Hp) : Prop where
  hand : Hand H p n
  told : H T = some (.tup us)
  each : Paired (SpanV H) us ss
  t0 : LamX.TabS H P0 lamQ
  t1 : LamX.TabS H P1 dueQ
theorem At.same {p T P0 P1 : Addr} {n : Nat} {us : List V} {ss : List Span} {H H' : Hp} (h : At p T P0 P1 n us ss H) (s : Same H H') : At p T P0 P1 n us ss H' := ⟨h.hand.same s, s _ _ h.told, paired_mono (fun _ _ z => z.keep (Keep.of s)) h.each, LamX.TabS.ext h.t0 s, LamX.TabS.ext h.t1 s⟩
theorem At.due {p T P0 P1 : Addr} {n : Nat} {us : List V} {ss : List Span} {H H' : Hp} (ne : P1 ≠ P0) (h : At p T P0 P1 n us ss H) (b : ButP P1 H H') (t : LamX.TabS H' P1 dueQ) : At p T P0 P1 n us ss H' := by
  have k := keep_tab h.t1 b
  refine ⟨?_, k _ _ h.told, paired_mono (fun _ _ z => z.keep k) h.each, tabs_one h.t1 h.t0 (Ne.symm ne) b, t⟩
  obtain ⟨g, s, c, hp, e⟩ := h.hand
  obtain ⟨ps, h1, _⟩ := h.t1
  exact ⟨g, s, c, b _ _ (fun z => by rw [z, h1] at hp; cases hp) hp, e⟩
theorem At.but {p T P0 P1 : Addr} {n m : Nat} {us : List V} {ss : List Span} {H H' : Hp} (h : At p T P0 P1 n us ss H) (hU : Hand H' p m) (b : But p H H') : At p T P0 P1 m us ss H' := by
  have k := keep_but h.hand b
  exact ⟨hU, k _ _ h.told, paired_mono (fun _ _ z => z.keep k) h.each, tabs_but h.hand h.t0 b, tabs_but h.hand h.t1 b⟩
theorem At.mono {p T P0 P1 : Addr} {n m : Nat} {us : List V} {ss : List Span} {H : Hp} (h : At p T P0 P1 n us ss H) (l : n ≤ m) : At p T P0 P1 m us ss H := ⟨h.hand.mono l, h.told, h.each, h.t0, h.t1⟩
theorem last_keep {H H' : Hp} (k : Keep H H') {cs : List V} {l : List (List NestedKey × Option Int)} (h : Paired (LastV H) cs l) : Paired (LastV H') cs l := paired_mono (fun v p ⟨c, r, xs, e, h1, h2, h3⟩ => ⟨c, r, xs, e, k _ _ h1, k _ _ h2, h3⟩) h
/-- all but the hand and two tables stands -/
def But4 (p P0 P1 : Addr) (H H' : Hp) : Prop := ∀ b o, b ≠ p → b ≠ P0 → b ≠ P1 → H b = some o → H' b = some o
def spLaw (K : PySem.W.Frag) (P0 P1 : Addr) : Sp := fun vs H Q _ => ∃ (a : Addr) (ns : List Int), vs = [.ref a] ∧ SqL K H a (ns.map V.int) ∧ ns.length ≤ 63 ∧ H P0 = some (.tbl #[]) ∧ H P1 = some (.tbl #[]) ∧ ∀ H', Q (.bl true) H'
section
variable {P : Program} {w : World} {K : PySem.W.Frag} {mg : Str → Option Value} {base : Heap}
variable {f fH fS fD fB fM fE P0 P1 : Addr} {fd dH dS dD dB dM dE : FuncData}
abbrev lawN : List Str := ["_law_script", "_law_k", "_law_hand_here", "_law_turn", "_law_told", "_law_again", "_law_lo", "_law_hi"]
theorem scLaw : FnScope lawN ["_law_script"] (defScope sLaw) := ⟨rfl, rfl, rfl, by decide +kernel, rfl, by decide +kernel, by decide +kernel⟩
theorem ok_law (F : Fun K "law" "law" sLaw f fd) (ne : P1 ≠ P0)
    (GH : FnOk P w K mg base CX0 1 fH dH ["_law_script", "_law_k"] (spHand K)) (bH : Binds K dH ["_law_script", "_law_k"] []) (kH : PySem.W.keepIn K (.ref fH) = true) (mH : mg "_law_hand" = some (.ref fH))
    (GS : FnOk P w K mg base CX0 6 fS dS ["_law_hand_here"] (spSpans P0)) (bS : Binds K dS ["_law_hand_here"] []) (kS : PySem.W.keepIn K (.ref fS) = true) (mS : mg "_law_spans" = some (.ref fS))
    (GB : FnOk P w K mg base CX0 3 fB dB ["_law_hand_here", "_law_told"] spBound) (bB : Binds K dB ["_law_hand_here", "_law_told"] []) (kB : PySem.W.keepIn K (.ref fB) = true) (mB : mg "_law_bound" = some (.ref fB))
    (GD : FnOk P w K mg base CX0 6 fD dD ["_law_told", "_law_lo", "_law_hi"] (spDueL P1)) (bD : Binds K dD ["_law_told", "_law_lo", "_law_hi"] []) (kD : PySem.W.keepIn K (.ref fD) = true) (mD : mg "_law_due" = some (.ref fD))
    (GM : FnOk P w K mg base CX0 5 fM dM ["_law_got", "_law_due_here"] (spSame 3)) (bM : Binds K dM ["_law_got", "_law_due_here"] []) (kM : PySem.W.keepIn K (.ref fM) = true) (mM : mg "_law_same" = some (.ref fM))
    (FE : FunD K "lasting" "lasting" (defArgs sLasting) (defBody sLasting) (defScope sLasting) [] kwP fE dE) (GE : FnOk P w K mg base CX0 6 fE dE psL spLasting) (kE : PySem.W.keepIn K (.ref fE) = true) (mE : mg "lasting" = some (.ref fE))
    (mr : mg "range" = none) (mi : mg "min" = none) (mx : mg "max" = none) (ml : mg "len" = none) : FnOk P w K mg base CX0 7 f fd ["_law_script"] (spLaw K P0 P1) := by
  refine F.ok scLaw (fun vs H Q E h => ?_) (fun cdv A outer s H vs Q E hr h => ?_)
  · obtain ⟨a, ns, rfl, _⟩ := h
    rfl
  obtain ⟨a, ns, rfl, hS, h63, hP0, hP1, q⟩ := h
  have hr1 : Room 1 _ := hr.mono (by decide)
  have hr3 : Room 3 _ := hr.mono (by decide)
  have hr5 : Room 5 _ := hr.mono (by decide)
  obtain ⟨mvl, kwl⟩ := lst_l FE
  obtain ⟨mvh, kwh⟩ := lst_h FE
  obtain ⟨ds0, rds, bds⟩ := lst_0 FE
  refine ⟨_, PSs.nox (pss_cons (ps_for PassesOwn.never rfl (pi_range1 (by rfl) mr (pa_cons (pe_callB (call_max2 rfl) (by rfl) mx (by decide +kernel) (pa_cons pe_int (pa_cons (pe_callB (call_min2 rfl) (by rfl) mi (by decide +kernel) (pa_cons pe_int (pa_cons (pe_callB call_len_seq (by rfl) ml PySem.boot_len (pa_cons (pv 0) pa_nil)) pa_nil))) pa_nil))) pa_nil)) (pg_name (i := 1) scLaw.nd rfl (.inl rfl))
      (pss_cons (ps_set (i := 2) scLaw.nd rfl (Or.inl rfl) (pe_call GH hr1 (by rfl) mH kH bH .nil pass0 (pa_cons (pv 0) (pa_cons (pv 1) pa_nil))))
      (pss_one (ps_for PassesOwn.never rfl (pi_range1 (by rfl) mr (pa_cons pe_int pa_nil)) (pg_name (i := 3) scLaw.nd rfl (.inl rfl))
        (pss_cons (ps_set (i := 4) scLaw.nd rfl (Or.inl rfl) (pe_call GS hr (by rfl) mS kS bS .nil pass0 (pa_cons (pv 2) pa_nil)))
        (pss_cons (ps_for PassesOwn.never rfl (pi_range1 (by rfl) mr (pa_cons pe_int pa_nil)) (pg_name (i := 5) scLaw.nd rfl (.inl rfl))
          (pss_cons (ps_asg (pe_call GB hr3 (by rfl) mB kB bB .nil pass0 (pa_cons (pv 2) (pa_cons (pv 4) pa_nil))) (pg_tup (by rfl) (pgs_cons (pg_name (i := 6) scLaw.nd rfl (.inl rfl)) (pgs_cons (pg_name (i := 7) scLaw.nd rfl (.inl rfl)) pgs_nil))))
          (pss_cons (ps_if (pt_not (pt_val (pe_call GM hr5 (by rfl) mM kM bM .nil pass0 (pa_cons (pe_callN GE hr (by rfl) mE kE (lst_hl FE) pass0 (pa_cons (pv 4) pa_nil) (pk_cons (pv 7) (pk_cons (pv 6) pk_nil))) (pa_cons (pe_call GD hr (by rfl) mD kD bD .nil pass0 (pa_cons (pv 4) (pa_cons (pv 6) (pa_cons (pv 7) pa_nil)))) pa_nil))))) (pss_one (ps_ret pe_bl)) pss_nil)
          (pss_cons (ps_if (pt_not (pt_val (pe_call GM hr5 (by rfl) mM kM bM .nil pass0 (pa_cons (pe_callN GE hr (by rfl) mE kE kwl pass0 (pa_cons (pv 4) pa_nil) (pk_cons (pv 6) pk_nil)) (pa_cons (pe_call GD hr (by rfl) mD kD bD .nil pass0 (pa_cons (pv 4) (pa_cons (pv 6) (pa_cons pe_non pa_nil)))) pa_nil))))) (pss_one (ps_ret pe_bl)) pss_nil)
          (pss_one (ps_if (PW.pt (pw_and (pt_cmp (pc_notN (pv 7))) (pw_and1 (pt_not (pt_val (pe_call GM hr5 (by rfl) mM kM bM .nil pass0 (pa_cons (pe_callN GE hr (by rfl) mE kE kwh pass0 (pa_cons (pv 4) pa_nil) (pk_cons (pv 7) pk_nil)) (pa_cons (pe_call GD hr (by rfl) mD kD bD .nil pass0 (pa_cons (pv 4) (pa_cons pe_int (pa_cons (pv 7) pa_nil)))) pa_nil)))))))) (pss_one (ps_ret pe_bl)) pss_nil))))))
        (pss_one (ps_if (pt_not (pt_val (pe_call GM hr5 (by rfl) mM kM bM .nil pass0 (pa_cons (pe_call GE hr (by rfl) mE kE bds rds pass0 (pa_cons (pv 4) pa_nil)) (pa_cons (pe_call GD hr (by rfl) mD kD bD .nil pass0 (pa_cons (pv 4) (pa_cons pe_int (pa_cons pe_non pa_nil)))) pa_nil))))) (pss_one (ps_ret pe_bl)) pss_nil))))))))
    (pss_one (ps_ret (pe_call GM hr5 (by rfl) mM kM bM .nil pass0 (pa_cons (pe_call GE hr (by rfl) mE kE bds rds pass0 (pa_cons (pe_tup pa_nil) pa_nil)) (pa_cons (pe_tup pa_nil) pa_nil)))))), ?_⟩
  have tab0 : LamX.TabS H P0 lamQ := ⟨#[], hP0, tri_nil, fun pos cv e => by cases e⟩
  have tab1 : LamX.TabS H P1 dueQ := ⟨#[], hP1, tri_nil, fun pos cv e => by cases e⟩
  have sqB : ∀ {H1 H2 : Hp}, LamX.TabS H1 P0 lamQ → LamX.TabS H1 P1 dueQ → (∀ b o, b ≠ P0 → b ≠ P1 → H1 b = some o → H2 b = some o) → SqL K H1 a (ns.map V.int) → SqL K H2 a (ns.map V.int) := fun {H1 H2} t t' b s => by
    obtain ⟨ps, hp, _⟩ := t
    obtain ⟨ps', hp', _⟩ := t'
    rcases s with (h | ⟨o, h⟩) | h
    · exact .inl (.inl (b _ _ (fun z => by rw [z, hp] at h; cases h) (fun z => by rw [z, hp'] at h; cases h) h))
    · exact .inl (.inr ⟨o, b _ _ (fun z => by rw [z, hp] at h; cases h) (fun z => by rw [z, hp'] at h; cases h) h⟩)
    · exact .inr h
  refine ⟨_, rfl, a, _, rfl, .inl hS, _, _, rfl, _, _, rfl, ?_⟩
  obtain ⟨m, hm, m0, m3⟩ : ∃ m : Int, (if (if (((ns.map V.int).length : Nat) : Int) < 3 then (((ns.map V.int).length : Nat) : Int) else 3) > 1 then (if (((ns.map V.int).length : Nat) : Int) < 3 then (((ns.map V.int).length : Nat) : Int) else 3) else 1) = m ∧ 0 ≤ m ∧ m ≤ 3 := by
    refine ⟨_, rfl, ?_, ?_⟩ <;> split <;> (try split) <;> omega
  rw [hm]
  refine ⟨m, rfl, by omega, by omega, ?_⟩
  refine for_range (lo := 0) (n := m.toNat) (fun i σ' H1 => ∃ v1 v2 v3 v4 v5 v6 v7 : Option V, σ' = [some (.ref a), v1, v2, v3, v4, v5, v6, v7] ∧ SqL K H1 a (ns.map V.int) ∧ LamX.TabS H1 P0 lamQ ∧ LamX.TabS H1 P1 dueQ) ⟨_, _, _, _, _, _, _, rfl, hS, tab0, tab1⟩ ?_ ?_
  · rintro i σ' H1 hi ⟨v1, v2, v3, v4, v5, v6, v7, rfl, hS1, tb0, tb1⟩
    refine ⟨_, rfl, _, rfl, a, ns, 0 + (i : Int), rfl, hS1, h63, by omega, by omega, fun p H2 np hU2 s2 => ?_⟩
    refine ⟨3, rfl, by decide, by decide, ?_⟩
    refine for_range (lo := 0) (n := (3 : Int).toNat) (fun j σ' H3 => ∃ v3 v4 v5 v6 v7 : Option V, σ' = [some (.ref a), some (.int (0 + (i : Int))), some (.ref p), v3, v4, v5, v6, v7] ∧ Hand H3 p (600 * j) ∧ LamX.TabS H3 P0 lamQ ∧ LamX.TabS H3 P1 dueQ ∧ But4 p P0 P1 H2 H3) ⟨_, _, _, _, _, rfl, hU2, LamX.TabS.ext tb0 s2, LamX.TabS.ext tb1 s2, fun b o _ _ _ e => e⟩ ?_ ?_
    · rintro j σ' H3 hj ⟨v3, v4, v5, v6, v7, rfl, hU3, tab3, tab3', b3⟩
      have j3 : j < 3 := hj
      refine ⟨_, rfl, p, _, rfl, hU3, by omega, tab3, fun T us gs H4 hT hP lgs nd okg nT hU4 tab4 b4 => ?_⟩
      have tab4' := tabs_two hU3 tab3 tab3' ne b4
      have sh : Shut (flatG gs) := shut_flat okg nd
      have pos : ∀ s ∈ flatG gs, 0 < s.1.length := fun s hs => by
        unfold flatG at hs
        obtain ⟨g, hg, hs⟩ := List.mem_flatMap.mp hs
        unfold grpS at hs
        obtain ⟨_, _, rfl⟩ := List.mem_map.mp hs
        exact (okg g hg).pos
      have l56 : (flatG gs).length ≤ 56 := by
        have := flat_len okg
        omega
      obtain ⟨ss, hss⟩ : ∃ ss, ss = flatG gs := ⟨_, rfl⟩
      rw [← hss] at hP sh pos l56
      clear hss
      have okl := span_leaf hP
      have b24 : But4 p P0 P1 H2 H4 := fun b o h1 h2 h3 e => b4 b o h1 h2 (b3 b o h1 h2 h3 e)
      -- what is told and what is due are one
      have keys : ∀ {H C C2 : _} {cs cs2 : List V} {lo hi : Int}, H C = some (.tup cs) → Paired (LastV H) cs (lastR (lastL lo hi ss)) → H C2 = some (.tup cs2) → Paired (LastV H) cs2 (lastR (lastL lo hi ss)) → KeyV H (lastK (lastR (lastL lo hi ss))) (.ref C) ∧ KeyV H (lastK (lastR (lastL lo hi ss))) (.ref C2) ∧ fitK 3 (lastK (lastR (lastL lo hi ss))) := fun hC hG hC2 hG2 => ⟨.tup hC (last_keys hG), .tup hC2 (last_keys hG2), last_fit l56 okl⟩
      refine ⟨3, rfl, by decide, by decide, ?_⟩
      refine for_range (lo := 0) (n := (3 : Int).toNat) (fun k σ' H5 => ∃ v5 v6 v7 : Option V, σ' = [some (.ref a), some (.int (0 + (i : Int))), some (.ref p), some (.int (0 + (j : Int))), some (.ref T), v5, v6, v7] ∧ At p T P0 P1 (600 * j + 500 + 4 * k) us ss H5 ∧ But4 p P0 P1 H4 H5) ⟨_, _, _, rfl, ⟨hU4, hT, hP, tab4, tab4'⟩, fun b o _ _ _ e => e⟩ ?_ ?_
      · rintro k σ' H5 hk ⟨v5, v6, v7, rfl, at5, b5⟩
        have k3 : k < 3 := hk
        refine ⟨_, rfl, _, rfl, p, T, 600 * j + 500 + 4 * k, us, ss, rfl, at5.hand, by omega, at5.told, at5.each, l56, fun B lo hi H6 hB lo0 lo1 lohi hi1 hU6 b6 => ?_⟩
        have at6 := at5.but hU6 b6
        have hi12 : hi ≤ 10 ^ 12 + 1 := by omega
        have lo12 : lo ≤ 10 ^ 12 := by omega
        refine ⟨B, _, rfl, SqT.of hB, rfl, _, _, rfl, _, _, rfl, rfl, ?_⟩
        refine ⟨_, rfl, _, rfl, _, rfl, rfl, rfl, T, lo, hi, us, ss, rfl, at6.told, at6.each, l56, pos, lo0, lo12, hi12, fun C cs H7 hC hG s7 => ?_⟩
        have at7 := at6.same s7
        refine ⟨_, rfl, _, rfl, _, rfl, T, lo, hi, us, ss, rfl, at7.told, at7.each, l56, pos, sh, lo0, lo12, hi12, at7.t1, fun C2 cs2 H8 hC2 hG2 t8 b8 => ?_⟩
        have k8 := keep_tab at7.t1 b8
        have at8 := at7.due ne b8 t8
        obtain ⟨k1, k2, k3'⟩ := keys (k8 _ _ hC) (last_keep k8 hG) hC2 hG2
        refine ⟨.ref C, .ref C2, _, rfl, k1, k2, k3', fun H9 s9 => ⟨_, rfl, ff2 rfl ?_⟩⟩
        have at9 := at8.same s9
        have b69 : ButP P1 H6 H9 := fun b o h e => s9 _ _ (b8 b o h (s7 _ _ e))
        -- without an end
        refine ⟨_, rfl, _, rfl, rfl, rfl, T, lo, 10 ^ 12 + 1, us, ss, by rw [end_open]; rfl, at9.told, at9.each, l56, pos, lo0, lo12, Int.le_refl _, fun C cs H10 hC hG s10 => ?_⟩
        have at10 := at9.same s10
        refine ⟨_, rfl, _, rfl, T, lo, 10 ^ 12 + 1, us, ss, by rw [end_open]; rfl, at10.told, at10.each, l56, pos, sh, lo0, lo12, Int.le_refl _, at10.t1, fun C2 cs2 H11 hC2 hG2 t11 b11 => ?_⟩
        have k11 := keep_tab at10.t1 b11
        have at11 := at10.due ne b11 t11
        obtain ⟨k1, k2, k3'⟩ := keys (k11 _ _ hC) (last_keep k11 hG) hC2 hG2
        refine ⟨.ref C, .ref C2, _, rfl, k1, k2, k3', fun H12 s12 => ⟨_, rfl, ff2 rfl ?_⟩⟩
        have at12 := at11.same s12
        have b612 : ButP P1 H6 H12 := fun b o h e => s12 _ _ (b11 b o h (s10 _ _ (b69 b o h e)))
        have fin : ∀ H', At p T P0 P1 (600 * j + 500 + 4 * k + 4) us ss H' → ButP P1 H6 H' → ∃ w5 w6 w7 : Option V, ([some (.ref a), some (.int (0 + (i : Int))), some (.ref p), some (.int (0 + (j : Int))), some (.ref T), some (.int (0 + (k : Int))), some (.int lo), some (endV hi)] : L2.St) = [some (.ref a), some (.int (0 + (i : Int))), some (.ref p), some (.int (0 + (j : Int))), some (.ref T), w5, w6, w7] ∧ At p T P0 P1 (600 * j + 500 + 4 * (k + 1)) us ss H' ∧ But4 p P0 P1 H4 H' := fun H' s b => ⟨_, _, _, rfl, s.mono (by omega), fun c o h1 h2 h3 e => b c o h3 (b6 c o h1 (b5 c o h1 h2 h3 e))⟩
        refine ⟨_, rfl, _, rfl, ?_⟩
        rcases hi1 with h | h
        · have ev : endV hi = .int hi := if_neg (by omega)
          refine tt2 (by rw [ev]; rfl) ?_
          refine ⟨_, rfl, _, rfl, rfl, rfl, T, 0, hi, us, ss, rfl, at12.told, at12.each, l56, pos, Int.le_refl _, by decide, hi12, fun C cs H13 hC hG s13 => ?_⟩
          have at13 := at12.same s13
          refine ⟨_, rfl, _, rfl, T, 0, hi, us, ss, rfl, at13.told, at13.each, l56, pos, sh, Int.le_refl _, by decide, hi12, at13.t1, fun C2 cs2 H14 hC2 hG2 t14 b14 => ?_⟩
          have k14 := keep_tab at13.t1 b14
          have at14 := at13.due ne b14 t14
          obtain ⟨k1, k2, k3'⟩ := keys (k14 _ _ hC) (last_keep k14 hG) hC2 hG2
          exact ⟨.ref C, .ref C2, _, rfl, k1, k2, k3', fun H15 s15 => ⟨_, rfl, ff2 rfl (fin H15 (at14.same s15) fun b o h e => s15 _ _ (b14 b o h (s13 _ _ (b612 b o h e))))⟩⟩
        · exact ff2 (by rw [h, end_open]; rfl) (fin H12 at12 b612)
      · rintro σ' H5 ⟨v5, v6, v7, rfl, at5, b5⟩
        refine ⟨_, rfl, T, 0, 10 ^ 12 + 1, us, ss, by rw [end_open]; rfl, at5.told, at5.each, l56, pos, Int.le_refl _, by decide, Int.le_refl _, fun C cs H6 hC hG s6 => ?_⟩
        have at6 := at5.same s6
        refine ⟨_, rfl, T, 0, 10 ^ 12 + 1, us, ss, by rw [end_open]; rfl, at6.told, at6.each, l56, pos, sh, Int.le_refl _, by decide, Int.le_refl _, at6.t1, fun C2 cs2 H7 hC2 hG2 t7 b7 => ?_⟩
        have k7 := keep_tab at6.t1 b7
        have at7 := at6.due ne b7 t7
        obtain ⟨k1, k2, k3'⟩ := keys (k7 _ _ hC) (last_keep k7 hG) hC2 hG2
        refine ⟨.ref C, .ref C2, _, rfl, k1, k2, k3', fun H8 s8 => ⟨_, rfl, ff2 rfl ?_⟩⟩
        have at8 := at7.same s8
        exact ⟨_, _, _, _, _, rfl, at8.hand.mono (by simp only [Int.reduceToNat]; omega), at8.t0, at8.t1, fun b o h1 h2 h3 e => s8 _ _ (b7 b o h3 (s6 _ _ (b5 b o h1 h2 h3 (b24 b o h1 h2 h3 e))))⟩
    · rintro σ' H3 ⟨v3, v4, v5, v6, v7, rfl, hU3, tab3, tab3', b3⟩
      refine ⟨_, _, _, _, _, _, _, rfl, ?_, tab3, tab3'⟩
      refine sqB tb0 tb1 (fun b o hb hb' e => b3 b o (ne_of_none e np) hb hb' (s2 _ _ e)) hS1
  · rintro σ' H1 _
    refine ⟨(by show 0 ≤ sizeLine; decide), fun A nA => ⟨A, 0, 10 ^ 12 + 1, [], [], by rw [end_open]; rfl, upd_same, .nil, by decide, (fun s hs => nomatch hs), by decide, by decide, by decide, fun C cs H2 hC hG s2 => ?_⟩⟩
    refine ⟨(by show 0 ≤ sizeLine; decide), fun O nO => ?_⟩
    have e0 : lastR (lastL 0 (10 ^ 12 + 1) []) = [] := by
      unfold lastR lastL
      simp
    rw [e0] at hG
    have gO := same_new nO (.tup [])
    refine ⟨.ref C, .ref O, .tup [], rfl, KeyV.keep (Keep.of gO) _ _ (.tup hC (last_keys hG)), .tup upd_same .nil, ?_, fun H3 _ => q H3⟩
    intro ks e
    cases e
    exact ⟨by decide, fun j hj => absurd hj List.not_mem_nil⟩
end
end Q64
namespace Q64
open PySem L2 Ln
set_option maxHeartbeats 64000000 in
theorem all_mk {l : PySem.W.OpenLaw} {w : World} {K : PySem.W.Frag} {h : Heap} {mg : Str → Option Value} {fa : Addr} {f0 f1 f2 f3 f4 f5 f6 f7 f8 f9 f10 f11 f12 f13 f14 f15 f16 f17 f18 c0 P0 c1 P1 : Addr} (X : K.In h) (G : h.Ns mainGlobals mg) (hfa : mg "law" = some (.ref fa))
    {pd0 qn0 : Option Addr} {ql0 : Array (Option Value)} {qc0 qv0 qd0 qm0 qe0 qt0 : Value}
    {pd1 qn1 : Option Addr} {ql1 : Array (Option Value)} {qc1 qv1 qd1 qm1 qe1 qt1 : Value}
    {pd2 qn2 : Option Addr} {ql2 : Array (Option Value)} {qc2 qv2 qd2 qm2 qe2 qt2 : Value}
    {pd3 qn3 : Option Addr} {ql3 : Array (Option Value)} {qc3 qv3 qd3 qm3 qe3 qt3 : Value}
    {pd4 qn4 : Option Addr} {ql4 : Array (Option Value)} {qc4 qv4 qd4 qm4 qe4 qt4 : Value}
    {pd5 qn5 : Option Addr} {ql5 : Array (Option Value)} {qc5 qv5 qd5 qm5 qe5 qt5 : Value}
    {pd6 qn6 : Option Addr} {ql6 : Array (Option Value)} {qc6 qv6 qd6 qm6 qe6 qt6 : Value}
    {pd7 qn7 : Option Addr} {ql7 : Array (Option Value)} {qc7 qv7 qd7 qm7 qt7 : Value}
    {pd8 qn8 : Option Addr} {ql8 : Array (Option Value)} {qc8 qv8 qd8 qm8 qe8 qt8 : Value}
    {pd9 qn9 : Option Addr} {ql9 : Array (Option Value)} {qc9 qv9 qd9 qm9 qe9 qt9 : Value}
    {pd10 qn10 : Option Addr} {ql10 : Array (Option Value)} {qc10 qv10 qd10 qm10 qt10 : Value}
    {pd11 qn11 : Option Addr} {ql11 : Array (Option Value)} {qc11 qv11 qd11 qm11 qe11 qt11 : Value}
    {pd12 qn12 : Option Addr} {ql12 : Array (Option Value)} {qc12 qv12 qd12 qm12 qe12 qt12 : Value}
    {pd13 qn13 : Option Addr} {ql13 : Array (Option Value)} {qc13 qv13 qd13 qm13 qe13 qt13 : Value}
    {pd14 qn14 : Option Addr} {ql14 : Array (Option Value)} {qc14 qv14 qd14 qm14 qe14 qt14 : Value}
    {pd15 qn15 : Option Addr} {ql15 : Array (Option Value)} {qc15 qv15 qd15 qm15 qe15 qt15 : Value}
    {pd16 qn16 : Option Addr} {ql16 : Array (Option Value)} {qc16 qv16 qd16 qm16 qe16 qt16 : Value}
    {pd17 qn17 : Option Addr} {ql17 : Array (Option Value)} {qc17 qd17 qm17 qe17 qt17 : Value}
    {kd17 : Addr} {kt17_low : Tok}
    {pd18 qn18 : Option Addr} {ql18 : Array (Option Value)} {qc18 qv18 qd18 qm18 qe18 qt18 : Value}
    (tb_Spans : h.get? P0 = some (PySem.W.tabObj #[]))
    (tb_DueL : h.get? P1 = some (PySem.W.tabObj #[]))
    (p0 : PySem.W.nsIn K mainGlobals "_law_hand" = some (some (.ref f0)))
    (q0 : K.lookup f0 = some ⟨qc0, pd0, .func (PySem.W.fnOf "_law_hand" "_law_hand" (defArgs sHand) (defBody sHand) (defScope sHand) .none qv0 qd0 qm0 qn0 qe0 qt0), ql0⟩)
    (r0 : PySem.W.codeIn K qe0 "_law_hand" = true)
    (s0 : PySem.W.keepIn K (.ref f0) = true)
    (p1 : PySem.W.nsIn K mainGlobals "_law_take" = some (some (.ref f1)))
    (q1 : K.lookup f1 = some ⟨qc1, pd1, .func (PySem.W.fnOf "_law_take" "_law_take" (defArgs sTake) (defBody sTake) (defScope sTake) .none qv1 qd1 qm1 qn1 qe1 qt1), ql1⟩)
    (r1 : PySem.W.codeIn K qe1 "_law_take" = true)
    (s1 : PySem.W.keepIn K (.ref f1) = true)
    (p2 : PySem.W.nsIn K mainGlobals "_law_of" = some (some (.ref f2)))
    (q2 : K.lookup f2 = some ⟨qc2, pd2, .func (PySem.W.fnOf "_law_of" "_law_of" (defArgs sOf) (defBody sOf) (defScope sOf) .none qv2 qd2 qm2 qn2 qe2 qt2), ql2⟩)
    (r2 : PySem.W.codeIn K qe2 "_law_of" = true)
    (s2 : PySem.W.keepIn K (.ref f2) = true)
    (p3 : PySem.W.nsIn K mainGlobals "_law_words" = some (some (.ref f3)))
    (q3 : K.lookup f3 = some ⟨qc3, pd3, .func (PySem.W.fnOf "_law_words" "_law_words" (defArgs sWords) (defBody sWords) (defScope sWords) .none qv3 qd3 qm3 qn3 qe3 qt3), ql3⟩)
    (r3 : PySem.W.codeIn K qe3 "_law_words" = true)
    (s3 : PySem.W.keepIn K (.ref f3) = true)
    (p4 : PySem.W.nsIn K mainGlobals "_law_number" = some (some (.ref f4)))
    (q4 : K.lookup f4 = some ⟨qc4, pd4, .func (PySem.W.fnOf "_law_number" "_law_number" (defArgs sNumL) (defBody sNumL) (defScope sNumL) .none qv4 qd4 qm4 qn4 qe4 qt4), ql4⟩)
    (r4 : PySem.W.codeIn K qe4 "_law_number" = true)
    (s4 : PySem.W.keepIn K (.ref f4) = true)
    (p5 : PySem.W.nsIn K mainGlobals "_law_rank" = some (some (.ref f5)))
    (q5 : K.lookup f5 = some ⟨qc5, pd5, .func (PySem.W.fnOf "_law_rank" "_law_rank" (defArgs sRank) (defBody sRank) (defScope sRank) .none qv5 qd5 qm5 qn5 qe5 qt5), ql5⟩)
    (r5 : PySem.W.codeIn K qe5 "_law_rank" = true)
    (s5 : PySem.W.keepIn K (.ref f5) = true)
    (p6 : PySem.W.nsIn K mainGlobals "_law_same" = some (some (.ref f6)))
    (q6 : K.lookup f6 = some ⟨qc6, pd6, .func (PySem.W.fnOf "_law_same" "_law_same" (defArgs sSame) (defBody sSame) (defScope sSame) .none qv6 qd6 qm6 qn6 qe6 qt6), ql6⟩)
    (r6 : PySem.W.codeIn K qe6 "_law_same" = true)
    (s6 : PySem.W.keepIn K (.ref f6) = true)
    (p7 : PySem.W.nsIn K mainGlobals "_law_spans" = some (some (.ref f7)))
    (q7 : K.lookup f7 = some ⟨qc7, pd7, .func (PySem.W.fnOf "_law_spans" "_law_spans" (defArgs sSpans) (defBody sSpans) (defScope sSpans) .none qv7 qd7 qm7 qn7 (.ref c0) qt7), ql7⟩)
    (r7 : PySem.W.codeIn K (.ref c0) "_law_spans" = true)
    (s7 : PySem.W.keepIn K (.ref f7) = true)
    (p8 : PySem.W.nsIn K mainGlobals "_law_ends" = some (some (.ref f8)))
    (q8 : K.lookup f8 = some ⟨qc8, pd8, .func (PySem.W.fnOf "_law_ends" "_law_ends" (defArgs sEnds) (defBody sEnds) (defScope sEnds) .none qv8 qd8 qm8 qn8 qe8 qt8), ql8⟩)
    (r8 : PySem.W.codeIn K qe8 "_law_ends" = true)
    (s8 : PySem.W.keepIn K (.ref f8) = true)
    (p9 : PySem.W.nsIn K mainGlobals "_law_bound" = some (some (.ref f9)))
    (q9 : K.lookup f9 = some ⟨qc9, pd9, .func (PySem.W.fnOf "_law_bound" "_law_bound" (defArgs sBound) (defBody sBound) (defScope sBound) .none qv9 qd9 qm9 qn9 qe9 qt9), ql9⟩)
    (r9 : PySem.W.codeIn K qe9 "_law_bound" = true)
    (s9 : PySem.W.keepIn K (.ref f9) = true)
    (p10 : PySem.W.nsIn K mainGlobals "_law_due" = some (some (.ref f10)))
    (q10 : K.lookup f10 = some ⟨qc10, pd10, .func (PySem.W.fnOf "_law_due" "_law_due" (defArgs sDueL) (defBody sDueL) (defScope sDueL) .none qv10 qd10 qm10 qn10 (.ref c1) qt10), ql10⟩)
    (r10 : PySem.W.codeIn K (.ref c1) "_law_due" = true)
    (s10 : PySem.W.keepIn K (.ref f10) = true)
    (p11 : PySem.W.nsIn K mainGlobals "earlier_end" = some (some (.ref f11)))
    (q11 : K.lookup f11 = some ⟨qc11, pd11, .func (PySem.W.fnOf "earlier_end" "earlier_end" (defArgs sEarly) (defBody sEarly) (defScope sEarly) .none qv11 qd11 qm11 qn11 qe11 qt11), ql11⟩)
    (r11 : PySem.W.codeIn K qe11 "earlier_end" = true)
    (s11 : PySem.W.keepIn K (.ref f11) = true)
    (p12 : PySem.W.nsIn K mainGlobals "clipped" = some (some (.ref f12)))
    (q12 : K.lookup f12 = some ⟨qc12, pd12, .func (PySem.W.fnOf "clipped" "clipped" (defArgs sClip) (defBody sClip) (defScope sClip) .none qv12 qd12 qm12 qn12 qe12 qt12), ql12⟩)
    (r12 : PySem.W.codeIn K qe12 "clipped" = true)
    (s12 : PySem.W.keepIn K (.ref f12) = true)
    (p13 : PySem.W.nsIn K mainGlobals "longer" = some (some (.ref f13)))
    (q13 : K.lookup f13 = some ⟨qc13, pd13, .func (PySem.W.fnOf "longer" "longer" (defArgs sLonger) (defBody sLonger) (defScope sLonger) .none qv13 qd13 qm13 qn13 qe13 qt13), ql13⟩)
    (r13 : PySem.W.codeIn K qe13 "longer" = true)
    (s13 : PySem.W.keepIn K (.ref f13) = true)
    (p14 : PySem.W.nsIn K mainGlobals "thing_order" = some (some (.ref f14)))
    (q14 : K.lookup f14 = some ⟨qc14, pd14, .func (PySem.W.fnOf "thing_order" "thing_order" (defArgs sThing) (defBody sThing) (defScope sThing) .none qv14 qd14 qm14 qn14 qe14 qt14), ql14⟩)
    (r14 : PySem.W.codeIn K qe14 "thing_order" = true)
    (s14 : PySem.W.keepIn K (.ref f14) = true)
    (p15 : PySem.W.nsIn K mainGlobals "row_order" = some (some (.ref f15)))
    (q15 : K.lookup f15 = some ⟨qc15, pd15, .func (PySem.W.fnOf "row_order" "row_order" (defArgs sRow) (defBody sRow) (defScope sRow) .none qv15 qd15 qm15 qn15 qe15 qt15), ql15⟩)
    (r15 : PySem.W.codeIn K qe15 "row_order" = true)
    (s15 : PySem.W.keepIn K (.ref f15) = true)
    (p16 : PySem.W.nsIn K mainGlobals "rising" = some (some (.ref f16)))
    (q16 : K.lookup f16 = some ⟨qc16, pd16, .func (PySem.W.fnOf "rising" "rising" (defArgs sRising) (defBody sRising) (defScope sRising) .none qv16 qd16 qm16 qn16 qe16 qt16), ql16⟩)
    (r16 : PySem.W.codeIn K qe16 "rising" = true)
    (s16 : PySem.W.keepIn K (.ref f16) = true)
    (p17 : PySem.W.nsIn K mainGlobals "lasting" = some (some (.ref f17)))
    (q17 : K.lookup f17 = some ⟨qc17, pd17, .func (PySem.W.fnOf "lasting" "lasting" (defArgs sLasting) (defBody sLasting) (defScope sLasting) .none (.ref kd17) qd17 qm17 qn17 qe17 qt17), ql17⟩)
    (r17 : PySem.W.codeIn K qe17 "lasting" = true)
    (s17 : PySem.W.keepIn K (.ref f17) = true)
    (e17_low : PySem.W.nsIn K kd17 "low" = some (some (.int 0 kt17_low)))
    (e17_high : PySem.W.nsIn K kd17 "high" = some (some .none))
    (p18 : PySem.W.nsIn K mainGlobals "law" = some (some (.ref f18)))
    (q18 : K.lookup f18 = some ⟨qc18, pd18, .func (PySem.W.fnOf "law" "law" (defArgs sLaw) (defBody sLaw) (defScope sLaw) .none qv18 qd18 qm18 qn18 qe18 qt18), ql18⟩)
    (r18 : PySem.W.codeIn K qe18 "law" = true)
    (s18 : PySem.W.keepIn K (.ref f18) = true)
    (cd_Spans : PySem.W.codeHdIn K c0 P0 = true)
    (np_Spans : List.lookup P0 K = none)
    (cd_DueL : PySem.W.codeHdIn K c1 P1 = true)
    (np_DueL : List.lookup P1 K = none)
    (ne01 : P1 ≠ P0)
    (g_len : PySem.W.nsIn K mainGlobals "len" = some none)
    (g_abs : PySem.W.nsIn K mainGlobals "abs" = some none)
    (g_int : PySem.W.nsIn K mainGlobals "int" = some none)
    (g_range : PySem.W.nsIn K mainGlobals "range" = some none)
    (g_tuple : PySem.W.nsIn K mainGlobals "tuple" = some none)
    (g_sorted : PySem.W.nsIn K mainGlobals "sorted" = some none)
    (g_list : PySem.W.nsIn K mainGlobals "list" = some none)
    (g_min : PySem.W.nsIn K mainGlobals "min" = some none)
    (g_max : PySem.W.nsIn K mainGlobals "max" = some none)
    (g_str : PySem.W.nsIn K mainGlobals "str" = some none)
    (g_isinstance : PySem.W.nsIn K mainGlobals "isinstance" = some none)
    (g_bool : PySem.W.nsIn K mainGlobals "bool" = some none)
    (g_enumerate : PySem.W.nsIn K mainGlobals "enumerate" = some none)
    (g_zip : PySem.W.nsIn K mainGlobals "zip" = some none)
    (g_all : PySem.W.nsIn K mainGlobals "all" = some none)
    (g_set : PySem.W.nsIn K mainGlobals "set" = some none)
    : LamX.LawAtS l w K CX0 7 63 "_law_script" mg fa h := by
  have e := hfa.symm.trans (PySem.W.mg_of X G p18)
  cases e
  have m0 := PySem.W.mg_of X G p0
  have F0 := fun_mk (st := sHand) q0 r0 s0
  have b0 := F0.binds (ps := ["_law_script", "_law_k"]) fun _ _ _ _ _ _ us hl => match us, hl with | [_, _], _ => rfl
  have m1 := PySem.W.mg_of X G p1
  have F1 := fun_mk (st := sTake) q1 r1 s1
  have b1 := F1.binds (ps := ["_law_hand_here", "_law_many"]) fun _ _ _ _ _ _ us hl => match us, hl with | [_, _], _ => rfl
  have m2 := PySem.W.mg_of X G p2
  have F2 := fun_mk (st := sOf) q2 r2 s2
  have b2 := F2.binds (ps := ["_law_hand_here", "_law_some"]) fun _ _ _ _ _ _ us hl => match us, hl with | [_, _], _ => rfl
  have m3 := PySem.W.mg_of X G p3
  have F3 := fun_mk (st := sWords) q3 r3 s3
  have b3 := F3.binds (ps := ["_law_hand_here", "_law_many"]) fun _ _ _ _ _ _ us hl => match us, hl with | [_, _], _ => rfl
  have m4 := PySem.W.mg_of X G p4
  have F4 := fun_mk (st := sNumL) q4 r4 s4
  have b4 := F4.binds (ps := ["_law_thing"]) fun _ _ _ _ _ _ us hl => match us, hl with | [_], _ => rfl
  have m5 := PySem.W.mg_of X G p5
  have F5 := fun_mk (st := sRank) q5 r5 s5
  have b5 := F5.binds (ps := ["_law_row"]) fun _ _ _ _ _ _ us hl => match us, hl with | [_], _ => rfl
  have m6 := PySem.W.mg_of X G p6
  have F6 := fun_mk (st := sSame) q6 r6 s6
  have b6 := F6.binds (ps := ["_law_got", "_law_due_here"]) fun _ _ _ _ _ _ us hl => match us, hl with | [_, _], _ => rfl
  have m7 := PySem.W.mg_of X G p7
  have F7 := fun_mk (st := sSpans) q7 r7 s7
  have b7 := F7.binds (ps := ["_law_hand_here"]) fun _ _ _ _ _ _ us hl => match us, hl with | [_], _ => rfl
  have C7 := Lma.funC_mk (st := sSpans) q7 r7
  have m8 := PySem.W.mg_of X G p8
  have F8 := fun_mk (st := sEnds) q8 r8 s8
  have b8 := F8.binds (ps := ["_law_told"]) fun _ _ _ _ _ _ us hl => match us, hl with | [_], _ => rfl
  have m9 := PySem.W.mg_of X G p9
  have F9 := fun_mk (st := sBound) q9 r9 s9
  have b9 := F9.binds (ps := ["_law_hand_here", "_law_told"]) fun _ _ _ _ _ _ us hl => match us, hl with | [_, _], _ => rfl
  have m10 := PySem.W.mg_of X G p10
  have F10 := fun_mk (st := sDueL) q10 r10 s10
  have b10 := F10.binds (ps := ["_law_told", "_law_lo", "_law_hi"]) fun _ _ _ _ _ _ us hl => match us, hl with | [_, _, _], _ => rfl
  have C10 := Lma.funC_mk (st := sDueL) q10 r10
  have m11 := PySem.W.mg_of X G p11
  have F11 := fun_mk (st := sEarly) q11 r11 s11
  have b11 := F11.binds (ps := ["one", "other"]) fun _ _ _ _ _ _ us hl => match us, hl with | [_, _], _ => rfl
  have m12 := PySem.W.mg_of X G p12
  have F12 := fun_mk (st := sClip) q12 r12 s12
  have b12 := F12.binds (ps := ["line", "low", "high"]) fun _ _ _ _ _ _ us hl => match us, hl with | [_, _, _], _ => rfl
  have m13 := PySem.W.mg_of X G p13
  have F13 := fun_mk (st := sLonger) q13 r13 s13
  have b13 := F13.binds (ps := ["days", "low", "high"]) fun _ _ _ _ _ _ us hl => match us, hl with | [_, _, _], _ => rfl
  have m14 := PySem.W.mg_of X G p14
  have F14 := fun_mk (st := sThing) q14 r14 s14
  have b14 := F14.binds (ps := ["thing"]) fun _ _ _ _ _ _ us hl => match us, hl with | [_], _ => rfl
  have m15 := PySem.W.mg_of X G p15
  have F15 := fun_mk (st := sRow) q15 r15 s15
  have b15 := F15.binds (ps := ["row"]) fun _ _ _ _ _ _ us hl => match us, hl with | [_], _ => rfl
  have m16 := PySem.W.mg_of X G p16
  have F16 := fun_mk (st := sRising) q16 r16 s16
  have b16 := F16.binds (ps := ["rows"]) fun _ _ _ _ _ _ us hl => match us, hl with | [_], _ => rfl
  have m17 := PySem.W.mg_of X G p17
  have F17 : FunD K "lasting" "lasting" (defArgs sLasting) (defBody sLasting) (defScope sLasting) [] [("low", .int 0), ("high", .non)] f17 _ := ⟨⟨_, _, .none, .ref kd17, _, _, _, _, _, _, rfl, q17, r17, .inl ⟨rfl, rfl⟩, .inr ⟨kd17, rfl, fun z hz => by simp only [List.mem_cons, List.mem_nil_iff, or_false] at hz; rcases hz with rfl | rfl; exact ⟨_, e17_low, _, rfl⟩; exact ⟨_, e17_high, rfl⟩⟩⟩, s17⟩
  have m18 := PySem.W.mg_of X G p18
  have F18 := fun_mk (st := sLaw) q18 r18 s18
  have b18 := F18.binds (ps := ["_law_script"]) fun _ _ _ _ _ _ us hl => match us, hl with | [_], _ => rfl
  have n_len := PySem.W.mg_none_of X G g_len
  have n_abs := PySem.W.mg_none_of X G g_abs
  have n_int := PySem.W.mg_none_of X G g_int
  have n_range := PySem.W.mg_none_of X G g_range
  have n_tuple := PySem.W.mg_none_of X G g_tuple
  have n_sorted := PySem.W.mg_none_of X G g_sorted
  have n_list := PySem.W.mg_none_of X G g_list
  have n_min := PySem.W.mg_none_of X G g_min
  have n_max := PySem.W.mg_none_of X G g_max
  have n_str := PySem.W.mg_none_of X G g_str
  have n_isinstance := PySem.W.mg_none_of X G g_isinstance
  have n_bool := PySem.W.mg_none_of X G g_bool
  have n_enumerate := PySem.W.mg_none_of X G g_enumerate
  have n_zip := PySem.W.mg_none_of X G g_zip
  have n_all := PySem.W.mg_none_of X G g_all
  have n_set := PySem.W.mg_none_of X G g_set
  refine ⟨PySem.W.fnOf "law" "law" (defArgs sLaw) (defBody sLaw) (defScope sLaw) .none qv18 qd18 qm18 qn18 qe18 qt18, [(c0, P0), (c1, P1)], spLaw K P0 P1, fun p hp => ?_, fun p hp => ?_, fun p hp => ?_, fun s v => .of_eq rfl, fun H a ns hl _ ht hS => ⟨a, ns, rfl, hS, hl, ht (c0, P0) (by simp), ht (c1, P1) (by simp), fun _ => rfl⟩, fun base _ _ TB => ?_⟩
  · simp only [List.mem_cons, List.mem_nil_iff, or_false] at hp
    rcases hp with rfl | rfl
    · exact tb_Spans
    · exact tb_DueL
  · simp only [List.mem_cons, List.mem_nil_iff, or_false] at hp
    rcases hp with rfl | rfl
    · exact np_Spans
    · exact np_DueL
  · simp only [List.mem_cons, List.mem_nil_iff, or_false] at hp
    rcases hp with rfl | rfl
    · exact PySem.W.codeHd_of_K X cd_Spans
    · exact PySem.W.codeHd_of_K X cd_DueL
  have T_Spans := TB (c0, P0) (by simp)
  have T_DueL := TB (c1, P1) (by simp)
  have G0 := ok_hand (P := l.prog) (w := w) (mg := mg) (base := base) F0 n_len n_abs n_int
  have G1 := ok_take (P := l.prog) (w := w) (mg := mg) (base := base) F1
  have G2 := ok_of F2 G1 b1 s1 m1 n_len
  have G3 := ok_words F3 G2 b2 s2 m2 n_range
  have G4 := ok_numL (P := l.prog) (w := w) (mg := mg) (base := base) F4 n_isinstance n_int n_bool
  have G5 := ok_rank F5 n_tuple G4 b4 s4 m4
  have G6 := ok_same (P := l.prog) (w := w) (mg := mg) (base := base) F6 b6 s6 m6 n_isinstance n_tuple n_len n_all n_zip n_str n_int n_bool 3
  have G7 := ok_spans C7 T_Spans G1 b1 s1 m1 G2 b2 s2 m2 G3 b3 s3 m3 G5 b5 s5 m5 n_range n_tuple n_int n_sorted
  have G8 := ok_ends (P := l.prog) (w := w) (mg := mg) (base := base) F8 n_sorted n_set
  have G9 := ok_bound F9 G1 b1 s1 m1 G2 b2 s2 m2 G8 b8 s8 m8 n_max n_min n_int
  have G10 := ok_dueL C10 T_DueL G5 b5 s5 m5 n_tuple n_sorted
  have G11 := ok_early (P := l.prog) (w := w) (mg := mg) (base := base) F11 n_min
  have G12 := ok_clip F12 G11 b11 s11 m11 n_max
  have G13 := ok_longer (P := l.prog) (w := w) (mg := mg) (base := base) F13
  have G14 := ok_thingO (P := l.prog) (w := w) (mg := mg) (base := base) F14 n_isinstance n_int
  have G15 := ok_rowO F15 n_tuple G14 b14 s14 m14
  have G16 := ok_rising F16 G15 b15 s15 m15 n_sorted n_list
  have G17 := ok_lasting F17 G12 b12 s12 m12 G13 b13 s13 m13 G16 b16 s16 m16 n_tuple n_list
  exact ok_law F18 ne01 G0 b0 s0 m0 G7 b7 s7 m7 G9 b9 s9 m9 G10 b10 s10 m10 G6 b6 s6 m6 F17 G17 s17 m17 n_range n_min n_max n_len
end Q64
open PySem PySem.W PyProof.Rows
set_option maxRecDepth 100000 in
set_option maxHeartbeats 0 in
theorem PySem.Challenge.cw_bothtimes_k64_how_long_rows_last_holds : PySem.Challenge.rw_bothtimes_k64_how_long_rows_last.Holds := by
  w_on; o_law; k_head; (case hw => w_witness2)
  k_fill
  refine LamX.walk_ofTs (l := PySem.Challenge.rw_bothtimes_k64_how_long_rows_last) (n := 63) (k := 7) (x := "_law_script") (CX := fun _ => L2.CX0) rfl (by decide) rfl ⟨rfl, by decide, by decide⟩ (fun w h Y => PySem.W.km_in_of Y) ?F (fun _ _ _ _ _ h => h)
  case F =>
    intro w mg fa h Y KX G hmg
    refine' Q64.all_mk KX G hmg ?tb_Spans ?tb_DueL ?p0 ?q0 ?r0 ?s0 ?p1 ?q1 ?r1 ?s1 ?p2 ?q2 ?r2 ?s2 ?p3 ?q3 ?r3 ?s3 ?p4 ?q4 ?r4 ?s4 ?p5 ?q5 ?r5 ?s5 ?p6 ?q6 ?r6 ?s6 ?p7 ?q7 ?r7 ?s7 ?p8 ?q8 ?r8 ?s8 ?p9 ?q9 ?r9 ?s9 ?p10 ?q10 ?r10 ?s10 ?p11 ?q11 ?r11 ?s11 ?p12 ?q12 ?r12 ?s12 ?p13 ?q13 ?r13 ?s13 ?p14 ?q14 ?r14 ?s14 ?p15 ?q15 ?r15 ?s15 ?p16 ?q16 ?r16 ?s16 ?p17 ?q17 ?r17 ?s17 ?e17_low ?e17_high ?p18 ?q18 ?r18 ?s18 ?cd_Spans ?np_Spans ?cd_DueL ?np_DueL ?ne01 ?g_len ?g_abs ?g_int ?g_range ?g_tuple ?g_sorted ?g_list ?g_min ?g_max ?g_str ?g_isinstance ?g_bool ?g_enumerate ?g_zip ?g_all ?g_set
    case tb_Spans => exact PySem.W.km_tabs_of Y _ (List.mem_cons_of_mem _ (List.mem_cons_self ..))
    case tb_DueL => exact PySem.W.km_tabs_of Y _ (List.mem_cons_self ..)
    case p0 => k_is
    case q0 => k_is
    case r0 => k_is
    case s0 => k_is
    case p1 => k_is
    case q1 => k_is
    case r1 => k_is
    case s1 => k_is
    case p2 => k_is
    case q2 => k_is
    case r2 => k_is
    case s2 => k_is
    case p3 => k_is
    case q3 => k_is
    case r3 => k_is
    case s3 => k_is
    case p4 => k_is
    case q4 => k_is
    case r4 => k_is
    case s4 => k_is
    case p5 => k_is
    case q5 => k_is
    case r5 => k_is
    case s5 => k_is
    case p6 => k_is
    case q6 => k_is
    case r6 => k_is
    case s6 => k_is
    case p7 => k_is
    case q7 => k_is
    case r7 => k_is
    case s7 => k_is
    case p8 => k_is
    case q8 => k_is
    case r8 => k_is
    case s8 => k_is
    case p9 => k_is
    case q9 => k_is
    case r9 => k_is
    case s9 => k_is
    case p10 => k_is
    case q10 => k_is
    case r10 => k_is
    case s10 => k_is
    case p11 => k_is
    case q11 => k_is
    case r11 => k_is
    case s11 => k_is
    case p12 => k_is
    case q12 => k_is
    case r12 => k_is
    case s12 => k_is
    case p13 => k_is
    case q13 => k_is
    case r13 => k_is
    case s13 => k_is
    case p14 => k_is
    case q14 => k_is
    case r14 => k_is
    case s14 => k_is
    case p15 => k_is
    case q15 => k_is
    case r15 => k_is
    case s15 => k_is
    case p16 => k_is
    case q16 => k_is
    case r16 => k_is
    case s16 => k_is
    case p17 => k_is
    case q17 => k_is
    case r17 => k_is
    case s17 => k_is
    case e17_low => k_is
    case e17_high => k_is
    case p18 => k_is
    case q18 => k_is
    case r18 => k_is
    case s18 => k_is
    case cd_Spans => exact rfl
    case np_Spans => exact rfl
    case cd_DueL => exact rfl
    case np_DueL => exact rfl
    case ne01 => decide
    case g_len => k_is
    case g_abs => k_is
    case g_int => k_is
    case g_range => k_is
    case g_tuple => k_is
    case g_sorted => k_is
    case g_list => k_is
    case g_min => k_is
    case g_max => k_is
    case g_str => k_is
    case g_isinstance => k_is
    case g_bool => k_is
    case g_enumerate => k_is
    case g_zip => k_is
    case g_all => k_is
    case g_set => k_is
