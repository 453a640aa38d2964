/- Flows in words: their text. -/
import Derived.Test.YtbfgioinjggkkaaDoorF2
namespace Stf
open Go.Lib

def txtR (L : List Int) : Bs := L.flatMap fun y => 44 :: itoa y
def txtL (word : Bs) : List Int → Bs
  | [] => []
  | x :: r => word ++ itoa x ++ txtR r
def lineB (f : Fl) : Bs := itoa f.fr ++ [62] ++ itoa f.to ++ txtL wVia f.via ++ txtL wNot f.nt
def lineT (f : Fl) : Bs := lineB f ++ [10]
def text (l : List Fl) : Bs := l.flatMap lineT
theorem txtL_one (word : Bs) (x : Int) : txtL word [x] = word ++ itoa x := by simp [txtL, txtR]
theorem txtL_snoc (word : Bs) (x y : Int) (r : List Int) : txtL word (y :: r ++ [x]) = txtL word (y :: r) ++ [44] ++ itoa x := by simp [txtL, txtR]
theorem text_snoc (l : List Fl) (f : Fl) : text (l ++ [f]) = text l ++ lineT f := by simp [text]
theorem txtR_len (L : List Int) (h : ∀ x ∈ L, (itoa x).length ≤ 21) : (txtR L).length ≤ L.length * 22 := by
  induction L with
  | nil => simp [txtR]
  | cons x r ih =>
    have h1 := h x (by simp)
    have h2 := ih (fun y hy => h y (by simp [hy]))
    simp only [txtR, List.flatMap_cons, List.length_append, List.length_cons] at h2 ⊢
    omega
theorem txtL_len (word : Bs) (L : List Int) (hw : word.length ≤ 5) (h : ∀ x ∈ L, (itoa x).length ≤ 21) : (txtL word L).length ≤ L.length * 26 := by
  cases L with
  | nil => simp [txtL]
  | cons x r =>
    have h1 := h x (by simp)
    have h2 := txtR_len r (fun y hy => h y (by simp [hy]))
    simp only [txtL, List.length_append, List.length_cons]
    omega

end Stf
