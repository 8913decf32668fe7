/- What the functions of scroll return, as the laws ask for it; no condition but on sizes. -/
import Derived.Test.YtbmkamnjjfmdiaaScPv
import Derived.Test.YtbmkamnjjfmdiaaScPp
import Derived.Test.YtbmkamnjjfmdiaaScPk
import Derived.Test.YtbmkamnjjfmdiaaScL3
namespace Go.Proofs.Ytbmkamnjjfmdiaa
open Go.RowKit Go.Sort
set_option linter.unusedVariables false

theorem scC_cl : KCl 14 := fun o c h w => pcl_any o c h w
theorem scC_rv : KRv 16 := fun o h a x w => pre_any o h a x w
theorem scC_vi : KVi 10 := fun p n c l o h w hp _ hn => (pvi_any p n c l o h w hp hn)
theorem scC_ke : KKe 18 := fun p q n m c d l l' o w hp hq _ _ hn hm h1 h2 => (pke_any p q n m c d l l' o w hp hq hn hm h1 h2)
theorem scC_pi : KPi 12 := fun p n c l o w h _ _ => (ppi_any p n c l o w h).mono (by
  rintro e w' ⟨h1, h2, h3⟩
  unfold npF
  cases q : piB n l o with
  | false =>
    simp only [Bool.false_eq_true, if_false]
    exact ⟨none, 0, h1 q, fun hk => absurd hk (by omega), h3⟩
  | true =>
    simp only [if_true]
    obtain ⟨g, d, e1, e2⟩ := h2 q
    exact ⟨g, d, e1, e2, h3⟩)
end Go.Proofs.Ytbmkamnjjfmdiaa
