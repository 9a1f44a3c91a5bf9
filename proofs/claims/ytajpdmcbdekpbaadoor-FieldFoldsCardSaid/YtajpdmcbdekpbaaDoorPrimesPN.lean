/-
  Both primes of layer 3 are primes: by Pocklington's test, over factors that the kernel looks over.
-/
import Derived.Test.YtajpdmcbdekpbaaDoorPrimes
namespace Go.Proofs.YtajpdmcbdekpbaaDoor

theorem prime_7 : IsPrime 7 := prime_small 3 (by decide) (by decide) (by decide +kernel)
theorem prime_29 : IsPrime 29 := prime_small 6 (by decide) (by decide) (by decide +kernel)
theorem prime_53 : IsPrime 53 := prime_small 8 (by decide) (by decide) (by decide +kernel)
theorem prime_9349 : IsPrime 9349 := prime_small 97 (by decide) (by decide) (by decide +kernel)
theorem prime_28181 : IsPrime 28181 := prime_small 168 (by decide) (by decide) (by decide +kernel)
theorem prime_96557 : IsPrime 96557 := prime_small 311 (by decide) (by decide) (by decide +kernel)
theorem prime_120233 : IsPrime 120233 := prime_small 347 (by decide) (by decide) (by decide +kernel)
theorem prime_1206781 : IsPrime 1206781 := prime_small 1099 (by decide) (by decide) (by decide +kernel)
theorem prime_1627771 : IsPrime 1627771 := prime_small 1276 (by decide) (by decide) (by decide +kernel)
theorem prime_7240687 : IsPrime 7240687 := by
  refine pock_end (F := 1206781) (by decide +kernel) (by decide +kernel) fun r hr hrn => ?_
  have h0 := pock1 (q := 1206781) (a := 2) (f := 23) (by decide +kernel) prime_1206781 (by decide +kernel) hr hrn
  exact h0
theorem prime_107590001 : IsPrime 107590001 := by
  refine pock_end (F := 10759) (by decide +kernel) (by decide +kernel) fun r hr hrn => ?_
  have h0 := pock1 (q := 53) (a := 2) (f := 27) (by decide +kernel) prime_53 (by decide +kernel) hr hrn
  have h1 := pock1 (q := 29) (a := 2) (f := 27) (by decide +kernel) prime_29 (by decide +kernel) hr hrn
  have h2 := pock1 (q := 7) (a := 2) (f := 27) (by decide +kernel) prime_7 (by decide +kernel) hr hrn
  have h01 := (prime_ne_coprime prime_53 prime_29 (by decide +kernel)).mul_dvd_of_dvd_of_dvd h0 h1
  exact (show Nat.Coprime (53 * 29) 7 by decide +kernel).mul_dvd_of_dvd_of_dvd h01 h2
theorem prime_255515944373312847190720520512484175977 : IsPrime 255515944373312847190720520512484175977 := by
  refine pock_end (F := 75220367286300824659) (by decide +kernel) (by decide +kernel) fun r hr hrn => ?_
  have h0 := pock1 (q := 107590001) (a := 2) (f := 128) (by decide +kernel) prime_107590001 (by decide +kernel) hr hrn
  have h1 := pock1 (q := 7240687) (a := 2) (f := 128) (by decide +kernel) prime_7240687 (by decide +kernel) hr hrn
  have h2 := pock1 (q := 96557) (a := 2) (f := 128) (by decide +kernel) prime_96557 (by decide +kernel) hr hrn
  have h01 := (prime_ne_coprime prime_107590001 prime_7240687 (by decide +kernel)).mul_dvd_of_dvd_of_dvd h0 h1
  exact (show Nat.Coprime (107590001 * 7240687) 96557 by decide +kernel).mul_dvd_of_dvd_of_dvd h01 h2
theorem prime_205115282021455665897114700593932402728804164701536103180137503955397371 : IsPrime 205115282021455665897114700593932402728804164701536103180137503955397371 := by
  refine pock_end (F := 255515944373312847190720520512484175977) (by decide +kernel) (by decide +kernel) fun r hr hrn => ?_
  have h0 := pock1 (q := 255515944373312847190720520512484175977) (a := 2) (f := 237) (by decide +kernel) prime_255515944373312847190720520512484175977 (by decide +kernel) hr hrn
  exact h0
theorem prime_P : IsPrime 115792089237316195423570985008687907853269984665640564039457584007908834671663 := by
  refine pock_end (F := 205115282021455665897114700593932402728804164701536103180137503955397371) (by decide +kernel) (by decide +kernel) fun r hr hrn => ?_
  have h0 := pock1 (q := 205115282021455665897114700593932402728804164701536103180137503955397371) (a := 2) (f := 256) (by decide +kernel) prime_205115282021455665897114700593932402728804164701536103180137503955397371 (by decide +kernel) hr hrn
  exact h0
theorem prime_297159362677 : IsPrime 297159362677 := by
  refine pock_end (F := 1627771) (by decide +kernel) (by decide +kernel) fun r hr hrn => ?_
  have h0 := pock1 (q := 1627771) (a := 2) (f := 39) (by decide +kernel) prime_1627771 (by decide +kernel) hr hrn
  exact h0
theorem prime_545358713 : IsPrime 545358713 := by
  refine pock_end (F := 28181) (by decide +kernel) (by decide +kernel) fun r hr hrn => ?_
  have h0 := pock1 (q := 28181) (a := 2) (f := 30) (by decide +kernel) prime_28181 (by decide +kernel) hr hrn
  exact h0
theorem prime_29047611873442575647497758179 : IsPrime 29047611873442575647497758179 := by
  refine pock_end (F := 162058447585428954701) (by decide +kernel) (by decide +kernel) fun r hr hrn => ?_
  have h0 := pock1 (q := 297159362677) (a := 2) (f := 95) (by decide +kernel) prime_297159362677 (by decide +kernel) hr hrn
  have h1 := pock1 (q := 545358713) (a := 2) (f := 95) (by decide +kernel) prime_545358713 (by decide +kernel) hr hrn
  exact (prime_ne_coprime prime_297159362677 prime_545358713 (by decide +kernel)).mul_dvd_of_dvd_of_dvd h0 h1
theorem prime_341948486974166000522343609283189 : IsPrime 341948486974166000522343609283189 := by
  refine pock_end (F := 29047611873442575647497758179) (by decide +kernel) (by decide +kernel) fun r hr hrn => ?_
  have h0 := pock1 (q := 29047611873442575647497758179) (a := 2) (f := 109) (by decide +kernel) prime_29047611873442575647497758179 (by decide +kernel) hr hrn
  exact h0
theorem prime_44706919 : IsPrime 44706919 := by
  refine pock_end (F := 9349) (by decide +kernel) (by decide +kernel) fun r hr hrn => ?_
  have h0 := pock1 (q := 9349) (a := 2) (f := 26) (by decide +kernel) prime_9349 (by decide +kernel) hr hrn
  exact h0
theorem prime_174723607534414371449 : IsPrime 174723607534414371449 := by
  refine pock_end (F := 5375246992127) (by decide +kernel) (by decide +kernel) fun r hr hrn => ?_
  have h0 := pock1 (q := 44706919) (a := 2) (f := 68) (by decide +kernel) prime_44706919 (by decide +kernel) hr hrn
  have h1 := pock1 (q := 120233) (a := 2) (f := 68) (by decide +kernel) prime_120233 (by decide +kernel) hr hrn
  exact (prime_ne_coprime prime_44706919 prime_120233 (by decide +kernel)).mul_dvd_of_dvd_of_dvd h0 h1
theorem prime_N : IsPrime 115792089237316195423570985008687907852837564279074904382605163141518161494337 := by
  refine pock_end (F := 59746473235060985162263246577491932178200490877270861) (by decide +kernel) (by decide +kernel) fun r hr hrn => ?_
  have h0 := pock1 (q := 341948486974166000522343609283189) (a := 2) (f := 256) (by decide +kernel) prime_341948486974166000522343609283189 (by decide +kernel) hr hrn
  have h1 := pock1 (q := 174723607534414371449) (a := 2) (f := 256) (by decide +kernel) prime_174723607534414371449 (by decide +kernel) hr hrn
  exact (prime_ne_coprime prime_341948486974166000522343609283189 prime_174723607534414371449 (by decide +kernel)).mul_dvd_of_dvd_of_dvd h0 h1
end Go.Proofs.YtajpdmcbdekpbaaDoor
