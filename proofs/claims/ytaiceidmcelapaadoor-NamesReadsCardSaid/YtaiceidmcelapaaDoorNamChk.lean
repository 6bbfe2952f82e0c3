/-
  The two tables of names are one: by the kernel, over all pages and bytes.
-/
import Derived.Test.YtaiceidmcelapaaDoorNamSpec
namespace Go.Proofs.YtaiceidmcelapaaDoor

theorem pat_all : (List.range 7).all (fun p => (List.range 256).all (fun n => cPat (p : Int) n == rPat (p : Int) n)) = true := by decide +kernel

end Go.Proofs.YtaiceidmcelapaaDoor
