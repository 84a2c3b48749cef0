/-
  The digests of "abc" and of nothing, reckoned by the kernel.
-/
import Derived.Test.YtfnihldcnjnpbaaDoorWrite
import Derived.Test.YtfnihldcnjnpbaaDoorHex
namespace Go.Proofs.YtfnihldcnjnpbaaDoor

def DA : ByteArray := ⟨#[186, 120, 22, 191, 143, 1, 207, 234, 65, 65, 64, 222, 93, 174, 34, 35, 176, 3, 97, 163, 150, 23, 122, 156, 180, 16, 255, 97, 242, 0, 21, 173]⟩
def DE : ByteArray := ⟨#[227, 176, 196, 66, 152, 252, 28, 20, 154, 251, 244, 200, 153, 111, 185, 36, 39, 174, 65, 228, 100, 155, 147, 76, 164, 149, 153, 27, 120, 82, 184, 85]⟩
def HA : ByteArray := ⟨#[98, 97, 55, 56, 49, 54, 98, 102, 56, 102, 48, 49, 99, 102, 101, 97, 52, 49, 52, 49, 52, 48, 100, 101, 53, 100, 97, 101, 50, 50, 50, 51, 98, 48, 48, 51, 54, 49, 97, 51, 57, 54, 49, 55, 55, 97, 57, 99, 98, 52, 49, 48, 102, 102, 54, 49, 102, 50, 48, 48, 49, 53, 97, 100]⟩
def HE : ByteArray := ⟨#[101, 51, 98, 48, 99, 52, 52, 50, 57, 56, 102, 99, 49, 99, 49, 52, 57, 97, 102, 98, 102, 52, 99, 56, 57, 57, 54, 102, 98, 57, 50, 52, 50, 55, 97, 101, 52, 49, 101, 52, 54, 52, 57, 98, 57, 51, 52, 99, 97, 52, 57, 53, 57, 57, 49, 98, 55, 56, 53, 50, 98, 56, 53, 53]⟩
theorem sched_test : (wk (lastB ⟨#[97, 98, 99]⟩ 3) 64).getD 63 0 = 313650667 := by decide +kernel
theorem sha_abc : sha ⟨#[97, 98, 99]⟩ = DA := by decide +kernel
theorem sha_nil : sha ⟨#[]⟩ = DE := by decide +kernel
theorem hex_abc : hexB DA = HA := by decide +kernel
theorem hex_nil : hexB DE = HE := by decide +kernel
end Go.Proofs.YtfnihldcnjnpbaaDoor
