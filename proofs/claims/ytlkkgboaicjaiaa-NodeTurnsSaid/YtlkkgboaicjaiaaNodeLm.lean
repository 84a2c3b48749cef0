/-
  The nodes of the law's live: plain data.
-/
import Derived.Test.YtlkkgboaicjaiaaNodeO
import Derived.Test.YtlkkgboaicjaiaaNodeD
import Derived.Test.YtlkkgboaicjaiaaNodeQ
namespace Go.Proofs.Ytlkkgboaicjaiaa
open Go.RowKit Go.ChangeShapes Go.WideShapes Go.ChangeAt

def kA : ByteArray := ⟨#[97]⟩
def kB : ByteArray := ⟨#[98]⟩
def v1 : ByteArray := ⟨#[49]⟩
def v2 : ByteArray := ⟨#[50]⟩
def dN1 : NodeD := ⟨true, [kB], [v2]⟩
def dN2 : NodeD := ⟨true, [kA, kB], [v1, v2]⟩
def dNx : NodeD := ⟨true, [kA], [v1]⟩
def dNy : NodeD := ⟨true, [kB], [v2]⟩
def dNe : NodeD := ⟨false, [⟨#[]⟩], [⟨#[]⟩]⟩
def sN : ByteArray := ⟨#[76, 2, 1, 0, 97, 1, 49, 1, 0, 98, 1, 50]⟩
theorem ltK_data (a b : ByteArray) : ltK a b = Op.bytesLess a.data.toList b.data.toList := by unfold ltK; rw [ByteArray.toList_eq, ByteArray.toList_eq]
theorem lt_ab : ltK kA kB = true := by rw [ltK_data]; decide
theorem lt_ba : ltK kB kA = false := ltK_as lt_ab
theorem lt_na : ltK ⟨#[]⟩ kA = true := by rw [ltK_nil]; decide
theorem lt_nb : ltK ⟨#[]⟩ kB = true := by rw [ltK_nil]; decide
theorem lt_aaa : ltK kA ⟨#[97, 97]⟩ = true := by rw [ltK_data]; decide
theorem lt_baa : ltK kB ⟨#[97, 97]⟩ = false := by rw [ltK_data]; decide
theorem may_0 : mayD ⟨true, [], []⟩ = true := rfl
theorem may_1 : mayD dN1 = true := by
  unfold mayD dN1
  show (_ && (_ && (ltK ⟨#[]⟩ kB && _))) = true
  rw [lt_nb]; decide
theorem may_2 : mayD dN2 = true := by
  unfold mayD dN2
  show (_ && (_ && (ltK ⟨#[]⟩ kA && (_ && (ltK kA kB && _))))) = true
  rw [lt_na, lt_ab]; decide
theorem may_x : mayD dNx = true := by
  unfold mayD dNx
  show (_ && (_ && (ltK ⟨#[]⟩ kA && _))) = true
  rw [lt_na]; decide
theorem may_e : mayD dNe = false := by
  unfold mayD dNe
  show (_ && (_ && (ltK ⟨#[]⟩ ⟨#[]⟩ && _))) = false
  rw [ltK_irr]; rfl
theorem with_1 : withD ⟨true, [], []⟩ kB v2 = dN1 := by
  unfold withD
  rw [if_pos ⟨may_0, by decide⟩, if_neg (by decide)]
  rfl
theorem cnt_1 : cntK [kB] kA = 0 := by unfold cntK; rw [List.takeWhile_cons, lt_ba]; rfl
theorem with_2 : withD dN1 kA v1 = dN2 := by
  have hi : isK dN1.keys kA = false := by
    unfold isK
    show decide ([kB][cntK [kB] kA]? = some kA) = false
    rw [cnt_1]; decide
  have hc : cntK dN1.keys kA = 0 := cnt_1
  unfold withD
  rw [if_pos ⟨may_1, by decide⟩, hi, if_neg (by decide), hc]
  rfl
theorem cnt_2b : cntK dN2.keys kB = 1 := by
  show ([kA, kB].takeWhile _).length = 1
  rw [List.takeWhile_cons, lt_ab]
  show ((kA :: [kB].takeWhile _)).length = 1
  rw [List.takeWhile_cons, ltK_irr]; rfl
theorem cnt_2a : cntK dN2.keys kA = 0 := by
  show ([kA, kB].takeWhile _).length = 0
  rw [List.takeWhile_cons, ltK_irr]; rfl
theorem cnt_2aa : cntK dN2.keys ⟨#[97, 97]⟩ = 1 := by
  show ([kA, kB].takeWhile _).length = 1
  rw [List.takeWhile_cons, lt_aaa]
  show ((kA :: [kB].takeWhile _)).length = 1
  rw [List.takeWhile_cons, lt_baa]; rfl
theorem find_2b : findD dN2 kB = (1, true) := by
  have hi : isK dN2.keys kB = true := by unfold isK; rw [cnt_2b]; decide
  unfold findD; rw [if_pos may_2, if_pos hi, cnt_2b]
theorem find_2aa : findD dN2 ⟨#[97, 97]⟩ = (0, false) := by
  have hi : isK dN2.keys ⟨#[97, 97]⟩ = false := by unfold isK; rw [cnt_2aa]; decide
  unfold findD; rw [if_pos may_2, hi, cnt_2aa]; rfl
theorem split_2 : splitD dN2 = (dNx, dNy, true) := by
  unfold splitD
  rw [if_pos ⟨may_2, by decide⟩]
  rfl
theorem split_x : splitD dNx = (nilD, nilD, false) := by
  unfold splitD
  rw [if_neg (fun h => absurd h.2 (by decide))]
  rfl
theorem size_2 : sizeD dN2 = 12 := by unfold sizeD; rw [if_pos may_2]; rfl
theorem chk_2 : chkN dN2 = 0 := by unfold chkN; rw [if_pos may_2, size_2]; rfl
theorem chk_e : chkN dNe = 1 := by unfold chkN; rw [may_e]; rfl
theorem without_2 : withoutD dN2 kA = dNy := by
  have hi : isK dN2.keys kA = true := by unfold isK; rw [cnt_2a]; decide
  unfold withoutD; rw [if_pos ⟨may_2, hi⟩, cnt_2a]; rfl
theorem enc_2 : encR dN2 = sN := by unfold encR; rw [if_pos chk_2]; decide +kernel
theorem dec_2 : decP sN = (dN2, 0) := by
  have h := dec_enc dN2 chk_2
  have e : encD dN2 = sN := by have := enc_2; unfold encR at this; rwa [if_pos chk_2] at this
  rwa [e] at h
theorem dec_L : decP ⟨#[76]⟩ = (nilD, 2) := by
  unfold decP
  rw [if_pos (by decide +kernel)]
theorem dec_X : decP ⟨#[88, 0]⟩ = (nilD, 3) := by
  unfold decP
  rw [if_neg (by decide +kernel), if_pos (.inr (.inl ⟨by decide +kernel, by decide +kernel⟩))]
theorem same_2 : sameD dN2 dN2 = true := (same_iff _ _).2 rfl
theorem sN_list : (sN.toList == [76, 2, 1, 0, 97, 1, 49, 1, 0, 98, 1, 50]) = true := by rw [ByteArray.toList_eq]; rfl
end Go.Proofs.Ytlkkgboaicjaiaa
