/-
  Texts put together: SeT, ClogQ.
-/
import Derived.Test.YtopinlnjdgedeaaDoorMg37
import Derived.Test.YtopinlnjdgedeaaDoorClogJ
namespace Go.Proofs.YtopinlnjdgedeaaDoor
open Go Go.RowKit

/-- What sector k has; what it will have behind a flush. -/
def perK (d : DevD) (k : Nat) : ByteArray := hasAt d (1, (k : Int))
def effK (d : DevD) (k : Nat) : ByteArray := hasAt (foldHas d d.waits) (1, (k : Int))
/-- Devices whose fast one has N sectors, and is there. -/
structure DvOk (N : Nat) (d : DevD) : Prop where
  size : devSize d 1 = N
  lost : devLost d 1 = false
  ok : ∀ x ∈ d.waits, locOk d x.1
theorem loc_fast {N : Nat} {d : DevD} (h : DvOk N d) {k : Nat} (hk : k < N) : locOk d (1, (k : Int)) := ⟨.inr rfl, by simp, by show (k : Int) < _; rw [h.size]; omega⟩
theorem chk_fast {N : Nat} {d : DevD} (h : DvOk N d) {k n : Nat} (hk : k < N) (hn : n ≤ 1024) : chkD d (1, (k : Int)) n = 0 := by
  unfold chkD
  rw [if_neg, h.lost]
  · rfl
  · rw [h.size]
    simp only
    omega
theorem tell_same {d : DevD} {k : Int × Int} {l : Int × Int} {s : ByteArray} (h : k ≠ l) : tellD (writeD d l s) k = tellD d k := by
  unfold tellD
  rw [chkD_congr k 0 (size_writeD d l s) (lost_writeD d l s)]
  split
  · next hc =>
    have hk := (chkD_ok hc).1
    have hk2 := (chkD_ok hc).2.1
    unfold writeD
    split
    · next hw =>
      have hl := (chkD_ok hw).1
      have hl2 := (chkD_ok hw).2.1
      show ((sideOf (setTell d l s) k.1).tells).getD k.2.toNat ⟨#[]⟩ = _
      obtain ⟨k1, k2⟩ := k
      obtain ⟨l1, l2⟩ := l
      simp only at hk hk2 hl hl2
      by_cases e : k1 = l1
      · subst e
        have hne : l2 ≠ k2 := fun e => h (by rw [e])
        have hn : (l2.toNat) ≠ k2.toNat := by omega
        rcases hk with rfl | rfl
        · simp [setTell, sideOf, List.getD, List.getElem?_set_ne hn]
        · simp [setTell, sideOf, List.getD, List.getElem?_set_ne hn]
      · rcases hk with rfl | rfl <;> rcases hl with rfl | rfl
        · exact absurd rfl e
        · simp [setTell, sideOf]
        · simp [setTell, sideOf]
        · exact absurd rfl e
    · rfl
  · rfl
theorem per_write {d : DevD} {l : Int × Int} {s : ByteArray} (k : Nat) : perK (writeD d l s) k = perK d k := by
  unfold perK hasAt sideOf
  simp only [show ((1 : Int) = 0) = False from by simp, if_false]
  rw [(writeD_has d l s).2]
theorem flush_has (d : DevD) (k : Nat) : perK (flushD d) k = effK d k := by
  unfold perK effK hasAt sideOf
  rfl
theorem flush_eff (d : DevD) (k : Nat) : effK (flushD d) k = effK d k := by
  unfold effK
  rw [show (flushD d).waits = [] from rfl]
  exact flush_has d k
theorem DvOk.flush {N : Nat} {d : DevD} (h : DvOk N d) : DvOk N (flushD d) := by
  refine ⟨by unfold flushD; rw [size_endD]; exact h.size, by unfold flushD; rw [lost_endD]; exact h.lost, fun x hx => ?_⟩
  rw [show (flushD d).waits = [] from rfl] at hx
  cases hx
theorem tell_flush {N : Nat} {d : DevD} (h : DvOk N d) {k : Nat} (hk : k < N) : tellD (flushD d) (1, (k : Int)) = effK d k := by
  unfold flushD effK
  exact tell_endD d d.waits _ (chk_fast h hk (Nat.zero_le _))
theorem setHas_cong {d d' : DevD} (h : d.s0.has = d'.s0.has ∧ d.s1.has = d'.s1.has) (x : Int × Int) (s : ByteArray) : (setHas d x s).s0.has = (setHas d' x s).s0.has ∧ (setHas d x s).s1.has = (setHas d' x s).s1.has := by
  by_cases e : x.1 = 0 <;> simp [setHas, e, h.1, h.2]
theorem foldHas_cong : ∀ (ws : List WrD) {d d' : DevD}, d.s0.has = d'.s0.has ∧ d.s1.has = d'.s1.has → (foldHas d ws).s0.has = (foldHas d' ws).s0.has ∧ (foldHas d ws).s1.has = (foldHas d' ws).s1.has
  | [], _, _, h => h
  | x :: r, _, _, h => foldHas_cong r (setHas_cong h x.1 x.2)
theorem hasAt_cong {d d' : DevD} (h : d.s0.has = d'.s0.has ∧ d.s1.has = d'.s1.has) (l : Int × Int) : hasAt d l = hasAt d' l := by
  unfold hasAt sideOf
  split
  · rw [h.1]
  · rw [h.2]
theorem DvOk.write {N : Nat} {d : DevD} (h : DvOk N d) {l : Nat} (hl : l < N) {s : ByteArray} (hs : s.size ≤ 1024) : DvOk N (writeD d (1, (l : Int)) s) ∧ (writeD d (1, (l : Int)) s).waits = d.waits ++ [((1, (l : Int)), s)] ∧
    ∀ k, k < N → effK (writeD d (1, (l : Int)) s) k = if k = l then s else effK d k := by
  have hc := chk_fast h hl hs
  have e : (writeD d (1, (l : Int)) s).waits = d.waits ++ [((1, (l : Int)), s)] := by rw [writeD_waits, if_pos hc]
  have hsz : ∀ dev, devSize (writeD d (1, (l : Int)) s) dev = devSize d dev := size_writeD d _ s
  have hlo : ∀ (D : DevD), (∀ dev, devSize D dev = devSize d dev) → ∀ k, k < N → locOk D (1, (k : Int)) := fun D hD k hk => by
    unfold locOk
    rw [hD]
    exact loc_fast h hk
  refine ⟨⟨by rw [size_writeD]; exact h.size, by rw [lost_writeD]; exact h.lost, fun x hx => ?_⟩, e, fun k hk => ?_⟩
  · rw [e] at hx
    unfold locOk
    rw [size_writeD]
    rcases List.mem_append.1 hx with h1 | h1
    · exact h.ok x h1
    · rw [List.mem_singleton.1 h1]
      exact loc_fast h hl
  · unfold effK
    rw [e, foldHas_snoc]
    have hf : ∀ dev, devSize (foldHas (writeD d (1, (l : Int)) s) d.waits) dev = devSize d dev := fun dev => by rw [size_foldHas, size_writeD]
    rw [hasAt_set _ _ _ _ (hlo _ hf l hl) (hlo _ hf k hk)]
    by_cases hkl : k = l
    · rw [if_pos hkl, if_pos (by rw [hkl])]
    · rw [if_neg hkl, if_neg (by intro e2; injection e2 with _ e3; omega)]
      exact hasAt_cong (foldHas_cong _ (writeD_has d _ s)) _
theorem kept_two (d : DevD) (hw : d.waits.length ≤ 1) (keep : List Bool) : keptL d.waits keep = [] ∨ keptL d.waits keep = d.waits := by
  cases hd : d.waits with
  | nil => exact .inl rfl
  | cons a r =>
    rw [hd] at hw
    have hr : r = [] := by simpa using hw
    subst hr
    unfold keptL
    simp only [List.length_singleton, List.range_one]
    cases hk : keep.getD 0 false with
    | true =>
      right
      have hk' : keep[0]?.getD false = true := by simpa using hk
      simp [List.filter, hk']
    | false =>
      left
      have hk' : keep[0]?.getD false = false := by simpa using hk
      simp [List.filter, hk']
theorem tell_crash {N : Nat} {d : DevD} (h : DvOk N d) (hf : d.waits.length ≤ 1) (keep : List Bool) : (∀ k, k < N → tellD (crashD d keep) (1, (k : Int)) = perK d k) ∨ (∀ k, k < N → tellD (crashD d keep) (1, (k : Int)) = effK d k) := by
  rcases kept_two d hf keep with e | e
  · left
    intro k hk
    unfold crashD
    rw [e, tell_endD d [] _ (chk_fast h hk (Nat.zero_le _))]
    rfl
  · right
    intro k hk
    unfold crashD
    rw [e, tell_endD d d.waits _ (chk_fast h hk (Nat.zero_le _))]
    rfl
theorem DvOk.crash {N : Nat} {d : DevD} (h : DvOk N d) (keep : List Bool) : devSize (crashD d keep) 1 = N ∧ devLost (crashD d keep) 1 = false := by
  unfold crashD
  exact ⟨by rw [size_endD]; exact h.size, by rw [lost_endD]; exact h.lost⟩

/-- Behind a Feed that is carried out. -/
theorem feed_dev {N : Nat} {d : DevD} {x : SecD} {key load : ByteArray} (h : DvOk N d) (hl : load.size ≤ 1024) (hat : secN x.f x.hand < N) (h1 : (logT (dropX x (atX x))).size ≤ 1024) (h2 : (logT (midX x key load)).size ≤ 1024) (hne : secN x.f (grp x.hand) - 1 ≠ secN x.f x.hand) (hlg : secN x.f (grp x.hand) - 1 < N) :
    DvOk N (putD' d x key load) ∧
    (∀ k, k < N → effK (putD' d x key load) k = if k = secN x.f (grp x.hand) - 1 then logT (midX x key load) else if k = secN x.f x.hand then load else effK d k) ∧
    (∀ k, k < N → perK (putD' d x key load) k = if k = secN x.f x.hand then load else if k = secN x.f (grp x.hand) - 1 then logT (dropX x (atX x)) else effK d k) ∧
    (putD' d x key load).waits = [((1, ((secN x.f (grp x.hand) - 1 : Nat) : Int)), logT (midX x key load))] ∧
    (∀ k, k < N → k ≠ secN x.f (grp x.hand) - 1 → tellD (putD' d x key load) (1, (k : Int)) = perK (putD' d x key load) k) := by
  obtain ⟨o1, w1, e1⟩ := h.write hlg h1
  have o2 := o1.flush
  obtain ⟨o3, w3, e3⟩ := o2.write hat hl
  have o4 := o3.flush
  obtain ⟨o5, w5, e5⟩ := o4.write hlg h2
  have hd : putD' d x key load = writeD (flushD (writeD (flushD (writeD d (1, ((secN x.f (grp x.hand) - 1 : Nat) : Int)) (logT (dropX x (atX x))))) (1, ((secN x.f x.hand : Nat) : Int)) load)) (1, ((secN x.f (grp x.hand) - 1 : Nat) : Int)) (logT (midX x key load)) := rfl
  rw [hd]
  have hp : ∀ k, k < N → perK (writeD (flushD (writeD (flushD (writeD d (1, ((secN x.f (grp x.hand) - 1 : Nat) : Int)) (logT (dropX x (atX x))))) (1, ((secN x.f x.hand : Nat) : Int)) load)) (1, ((secN x.f (grp x.hand) - 1 : Nat) : Int)) (logT (midX x key load))) k = if k = secN x.f x.hand then load else if k = secN x.f (grp x.hand) - 1 then logT (dropX x (atX x)) else effK d k := fun k hk => by
    rw [per_write, flush_has, e3 k hk, flush_eff, e1 k hk]
  refine ⟨o5, fun k hk => ?_, hp, by rw [w5]; rfl, fun k hk hne2 => ?_⟩
  · rw [e5 k hk, flush_eff, e3 k hk, flush_eff, e1 k hk]
    by_cases q1 : k = secN x.f (grp x.hand) - 1
    · rw [if_pos q1, if_pos q1]
    · rw [if_neg q1, if_neg q1, if_neg q1]
  · rw [tell_same (by intro e; injection e with _ e2; omega), tell_flush o3 hk, per_write, flush_has]
end Go.Proofs.YtopinlnjdgedeaaDoor

namespace Go.Proofs.YtopinlnjdgedeaaDoor
open Go.RowKit

theorem vL_at {A B C : List UInt8} {k n : Nat} (h : A.length = k) (hB : B.length = n) : vL (A ++ (B ++ C)) k n = B := by
  rw [vL_skip h (Nat.le_refl _), Nat.sub_self]
  exact vL_here hB
theorem valB_at {s : ByteArray} {A B C : List UInt8} {k n : Nat} (h : bl s = A ++ (B ++ C)) (hk : A.length = k) (hn : B.length = n) : bl (valB s k n) = B := by
  have hz : s.size = k + (n + C.length) := by rw [← bl_size, h, List.length_append, List.length_append, hk, hn]
  rw [valB_bl s k n (by omega), h]
  exact vL_at hk hn
theorem valN_at {s : ByteArray} {A C : List UInt8} {k n v : Nat} (h : bl s = A ++ (leList v n ++ C)) (hk : A.length = k) (hv : v < 256 ^ n) : valN s k n = v := by
  have hz : s.size = k + (n + C.length) := by rw [← bl_size, h, List.length_append, List.length_append, hk, leList_length]
  rw [valN_bl s k n (by omega), h, vL_at hk (leList_length v n)]
  exact leVal_leL v n hv
def entL (x : CgE) : List UInt8 := leList x.key.size 1 ++ (bl x.key ++ (bl x.sum ++ (leList x.len.toNat 2 ++ leList x.pos.toNat 2)))
theorem entL_len {x : CgE} (h : MayC x) : (entL x).length = 1 + x.key.size + 32 + 2 + 2 := by
  unfold entL
  simp only [List.length_append, leList_length, bl_size, h.2.2.1]
  omega
theorem put_int {n : Int} (w : Nat) (h0 : 0 ≤ n) (h1 : 1 ≤ w) (h7 : w ≤ 7) (h : n.toNat < 256 ^ w) : bl (putB n (w : Nat)) = leList n.toNat w := by
  have := putB_bl n.toNat w h1 h7 h
  rwa [show ((n.toNat : Nat) : Int) = n by omega] at this
theorem entB_bl {x : CgE} (h : MayC x) : bl (entB x) = entL x := by
  obtain ⟨h1, h2, h3, h4, h5, h6, h7⟩ := h
  unfold entB entL
  rw [bl_append, bl_append, bl_append]
  have ht : bl (textB x.key 1) = leList x.key.size 1 ++ bl x.key := by
    unfold textB
    have hm : mostI 1 = 255 := rfl
    rw [if_neg (by rw [hm]; omega), bl_append]
    have := putB_bl x.key.size 1 (by decide) (by decide) (by show _ < 256; omega)
    rw [← this]
    rfl
  have hl : bl (putB x.len 2) = leList x.len.toNat 2 := put_int 2 h4 (by decide) (by decide) (by show _ < 65536; omega)
  have hp : bl (putB x.pos 2) = leList x.pos.toNat 2 := put_int 2 h6 (by decide) (by decide) (by show _ < 65536; omega)
  rw [ht, hl, hp]
  simp only [List.append_assoc]
theorem entsK_bl : ∀ (l : List CgE) (acc : ByteArray), (∀ x ∈ l, MayC x) → bl (entsK acc l) = bl acc ++ l.flatMap entL
  | [], acc, _ => by simp [entsK]
  | x :: r, acc, h => by
    have ih := entsK_bl r (acc ++ entB x) (fun y hy => h y (List.mem_cons_of_mem _ hy))
    show bl (entsK (acc ++ entB x) r) = _
    rw [ih, bl_append, entB_bl (h x List.mem_cons_self), List.flatMap_cons, List.append_assoc]
theorem headC_bl {seq : Int} {n : Nat} (h0 : 0 ≤ seq) (h1 : seq ≤ 1099511627776) (hn : n ≤ 7) : bl (headC seq n) = [80, 76] ++ (leList seq.toNat 6 ++ leList n 1) := by
  unfold headC
  rw [bl_append, bl_append]
  have hs : bl (putB seq 6) = leList seq.toNat 6 := put_int 6 h0 (by decide) (by decide) (by show _ < 281474976710656; omega)
  have hc : bl (putB n 1) = leList n 1 := putB_bl n 1 (by decide) (by decide) (by show _ < 256; omega)
  rw [hs, hc, List.append_assoc]
  rfl
theorem entAt_bl {b : ByteArray} {k : Nat} {x : CgE} {A R : List UInt8} (hx : MayC x) (h : bl b = A ++ (entL x ++ R)) (hk : A.length = k) : entAt b k = x ∧ entTo b k = k + (entL x).length := by
  have hm := hx
  obtain ⟨h1, h2, h3, h4, h5, h6, h7⟩ := hx
  have e1 : bl b = A ++ (leList x.key.size 1 ++ (bl x.key ++ (bl x.sum ++ (leList x.len.toNat 2 ++ (leList x.pos.toNat 2 ++ R))))) := by
    rw [h]; unfold entL; simp only [List.append_assoc]
  have hn1 : valN b k 1 = x.key.size := valN_at e1 hk (by show _ < 256; omega)
  have e2 : bl b = (A ++ leList x.key.size 1) ++ (bl x.key ++ (bl x.sum ++ (leList x.len.toNat 2 ++ (leList x.pos.toNat 2 ++ R)))) := by rw [e1]; simp only [List.append_assoc]
  have l2 : (A ++ leList x.key.size 1).length = k + 1 := by rw [List.length_append, leList_length, hk]
  have hk1 : valB b (k + 1) x.key.size = x.key := bl_ext (valB_at e2 l2 (bl_size _))
  have e3 : bl b = ((A ++ leList x.key.size 1) ++ bl x.key) ++ (bl x.sum ++ (leList x.len.toNat 2 ++ (leList x.pos.toNat 2 ++ R))) := by rw [e2]; simp only [List.append_assoc]
  have l3 : ((A ++ leList x.key.size 1) ++ bl x.key).length = k + 1 + x.key.size := by rw [List.length_append, l2, bl_size]
  have hs1 : valB b (k + 1 + x.key.size) 32 = x.sum := bl_ext (valB_at e3 l3 (by rw [bl_size, h3]))
  have e4 : bl b = (((A ++ leList x.key.size 1) ++ bl x.key) ++ bl x.sum) ++ (leList x.len.toNat 2 ++ (leList x.pos.toNat 2 ++ R)) := by rw [e3]; simp only [List.append_assoc]
  have l4 : (((A ++ leList x.key.size 1) ++ bl x.key) ++ bl x.sum).length = k + 1 + x.key.size + 32 := by rw [List.length_append, l3, bl_size, h3]
  have hn2 : valN b (k + 1 + x.key.size + 32) 2 = x.len.toNat := valN_at e4 l4 (by show _ < 65536; omega)
  have e5 : bl b = ((((A ++ leList x.key.size 1) ++ bl x.key) ++ bl x.sum) ++ leList x.len.toNat 2) ++ (leList x.pos.toNat 2 ++ R) := by rw [e4]; simp only [List.append_assoc]
  have l5 : ((((A ++ leList x.key.size 1) ++ bl x.key) ++ bl x.sum) ++ leList x.len.toNat 2).length = k + 1 + x.key.size + 32 + 2 := by rw [List.length_append, l4, leList_length]
  have hn3 : valN b (k + 1 + x.key.size + 32 + 2) 2 = x.pos.toNat := valN_at e5 l5 (by show _ < 65536; omega)
  constructor
  · unfold entAt
    rw [hn1, hk1, hs1, hn2, hn3]
    obtain ⟨xk, xs, xn, xp⟩ := x
    simp only at h4 h6 ⊢
    rw [show ((xn.toNat : Nat) : Int) = xn by omega, show ((xp.toNat : Nat) : Int) = xp by omega]
  · unfold entTo
    rw [hn1, entL_len hm]
    omega
theorem ents_back {b : ByteArray} {A : List UInt8} {l : List CgE} (hA : A.length = 9) (ha : ∀ x ∈ l, MayC x) (h : bl b = A ++ l.flatMap entL) :
    ∀ j, j ≤ l.length → entsTo b j = l.take j ∧ posTo b j = 9 + ((l.take j).flatMap entL).length
  | 0, _ => by simp [entsTo, posTo]
  | j + 1, hj => by
    obtain ⟨h1, h2⟩ := ents_back hA ha h j (by omega)
    have hlt : j < l.length := by omega
    have hx := ha _ (List.getElem_mem hlt)
    have hs : l.take (j + 1) = l.take j ++ [l[j]] := List.take_succ_eq_append_getElem hlt
    have e : bl b = (A ++ (l.take j).flatMap entL) ++ (entL l[j] ++ (l.drop (j + 1)).flatMap entL) := by
      rw [h, List.append_assoc]
      congr 1
      conv => lhs; rw [← List.take_append_drop j l, List.flatMap_append, List.drop_eq_getElem_cons hlt, List.flatMap_cons]
    have he := entAt_bl hx e (k := posTo b j) (by rw [List.length_append, hA, h2])
    constructor
    · rw [entsTo, h1, he.1, hs]
    · rw [posTo, he.2, h2, hs, List.flatMap_append, List.length_append]
      simp only [List.flatMap_cons, List.flatMap_nil, List.append_nil]
      omega
theorem enc_back {seq : Int} {l : List CgE} (h : chkC seq l = 0) : decC (encC seq l).1 = ((seq, l), 0) ∧ (encC seq l).2 = 0 ∧ (encC seq l).1.size = 41 + (l.flatMap entL).length := by
  obtain ⟨h0, h1, h7, ha⟩ := chkC_zero h
  have hE : encC seq l = (bodyC seq l ++ sha (bodyC seq l), 0) := if_pos h
  have hb : bl (bodyC seq l) = ([80, 76] ++ (leList seq.toNat 6 ++ leList l.length 1)) ++ l.flatMap entL := by
    unfold bodyC
    rw [entsK_bl l _ ha, headC_bl h0 h1 h7]
  have hA : ([80, 76] ++ (leList seq.toNat 6 ++ leList l.length 1) : List UInt8).length = 9 := by simp [leList_length]
  have hz : (bodyC seq l).size = 9 + (l.flatMap entL).length := by rw [← bl_size, hb, List.length_append, hA]
  have hsz := sha_size' (bodyC seq l)
  have hs : (bodyC seq l ++ sha (bodyC seq l)).size = 41 + (l.flatMap entL).length := by rw [ByteArray.size_append, hz, hsz]; omega
  refine ⟨?_, by rw [hE], by rw [hE]; exact hs⟩
  rw [hE]
  show decC (bodyC seq l ++ sha (bodyC seq l)) = _
  have d1 : bdyC (bodyC seq l ++ sha (bodyC seq l)) = bodyC seq l := by
    unfold bdyC
    rw [hs]
    apply bl_ext
    unfold bl
    rw [ByteArray.data_extract, Array.toList_extract, ByteArray.data_append, Array.toList_append]
    simp only [List.extract_eq_take_drop, List.drop_zero]
    have : (bodyC seq l).data.toList.length = 41 + (l.flatMap entL).length - 32 - 0 := by
      rw [show (bodyC seq l).data.toList.length = (bodyC seq l).size from bl_size _, hz]; omega
    rw [← this]
    exact List.take_left' rfl
  have d2 : digC (bodyC seq l ++ sha (bodyC seq l)) = sha (bodyC seq l) := by
    unfold digC
    rw [hs]
    apply bl_ext
    unfold bl
    rw [ByteArray.data_extract, Array.toList_extract, ByteArray.data_append, Array.toList_append]
    simp only [List.extract_eq_take_drop]
    have h1 : (bodyC seq l).data.toList.length = 41 + (l.flatMap entL).length - 32 := by
      rw [show (bodyC seq l).data.toList.length = (bodyC seq l).size from bl_size _, hz]; omega
    have h2 : (sha (bodyC seq l)).data.toList.length = 32 := by
      rw [show (sha (bodyC seq l)).data.toList.length = (sha (bodyC seq l)).size from bl_size _, hsz]
    rw [← h1, List.drop_left' rfl]
    exact List.take_of_length_le (by omega)
  unfold decC
  rw [if_neg (by rw [hs]; omega), d1, d2, if_neg (by simp)]
  have v0 : valB (bodyC seq l) 0 2 = markC := by
    apply bl_ext
    exact valB_at (A := []) (B := [80, 76]) (C := leList seq.toNat 6 ++ (leList l.length 1 ++ l.flatMap entL)) (by rw [hb]; simp only [List.nil_append, List.append_assoc]) rfl rfl
  have v1 : valN (bodyC seq l) 2 6 = seq.toNat :=
    valN_at (A := [80, 76]) (C := leList l.length 1 ++ l.flatMap entL) (by rw [hb]; simp only [List.append_assoc]) rfl (by show _ < 281474976710656; omega)
  have v2 : valN (bodyC seq l) 8 1 = l.length :=
    valN_at (A := [80, 76] ++ leList seq.toNat 6) (C := l.flatMap entL) (by rw [hb]; simp only [List.append_assoc]) (by simp [leList_length]) (by show _ < 256; omega)
  obtain ⟨w1, w2⟩ := ents_back hA ha hb l.length (Nat.le_refl _)
  rw [List.take_length] at w1 w2
  rw [v0, v1, v2, w1, w2, show ((seq.toNat : Nat) : Int) = seq by omega, if_neg]
  rintro (h | h | h)
  · exact h rfl
  · exact h (posEnd_end _ _ hz)
  · exact h (by assumption)
end Go.Proofs.YtopinlnjdgedeaaDoor
