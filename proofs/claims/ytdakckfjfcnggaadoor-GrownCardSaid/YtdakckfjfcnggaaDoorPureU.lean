import Derived.Test.YtdakckfjfcnggaaDoorBaseB
namespace Go.Proofs.YtdakckfjfcnggaaDoor
open Go.RowKit Go.Deep

/-! ### What a slot's two blocks tell -/
theorem zs_list (k : Nat) : (zs k).data.toList = List.replicate k 0 := by simp [zs]
theorem app_list (a b : ByteArray) : (a ++ b).data.toList = a.data.toList ++ b.data.toList := by simp [ByteArray.data_append]
theorem bt_list (t : ByteArray) (i : Nat) : bt t i = ((t.data.toList[i]?).map (·.toNat)).getD 0 := by
  unfold bt
  split
  · next h =>
    have := toList_at t i h
    rw [Lib.toList_data] at this
    rw [this]; rfl
  · next h =>
    rw [List.getElem?_eq_none (by rw [← Lib.size_eq]; omega)]; rfl
/-- The two blocks of a text that fits them: the text, and bytes 0. -/
def two (t : ByteArray) : ByteArray := pad (t.extract 0 (min t.size 256)) ++ pad (t.extract (min t.size 256) t.size)
theorem two_list (t : ByteArray) (h : t.size ≤ 512) : (two t).data.toList = t.data.toList ++ List.replicate (512 - t.size) 0 := by
  have hl : t.data.toList.length = t.size := (Lib.size_eq t).symm
  unfold two
  rw [app_list, pad_list, pad_list, Lib.extract_data, Lib.extract_data, ByteArray.size_extract, ByteArray.size_extract]
  by_cases hA : t.size ≤ 256
  · have e1 : min t.size 256 = t.size := by omega
    rw [e1]
    simp only [List.drop_zero, Nat.sub_zero, Nat.sub_self, List.take_zero, List.nil_append, Nat.min_self]
    rw [List.take_of_length_le (by omega), List.append_assoc, List.replicate_append_replicate, show 256 - t.size + 256 = 512 - t.size by omega]
  · have e1 : min t.size 256 = 256 := by omega
    rw [e1]
    have e2 : min 256 t.size = 256 := by omega
    simp only [List.drop_zero, Nat.sub_zero, Nat.min_self, e2, Nat.sub_self, List.replicate_zero, List.append_nil]
    rw [List.take_of_length_le (l := List.drop 256 t.data.toList) (by rw [List.length_drop]; omega), ← List.append_assoc, List.take_append_drop, show 256 - (t.size - 256) = 512 - t.size by omega]
theorem enc_list (n : Nd) : (enc n).data.toList = headL n ++ (n.path.data.toList ++ n.data.data.toList) := by
  unfold enc
  rw [app_list, app_list, List.append_assoc]
/-- What was filled in is read. -/
theorem dec_two {n : Nd} (hok : okNode n = true) (hp : n.path.size ≤ 60) : dec (two (enc n)) = some n := by
  obtain ⟨path, kind, mode, tag, data⟩ := n
  have hb : okNode ⟨path, kind, mode, tag, data⟩ = true := hok
  simp only [okNode, Bool.and_eq_true, decide_eq_true_eq] at hok
  obtain ⟨⟨⟨⟨⟨hpa, hm0⟩, hm1⟩, ht0⟩, ht1⟩, hkd⟩ := hok
  have hk : (kind = 1 ∨ kind = 2) ∧ data.size ≤ 400 := by
    split at hkd
    · next h => exact ⟨.inl h, by simpa using hkd⟩
    · split at hkd
      · next h =>
        have h0 : data.size = 0 := by simpa using hkd
        exact ⟨.inr h, by rw [h0]; omega⟩
      · cases hkd
  obtain ⟨hk, hd⟩ := hk
  dsimp only at hp hm0 hm1 ht0 ht1
  have hk0 : 0 ≤ kind ∧ kind < 256 := by omega
  have hz : (enc ⟨path, kind, mode, tag, data⟩).size = 7 + path.size + data.size := enc_size _
  have hl := two_list (enc ⟨path, kind, mode, tag, data⟩) (by omega)
  rw [enc_list, hz] at hl
  obtain ⟨t, ht⟩ : ∃ t, t = two (enc ⟨path, kind, mode, tag, data⟩) := ⟨_, rfl⟩
  rw [← ht] at hl ⊢
  have hpl : path.data.toList.length = path.size := (Lib.size_eq path).symm
  have hdl : data.data.toList.length = data.size := (Lib.size_eq data).symm
  have b0 : bt t 0 = kind.toNat := by rw [bt_list, hl]; simp [headL, UInt8.toNat_ofNat']; omega
  have b1 : bt t 1 = (mode / 256).toNat := by rw [bt_list, hl]; simp [headL, UInt8.toNat_ofNat']; omega
  have b2 : bt t 2 = (mode % 256).toNat := by rw [bt_list, hl]; simp [headL, UInt8.toNat_ofNat']; omega
  have b3 : bt t 3 = tag.toNat := by rw [bt_list, hl]; simp [headL, UInt8.toNat_ofNat']; omega
  have b4 : bt t 4 = path.size := by rw [bt_list, hl]; simp [headL, UInt8.toNat_ofNat']; omega
  have b5 : bt t 5 = data.size / 256 := by rw [bt_list, hl]; simp [headL, UInt8.toNat_ofNat']; omega
  have b6 : bt t 6 = data.size % 256 := by rw [bt_list, hl]; simp [headL, UInt8.toNat_ofNat']
  have hpe : pEnd t = 7 + path.size := by unfold pEnd; rw [b4]
  have hde : dEnd t = 7 + path.size + data.size := by unfold dEnd; rw [b4, b5, b6]; omega
  have hn : nodeOf t = ⟨path, kind, mode, tag, data⟩ := by
    unfold nodeOf
    rw [hpe, hde, b0, b1, b2, b3]
    have e1 : t.extract 7 (7 + path.size) = path := by
      apply bytes_ext
      rw [Lib.extract_data, hl]
      have : (headL ⟨path, kind, mode, tag, data⟩ ++ (path.data.toList ++ data.data.toList) ++ List.replicate (512 - (7 + path.size + data.size)) 0).drop 7 = path.data.toList ++ (data.data.toList ++ List.replicate (512 - (7 + path.size + data.size)) 0) := by
        simp [headL]
      rw [this, show 7 + path.size - 7 = path.size by omega, List.take_append_of_le_length (by omega), List.take_of_length_le (by omega)]
    have e2 : t.extract (7 + path.size) (7 + path.size + data.size) = data := by
      apply bytes_ext
      rw [Lib.extract_data, hl]
      have : (headL ⟨path, kind, mode, tag, data⟩ ++ (path.data.toList ++ data.data.toList) ++ List.replicate (512 - (7 + path.size + data.size)) 0).drop (7 + path.size) = data.data.toList ++ List.replicate (512 - (7 + path.size + data.size)) 0 := by
        rw [← List.drop_drop]
        simp [headL]
      rw [this, show 7 + path.size + data.size - (7 + path.size) = data.size by omega, List.take_append_of_le_length (by omega), List.take_of_length_le (by omega)]
    rw [e1, e2]
    have e3 : ((kind.toNat : Nat) : Int) = kind := by omega
    have e4 : ((tag.toNat : Nat) : Int) = tag := by omega
    have e5 := orb mode.toNat (by omega)
    have e6 : (((mode / 256).toNat : Nat) : Int) * 256 = (mode.toNat : Int) / 256 * 256 := by omega
    have e7 : (((mode % 256).toNat : Nat) : Int) = (mode.toNat : Int) % 256 := by omega
    rw [e3, e4, e6, e7, e5]
    congr 1
    omega
  unfold dec
  rw [hn, hde, if_pos ⟨by omega, hb⟩]
/-- A first block of bytes 0 tells nothing. -/
theorem dec_zero (x : ByteArray) : dec (pad ⟨#[]⟩ ++ x) = none := by
  unfold dec
  rw [if_neg]
  rintro ⟨_, h⟩
  have hl : (pad ⟨#[]⟩ ++ x).data.toList = List.replicate 256 0 ++ x.data.toList := by
    rw [app_list, pad_list]; rfl
  have b0 : bt (pad ⟨#[]⟩ ++ x) 0 = 0 := by rw [bt_list, hl]; rfl
  unfold okNode nodeOf at h
  rw [b0] at h
  simp at h
end Go.Proofs.YtdakckfjfcnggaaDoor
