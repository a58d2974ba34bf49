import Derived.Test.YtcbindgpbeaebaaGreatDoorPureT
namespace Go.Proofs.YtcbindgpbeaebaaGreatDoor
open Go.RowKit Go.Deep
attribute [local go_sem ↓] Go.wp_at_zero Go.wp_at_succ

theorem Chain.ok {M : List Pl} {ps : List (Nat × ByteArray)} {l : List Dd} {M' : List Pl} {ps' : List (Nat × ByteArray)} {c : Nat} (h : Chain M ps l M' ps') (fit : ∀ x ∈ l, Fit x) (mo : MOk M) (hp : PsB c ps) : MOk M' ∧ PsB (c + l.length) ps' := by
  induction h with
  | nil => exact ⟨mo, by simpa using hp⟩
  | snoc h k ih =>
    obtain ⟨m1, p1⟩ := ih fun x hx => fit x (by simp [hx])
    obtain ⟨m2, p2⟩ := k.ok (fit _ (by simp)) m1 p1
    refine ⟨m2, ?_⟩
    rw [List.length_append]
    exact p2
theorem SStep.after {bl bd bs : Nat} {pv pvk lv lv' : Value} {w wk w' : World} (st : DStep bl bl pv pvk w wk) (h : SStep bl bd bs pvk lv lv' wk w') : SStep bl bd bs pv lv lv' w w' := by
  have hs := st.size
  refine ⟨Nat.le_trans hs h.size, fun k hk h1 h2 h3 h4 h5 => ?_, fun g hg => ?_⟩
  · rw [h.block k (by omega) h1 h2 h3 (fun e => ?_) h5, st.block k hk h1 h1 h4]
    rcases st.fresh k e with e | e
    · exact h4 e
    · omega
  · rcases h.fresh g hg with e | e
    · exact .inl e
    · exact .inr (by omega)

/-- The blocks of a sure disk, as a base reads them. -/
def vw (d : Dk) (i : Nat) : ByteArray := rd d.safe (90 + i)
theorem getL_vw {d : Dk} (hn3 : 300 ≤ d.safe.length) (hl : d.late = []) (hf : d.life ≠ 0) (hz : ∀ i, i < 120 → (vw d i).size = 256) : ∀ i, i < 120 → getL d [] false ((i : Nat) : Int) = (vw d i, 0) ∧ (vw d i).size = 256 := fun i hi => by
  refine ⟨?_, hz i hi⟩
  have h1 : hasB d.safe.length (i : Int) = true := by simp [hasB]; omega
  unfold getL
  rw [h1, if_neg (by simp), if_neg (by simp [hf])]
  have h2 : ¬ (0 ≤ idx [] (i : Int)) := by simp [idx]
  rw [if_neg h2, Int.toNat_natCast, read_rd hl]
  rfl

/-- How a transaction of a base on a sound disk ends. -/
def TrPost (w : World) (B bl bd bs : Nat) (pv lv : Value) (d : Dk) (M0 : List Pl) (L : List Dd) (e : Ending) (w' : World) : Prop :=
  (∃ k x c M1 ps1 M2 ps2, Chain M0 [] (L.take k) M1 ps1 ∧ L[k]? = some x ∧ D1 M1 ps1 x c M2 ps2 ∧ c ≠ 0 ∧ e = .returned (.int .i64 c) ∧ Sys w' B bl bd bs (.slice none 0 0) lv [] false d ∧ SStep bl bd bs pv lv lv w w' ∧ Below B w w') ∨
  (∃ M1 ps1 lv', Chain M0 [] L M1 ps1 ∧ e = .returned (.int .i64 (commitL d ps1 false).1) ∧ Sys w' B bl bd bs (.slice none 0 0) lv' [] (commitL d ps1 false).2.2 (commitL d ps1 false).2.1 ∧ SStep bl bd bs pv lv lv' w w' ∧ Below B w w')

/-- What stands between two deeds. -/
def TrRel (K : Kp) (w0 : World) (B bl bd bs : Nat) (pv lv : Value) (d : Dk) (bm : Nat) (L : List Dd) (M0 : List Pl) (k : Nat) (wr : World) : Prop :=
  ∃ Mk psk pvk evk, Chain M0 [] (L.take k) Mk psk ∧ Tx K w0 wr B bl bd bs pv pvk lv psk d bm evk Mk
theorem DsAt.step {w wr : World} {B bl bd bs : Nat} {pv pvk lv v : Value} {ps : List (Nat × ByteArray)} {br : Bool} {d : Dk} {L : List Dd} (h : DsAt w v L) (s : Sys w B bl bd bs pv lv ps br d) (st : DStep bl bl pv pvk w wr) : DsAt wr v L :=
  h.kept fun b _ hc => st.block b (lt_of_heap hc) (ty_ne hc s.log.own (by decide)) (ty_ne hc s.log.own (by decide)) (row_ty s.log.puts hc (by decide))
theorem BAt.step {w wr : World} {B bb bl bd bs : Nat} {pv pvk lv : Value} {ps : List (Nat × ByteArray)} {br bk : Bool} {d : Dk} (h : BAt w bb bl bk) (s : Sys w B bl bd bs pv lv ps br d) (st : DStep bl bl pv pvk w wr) : BAt wr bb bl bk :=
  h.kept (st.block bb h.lt (ty_ne h.own s.log.own (by decide)) (ty_ne h.own s.log.own (by decide)) (row_ty s.log.puts h.own (by decide)))

theorem tx_base {K : Kp} {w0 w : World} {B bl bd bs : Nat} {pv0 pv lv : Value} {ps : List (Nat × ByteArray)} {d : Dk} {bm : Nat} {ev : Value} {M : List Pl} (h : Tx K w0 w B bl bd bs pv0 pv lv ps d bm ev M) (s0 : Sys w0 B bl bd bs pv0 lv [] false d) : Below B w0 w :=
  DStep.below h.st s0.sep.bl0 s0.sep.bl0 s0.sep.bp0 s0.base

set_option maxRecDepth 100000 in
set_option maxHeartbeats 6400000 in
theorem transact_ok (w : World) (B bb bl bd bs : Nat) (pv lv : Value) (d : Dk) (v : Value) (L : List Dd) (hB : BAt w bb bl false) (s : Sys w B bl bd bs pv lv [] false d) (ok : d.Ok) (hn3 : 300 ≤ d.safe.length) (hl : d.late = []) (hf : d.life ≠ 0) (hz : ∀ i, i < 120 → (vw d i).size = 256)
    (hD : DsAt w v L) (h12 : L.length ≤ 12) (hfit : ∀ x ∈ L, Fit x) :
    Calls Tryz.prog 75 #[.pointer (some ⟨bb, 0, none⟩), v] w (TrPost w B bl bd bs pv lv d (loadM (vw d) 60) L) := by
  have hn := ok.n
  have hV := getL_vw hn3 hl hf hz
  have hload := load_ok w bb bl bd bs pv lv [] false d (vw d) hB s.log s.disk hn (by rw [hl]; simp) (by simp) hV
  have mo0 : MOk (loadM (vw d) 60) := ⟨loadM_ord _ _, loadM_len _ _, loadM_slot _ _⟩
  obtain ⟨M0, hM0⟩ : ∃ M0, M0 = loadM (vw d) 60 := ⟨_, rfl⟩
  rw [← hM0] at hload mo0 ⊢
  clear hM0 hV
  have HL := hide hload
  clear hload
  obtain ⟨ao, cap, rfl⟩ := hD.form
  go_enter_defers Tryz.func75, Tryz.ntmps75
  go_wp2_with fail
  refine (unhide HL).mono ?_
  rintro e w1 ⟨bm, ev, rfl, hM1, hb1⟩
  have s1 : Sys w1 B bl bd bs pv lv [] false d := sys_kept s hb1.size fun k hk _ => hb1.block k hk
  have hB1 := hB.kept (hb1.block bb hB.lt)
  have c0 := hB1.c0
  obtain ⟨W, hW⟩ : ∃ W, W = w1.alloc (.cells #[.pointer (some ⟨bl, 0, none⟩), .pointer (some ⟨bm, 0, none⟩)] 186) := ⟨_, rfl⟩
  have hbW : Below w1.heap.size w1 W := by rw [hW]; exact (Below.refl _ w1).alloc (Nat.le_refl _) _
  have bW : W.heap[w1.heap.size]? = some (.cells #[.pointer (some ⟨bl, 0, none⟩), .pointer (some ⟨bm, 0, none⟩)] 186 (0, 0)) := by rw [hW]; exact heap_alloc_new w1 _
  obtain ⟨K, hK⟩ : ∃ K : Kp, K = [(w1.heap.size, #[.pointer (some ⟨bl, 0, none⟩), .pointer (some ⟨bm, 0, none⟩)], 186)] := ⟨_, rfl⟩
  have txW : Tx K w W B bl bd bs pv pv lv [] d bm ev M0 := by
    refine ⟨sys_kept s1 hbW.size fun k hk _ => hbW.block k hk, hM1.below hbW, (DStep.ofBelow hb1).trans (DStep.ofBelow hbW), fun x hx => ?_⟩
    rw [hK] at hx
    simp only [List.mem_singleton] at hx
    subst hx
    exact ⟨bW, by show 186 ≠ 194; decide, by show 186 ≠ 191; decide, by show 186 ≠ 183; decide, by show 186 ≠ 244; decide⟩
  have rel0 : TrRel K w B bl bd bs pv lv d bm L M0 0 W := ⟨M0, [], pv, ev, Chain.nil _ _, txW⟩
  have HR0 := hide rel0
  have HK := hide hK
  clear rel0 txW hM1 hb1 s1 hK bW
  go_wp2_with fail
  rw [← hW]
  go_loopw [31] (fun i wr => ∃ k : Nat, k ≤ L.length ∧ i = .int .i64 k ∧ TrRel K w B bl bd bs pv lv d bm L M0 k wr) (fun i _ => L.length - (intOf i).toNat)
  case atStart => exact ⟨0, Nat.zero_le _, rfl, unhide HR0⟩
  case round =>
    obtain ⟨k, hk, rfl, Mk, psk, pvk, evk, ch, txk⟩ := hrel
    obtain ⟨mok, pbk⟩ := ch.ok (fun x hx => hfit x (List.mem_of_mem_take hx)) mo0 (PsB.nil 0)
    rw [List.length_take, Nat.min_eq_left hk, Nat.zero_add] at pbk
    have dsk := hD.step s txk.st
    have bak := hB.step s txk.st
    have wb := (txk.keep (w1.heap.size, #[.pointer (some ⟨bl, 0, none⟩), .pointer (some ⟨bm, 0, none⟩)], 186) (by rw [unhide HK]; simp)).1
    dsimp only at wb
    by_cases hlt : k < L.length
    · obtain ⟨x, hx⟩ : ∃ x, L[k]? = some x := ⟨_, List.getElem?_eq_getElem hlt⟩
      obtain ⟨b, rfl, d0, d1, d2, d3, d4, d5⟩ := dsk.at k x hx
      have i0 : (0 : Int) ≤ (k : Int) := Int.natCast_nonneg _
      have i1 : (k : Int) < (L.length : Int) := by omega
      have hfx := hfit x (List.mem_of_getElem? hx)
      obtain ⟨W5, hW5⟩ : ∃ W5, W5 = wr.alloc (.cells #[.bool x.take, .string x.node.path, .int .i64 x.node.kind, .int .i64 x.node.mode, .int .i64 x.node.tag, .string x.node.data] 79) := ⟨_, rfl⟩
      have hb5 : Below wr.heap.size wr W5 := by rw [hW5]; exact (Below.refl _ wr).alloc (Nat.le_refl _) _
      have wb5 := (hb5.block _ (lt_of_heap wb)).trans wb
      have z0 : (wr.alloc (.cells #[.bool x.take, .string x.node.path, .int .i64 x.node.kind, .int .i64 x.node.mode, .int .i64 x.node.tag, .string x.node.data] 79)).cell? ⟨w1.heap.size, 0, none⟩ = some (.pointer (some ⟨bl, 0, none⟩)) := by rw [← hW5, cell_of_row W5 _ _ _ _ _ wb5]; rfl
      have z1 : (wr.alloc (.cells #[.bool x.take, .string x.node.path, .int .i64 x.node.kind, .int .i64 x.node.mode, .int .i64 x.node.tag, .string x.node.data] 79)).cell? ⟨w1.heap.size, 1, none⟩ = some (.pointer (some ⟨bm, 0, none⟩)) := by rw [← hW5, cell_of_row W5 _ _ _ _ _ wb5]; rfl
      have hdo := wdo_any w W5 B bl bd bs pv pvk lv psk d bm evk Mk x k (txk.below hb5) mok hn hn3 pbk (by omega) hfx
      unfold wkV ddV at hdo
      have HDO := hide hdo
      have HCH := hide ch
      have HX := hide hx
      clear hdo ch hx txk dsk mok pbk wb wb5
      go_wp2_with fail
      rw [← hW5]
      refine (unhide HDO).mono ?_
      rintro e w6 ⟨c, M6, ps6, pv6, ev6, rfl, h1, tx6⟩
      by_cases hc : c = 0
      · subst hc
        have hch : Chain M0 [] (L.take (k + 1)) M6 ps6 := by
          rw [show L.take (k + 1) = L.take k ++ [x] by rw [List.take_add_one, unhide HX]; rfl]
          exact Chain.snoc (unhide HCH) h1
        have HC6 := hide hch
        have HT6 := hide tx6
        clear hch tx6 h1
        go_wp2_with fail
        go_roundw
        case rel => exact ⟨k + 1, by omega, by go_num, M6, ps6, pv6, ev6, unhide HC6, unhide HT6⟩
        case measure => simp [intOf]; omega
      · have hcb : (c == 0) = false := by simpa using hc
        have HC := hide hc
        have HT6 := hide tx6
        have H1 := hide h1
        clear hc tx6 h1
        go_wp2_with fail
        refine leaves_cons (f := 115) (args := #[.pointer (some ⟨bl, 0, none⟩)]) (by simp) (by simp [go_sem]) ?_
        refine (drop_deferred .returning _ bl bd _ ps6 false (unhide HT6).sys.log).mono ?_
        rintro e u' w' ⟨rfl, rfl, hl', st⟩
        have s6 := (unhide HT6).sys.ofLog hl' st
        have st' := (unhide HT6).st.trans st
        exact ⟨_, results_tmp rfl _ _ _, .inl ⟨k, x, c, _, _, _, _, unhide HCH, unhide HX, unhide H1, unhide HC, rfl, s6.1, SStep.ofLog st', (tx_base (unhide HT6) s).trans s6.2⟩⟩
    · have hke : k = L.length := by omega
      subst hke
      rw [List.take_length] at ch
      have b0 := bak.c0
      have hzk : ∀ p ∈ psk, p.2.size ≤ 256 := fun p hp => Nat.le_of_eq (pbk.sz p hp)
      have hcm := commit_any wr B bl bd bs pvk lv psk false d txk.sys ok (by omega) (by rw [hl]; simp) (by have := pbk.len; omega) (fun p hp => by have := pbk.lt p.1 (List.mem_map.2 ⟨p, hp, rfl⟩); omega) hzk
      have HCM := hide hcm
      have HT := hide txk
      have HCH := hide ch
      clear hcm txk ch
      go_wp2_with fail
      refine (unhide HCM).mono ?_
      rintro e w7 ⟨lv7, rfl, s7, b7, ss7⟩
      go_wp2_with fail
      refine leaves_cons (f := 115) (args := #[.pointer (some ⟨bl, 0, none⟩)]) (by simp) (by simp [go_sem]) ?_
      refine (drop_deferred .returning _ bl bd _ [] _ s7.log).mono ?_
      rintro e u' w' ⟨rfl, rfl, hl', st⟩
      have s8 := s7.ofLog hl' st
      refine ⟨_, results_tmp rfl _ _ _, .inr ⟨Mk, psk, lv7, unhide HCH, rfl, s8.1, ?_, ((tx_base (unhide HT) s).trans b7).trans s8.2⟩⟩
      have q1 := SStep.after (unhide HT).st ss7
      refine ⟨Nat.le_trans q1.size st.size, fun k hk h1 h2 h3 h4 h5 => ?_, q1.fresh⟩
      rw [st.block k (by have := q1.size; omega) h1 h1 (by simp [Value.ownBlock]), q1.block k hk h1 h2 h3 h4 h5]
end Go.Proofs.YtcbindgpbeaebaaGreatDoor

namespace Go.Proofs.YtcbindgpbeaebaaGreatDoor
open Go.RowKit Go.Deep

/-! ### What a slot's two blocks tell -/
theorem zs_list (k : Nat) : (zs k).data.toList = List.replicate k 0 := by simp [zs]
theorem app_list (a b : ByteArray) : (a ++ b).data.toList = a.data.toList ++ b.data.toList := by simp [ByteArray.data_append]
theorem bt_list (t : ByteArray) (i : Nat) : bt t i = ((t.data.toList[i]?).map (·.toNat)).getD 0 := by
  unfold bt
  split
  · next h =>
    have := toList_at t i h
    rw [Lib.toList_data] at this
    rw [this]; rfl
  · next h =>
    rw [List.getElem?_eq_none (by rw [← Lib.size_eq]; omega)]; rfl
/-- The two blocks of a text that fits them: the text, and bytes 0. -/
def two (t : ByteArray) : ByteArray := pad (t.extract 0 (min t.size 256)) ++ pad (t.extract (min t.size 256) t.size)
theorem two_list (t : ByteArray) (h : t.size ≤ 512) : (two t).data.toList = t.data.toList ++ List.replicate (512 - t.size) 0 := by
  have hl : t.data.toList.length = t.size := (Lib.size_eq t).symm
  unfold two
  rw [app_list, pad_list, pad_list, Lib.extract_data, Lib.extract_data, ByteArray.size_extract, ByteArray.size_extract]
  by_cases hA : t.size ≤ 256
  · have e1 : min t.size 256 = t.size := by omega
    rw [e1]
    simp only [List.drop_zero, Nat.sub_zero, Nat.sub_self, List.take_zero, List.nil_append, Nat.min_self]
    rw [List.take_of_length_le (by omega), List.append_assoc, List.replicate_append_replicate, show 256 - t.size + 256 = 512 - t.size by omega]
  · have e1 : min t.size 256 = 256 := by omega
    rw [e1]
    have e2 : min 256 t.size = 256 := by omega
    simp only [List.drop_zero, Nat.sub_zero, Nat.min_self, e2, Nat.sub_self, List.replicate_zero, List.append_nil]
    rw [List.take_of_length_le (l := List.drop 256 t.data.toList) (by rw [List.length_drop]; omega), ← List.append_assoc, List.take_append_drop, show 256 - (t.size - 256) = 512 - t.size by omega]
theorem enc_list (n : Nd) : (enc n).data.toList = headL n ++ (n.path.data.toList ++ n.data.data.toList) := by
  unfold enc
  rw [app_list, app_list, List.append_assoc]
/-- What was filled in is read. -/
theorem dec_two {n : Nd} (hok : okNode n = true) (hp : n.path.size ≤ 60) : dec (two (enc n)) = some n := by
  obtain ⟨path, kind, mode, tag, data⟩ := n
  have hb : okNode ⟨path, kind, mode, tag, data⟩ = true := hok
  simp only [okNode, Bool.and_eq_true, decide_eq_true_eq] at hok
  obtain ⟨⟨⟨⟨⟨hpa, hm0⟩, hm1⟩, ht0⟩, ht1⟩, hkd⟩ := hok
  have hk : (kind = 1 ∨ kind = 2) ∧ data.size ≤ 400 := by
    split at hkd
    · next h => exact ⟨.inl h, by simpa using hkd⟩
    · split at hkd
      · next h =>
        have h0 : data.size = 0 := by simpa using hkd
        exact ⟨.inr h, by rw [h0]; omega⟩
      · cases hkd
  obtain ⟨hk, hd⟩ := hk
  dsimp only at hp hm0 hm1 ht0 ht1
  have hk0 : 0 ≤ kind ∧ kind < 256 := by omega
  have hz : (enc ⟨path, kind, mode, tag, data⟩).size = 7 + path.size + data.size := enc_size _
  have hl := two_list (enc ⟨path, kind, mode, tag, data⟩) (by omega)
  rw [enc_list, hz] at hl
  obtain ⟨t, ht⟩ : ∃ t, t = two (enc ⟨path, kind, mode, tag, data⟩) := ⟨_, rfl⟩
  rw [← ht] at hl ⊢
  have hpl : path.data.toList.length = path.size := (Lib.size_eq path).symm
  have hdl : data.data.toList.length = data.size := (Lib.size_eq data).symm
  have b0 : bt t 0 = kind.toNat := by rw [bt_list, hl]; simp [headL, UInt8.toNat_ofNat']; omega
  have b1 : bt t 1 = (mode / 256).toNat := by rw [bt_list, hl]; simp [headL, UInt8.toNat_ofNat']; omega
  have b2 : bt t 2 = (mode % 256).toNat := by rw [bt_list, hl]; simp [headL, UInt8.toNat_ofNat']; omega
  have b3 : bt t 3 = tag.toNat := by rw [bt_list, hl]; simp [headL, UInt8.toNat_ofNat']; omega
  have b4 : bt t 4 = path.size := by rw [bt_list, hl]; simp [headL, UInt8.toNat_ofNat']; omega
  have b5 : bt t 5 = data.size / 256 := by rw [bt_list, hl]; simp [headL, UInt8.toNat_ofNat']; omega
  have b6 : bt t 6 = data.size % 256 := by rw [bt_list, hl]; simp [headL, UInt8.toNat_ofNat']
  have hpe : pEnd t = 7 + path.size := by unfold pEnd; rw [b4]
  have hde : dEnd t = 7 + path.size + data.size := by unfold dEnd; rw [b4, b5, b6]; omega
  have hn : nodeOf t = ⟨path, kind, mode, tag, data⟩ := by
    unfold nodeOf
    rw [hpe, hde, b0, b1, b2, b3]
    have e1 : t.extract 7 (7 + path.size) = path := by
      apply bytes_ext
      rw [Lib.extract_data, hl]
      have : (headL ⟨path, kind, mode, tag, data⟩ ++ (path.data.toList ++ data.data.toList) ++ List.replicate (512 - (7 + path.size + data.size)) 0).drop 7 = path.data.toList ++ (data.data.toList ++ List.replicate (512 - (7 + path.size + data.size)) 0) := by
        simp [headL]
      rw [this, show 7 + path.size - 7 = path.size by omega, List.take_append_of_le_length (by omega), List.take_of_length_le (by omega)]
    have e2 : t.extract (7 + path.size) (7 + path.size + data.size) = data := by
      apply bytes_ext
      rw [Lib.extract_data, hl]
      have : (headL ⟨path, kind, mode, tag, data⟩ ++ (path.data.toList ++ data.data.toList) ++ List.replicate (512 - (7 + path.size + data.size)) 0).drop (7 + path.size) = data.data.toList ++ List.replicate (512 - (7 + path.size + data.size)) 0 := by
        rw [← List.drop_drop]
        simp [headL]
      rw [this, show 7 + path.size + data.size - (7 + path.size) = data.size by omega, List.take_append_of_le_length (by omega), List.take_of_length_le (by omega)]
    rw [e1, e2]
    have e3 : ((kind.toNat : Nat) : Int) = kind := by omega
    have e4 : ((tag.toNat : Nat) : Int) = tag := by omega
    have e5 := orb mode.toNat (by omega)
    have e6 : (((mode / 256).toNat : Nat) : Int) * 256 = (mode.toNat : Int) / 256 * 256 := by omega
    have e7 : (((mode % 256).toNat : Nat) : Int) = (mode.toNat : Int) % 256 := by omega
    rw [e3, e4, e6, e7, e5]
    congr 1
    omega
  unfold dec
  rw [hn, hde, if_pos ⟨by omega, hb⟩]
/-- A first block of bytes 0 tells nothing. -/
theorem dec_zero (x : ByteArray) : dec (pad ⟨#[]⟩ ++ x) = none := by
  unfold dec
  rw [if_neg]
  rintro ⟨_, h⟩
  have hl : (pad ⟨#[]⟩ ++ x).data.toList = List.replicate 256 0 ++ x.data.toList := by
    rw [app_list, pad_list]; rfl
  have b0 : bt (pad ⟨#[]⟩ ++ x) 0 = 0 := by rw [bt_list, hl]; rfl
  unfold okNode nodeOf at h
  rw [b0] at h
  simp at h
end Go.Proofs.YtcbindgpbeaebaaGreatDoor

namespace Go.Proofs.YtcbindgpbeaebaaGreatDoor
open Go.RowKit Go.Deep

/-! ### Maps by their members -/
theorem Ord.eq {M : List Pl} (h : Ord M) {p q : Pl} (hp : p ∈ M) (hq : q ∈ M) (e : cmpB p.node.path q.node.path = 0) : p = q := by
  induction M with
  | nil => simp at hp
  | cons y r ih =>
    obtain ⟨h1, h2⟩ := List.pairwise_cons.1 h
    rcases List.mem_cons.1 hp with e1 | hp1 <;> rcases List.mem_cons.1 hq with e2 | hq1
    · rw [e1, e2]
    · have := h1 q hq1
      rw [← e1] at this; omega
    · have := h1 p hp1
      rw [← e2, cmpB_swap] at this; omega
    · exact ih h2 hp1 hq1
theorem mem_insM : ∀ (M : List Pl) (x : Pl), Ord M → ∀ p, p ∈ insM M x ↔ p = x ∨ (p ∈ M ∧ cmpB p.node.path x.node.path ≠ 0)
  | [], x, _, p => by simp [insM]
  | y :: r, x, h, p => by
    obtain ⟨h1, h2⟩ := List.pairwise_cons.1 h
    have ih := mem_insM r x h2 p
    unfold insM
    split
    · next hlt =>
      rw [List.mem_cons, ih, List.mem_cons]
      constructor
      · rintro (rfl | rfl | ⟨a, b⟩)
        · exact .inr ⟨.inl rfl, by omega⟩
        · exact .inl rfl
        · exact .inr ⟨.inr a, b⟩
      · rintro (rfl | ⟨rfl | a, b⟩)
        · exact .inr (.inl rfl)
        · exact .inl rfl
        · exact .inr (.inr ⟨a, b⟩)
    · next hge =>
      split
      · next he =>
        have e := cmpB_zero he
        rw [List.mem_cons, List.mem_cons]
        constructor
        · rintro (rfl | a)
          · exact .inl rfl
          · refine .inr ⟨.inr a, ?_⟩
            have := h1 p a
            rw [e, cmpB_swap] at this; omega
        · rintro (rfl | ⟨rfl | a, b⟩)
          · exact .inl rfl
          · exact absurd he b
          · exact .inr a
      · next hne =>
        rw [List.mem_cons, List.mem_cons]
        constructor
        · rintro (rfl | rfl | a)
          · exact .inl rfl
          · exact .inr ⟨.inl rfl, hne⟩
          · refine .inr ⟨.inr a, ?_⟩
            have h3 := h1 p a
            have h4 : cmpB x.node.path y.node.path < 0 := by rw [cmpB_swap]; omega
            have := cmpB_trans h4 h3
            rw [cmpB_swap] at this; omega
        · rintro (rfl | ⟨a, _⟩)
          · exact .inl rfl
          · exact .inr a
theorem Ord.ext : ∀ {M N : List Pl}, Ord M → Ord N → (∀ p, p ∈ M ↔ p ∈ N) → M = N
  | [], [], _, _, _ => rfl
  | [], y :: s, _, _, h => by have := (h y).2 (by simp); simp at this
  | x :: r, [], _, _, h => by have := (h x).1 (by simp); simp at this
  | x :: r, y :: s, hM, hN, h => by
    obtain ⟨a1, a2⟩ := List.pairwise_cons.1 hM
    obtain ⟨b1, b2⟩ := List.pairwise_cons.1 hN
    have hxy : x = y := by
      have hx := (h x).1 (by simp)
      have hy := (h y).2 (by simp)
      rcases List.mem_cons.1 hx with e | hx
      · exact e
      · rcases List.mem_cons.1 hy with e | hy
        · exact e.symm
        · have k1 := b1 x hx
          have k2 := a1 y hy
          rw [cmpB_swap] at k2; omega
    subst hxy
    congr 1
    refine Ord.ext a2 b2 fun p => ⟨fun hp => ?_, fun hp => ?_⟩
    · rcases List.mem_cons.1 ((h p).1 (by simp [hp])) with rfl | k
      · have := a1 p hp; rw [cmpB_self] at this; omega
      · exact k
    · rcases List.mem_cons.1 ((h p).2 (by simp [hp])) with rfl | k
      · have := b1 p hp; rw [cmpB_self] at this; omega
      · exact k
theorem getM_some {M : List Pl} {q : ByteArray} {p : Pl} (h : getM M q = some p) : p ∈ M ∧ p.node.path = q := by
  refine ⟨List.mem_of_find?_eq_some h, ?_⟩
  have := List.find?_some h
  exact cmpB_zero (by simpa using this)
theorem getM_mem {M : List Pl} (ho : Ord M) {p : Pl} (h : p ∈ M) : getM M p.node.path = some p := by
  cases e : getM M p.node.path with
  | none =>
    have := List.find?_eq_none.1 e p h
    rw [cmpB_self] at this
    exact absurd (by decide) this
  | some q =>
    obtain ⟨h1, h2⟩ := getM_some e
    rw [ho.eq h1 h (by rw [h2, cmpB_self])]
theorem getM_none {M : List Pl} {q : ByteArray} (h : getM M q = none) : ∀ p ∈ M, p.node.path ≠ q := fun p hp e => by
  have := List.find?_eq_none.1 h p hp
  rw [e, cmpB_self] at this
  exact absurd (by decide) this
theorem getM_none_of {M : List Pl} {q : ByteArray} (h : ∀ p ∈ M, p.node.path ≠ q) : getM M q = none := by
  cases e : getM M q with
  | none => rfl
  | some p =>
    obtain ⟨h1, h2⟩ := getM_some e
    exact absurd h2 (h p h1)
theorem insM_len_none : ∀ {M : List Pl} {x : Pl}, getM M x.node.path = none → (insM M x).length = M.length + 1
  | [], x, _ => by simp [insM]
  | y :: r, x, h => by
    have h1 := getM_none h y (by simp)
    have h2 : getM r x.node.path = none := getM_none_of fun p hp => getM_none h p (by simp [hp])
    unfold insM
    split
    · simp [insM_len_none h2]
    · split
      · next e => exact absurd (cmpB_zero e) h1
      · simp

/-! ### What the blocks tell -/
structure SlotsOf (F : Nat → ByteArray) (M : List Pl) : Prop where
  low : ∀ p ∈ M, p.slot < 60
  tell : ∀ s, s < 60 → ∀ n, dec (F (2 * s) ++ F (2 * s + 1)) = some n ↔ (⟨s, n⟩ : Pl) ∈ M
theorem SlotsOf.apart {F : Nat → ByteArray} {M : List Pl} (h : SlotsOf F M) {p q : Pl} (hp : p ∈ M) (hq : q ∈ M) (e : p.slot = q.slot) : p = q := by
  have h1 := (h.tell p.slot (h.low p hp) p.node).2 hp
  have h2 := (h.tell q.slot (h.low q hq) q.node).2 hq
  rw [← e, h1] at h2
  obtain ⟨a, b⟩ := p
  obtain ⟨c, d⟩ := q
  simp only at e h2
  rw [e, Option.some.inj h2]
theorem loadM_mem {F : Nat → ByteArray} {M : List Pl} (h : SlotsOf F M) (ho : Ord M) : ∀ k, k ≤ 60 → ∀ p, p ∈ loadM F k ↔ p.slot < k ∧ p ∈ M
  | 0, _, p => by simp [loadM]
  | k + 1, hk, p => by
    have ih := loadM_mem h ho k (by omega)
    have ht := h.tell k (by omega)
    unfold loadM
    cases hd : dec (F (2 * k) ++ F (2 * k + 1)) with
    | none =>
      dsimp only
      rw [ih p]
      constructor
      · rintro ⟨a, b⟩; exact ⟨by omega, b⟩
      · rintro ⟨a, b⟩
        refine ⟨?_, b⟩
        rcases Nat.lt_or_eq_of_le (Nat.le_of_lt_succ a) with e | e
        · exact e
        · have := (ht p.node).2 (by rw [← e]; exact b)
          rw [hd] at this; cases this
    | some n =>
      dsimp only
      have hn := (ht n).1 hd
      rw [mem_insM _ _ (loadM_ord F k), ih p]
      constructor
      · rintro (rfl | ⟨⟨a, b⟩, _⟩)
        · exact ⟨by simp, hn⟩
        · exact ⟨by omega, b⟩
      · rintro ⟨a, b⟩
        rcases Nat.lt_or_eq_of_le (Nat.le_of_lt_succ a) with e | e
        · refine .inr ⟨⟨e, b⟩, fun hc => ?_⟩
          have := ho.eq b hn hc
          rw [this] at e
          exact absurd e (by simp)
        · exact .inl (h.apart b hn e)
/-- What is loaded is what the blocks tell. -/
theorem load_eq {F : Nat → ByteArray} {M : List Pl} (h : SlotsOf F M) (ho : Ord M) : loadM F 60 = M :=
  Ord.ext (loadM_ord F 60) ho fun p => by
    rw [loadM_mem h ho 60 (Nat.le_refl _)]
    exact ⟨fun h => h.2, fun hp => ⟨h.low p hp, hp⟩⟩
theorem SlotsOf.congr {F G : Nat → ByteArray} {M : List Pl} (h : SlotsOf F M) (e : ∀ i, i < 120 → G i = F i) : SlotsOf G M :=
  ⟨h.low, fun s hs n => by rw [e _ (by omega), e _ (by omega)]; exact h.tell s hs n⟩

/-! ### What deeds make of it -/
/-- The blocks behind puts. -/
def ov (V : Nat → ByteArray) (ps : List (Nat × ByteArray)) (i : Nat) : ByteArray := (lastOf ps i).getD (V i)
theorem ov_putP {V : Nat → ByteArray} {ps : List (Nat × ByteArray)} (hd : (keys ps).Nodup) (a : Nat) (s : ByteArray) (i : Nat) : ov V (putP ps a s) i = if a = i then pad s else ov V ps i := by
  unfold ov
  rw [lastOf_putP ps a s hd i]
  split <;> rfl
theorem slots_put {V : Nat → ByteArray} {M : List Pl} {ps : List (Nat × ByteArray)} {c : Nat} {n : Nd} {slot : Nat} (h : SlotsOf (ov V ps) M) (ho : Ord M) (hp : PsB c ps) (hs : SlotFor M n slot) (hok : okNode n = true) (hpz : n.path.size ≤ 60) : SlotsOf (ov V (put2 ps slot (enc n))) (insM M ⟨slot, n⟩) := by
  obtain ⟨hs6, hs⟩ := hs
  have hm := mem_insM M ⟨slot, n⟩ ho
  have hz : (enc n).size ≤ 512 := by
    rw [enc_size]
    simp only [okNode, Bool.and_eq_true, decide_eq_true_eq] at hok
    have := hok.2
    split at this
    · have : n.data.size ≤ 400 := by simpa using this
      omega
    · split at this
      · have h0 : n.data.size = 0 := by simpa using this
        omega
      · cases this
  have h1 := hp.even slot hs6 ((enc n).extract 0 (min (enc n).size 256)) (by rw [ByteArray.size_extract]; omega)
  have e1 : ∀ i, ov V (put2 ps slot (enc n)) i = if 2 * slot + 1 = i then pad ((enc n).extract (min (enc n).size 256) (enc n).size) else if 2 * slot = i then pad ((enc n).extract 0 (min (enc n).size 256)) else ov V ps i := fun i => by
    unfold put2
    rw [ov_putP h1.nd, ov_putP hp.nd]
  refine ⟨fun p hp => ?_, fun s hs' m => ?_⟩
  · rcases (hm p).1 hp with rfl | ⟨hp, _⟩
    · exact hs6
    · exact h.low p hp
  · rw [hm ⟨s, m⟩]
    by_cases es : s = slot
    · subst es
      have : dec (ov V (put2 ps s (enc n)) (2 * s) ++ ov V (put2 ps s (enc n)) (2 * s + 1)) = some n := by
        rw [e1, e1, if_neg (by omega), if_pos rfl, if_pos rfl]
        exact dec_two hok hpz
      rw [this]
      constructor
      · intro e; exact .inl (by rw [Option.some.inj e])
      · rintro (e | ⟨e, k⟩)
        · injection e with _ e2; rw [e2]
        · exfalso
          rcases hs with ⟨old, g1, g2⟩ | ⟨g1, g2⟩
          · obtain ⟨k1, k2⟩ := getM_some g1
            have := h.apart e k1 (by simp [g2])
            apply k
            show cmpB m.path n.path = 0
            rw [← k2, ← this, cmpB_self]
          · exact g2 _ e rfl
    · rw [e1, e1, if_neg (by omega), if_neg (by omega), if_neg (by omega), if_neg (by omega), h.tell s hs' m]
      constructor
      · intro e
        refine .inr ⟨e, fun k => ?_⟩
        have k' : m.path = n.path := cmpB_zero k
        have hg := getM_mem ho e
        rw [show (⟨s, m⟩ : Pl).node.path = n.path from k'] at hg
        rcases hs with ⟨old, g1, g2⟩ | ⟨g1, g2⟩
        · rw [hg] at g1
          have := Option.some.inj g1
          rw [← this] at g2
          exact es g2
        · rw [hg] at g1; cases g1
      · rintro (e | ⟨e, _⟩)
        · injection e with e1 _; exact absurd e1 es
        · exact e
theorem slots_del {V : Nat → ByteArray} {N : List Pl} {ps : List (Nat × ByteArray)} {c : Nat} {p : Pl} (hN : SlotsOf (ov V ps) N) (hp : PsB c ps) (h1 : ∀ q ∈ N, q.slot = p.slot → q = p) (h2 : ∀ q ∈ N, q.node.path = p.node.path → q = p) : SlotsOf (ov V (putP ps (2 * p.slot) ⟨#[]⟩)) (delM N p.node.path) := by
  refine ⟨fun q hq => hN.low q (List.mem_filter.1 hq).1, fun s hs' m => ?_⟩
  rw [ov_putP hp.nd, ov_putP hp.nd, if_neg (show ¬ 2 * p.slot = 2 * s + 1 by omega)]
  unfold delM
  rw [List.mem_filter]
  by_cases es : p.slot = s
  · rw [if_pos (by omega), dec_zero]
    constructor
    · intro e; cases e
    · rintro ⟨e, k⟩
      have := h1 _ e es.symm
      rw [this, cmpB_self] at k
      exact absurd k (by simp)
  · rw [if_neg (by omega), hN.tell s hs' m]
    constructor
    · intro e
      refine ⟨e, ?_⟩
      cases hc : (cmpB m.path p.node.path == 0) with
      | false => simp
      | true =>
        have := h2 _ e (cmpB_zero (by simpa using hc))
        rw [← this] at es
        exact absurd rfl es
    · exact fun h => h.1
theorem takeSt_cons (q : ByteArray) (st : List Pl × List (Nat × ByteArray)) (p : Pl) (r : List Pl) : takeSt q st (p :: r) = takeSt q (if hit q p then (delM st.1 p.node.path, putP st.2 (2 * p.slot) ⟨#[]⟩) else st) r := rfl
theorem slots_take {V : Nat → ByteArray} {M : List Pl} (q : ByteArray) (c : Nat) (ho : Ord M) (ha : ∀ p ∈ M, ∀ q ∈ M, p.slot = q.slot → p = q) (hlow : ∀ p ∈ M, p.slot < 60) : ∀ (xs : List Pl) (st : List Pl × List (Nat × ByteArray)), (∀ p ∈ xs, p ∈ M) → (∀ p ∈ st.1, p ∈ M) → SlotsOf (ov V st.2) st.1 → PsB c st.2 → SlotsOf (ov V (takeSt q st xs).2) (takeSt q st xs).1
  | [], st, _, _, h, _ => h
  | p :: r, st, hx, hst, h, hp => by
    have hpM := hx p (by simp)
    rw [takeSt_cons]
    split
    · refine slots_take q c ho ha hlow r _ (fun x k => hx x (by simp [k])) (fun x k => hst x (List.mem_filter.1 k).1) ?_ (hp.even p.slot (hlow p hpM) _ (by decide))
      exact slots_del h hp (fun y hy e => ha y (hst y hy) p hpM e) fun y hy e => ho.eq (hst y hy) hpM (by rw [e, cmpB_self])
    · exact slots_take q c ho ha hlow r st (fun x k => hx x (by simp [k])) hst h hp
theorem takeSt_mem (q : ByteArray) : ∀ (xs : List Pl) (st : List Pl × List (Nat × ByteArray)) (p : Pl), p ∈ (takeSt q st xs).1 ↔ p ∈ st.1 ∧ ∀ x ∈ xs, hit q x = true → p.node.path ≠ x.node.path
  | [], st, p => by simp [takeSt]
  | x :: r, st, p => by
    rw [takeSt_cons, takeSt_mem q r]
    cases hh : hit q x with
    | false =>
      simp only [Bool.false_eq_true, if_false, List.mem_cons]
      constructor
      · rintro ⟨a, b⟩
        refine ⟨a, ?_⟩
        rintro y (rfl | hy) k
        · rw [hh] at k; cases k
        · exact b y hy k
      · rintro ⟨a, b⟩
        exact ⟨a, fun y hy k => b y (.inr hy) k⟩
    | true =>
      simp only [if_true, delM, List.mem_filter, List.mem_cons]
      constructor
      · rintro ⟨⟨a, a2⟩, b⟩
        refine ⟨a, ?_⟩
        rintro y (rfl | hy) k e
        · rw [e, cmpB_self] at a2; simp at a2
        · exact b y hy k e
      · rintro ⟨a, b⟩
        refine ⟨⟨a, ?_⟩, fun y hy k => b y (.inr hy) k⟩
        have := b x (.inl rfl) hh
        cases hc : (cmpB p.node.path x.node.path == 0) with
        | false => rfl
        | true => exact absurd (cmpB_zero (by simpa using hc)) this
theorem hit_path {q : ByteArray} {x y : Pl} (h : x.node.path = y.node.path) : hit q x = hit q y := by unfold hit; rw [h]
/-- A take leaves what it does not hit. -/
theorem take_filter (q : ByteArray) {M : List Pl} (ho : Ord M) (ps : List (Nat × ByteArray)) (c : Nat) (hp : PsB c ps) (hl : ∀ p ∈ M, p.slot < 60) : (takeSt q (M, ps) M).1 = M.filter fun p => !hit q p := by
  refine Ord.ext (takeSt_ok q c M (M, ps) ho hp hl).1 (List.Pairwise.filter _ ho) fun p => ?_
  rw [takeSt_mem, List.mem_filter]
  constructor
  · rintro ⟨a, b⟩
    refine ⟨a, ?_⟩
    cases hh : hit q p with
    | false => rfl
    | true => exact absurd rfl (b p a hh)
  · rintro ⟨a, b⟩
    refine ⟨a, fun x hx k e => ?_⟩
    rw [hit_path e, k] at b
    cases b
/-- A deed that is done keeps the blocks and the map together. -/
theorem D1.slots {V : Nat → ByteArray} {M : List Pl} {ps : List (Nat × ByteArray)} {x : Dd} {M' : List Pl} {ps' : List (Nat × ByteArray)} {c : Nat} (h : D1 M ps x 0 M' ps') (hok : okDeed x = true) (fit : Fit x) (mo : MOk M) (hp : PsB c ps) (hs : SlotsOf (ov V ps) M) : SlotsOf (ov V ps') M' := by
  rcases h with ⟨_, ⟨_, h4, _⟩ | ⟨_, _, rfl, rfl⟩⟩ | ⟨htk, he, ⟨hne, _⟩ | ⟨_, slot, hsf, rfl, rfl⟩⟩
  · cases h4
  · exact slots_take x.node.path c mo.ord (fun p hp q hq e => hs.apart hp hq e) mo.slot M (M, ps) (fun p h => h) (fun p h => h) hs hp
  · exact absurd he.symm hne
  · refine slots_put hs mo.ord hp hsf ?_ fit.pz
    unfold okDeed at hok
    rw [htk] at hok
    simpa using (Bool.and_eq_true _ _ ▸ hok).2
theorem Chain.slots {V : Nat → ByteArray} {M : List Pl} {ps : List (Nat × ByteArray)} {l : List Dd} {M' : List Pl} {ps' : List (Nat × ByteArray)} {c : Nat} (h : Chain M ps l M' ps') (hok : ∀ x ∈ l, okDeed x = true) (fit : ∀ x ∈ l, Fit x) (mo : MOk M) (hp : PsB c ps) (hs : SlotsOf (ov V ps) M) : SlotsOf (ov V ps') M' := by
  induction h with
  | nil => exact hs
  | snoc h k ih =>
    have h1 := ih (fun x hx => hok x (by simp [hx])) fun x hx => fit x (by simp [hx])
    obtain ⟨m1, p1⟩ := h.ok (fun x hx => fit x (by simp [hx])) mo hp
    exact k.slots (hok _ (by simp)) (fit _ (by simp)) m1 p1 h1
end Go.Proofs.YtcbindgpbeaebaaGreatDoor

namespace Go.Proofs.YtcbindgpbeaebaaGreatDoor
open Go.RowKit Go.Deep

/-- A disk that is well, and has these nodes. -/
structure Hd (d : Dk) (M : List Pl) : Prop where
  ok : d.Ok
  n3 : 300 ≤ d.safe.length
  late : d.late = []
  well : d.Well
  fail : d.failed = 0
  clr : rd d.safe 0 = pad (recB [])
  sz : ∀ i, i < 120 → (vw d i).size = 256
  mo : MOk M
  slots : SlotsOf (vw d) M
theorem Hd.life {d : Dk} {M : List Pl} (h : Hd d M) : d.life ≠ 0 := by rw [h.well.2]; decide
theorem Hd.load {d : Dk} {M : List Pl} (h : Hd d M) : loadM (vw d) 60 = M := load_eq h.slots h.mo.ord
theorem commit_well {d : Dk} (hw : d.Well) (ps : List (Nat × ByteArray)) : (commitL d ps false).1 = 0 ∧ (commitL d ps false).2.2 = false ∧ (commitL d ps false).2.1.Well := by
  unfold commitL
  rw [if_neg (by simp)]
  split
  · exact ⟨rfl, rfl, hw⟩
  · obtain ⟨a1, a2⟩ := Dk.through_well hw (room 0 ps) ps
    obtain ⟨b1, b2⟩ := Dk.through_well a2 (home ps) []
    rw [if_pos a1, if_pos b1]
    exact ⟨rfl, rfl, b2⟩
theorem lastOf_key {ps : List (Nat × ByteArray)} {i : Nat} {s : ByteArray} (h : lastOf ps i = some s) (hz : ∀ p ∈ ps, p.2.size = 256) : s.size = 256 := by
  obtain ⟨x, hx, rfl⟩ := lastOf_mem ps i s h
  exact hz x hx
/-- A transaction that is committed on a disk that is well. -/
theorem Hd.commit {d : Dk} {M : List Pl} (h : Hd d M) {L : List Dd} {M1 : List Pl} {ps1 : List (Nat × ByteArray)} (hc : Chain M [] L M1 ps1) (h12 : L.length ≤ 12) (hok : ∀ x ∈ L, okDeed x = true) (fit : ∀ x ∈ L, Fit x) :
    (commitL d ps1 false).1 = 0 ∧ (commitL d ps1 false).2.2 = false ∧ Hd (commitL d ps1 false).2.1 M1 := by
  obtain ⟨c1, c2, c3⟩ := commit_well h.well ps1
  refine ⟨c1, c2, ?_⟩
  obtain ⟨mo1, pb⟩ := hc.ok fit h.mo (PsB.nil 0)
  have hs := hc.slots (V := vw d) hok fit h.mo (PsB.nil 0) (h.slots.congr fun i _ => rfl)
  have hn := h.n3
  by_cases h0 : ps1.length = 0
  · have e : commitL d ps1 false = (0, d, false) := by unfold commitL; rw [if_neg (by simp), if_pos h0]
    rw [e]
    have : ps1 = [] := List.length_eq_zero_iff.1 h0
    subst this
    exact ⟨h.ok, h.n3, h.late, h.well, h.fail, h.clr, h.sz, mo1, hs.congr fun i _ => rfl⟩
  · have hl := pb.len
    have hb4 : ∀ p ∈ ps1, 90 + p.1 < d.safe.length := fun p hp => by
      have := pb.lt p.1 (List.mem_map_of_mem hp)
      omega
    obtain ⟨g1, _, g3, _, _, g6⟩ := commit_crash d ps1 h.ok (by rw [h.fail]; decide) h.late (by omega) (by omega) (by omega) hb4 pb.sz h.clr
    rcases g6 with ⟨g6, _⟩ | ⟨_, _, k3, k4, k5⟩
    · rw [c1] at g6; cases g6
    · have hv : ∀ i, i < 120 → vw (commitL d ps1 false).2.1 i = ov (vw d) ps1 i := fun i hi => by
        unfold vw ov
        rw [k5.2 i (by omega)]
      refine ⟨g1, by omega, k3, c3, by rw [k4, h.fail], k5.1, fun i hi => ?_, mo1, hs.congr hv⟩
      rw [hv i hi]
      unfold ov
      cases hk : lastOf ps1 i with
      | none => exact h.sz i hi
      | some s => exact lastOf_key hk pb.sz
end Go.Proofs.YtcbindgpbeaebaaGreatDoor
