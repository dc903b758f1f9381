/- The statement FrameParts's own text, walked. -/
import Derived.Test.YtgldfobfchnkeaaFrParts3
namespace Go.Proofs.Ytgldfobfchnkeaa
open Go.RowKit

theorem vb_kind (k : Nat) (hk : k < 6) : Value.int .u8 (1 + (k : Int)) = vb (UInt8.ofNat (k + 1)) ∧ 1 ≤ bn (UInt8.ofNat (k + 1)) ∧ bn (UInt8.ofNat (k + 1)) ≤ 15 := by
  have e : bn (UInt8.ofNat (k + 1)) = 1 + (k : Int) := by unfold bn; rw [UInt8.toNat_ofNat']; omega
  exact ⟨by rw [vb, e], by omega, by omega⟩
set_option maxRecDepth 100000 in
set_option maxHeartbeats 4000000 in
theorem parts_any (B : Nat) (v1 v2 : Value) (bs : List (List UInt8)) (cuts : List UInt8) (w : World) (h1 : Sls w B v1 bs) (h2 : Sl w B v2 cuts) (hB : B ≤ w.heap.size) :
    Calls Try.prog 6 #[v1, v2] w fun e w' => e = .returned (.bool true) ∧ Below w.heap.size w w' := by
  obtain ⟨i0, hi, hz0, hz1, hz2⟩ := info_parts info_rf
  have H2 := Lib.hid h2
  obtain ⟨A1, c1, rfl, hc1a, hc1b, hcells⟩ := h1
  obtain ⟨A2, c2, rfl, _, hcu1, hcu2, _⟩ := h2
  have HC := Lib.hid hcells; clear hcells
  go_enter Try.func6, Try.ntmps6
  go_wp2_with fail
  refine (awake6 w).mono ?_
  rintro e w1 ⟨rfl, hb⟩
  have HB1 := Lib.hid hb; clear hb
  have hW1 : w.heap.size ≤ w1.heap.size := HB1.out.size
  go_upto_block 0 with fail
  go_cut [5, 6] (fun s5 s6 wx => ∃ k, Inv1 w1 k s5 s6 wx)
  case first =>
    go_wp2_with fail
    go_loopw [5, 6, 21] (fun s5 s6 i wr => ∃ k : Nat, Inv1 w1 k s5 s6 wr ∧ k ≤ bs.length ∧ i = .int .i64 (k : Int)) (fun _ _ i _ => bs.length - (intOf i).toNat)
    case atStart => exact ⟨0, ⟨[], ⟨OwnB.nil _ _, World.ownsRow_nil _ _ _ _, (fun _ h => by cases h), Below.refl _ _⟩, rfl, (fun _ h => by cases h), (fun _ h => by cases h), by omega⟩, Nat.zero_le _, rfl⟩
    case round =>
      obtain ⟨k, hI, hk, rfl⟩ := hrel
      by_cases hlt : k < bs.length
      · by_cases h6 : k < 6
        · obtain ⟨ws, hP, hl, hg, h300, _⟩ := hI
          have HP := Lib.hid hP; clear hP
          have Hl := Lib.hid hl; clear hl
          have Hg := Lib.hid hg; clear hg
          have H3 := Lib.hid h300; clear h300
          obtain ⟨b1, o1, rfl, hb1, hcs⟩ := HC.out (by omega)
          obtain ⟨vj, hvj, hslj⟩ := hcs k hlt
          have hc : wr.cell? ⟨b1, o1 + k, none⟩ = some vj := (HP.out.b.cell (p := ⟨b1, o1 + k, none⟩) (by show b1 < w1.heap.size; omega)).trans ((HB1.out.cell (p := ⟨b1, o1 + k, none⟩) (by show b1 < w.heap.size; omega)).trans hvj)
          have HJ := Lib.hid ((hslj.below HB1.out hB).below HP.out.b (by omega)); clear hslj hvj
          clear hcs
          obtain ⟨hkv, hk1, hk2⟩ := vb_kind k h6
          obtain ⟨kk, hkk⟩ : ∃ kk, kk = UInt8.ofNat (k + 1) := ⟨_, rfl⟩
          rw [← hkk] at hkv hk1 hk2
          clear hkk
          have HKV := Lib.hid hkv; clear hkv
          obtain ⟨lj, hlj⟩ : ∃ lj, lj = bs[k] := ⟨_, rfl⟩
          rw [← hlj] at HJ
          clear hlj
          obtain ⟨Aj, cj, rfl, _, _, _, _⟩ := HJ.out
          go_wp2_with fail
          refine (cut_any w1.heap.size _ lj 300 wr (HJ.out.more (by omega)) HP.out.b.size (by decide) (by decide)).mono ?_
          rintro e w2 ⟨x1, rfl, hO, hb⟩
          obtain ⟨lb, hlb⟩ : ∃ lb, lb = lj.take (300 : Int).toNat := ⟨_, rfl⟩
          have hlb3 : lb.length ≤ 300 := by rw [hlb, List.length_take]; exact Nat.min_le_left _ _
          rw [← hlb] at hO
          clear hlb
          obtain ⟨Ax, cx, rfl, _, _, _, _⟩ := hO.sl
          have hs2 : wr.heap.size ≤ w2.heap.size := hb.size
          have hP0 := HP.out
          have HX := Lib.hid hO; clear hO
          have HP2 := Lib.hid (HP.out.below hb)
          have hsr : w1.heap.size ≤ wr.heap.size := HP.out.b.size
          clear hb HJ HP
          go_wp2_with fail
          rw [HKV.out]
          have HA := Lib.hid ((Below.refl w2.heap.size w2).alloc (Nat.le_refl _) (.cells #[vb kk, .slice Ax lb.length cx] 33))
          refine (packRef_ok kk (.slice Ax lb.length cx) lb w2.heap.size _ (HX.out.sl.below HA.out (Nat.le_refl _)) (by simp) hk1 hk2 (by omega)).mono ?_
          rintro e w3 ⟨p, rfl, hO, hb⟩
          obtain ⟨Ap, cp, rfl, _, _, _, _⟩ := hO.sl
          have hc3 : w3.heap[w2.heap.size]? = some (.cells #[vb kk, .slice Ax lb.length cx] 33 (0, 0)) := (hb.block _ (by simp)).trans (heap_alloc_new w2 _)
          have hs3 : w2.heap.size + 1 ≤ w3.heap.size := by simpa using hb.size
          have hP3 := (HP2.out.below HA.out).below hb
          have HM : Hid (Mid w1 u5 u6 ws w2.heap.size kk (.slice Ax lb.length cx) (.slice Ap (frm kk lb).length cp) lb (packs (keys ws)) ws.length (fcells ws) w3) := Lib.hid
            ⟨hP3.a, hP3.r, hP3.o,
              ⟨((HX.out.below HA.out).below hb).lower (by omega), by
                by_cases hn : (Value.slice Ax lb.length cx).ownBlock = none
                · exact .inl hn
                · right
                  intro e
                  cases he : (Value.slice Ax lb.length cx).ownBlock with
                  | none => exact hn he
                  | some j =>
                    have h1 := (HX.out.lt j he).1
                    have h2 := (hP0.a.lt j (by rw [← e, he])).2
                    omega⟩,
              ⟨hO.lower (by simp; omega), by
                by_cases hn : (Value.slice Ap (frm kk lb).length cp).ownBlock = none
                · exact .inl hn
                · right
                  intro e
                  cases he : (Value.slice Ap (frm kk lb).length cp).ownBlock with
                  | none => exact hn he
                  | some j =>
                    have h1 := (hO.lt j he).1
                    have h2 := (hP0.a.lt j (by rw [← e, he])).2
                    simp at h1
                    omega⟩,
              hc3, fun j e => by have := (World.ownsRow.lt hP0.r j e).2; omega, hP3.b⟩
          have hB3 : Blk w3 w2.heap.size [vb kk, .slice Ax lb.length cx] := ⟨_, hc3⟩
          have i0' := hB3.at (o := 0) rfl
          have i1' := hB3.at (o := 1) rfl
          have Hlen : Hid ((packs (keys ws)).length + (frm kk lb).length ≤ 5000) := Lib.hid (by
            have h1 := packs_len (F := keys ws) (by intro x hx; unfold keys at hx; obtain ⟨y, hy, rfl⟩ := List.mem_map.1 hx; exact H3.out y hy)
            have h2 : (keys ws).length = k := by unfold keys; rw [List.length_map, Hl.out]
            rw [h2] at h1
            rw [frm_length]
            omega)
          have Hwl : Hid (ws.length ≤ 6) := Lib.hid (by rw [Hl.out]; omega)
          have hs13 : w1.heap.size ≤ w3.heap.size := by omega
          have hu6 : Hid (u6.ownBlock ≠ some w3.heap.size) := Lib.hid (by intro e; have := (World.ownsRow.lt hP0.r _ e).2; omega)
          have hu5 : Hid (u5.ownBlock ≠ some w3.heap.size) := Lib.hid (by intro e; have := (hP0.a.lt _ e).2; omega)
          clear hB3 hP3 hP0 hO hb HX HP2 HA
          go_wp2_with fail
          go_region_held3 (fun w' => w'.cell? ⟨w2.heap.size, 0, none⟩ = some (vb kk) ∧ w'.cell? ⟨w2.heap.size, 1, none⟩ = some (.slice Ax lb.length cx)) (first | go_keep | exact ⟨j0, j1⟩ | exact ⟨k0, k1⟩)
            (first
              | ((refine step_app_sl rfl (.tmp 39) (.tmp 40) rfl w1.heap.size u5 (packs (keys ws)) (frm kk lb) (by go_simp) (by exact HM.out.drew.a) w3.heap.size (.slice Ap (frm kk lb).length cp) (by go_simp) (by exact HM.out.drew.p.1.sl) (by have := Hlen.out; omega) hs13 ?_; intro v' w4 hv hg ho; have hM := HM.out.drew.appA hv hg ho; obtain ⟨Av, cv, rfl, _, _, _, _⟩ := hM.a.sl; have HM1 := Lib.hid hM; have j0 := (show Blk w4 w2.heap.size [vb kk, .slice Ax lb.length cx] from ⟨_, hM.c⟩).at (o := 0) rfl; have j1 := (show Blk w4 w2.heap.size [vb kk, .slice Ax lb.length cx] from ⟨_, hM.c⟩).at (o := 1) rfl; clear hv; clear hg; clear ho; clear hM))
              | ((refine step_appR rfl (.tmp 42) (.tmp 44) rfl w1.heap.size u6 ws.length (fcells ws) (by go_simp) (by exact (HM1.out.alloc _).r) w4.heap.size kk Ax lb.length cx (by go_simp) (by exact heap_alloc_new w4 _) (by have := Hwl.out; omega) (by have := HM1.out.base; simp; omega) ?_; intro g2 cap2 w5 hv hg ho; have hM := (HM1.out.alloc _).appW hv hg ho; have HM2 := Lib.hid hM; have k0 := (show Blk w5 w2.heap.size [vb kk, .slice Ax lb.length cx] from ⟨_, hM.c⟩).at (o := 0) rfl; have k1 := (show Blk w5 w2.heap.size [vb kk, .slice Ax lb.length cx] from ⟨_, hM.c⟩).at (o := 1) rfl; clear hv; clear hg; clear ho; clear hM))
              | ((refine step_app_sl rfl (.tmp 39) (.tmp 40) rfl w1.heap.size u5 (packs (keys ws)) (frm kk lb) (by go_simp) (by exact (HM.out.alloc (.cells #[vb kk, .slice Ax lb.length cx] 33)).drew.a) (w3.heap.size + 1) (.slice Ap (frm kk lb).length cp) (by go_simp) (by exact (HM.out.p.1.sl.below ((Below.refl w3.heap.size w3).alloc (Nat.le_refl _) _).drew (Nat.le_refl _)).more (by omega)) (by have := Hlen.out; omega) (by simp; omega) ?_; intro v' w4 hv hg ho; have hM := (HM.out.alloc (.cells #[vb kk, .slice Ax lb.length cx] 33)).drew.appA hv hg ho; have hbs : w4.heap[w3.heap.size]? = some (.cells #[vb kk, .slice Ax lb.length cx] 33 (0, 0)) := (hg.block w3.heap.size (by simp) (fun e => hu5.out e.symm)).trans (heap_alloc_new w3 _); have HBS := Lib.hid hbs; obtain ⟨Av, cv, rfl, _, _, _, _⟩ := hM.a.sl; have HM1b := Lib.hid hM; have j0 := (show Blk w4 w2.heap.size [vb kk, .slice Ax lb.length cx] from ⟨_, hM.c⟩).at (o := 0) rfl; have j1 := (show Blk w4 w2.heap.size [vb kk, .slice Ax lb.length cx] from ⟨_, hM.c⟩).at (o := 1) rfl; clear hv; clear hg; clear ho; clear hM; clear hbs))
              | ((refine step_appR rfl (.tmp 42) (.tmp 44) rfl w1.heap.size u6 ws.length (fcells ws) (by go_simp) (by exact HM1b.out.r) w3.heap.size kk Ax lb.length cx (by go_simp) (by exact HBS.out) (by have := Hwl.out; omega) (by exact HM1b.out.base) ?_; intro g2 cap2 w5 hv hg ho; have hM := HM1b.out.appW hv hg ho; have HM2 := Lib.hid hM; have k0 := (show Blk w5 w2.heap.size [vb kk, .slice Ax lb.length cx] from ⟨_, hM.c⟩).at (o := 0) rfl; have k1 := (show Blk w5 w2.heap.size [vb kk, .slice Ax lb.length cx] from ⟨_, hM.c⟩).at (o := 1) rfl; clear hv; clear hg; clear ho; clear hM)))
          all_goals
            have hM := HM2.out
            rw [List.length_append] at hM
            have HI : Hid (Inv1 w1 (k + 1) (.slice Av ((packs (keys ws)).length + (frm kk lb).length) cv) (.slice (some ⟨g2, 0, none⟩) (ws.length + 1) cap2) w5) := Lib.hid
              ⟨_, hM.par, by rw [List.length_append, Hl.out]; rfl, fun x hx => by
                have hx' : x ∈ keys ws ++ [(kk, lb)] := by unfold keys at hx ⊢; simpa using hx
                rcases List.mem_append.1 hx' with h | h
                · exact Hg.out x h
                · rw [List.mem_singleton] at h; subst h; exact ⟨hk1, hk2, by show lb.length ≤ 2048; omega⟩, fun x hx => by
                rcases List.mem_append.1 hx with h | h
                · exact H3.out x h
                · rw [List.mem_singleton] at h; subst h; exact hlb3, by omega⟩
            clear hM
            go_wp2_with fail
            go_roundw
            case rel => exact ⟨k + 1, HI.out, by omega, by go_num⟩
            case measure => simp [intOf]; omega
        · have HI := Lib.hid hI; clear hI
          obtain ⟨b1, o1, rfl, hb1, hcs⟩ := HC.out (by omega)
          obtain ⟨vj, hvj, hslj⟩ := hcs k hlt
          have hc : wr.cell? ⟨b1, o1 + k, none⟩ = some vj := by
            obtain ⟨ws, hP, _⟩ := HI.out
            exact (hP.b.cell (p := ⟨b1, o1 + k, none⟩) (by show b1 < w1.heap.size; omega)).trans ((HB1.out.cell (p := ⟨b1, o1 + k, none⟩) (by show b1 < w.heap.size; omega)).trans hvj)
          obtain ⟨Aj, cj, rfl, _, _, _, _⟩ := hslj
          clear hcs hvj
          go_wp2_with fail
          go_meet
          exact ⟨k, HI.out⟩
      · have HI := Lib.hid hI; clear hI
        go_wp2_with fail
        go_meet
        exact ⟨k, HI.out⟩
  case rest =>
    obtain ⟨kF, ws, hP, hl, hg, h300, h6⟩ := hcut
    have HP := Lib.hid hP; clear hP
    have Hg := Lib.hid hg; clear hg
    have H3 := Lib.hid h300; clear h300
    have Hl := Lib.hid hl; clear hl
    have hsc : w1.heap.size ≤ wc.heap.size := HP.out.b.size
    clear HC
    obtain ⟨A5, c5, rfl, _, _, _, _⟩ := HP.out.a.sl
    have Hsum : Hid ((packs (keys ws)).length ≤ 1818) := Lib.hid (by
      have h1 := packs_len (F := keys ws) (by intro x hx; unfold keys at hx; obtain ⟨y, hy, rfl⟩ := List.mem_map.1 hx; exact H3.out y hy)
      rw [keys_length, Hl.out] at h1
      omega)
    have Hw6 : Hid (ws.length ≤ 6) := Lib.hid (by rw [Hl.out]; exact h6)
    obtain ⟨P, hPP⟩ : ∃ P, P = packs (keys ws) := ⟨_, rfl⟩
    have HSl := Lib.hid HP.out.a.sl
    rw [← hPP] at Hsum HSl
    have HPP := Lib.hid hPP
    rw [← hPP]
    clear hPP
    go_wp2_with fail
    refine (newReader wc).mono ?_
    rintro e w2 ⟨V0, rfl, hr, hb⟩
    have HI0 : Hid (Inv2 wc P V0 (.slice A5 P.length c5) (.slice none 0 0) [] P [] [] w2) := Lib.hid ⟨rfl, HSl.out.below hb (Nat.le_refl _), hr, Eats.nil, rfl, World.ownsRow_nil _ _ _ _, (fun _ h => by cases h), hb⟩
    clear hr hb HSl
    go_wp2_with fail
    go_loopw [5, 13, 14] (fun s5 s13 s14 wr => ∃ (i : Nat) (z : Int) (V : Value) (A R l : List UInt8) (gs : List Told), Inv2 wc P V s5 s13 A R l gs wr ∧ s14 = .int .i64 z ∧ (0 < R.length → z = (i : Int) ∧ i ≤ cuts.length)) (fun s5 _ s14 _ => match s5 with | .slice _ n _ => if 0 < n then 1 + (cuts.length - (intOf s14).toNat) else 0 | _ => 0)
    case atStart => exact ⟨0, 0, V0, [], P, [], [], HI0.out, rfl, fun _ => ⟨rfl, Nat.zero_le _⟩⟩
    case round =>
      obtain ⟨i, z, V, A, R, l, gs, hI, rfl, hz⟩ := hrel
      have HI := Lib.hid hI
      obtain ⟨A6, c6, rfl, hA6, hc6a, hc6b, _⟩ := hI.rest
      clear hI hA6
      by_cases hR : 0 < R.length
      · obtain ⟨rfl, hi⟩ := hz hR
        clear hz
        by_cases hic : i < cuts.length
        · obtain ⟨Hc2a, Hc2b⟩ := And.intro hcu1 hcu2
          have hib : (i : Int) + 1 ≤ 9223372036854775807 := by omega
          have hib2 : (i : Int) < (cuts.length : Int) := by omega
          obtain ⟨nc, hnc⟩ : ∃ nc, nc = cuts[i].toNat := ⟨_, rfl⟩
          have hn255 : nc ≤ 255 := by rw [hnc]; have := cuts[i].toNat_lt; omega
          obtain ⟨A9, c9, e9, _, _, _, h9⟩ := H2.out
          injection e9 with e9a _ e9b
          obtain ⟨b9, o9, e9c, hb9, hs9⟩ := h9 (by omega)
          rw [e9c] at e9a
          subst e9a
          have hcut : wr.cell? ⟨b9, o9 + i, none⟩ = some (.int .u8 (nc : Int)) := by
            rw [hnc]
            exact (HI.out.b.cell (p := ⟨b9, o9 + i, none⟩) (by show b9 < wc.heap.size; omega)).trans ((HP.out.b.cell (p := ⟨b9, o9 + i, none⟩) (by show b9 < w1.heap.size; omega)).trans ((HB1.out.cell (p := ⟨b9, o9 + i, none⟩) (by show b9 < w.heap.size; omega)).trans (hs9 i hic)))
          clear hnc hs9 h9 e9c e9b
          by_cases hmn : R.length ≤ nc
          · obtain ⟨n, hn⟩ : ∃ n, n = R.length := ⟨_, rfl⟩
            have HN := Lib.hid hn; clear hn
            have HNR : Hid (n ≤ R.length) := Lib.hid (by have := HN.out; omega)
            have hmin : (R.length : Int) ≤ (nc : Int) := by omega
            have hrun := slice_hP A6 R.length c6 n (R.length : Int) (by rw [HN.out]) (by rw [HN.out]; exact hc6a)
            obtain ⟨V6, hrun2, hsl6⟩ := slice_from A6 R.length c6 n (R.length : Int) (by rw [HN.out]) (by rw [HN.out]; exact Nat.le_refl _) hc6a
            have HS6 := Lib.hid hsl6; clear hsl6
            have hcmp : ((n : Int) != (R.length : Int)) = false := by rw [HN.out]; simp
            have HSn : Hid (Sl wr wc.heap.size (.slice A6 n c6) (R.take n)) := Lib.hid (by
              obtain ⟨A7, c7, e7, _, _, _, hsl⟩ := HI.out.rest.take n HNR.out
              injection e7 with e8 _ e9
              subst e8; subst e9
              exact hsl)
            have HQ : Hid ((R.take n).length = n) := Lib.hid (by rw [List.length_take]; have := HNR.out; omega)
            go_wp2_with fail
            refine (feed_any HI.out.rd wc.heap.size (.slice A6 n c6) (R.take n) HSn.out n (by have h1 := HI.out.lens; have h2 := Hsum.out; have h3 := HQ.out; have h4 := HNR.out; rw [if_pos (by omega)]; exact h3.symm)).mono ?_
            rintro e w3 ⟨rfl, V1, hr, hc, hn1⟩
            rw [List.take_of_length_le (by have := HQ.out; omega)] at hr
            have HR3 := Lib.hid hr; clear hr
            have HC3 := Lib.hid hc; clear hc
            have HN3 := Lib.hid hn1; clear hn1
            go_wp2_with fail
            refine (take_ok HR3.out 10 (by decide) (by decide)).mono ?_
            rintro e w4 ⟨vf, fs, V2, rfl, hrow, hbd, hA, hc, hv2⟩
            have hg3 : ∃ (v' : Value) (w5 : World), True := ⟨u13, w4, trivial⟩
            clear hg3
            have hsz4 : w3.heap.size ≤ w4.heap.size := hc.size
            have hsz3 : wc.heap.size < w3.heap.size := HR3.out.blk.lt
            have hfk : w4.ownsRow (wc.heap.size + 1) 27 2 u13 gs.length (fcells gs) := by
              obtain ⟨k1, k2⟩ := feed_keeps HC3.out HN3.out HI.out.row ⟨l, HI.out.rd.own⟩ HI.out.bd
              exact (feed_keeps hc (newer_of hv2) k1 ⟨_, HR3.out.own⟩ k2).1
            have hfs : fs.length ≤ 10 := by
              obtain ⟨l3, _, ⟨h, _⟩ | ⟨h, _⟩⟩ := hA
              · omega
              · omega
            have hgl : gs.length ≤ 6 := by
              obtain ⟨F2, hF, _⟩ := eats_packs (F := keys ws) Hg.out HI.out.eat (by rw [HI.out.sum, HPP.out])
              have h1 := congrArg List.length hF
              rw [List.length_append, keys_length, keys_length] at h1
              have := Hw6.out
              omega
            have HFK := Lib.hid hfk; clear hfk
            have HROW := Lib.hid hrow; clear hrow
            have HONE := Lib.hid (one_fcells (W := w4) (base := w3.heap.size) (gs := fs) (fun x hx => ⟨_, hbd x hx⟩))
            have HBD := Lib.hid hbd; clear hbd
            have HAF := Lib.hid hA; clear hA
            have HC4 := Lib.hid hc; clear hc
            have HV2 := Lib.hid hv2; clear hv2
            go_wp2_with (at_builtin; ((with_reducible refine wpList_appF ?g1 (.tmp 76) (.tmp 78) ?g2 (wc.heap.size + 1) u13 gs.length (fcells gs) ?g3 ?g4 w3.heap.size vf fs.length (fcells fs) ?g5 ?g6 ?g7 ?g8 ?g9 ?_); (case g1 => rfl); (case g2 => rfl); (case g3 => rfl); (case g4 => exact HFK.out); (case g5 => rfl); (case g6 => exact HROW.out); (case g7 => exact HONE.out); (case g8 => omega); (case g9 => omega); rintro v' w5 hv hg ⟨A7, c7, rfl⟩; have HV := Lib.hid hv; clear hv; have HG := Lib.hid hg; clear hg))
            obtain ⟨l3, hI3⟩ := HI.out.next (W1 := w3) (W2 := w4) (W3 := w5) HPP.out Hg.out Hw6.out HR3.out HC3.out HN3.out HBD.out HAF.out HC4.out HV2.out (fun W' hW' => HS6.out W' wc.heap.size R (HI.out.rest.below hW' (Nat.le_refl _)) rfl) HV.out HG.out
            go_roundw
            case rel => exact ⟨i + 1, _, V2, A ++ R.take n, R.drop n, l3, gs ++ fs, hI3, by go_num, fun _ => ⟨by omega, by omega⟩⟩
            case measure =>
              obtain ⟨A8, c8, e8, _⟩ := hI3.rest
              rw [e8]
              show (if 0 < (R.drop n).length then 1 + (cuts.length - ((i : Int) + 1).toNat) else 0) < (if 0 < R.length then 1 + (cuts.length - (i : Int).toNat) else 0)
              rw [if_pos hR]
              split <;> omega
          · obtain ⟨n, hn⟩ : ∃ n, n = nc := ⟨_, rfl⟩
            have HN := Lib.hid hn; clear hn
            have HNR : Hid (n ≤ R.length) := Lib.hid (by have := HN.out; omega)
            have hmin : ¬ (R.length : Int) ≤ (nc : Int) := by omega
            have hrun := slice_hP A6 R.length c6 n (nc : Int) (by rw [HN.out]) (by have := HNR.out; omega)
            obtain ⟨V6, hrun2, hsl6⟩ := slice_from A6 R.length c6 n (nc : Int) (by rw [HN.out]) (by have := HNR.out; omega) hc6a
            have HS6 := Lib.hid hsl6; clear hsl6
            have hcmp : ((n : Int) != (nc : Int)) = false := by rw [HN.out]; simp
            have HSn : Hid (Sl wr wc.heap.size (.slice A6 n c6) (R.take n)) := Lib.hid (by
              obtain ⟨A7, c7, e7, _, _, _, hsl⟩ := HI.out.rest.take n HNR.out
              injection e7 with e8 _ e9
              subst e8; subst e9
              exact hsl)
            have HQ : Hid ((R.take n).length = n) := Lib.hid (by rw [List.length_take]; have := HNR.out; omega)
            go_wp2_with fail
            refine (feed_any HI.out.rd wc.heap.size (.slice A6 n c6) (R.take n) HSn.out n (by have h1 := HI.out.lens; have h2 := Hsum.out; have h3 := HQ.out; have h4 := HNR.out; rw [if_pos (by omega)]; exact h3.symm)).mono ?_
            rintro e w3 ⟨rfl, V1, hr, hc, hn1⟩
            rw [List.take_of_length_le (by have := HQ.out; omega)] at hr
            have HR3 := Lib.hid hr; clear hr
            have HC3 := Lib.hid hc; clear hc
            have HN3 := Lib.hid hn1; clear hn1
            go_wp2_with fail
            refine (take_ok HR3.out 10 (by decide) (by decide)).mono ?_
            rintro e w4 ⟨vf, fs, V2, rfl, hrow, hbd, hA, hc, hv2⟩
            have hg3 : ∃ (v' : Value) (w5 : World), True := ⟨u13, w4, trivial⟩
            clear hg3
            have hsz4 : w3.heap.size ≤ w4.heap.size := hc.size
            have hsz3 : wc.heap.size < w3.heap.size := HR3.out.blk.lt
            have hfk : w4.ownsRow (wc.heap.size + 1) 27 2 u13 gs.length (fcells gs) := by
              obtain ⟨k1, k2⟩ := feed_keeps HC3.out HN3.out HI.out.row ⟨l, HI.out.rd.own⟩ HI.out.bd
              exact (feed_keeps hc (newer_of hv2) k1 ⟨_, HR3.out.own⟩ k2).1
            have hfs : fs.length ≤ 10 := by
              obtain ⟨l3, _, ⟨h, _⟩ | ⟨h, _⟩⟩ := hA
              · omega
              · omega
            have hgl : gs.length ≤ 6 := by
              obtain ⟨F2, hF, _⟩ := eats_packs (F := keys ws) Hg.out HI.out.eat (by rw [HI.out.sum, HPP.out])
              have h1 := congrArg List.length hF
              rw [List.length_append, keys_length, keys_length] at h1
              have := Hw6.out
              omega
            have HFK := Lib.hid hfk; clear hfk
            have HROW := Lib.hid hrow; clear hrow
            have HONE := Lib.hid (one_fcells (W := w4) (base := w3.heap.size) (gs := fs) (fun x hx => ⟨_, hbd x hx⟩))
            have HBD := Lib.hid hbd; clear hbd
            have HAF := Lib.hid hA; clear hA
            have HC4 := Lib.hid hc; clear hc
            have HV2 := Lib.hid hv2; clear hv2
            go_wp2_with (at_builtin; ((with_reducible refine wpList_appF ?g1 (.tmp 76) (.tmp 78) ?g2 (wc.heap.size + 1) u13 gs.length (fcells gs) ?g3 ?g4 w3.heap.size vf fs.length (fcells fs) ?g5 ?g6 ?g7 ?g8 ?g9 ?_); (case g1 => rfl); (case g2 => rfl); (case g3 => rfl); (case g4 => exact HFK.out); (case g5 => rfl); (case g6 => exact HROW.out); (case g7 => exact HONE.out); (case g8 => omega); (case g9 => omega); rintro v' w5 hv hg ⟨A7, c7, rfl⟩; have HV := Lib.hid hv; clear hv; have HG := Lib.hid hg; clear hg))
            obtain ⟨l3, hI3⟩ := HI.out.next (W1 := w3) (W2 := w4) (W3 := w5) HPP.out Hg.out Hw6.out HR3.out HC3.out HN3.out HBD.out HAF.out HC4.out HV2.out (fun W' hW' => HS6.out W' wc.heap.size R (HI.out.rest.below hW' (Nat.le_refl _)) rfl) HV.out HG.out
            go_roundw
            case rel => exact ⟨i + 1, _, V2, A ++ R.take n, R.drop n, l3, gs ++ fs, hI3, by go_num, fun _ => ⟨by omega, by omega⟩⟩
            case measure =>
              obtain ⟨A8, c8, e8, _⟩ := hI3.rest
              rw [e8]
              show (if 0 < (R.drop n).length then 1 + (cuts.length - ((i : Int) + 1).toNat) else 0) < (if 0 < R.length then 1 + (cuts.length - (i : Int).toNat) else 0)
              rw [if_pos hR]
              split <;> omega
        · obtain ⟨n, hn⟩ : ∃ n, n = R.length := ⟨_, rfl⟩
          have HN := Lib.hid hn; clear hn
          have HNR : Hid (n ≤ R.length) := Lib.hid (by have := HN.out; omega)
          have hrun := slice_hP A6 R.length c6 n (R.length : Int) (by rw [HN.out]) (by rw [HN.out]; exact hc6a)
          obtain ⟨V6, hrun2, hsl6⟩ := slice_from A6 R.length c6 n (R.length : Int) (by rw [HN.out]) (by rw [HN.out]; exact Nat.le_refl _) hc6a
          have HS6 := Lib.hid hsl6; clear hsl6
          have hcmp : ((n : Int) != (R.length : Int)) = false := by rw [HN.out]; simp
          have HSn : Hid (Sl wr wc.heap.size (.slice A6 n c6) (R.take n)) := Lib.hid (by
            obtain ⟨A7, c7, e7, _, _, _, hsl⟩ := HI.out.rest.take n HNR.out
            injection e7 with e8 _ e9
            subst e8; subst e9
            exact hsl)
          have HQ : Hid ((R.take n).length = n) := Lib.hid (by rw [List.length_take]; have := HNR.out; omega)
          go_wp2_with fail
          refine (feed_any HI.out.rd wc.heap.size (.slice A6 n c6) (R.take n) HSn.out n (by have h1 := HI.out.lens; have h2 := Hsum.out; have h3 := HQ.out; have h4 := HNR.out; rw [if_pos (by omega)]; exact h3.symm)).mono ?_
          rintro e w3 ⟨rfl, V1, hr, hc, hn1⟩
          rw [List.take_of_length_le (by have := HQ.out; omega)] at hr
          have HR3 := Lib.hid hr; clear hr
          have HC3 := Lib.hid hc; clear hc
          have HN3 := Lib.hid hn1; clear hn1
          go_wp2_with fail
          refine (take_ok HR3.out 10 (by decide) (by decide)).mono ?_
          rintro e w4 ⟨vf, fs, V2, rfl, hrow, hbd, hA, hc, hv2⟩
          have hg3 : ∃ (v' : Value) (w5 : World), True := ⟨u13, w4, trivial⟩
          clear hg3
          have hsz4 : w3.heap.size ≤ w4.heap.size := hc.size
          have hsz3 : wc.heap.size < w3.heap.size := HR3.out.blk.lt
          have hfk : w4.ownsRow (wc.heap.size + 1) 27 2 u13 gs.length (fcells gs) := by
            obtain ⟨k1, k2⟩ := feed_keeps HC3.out HN3.out HI.out.row ⟨l, HI.out.rd.own⟩ HI.out.bd
            exact (feed_keeps hc (newer_of hv2) k1 ⟨_, HR3.out.own⟩ k2).1
          have hfs : fs.length ≤ 10 := by
            obtain ⟨l3, _, ⟨h, _⟩ | ⟨h, _⟩⟩ := hA
            · omega
            · omega
          have hgl : gs.length ≤ 6 := by
            obtain ⟨F2, hF, _⟩ := eats_packs (F := keys ws) Hg.out HI.out.eat (by rw [HI.out.sum, HPP.out])
            have h1 := congrArg List.length hF
            rw [List.length_append, keys_length, keys_length] at h1
            have := Hw6.out
            omega
          have HFK := Lib.hid hfk; clear hfk
          have HROW := Lib.hid hrow; clear hrow
          have HONE := Lib.hid (one_fcells (W := w4) (base := w3.heap.size) (gs := fs) (fun x hx => ⟨_, hbd x hx⟩))
          have HBD := Lib.hid hbd; clear hbd
          have HAF := Lib.hid hA; clear hA
          have HC4 := Lib.hid hc; clear hc
          have HV2 := Lib.hid hv2; clear hv2
          go_wp2_with (at_builtin; ((with_reducible refine wpList_appF ?g1 (.tmp 76) (.tmp 78) ?g2 (wc.heap.size + 1) u13 gs.length (fcells gs) ?g3 ?g4 w3.heap.size vf fs.length (fcells fs) ?g5 ?g6 ?g7 ?g8 ?g9 ?_); (case g1 => rfl); (case g2 => rfl); (case g3 => rfl); (case g4 => exact HFK.out); (case g5 => rfl); (case g6 => exact HROW.out); (case g7 => exact HONE.out); (case g8 => omega); (case g9 => omega); rintro v' w5 hv hg ⟨A7, c7, rfl⟩; have HV := Lib.hid hv; clear hv; have HG := Lib.hid hg; clear hg))
          obtain ⟨l3, hI3⟩ := HI.out.next (W1 := w3) (W2 := w4) (W3 := w5) HPP.out Hg.out Hw6.out HR3.out HC3.out HN3.out HBD.out HAF.out HC4.out HV2.out (fun W' hW' => HS6.out W' wc.heap.size R (HI.out.rest.below hW' (Nat.le_refl _)) rfl) HV.out HG.out
          go_roundw
          case rel => exact ⟨i + 1, _, V2, A ++ R.take n, R.drop n, l3, gs ++ fs, hI3, rfl, fun h => absurd h (by rw [HN.out]; simp)⟩
          case measure =>
            obtain ⟨A8, c8, e8, _⟩ := hI3.rest
            rw [e8]
            have h0 : (R.drop n).length = 0 := by rw [HN.out]; simp
            simp only [h0]
            rw [if_neg (by omega), if_pos hR]
            omega
      · have hR0 : R = [] := List.eq_nil_of_length_eq_zero (by omega)
        clear hz
        subst hR0
        obtain ⟨wo, rfl⟩ : ∃ wo : World, wo = wr := ⟨_, rfl⟩
        obtain ⟨hkeys, rfl⟩ := HI.out.all HPP.out Hg.out
        have hlen : gs.length = ws.length := by rw [← keys_length, hkeys, keys_length]
        obtain ⟨A13, c13, rfl, hf13, hm13⟩ := row_form HI.out.row
        obtain ⟨A16, c16, rfl, hf16, hm16⟩ := row_form HP.out.r
        have HKY := Lib.hid hkeys; clear hkeys
        have HL := Lib.hid hlen; clear hlen
        have hcmp : ((gs.length : Int) != (ws.length : Int)) = false := by rw [HL.out]; simp
        have hgl6 : gs.length ≤ 6 := by rw [HL.out]; exact Hw6.out
        go_wp2_with (first | (refine (waiting_any HI.out.rd).mono ?_; rintro e w3 ⟨rfl, rfl⟩) | (refine (broken_any HI.out.rd).mono ?_; rintro e w3 ⟨rfl, rfl⟩))
        go_loopw [97] (fun i wl => ∃ k : Nat, i = .int .i64 (k : Int) ∧ k ≤ gs.length ∧ Below wo.heap.size wo wl) (fun i _ => gs.length - (intOf i).toNat)
        case atStart => exact ⟨0, rfl, Nat.zero_le _, Below.refl _ _⟩
        case round =>
          obtain ⟨k, rfl, hk, hbl⟩ := hrel
          have HBL := Lib.hid hbl; clear hbl
          by_cases hlt : k < gs.length
          · obtain ⟨g1, d1, e1, hg1, hx0, hx1⟩ := row_at HI.out.row k hlt
            have hltw : k < ws.length := by rw [← HL.out]; exact hlt
            obtain ⟨g2, d2, e2, hg2, hy0, hy1⟩ := row_at HP.out.r k hltw
            injection e1 with e1a _ e1b
            injection e2 with e2a _ e2b
            subst e1a; subst e2a
            clear e1b e2b
            obtain ⟨hk1, hk2⟩ := keys_at HKY.out k hlt hltw
            have q0 := (HBL.out.cell (p := ⟨g1, k * 2, none⟩) (by show g1 < wo.heap.size; omega)).trans hx0
            have q1 := (HBL.out.cell (p := ⟨g1, k * 2 + 1, none⟩) (by show g1 < wo.heap.size; omega)).trans hx1
            have hbo := HI.out.b
            have hso : wc.heap.size ≤ wo.heap.size := hbo.size
            have p0 := (HBL.out.cell (p := ⟨g2, k * 2, none⟩) (by show g2 < wo.heap.size; omega)).trans ((hbo.cell (p := ⟨g2, k * 2, none⟩) (by show g2 < wc.heap.size; omega)).trans hy0)
            have p1 := (HBL.out.cell (p := ⟨g2, k * 2 + 1, none⟩) (by show g2 < wo.heap.size; omega)).trans ((hbo.cell (p := ⟨g2, k * 2 + 1, none⟩) (by show g2 < wc.heap.size; omega)).trans hy1)
            have HS1 := Lib.hid (((HI.out.bd gs[k] (List.getElem_mem hlt)).1.sl).below HBL.out (Nat.le_refl _))
            have HS2 := Lib.hid (((HP.out.o ws[k] (List.getElem_mem hltw)).1.sl.below hbo (Nat.le_refl _)).below HBL.out (by omega))
            obtain ⟨kk, hkk⟩ : ∃ kk, kk = gs[k].1 := ⟨_, rfl⟩
            obtain ⟨vx, hvx⟩ : ∃ vx, vx = gs[k].2.1 := ⟨_, rfl⟩
            obtain ⟨vy, hvy⟩ : ∃ vy, vy = ws[k].2.1 := ⟨_, rfl⟩
            obtain ⟨bb, hbb⟩ : ∃ bb, bb = gs[k].2.2 := ⟨_, rfl⟩
            rw [← hk1, ← hkk] at p0
            rw [← hk2, ← hbb, ← hvy] at HS2
            rw [← hkk] at q0
            rw [← hvx] at q1
            rw [← hvy] at p1
            rw [← hvx, ← hbb] at HS1
            clear hk1 hk2 hkk hvx hvy hbb hx0 hx1 hy0 hy1 hbo
            obtain ⟨Ax, cx, rfl, _, _, _, _⟩ := HS1.out
            obtain ⟨Ay, cy, rfl, _, _, _, _⟩ := HS2.out
            have hb1 : (k : Int) < (gs.length : Int) := by omega
            have hb2 : (k : Int) < (ws.length : Int) := by omega
            have hk0 : (0 : Int) ≤ (k : Int) := by omega
            go_wp2_with fail
            go_region_held3 (fun w' => w'.cell? ⟨g1, k * 2, none⟩ = some (vb kk) ∧ w'.cell? ⟨g1, k * 2 + 1, none⟩ = some (.slice Ax bb.length cx) ∧ w'.cell? ⟨g2, k * 2, none⟩ = some (vb kk) ∧ w'.cell? ⟨g2, k * 2 + 1, none⟩ = some (.slice Ay bb.length cy)) (first | go_keep | exact ⟨r0, r1, r2, r3⟩)
              ((go_at_call 15; refine (sameFr wo.heap.size wc.heap.size kk (.slice Ax bb.length cx) (.slice Ay bb.length cy) bb _ (HS1.out.below (Below.refl wr.heap.size wr).drew HBL.out.size) (HS2.out.below (Below.refl wr.heap.size wr).drew (by have := HBL.out.size; omega)) (by have := HBL.out.size; simp; omega) (by have := HBL.out.size; simp; omega)).mono ?_; rintro e w5 ⟨rfl, hb⟩; have hs5 := HBL.out.size; have r0 := (hb.cell (p := ⟨g1, k * 2, none⟩) (by show g1 < wr.heap.size; omega)).trans q0; have r1 := (hb.cell (p := ⟨g1, k * 2 + 1, none⟩) (by show g1 < wr.heap.size; omega)).trans q1; have r2 := (hb.cell (p := ⟨g2, k * 2, none⟩) (by show g2 < wr.heap.size; omega)).trans p0; have r3 := (hb.cell (p := ⟨g2, k * 2 + 1, none⟩) (by show g2 < wr.heap.size; omega)).trans p1; have HB5 : Hid (Below wo.heap.size wo w5) := Lib.hid (HBL.out.trans (((Below.refl wr.heap.size wr).drew.trans hb).mono hs5)); clear hb))
            all_goals
              go_wp2_with fail
              go_roundw
              case rel => exact ⟨k + 1, by go_num, by omega, HB5.out⟩
              case measure => simp [intOf]; omega
          · go_wp2_with fail
            go_ret
            exact ⟨rfl, HB1.out.trans ((HP.out.b.trans ((HI.out.b.trans (HBL.out.mono HI.out.b.size)).mono hsc)).mono hW1)⟩
end Go.Proofs.Ytgldfobfchnkeaa
