/- postmarkref23.Leaves: by contract. -/
import Derived.Test.YtibkijloibnkfaaHead10
import Derived.Test.YtibkijloibnkfaaHdB10
import Derived.Test.YtibkijloibnkfaaRLogHash8
import Derived.Deep.LoopGhost
import Derived.Deep.DeepCutAuto
import Derived.Test.YtibkijloibnkfaaRKnM16
import Derived.Test.YtibkijloibnkfaaRRoot6
import Derived.Test.YtibkijloibnkfaaRLogRoot8
import Derived.Test.YtibkijloibnkfaaHdBuild10
namespace Go.Pm
open Go Go.RowKit
def headsC (l : List Hd) : List (List Value) := l.map hdC
def HOk (l : List Hd) : Prop := ∀ h ∈ l, h.Ok
theorem headsC_len (l : List Hd) : (headsC l).length = l.length := List.length_map _
theorem headsC_app (a b : List Hd) : headsC (a ++ b) = headsC a ++ headsC b := List.map_append
theorem headsC_each {l : List Hd} (h : HOk l) : Each 69 (headsC l) := fun x hx => by
  obtain ⟨y, hy, rfl⟩ := List.mem_map.1 hx
  exact hdC_len (h y hy)
theorem headsC_one (l : List Hd) : ∀ x ∈ headsC l, ∀ c ∈ x, c.oneCell' = true := fun x hx c hc => by
  obtain ⟨y, _, rfl⟩ := List.mem_map.1 hx
  have h := hdC_one y
  rw [Array.all_eq_true_iff_forall_mem] at h
  exact h c (by simpa using hc)
theorem Ps.head {w : World} {lo hi : Nat} {a : Option Addr} {n cap : Nat} {l : List Hd} (h : Ps 69 w lo hi (.slice a n cap) (headsC l)) (hn : 0 < l.length) :
    ∃ b o, a = some ⟨b, o, none⟩ ∧ ∀ i (hi : i < l.length), w.rangeAt b (o + i * 69) (hdC l[i]) := by
  obtain ⟨b, o, rfl, _, _, _, hr⟩ := h.ne (by decide) (by rw [headsC_len]; exact hn)
  refine ⟨b, o, rfl, fun i hi => hr i _ ?_⟩
  unfold headsC
  rw [List.getElem?_map, List.getElem?_eq_getElem hi]
  rfl
def leavesF (l : List Hd) : List (List UInt8) := l.map (fun h => leafL (putHd h))
theorem leavesF_len (l : List Hd) : (leavesF l).length = l.length := List.length_map _
theorem leavesF_take (l : List Hd) (k : Nat) (h : k < l.length) : leavesF (l.take (k + 1)) = leavesF (l.take k) ++ [leafL (putHd l[k])] := by
  unfold leavesF
  rw [List.take_succ_eq_append_getElem h, List.map_append]
  rfl
end Go.Pm
namespace Go.Proofs.Ytibkijloibnkfaa
open Go.RowKit Go.Pm
namespace R23
set_option maxRecDepth 100000 in
set_option maxHeartbeats 8000000 in
/-- Leaves. -/
theorem leaves (v : Value) (lo hi : Nat) (l : List Hd) (w : World) (hv : Ps 69 w lo hi v (headsC l)) (hok : HOk l) (hlen : l.length ≤ 549755813888) :
    Calls Try.prog 90 #[v] w fun e w' => ∃ u, e = .returned u ∧ Ho 23 w' w.heap.size u (leavesF l) ∧ Kept None w w' := by
  obtain ⟨a, cap, rfl, g1, g2, g3⟩ := hv.form
  rw [headsC_len] at g1 hv ⊢
  obtain ⟨n, hn⟩ : ∃ n, n = l.length := ⟨_, rfl⟩
  rw [← hn] at g1 hlen hv ⊢
  have HV := hid hv
  have HN := hid (And.intro hn (And.intro hlen hok))
  clear hv hn hok g3
  have K0 := hid (Kept.refl None w)
  go_enter Try.func90, Try.ntmps90
  go_wp2
  go_loopg [3, 4] n (fun kx s3 s4 wr => ∃ (k : Nat) (ao : Option Addr) (no co : Nat), s4 = .int .i64 k ∧ s3 = .slice ao no co ∧ k ≤ n ∧ n - k ≤ kx ∧ Hid (Kept None w wr) ∧ Hid (Ho 23 wr w.heap.size (.slice ao no co) (leavesF (l.take k))))
  case atStart => exact ⟨0, _, _, _, rfl, rfl, Nat.zero_le _, Nat.le_refl _, K0, hid (Ho.nil _ _ _)⟩
  case round =>
    obtain ⟨k, ao, no, co, rfl, rfl, hk, hkx, HK, HO⟩ := hrel
    by_cases hlt : k < n
    · have hz : (k : Int) < (n : Int) := by omega
      have wk : IntKind.i64.wrap ((k : Int) + 1) = (k : Int) + 1 := by rw [IntKind.wrap_i64]; have := HN.out.2.1; omega
      have kl : k < l.length := by have := HN.out.1; omega
      obtain ⟨bb, o, q1, hc⟩ := (HV.out.kept HK.out (fun _ _ _ h => h)).head (by omega)
      obtain rfl := q1
      have rE := hc k kl
      have htk := leavesF_take l k kl
      have hxo := HN.out.2.2 _ (List.getElem_mem kl)
      obtain ⟨x, hx⟩ : ∃ x, x = l[k] := ⟨_, rfl⟩
      rw [← hx] at rE htk hxo
      have hB := fun W => RHp.bytes x W hxo
      have hLf := fun v lo hi W hv => RLg.leaf v lo hi (putHd x) W hv (by rw [putHd_len hxo]; decide)
      have h32 : (leafL (putHd x)).length = 32 := leafL_len _
      have aX : AggTy Try.prog 28 (hdC x).length := by rw [hdC_len hxo]; exact Hp.aHd
      simp only [hdV] at hB
      obtain ⟨CX, hCX⟩ : ∃ C, C = hdC x := ⟨_, rfl⟩
      rw [← hCX] at hB rE aX
      obtain ⟨lf, hlf⟩ : ∃ y, y = leafL (putHd x) := ⟨_, rfl⟩
      rw [← hlf] at htk hLf h32
      simp only [hashV] at hLf
      have hone := hsC_one [lf]
      obtain ⟨XA, hXA⟩ : ∃ X, X = (lf.map u8v).toArray := ⟨_, rfl⟩
      have hO := fun W => Ps.one 32 W 23 (lf.map u8v) (by rw [List.length_map]; exact h32)
      rw [← hXA] at hLf hO
      have hXs : XA.size = 32 := by rw [hXA]; simpa using h32
      have H := hid (And.intro hB (And.intro hLf (And.intro htk (And.intro h32 hXs))))
      have HO1 := hid hO
      clear hc hx htk hB hLf h32 hCX hlf hXA hXs hO hxo
      go_wp2_with (first | (refine wpList_load_at (.refl _) _ _ rfl rfl rE aX ?_) | fail)
      refine (H.out.1 wr).mono ?_
      rintro e w3 ⟨u, rfl, k3, b3⟩
      have d3 := b3.bs (Nat.le_refl _)
      obtain ⟨a3, c3, rfl⟩ := b3.form
      clear rE b3
      go_wp2_with fail
      refine (H.out.2.1 _ _ _ _ d3).mono ?_
      rintro e w4 ⟨rfl, k4⟩
      have k04 := HK.out.trans (k3.trans k4)
      have o4 := (HO.out.kept (k3.trans k4) (fun _ _ h => h))
      have k05 : Kept None w (w4.alloc (.cells XA 23)) := k04.alloc _
      have o5 : Ho 23 (w4.alloc (.cells XA 23)) w.heap.size (.slice ao no co) (leavesF (l.take k)) := ⟨o4.1, o4.2.alloc _⟩
      have s5 := k05.size
      have hX := H.out.2.2.2.2
      have hO5 := HO1.out w4
      clear k3 d3 k4 k04 o4 HK HO
      go_wp2_with (first | (refine wpList_one_item (.refl _) _ _ rfl Hk.rtHashes (by decide) rfl hX ?_) | (at_builtin; refine wpList_append_po (v := .slice ao no co) (u := .slice (some ⟨w4.heap.size, 0, none⟩) 1 1) (.refl _) _ _ 129 rfl Hk.rtHashes (by decide) rfl rfl o5.2 hO5 hone (by rw [hsC_len, leavesF_len, List.length_take]; have := HN.out.2.1; simp; omega) s5 ?_; intro a6 n6 c6 w6 o6 k6 _) | fail)
      have HK6 := hid (Kept.own k05 k6 (fun q hq => (o5.2.own q hq).1))
      have HO6 : Hid (Ho 23 w6 w.heap.size (.slice a6 n6 c6) (leavesF (l.take (k + 1)))) := hid (by
        rw [H.out.2.2.1]
        exact ⟨o5.1.append (H32.one H.out.2.2.2.1), by rw [hsC_snoc]; exact o6⟩)
      clear k05 k6 o5 o6 hO5
      go_roundg (n - (k + 1))
      case measure => omega
      case rel => exact ⟨k + 1, _, _, _, by go_num, rfl, by omega, Nat.le_refl _, HK6, HO6⟩
    · have hz : ¬ (k : Int) < (n : Int) := by omega
      obtain rfl : k = n := by omega
      have hO := HO.out
      rw [HN.out.1, List.take_length] at hO
      have HO2 := hid hO
      clear hO HO
      go_wp2
      go_ret
      exact ⟨_, rfl, HO2.out, HK.out⟩
end R23
end Go.Proofs.Ytibkijloibnkfaa

namespace Go.Pm
open Go Go.RowKit
/-- When the last of the epochs was. -/
def lastT (hs : List Hd) : Int := (hs.getD (hs.length - 1) zeroHd).t
theorem lastT_eq {hs : List Hd} {n : Nat} (hn : n = hs.length) (h : n - 1 < hs.length) : hs[n - 1].t = lastT hs := by
  subst hn
  unfold lastT
  rw [List.getD_eq_getElem?_getD, List.getElem?_eq_getElem h]
  rfl
/-- May there be a next epoch of this batch? -/
def nextB (l : List Kno) (hs : List Hd) (b : List Ent) (t : Int) : Bool := (addF l ((hs.length : Int) + 1) b).2 && decide (1 ≤ b.length ∧ b.length ≤ 8 ∧ 0 ≤ t ∧ t ≤ 1152921504606846976 ∧ (hs.length = 0 ∨ lastT hs ≤ t))
def nextK (l : List Kno) (hs : List Hd) (b : List Ent) : List Kno := (addF l ((hs.length : Int) + 1) b).1
def nextH (l : List Kno) (hs : List Hd) (b : List Ent) (t : Int) : Hd := ⟨(hs.length : Int) + 1, t, (b.length : Int), rootOf (setI (itemsF (nextK l hs b) ((hs.length : Int) + 1))), rootL (leavesF hs), 0, 0⟩
theorem rootOf_len {l : List It} (h : Full l) : (rootOf l).length = 32 := rootI_len 256 (srt_setI l) (full_setI h) (fun _ _ _ _ k hk => by omega) (Nat.le_refl _)
theorem itemsF_full (l : List Kno) (p : Int) : Full (itemsF l p) := fun x hx => by
  obtain ⟨y, _, rfl⟩ := List.mem_map.1 hx
  exact itemK_len y
theorem leavesF_h32 (l : List Hd) : H32 (leavesF l) := fun x hx => by
  obtain ⟨y, _, rfl⟩ := List.mem_map.1 hx
  exact leafL_len _
theorem nextH_ok (l : List Kno) (hs : List Hd) (b : List Ent) (t : Int) : (nextH l hs b t).Ok := ⟨rootOf_len (full_setI (itemsF_full _ _)), rootL_len (leavesF_h32 hs), zeroHd_ok.2.2⟩
end Go.Pm
namespace Go.Proofs.Ytibkijloibnkfaa
open Go.RowKit Go.Pm
namespace R23
theorem res_ctt {P : Program} {fn : Func} {p q r : Tmp} {ty : TypeId} (h : fn.results = #[.cell p ty, .tmp q, .tmp r]) (tmps : Array Value) {w : World} {g : Nat} {t : TypeId} {cs : Array Value} (hp : tmps.getD p undef = .pointer (some ⟨g, 0, none⟩)) {x y : Value} (hq : tmps.getD q undef = x) (hr : tmps.getD r undef = y) (hb : Blk w g cs t)
    (hT : AggTy P ty cs.size) : (results fn tmps).run P w = .ok (.tuple #[.agg cs, x, y]) w := by
  obtain ⟨d, hu, hd⟩ := hT.ag
  have hp' : tmps[p]?.getD undef = .pointer (some ⟨g, 0, none⟩) := by simpa using hp
  have hq' : tmps[q]?.getD undef = x := by simpa using hq
  have hr' : tmps[r]?.getD undef = y := by simpa using hr
  have hl := run_loadVar_row w g t ty cs (0, 0) d hb hu (by cases d <;> first | rfl | exact hd) hT.size
  simp [results, h, hp', hq', hr', asAddr, hl]
theorem big_gt (t : Int) (b : Bool) (h : decide (1152921504606846976 < t) = b) : ∀ z, z = t → decide ((1152921504606846976 : Int) < z) = b := by
  rintro z rfl
  exact h
set_option maxRecDepth 100000 in
set_option maxHeartbeats 16000000 in
/-- next. -/
theorem next (v x u : Value) (lo hi lo2 hi2 lo' hi' : Nat) (l : List Kno) (hs : List Hd) (b : List Ent) (t : Int) (w : World) (hv : Ps 4 w lo hi v (knosC l)) (hx : Ps 69 w lo2 hi2 x (headsC hs)) (hu : Ps 3 w lo' hi' u (entsC b)) (hl : l.length ≤ 274877906944) (hsl : hs.length ≤ 274877906944) (hb : b.length ≤ 274877906944) (hkok : KOk l) (heok : EOk b) (hhok : HOk hs) :
    Calls Try.prog 63 #[v, x, u, .int .i64 t] w fun e w' => ∃ r, e = .returned (.tuple #[hdV (if nextB l hs b t then nextH l hs b t else zeroHd), r, .bool (nextB l hs b t)]) ∧ Kept None w w' ∧ Off 4 w lo (min hi w.heap.size) w' r (if nextB l hs b t then knosC (nextK l hs b) else []) := by
  replace hv := hv.lt
  have hhi : min hi w.heap.size ≤ w.heap.size := Nat.min_le_right _ _
  generalize min hi w.heap.size = hi at hv hhi ⊢
  have hnb : ∀ q, (nextB l hs b t = q) ↔ ((addF l ((hs.length : Int) + 1) b).2 && decide (1 ≤ b.length ∧ b.length ≤ 8 ∧ 0 ≤ t ∧ t ≤ 1152921504606846976 ∧ (hs.length = 0 ∨ lastT hs ≤ t))) = q := fun q => Iff.rfl
  have hak := addF_ok (p := (hs.length : Int) + 1) hkok heok
  have hadd := fun W hW => R16.add v u lo hi lo' hi' l ((hs.length : Int) + 1) b W (hv.kept hW (fun _ _ _ h => h)) (hu.kept hW (fun _ _ _ h => h)) hl hb
  obtain ⟨av, cv, rfl, _, _, _⟩ := hv.form
  obtain ⟨ax, cx, rfl, gx1, gx2, gx3⟩ := hx.form
  obtain ⟨au, cu, rfl, gu1, gu2, gu3⟩ := hu.form
  rw [knosC_len] at hv hadd ⊢
  rw [headsC_len] at hx gx1 ⊢
  rw [entsC_len] at hu hadd gu1 ⊢
  have hnk : nextK l hs b = (addF l ((hs.length : Int) + 1) b).1 := rfl
  have hit := fun v lo hi W (hW : Ps 4 W lo hi v (knosC (nextK l hs b))) => R16.items v lo hi (nextK l hs b) ((hs.length : Int) + 1) W hW hak.1 (by have := hak.2; rw [← hnk] at this; omega)
  have hrt := fun v lo hi W hW => RTr.root_of v lo hi (setI (itemsF (nextK l hs b) ((hs.length : Int) + 1))) W hW (by have := hak.2; rw [← hnk] at this; have := itemsF_len (nextK l hs b) ((hs.length : Int) + 1); have := len_setI (itemsF (nextK l hs b) ((hs.length : Int) + 1)); omega)
  have hlv := fun W hW => leaves (.slice ax hs.length cx) lo2 hi2 hs W hW hhok (by omega)
  have hlr := fun v W hW => RLg.root (leavesF hs).length (leavesF hs) v W hW (Nat.le_refl _) (by rw [leavesF_len]; omega)
  have hbd := fun W => Hp.build5 W ((hs.length : Int) + 1) t (b.length : Int) (rootOf (setI (itemsF (nextK l hs b) ((hs.length : Int) + 1)))) (rootL (leavesF hs)) (nextH_ok l hs b t).1 (nextH_ok l hs b t).2.1
  have hhd : (⟨(hs.length : Int) + 1, t, (b.length : Int), rootOf (setI (itemsF (nextK l hs b) ((hs.length : Int) + 1))), rootL (leavesF hs), 0, 0⟩ : Hd) = nextH l hs b t := rfl
  rw [hhd] at hbd
  have hNok := nextH_ok l hs b t
  rw [← hnk] at hadd
  obtain ⟨NK, hNK⟩ : ∃ k, k = nextK l hs b := ⟨_, rfl⟩
  rw [← hNK] at hadd hit hrt hbd ⊢
  obtain ⟨SI, hSI⟩ : ∃ s, s = setI (itemsF NK ((hs.length : Int) + 1)) := ⟨_, rfl⟩
  rw [← hSI] at hit hrt hbd
  obtain ⟨RT, hRT⟩ : ∃ r, r = rootOf SI := ⟨_, rfl⟩
  have r32 : RT.length = 32 := by rw [hRT, hSI]; exact rootOf_len (full_setI (itemsF_full _ _))
  rw [← hRT] at hrt hbd
  obtain ⟨RL, hRL⟩ : ∃ r, r = rootL (leavesF hs) := ⟨_, rfl⟩
  have l32 : RL.length = 32 := by rw [hRL]; exact rootL_len (leavesF_h32 hs)
  rw [← hRL] at hlr hbd
  obtain ⟨NH, hNH⟩ : ∃ h, h = nextH l hs b t := ⟨_, rfl⟩
  rw [← hNH] at hbd hNok ⊢
  obtain ⟨OKB, hOKB⟩ : ∃ o, o = (addF l ((hs.length : Int) + 1) b).2 := ⟨_, rfl⟩
  rw [← hOKB] at hadd hnb
  obtain ⟨NB, hNB⟩ : ∃ o, o = nextB l hs b t := ⟨_, rfl⟩
  rw [← hNB] at hnb ⊢
  obtain ⟨n, hn⟩ : ∃ n, n = hs.length := ⟨_, rfl⟩
  obtain ⟨m, hm⟩ : ∃ m, m = b.length := ⟨_, rfl⟩
  obtain ⟨nl, hnl⟩ : ∃ m, m = l.length := ⟨_, rfl⟩
  rw [← hn] at hadd hit hbd hnb hlv hx gx1 hsl ⊢
  rw [← hm] at hadd hbd hnb hu gu1 hb ⊢
  rw [← hnl] at hadd hv hl ⊢
  have hno : (OKB = false ∨ ¬ (1 ≤ m ∧ m ≤ 8 ∧ 0 ≤ t ∧ t ≤ 1152921504606846976 ∧ (n = 0 ∨ lastT hs ≤ t))) → NB = false := fun h => (hnb false).2 (by
    rcases h with h | h
    · rw [h]; rfl
    · rw [decide_eq_false h, Bool.and_false])
  obtain ⟨OH, hOH⟩ : ∃ o, o = (if NB = true then NH else zeroHd) := ⟨_, rfl⟩
  obtain ⟨OK, hOK⟩ : ∃ o, o = (if NB = true then knosC NK else []) := ⟨_, rfl⟩
  rw [← hOH, ← hOK]
  have HOUT := hid (And.intro hOH hOK)
  have hyes : OKB = true → (1 ≤ m ∧ m ≤ 8 ∧ 0 ≤ t ∧ t ≤ 1152921504606846976 ∧ (n = 0 ∨ lastT hs ≤ t)) → NB = true := fun h h2 => (hnb true).2 (by rw [h, decide_eq_true h2]; rfl)
  have H := hid (And.intro hadd (And.intro hit (And.intro hrt (And.intro hlv (And.intro hlr hbd)))))
  have HB := hid (And.intro hno hyes)
  have HX := hid (And.intro hx (And.intro hhok (And.intro hn gx3)))
  have HS := hid (And.intro r32 (And.intro l32 hNok))
  have HLT := hid (And.intro hsl (And.intro hb hl))
  have wn : IntKind.i64.wrap ((n : Int) + 1) = (n : Int) + 1 := by rw [IntKind.wrap_i64]; omega
  have k1 : Kept None w (w.alloc (.cells Try.zeroCells28 28)) := (Kept.refl _ _).alloc _
  obtain ⟨Z, hZ, z1⟩ := Blk.any (n := 69) (Blk.new w Try.zeroCells28 28) (by rfl)
  have HZ := hid (And.intro hZ (hdC_one zeroHd))
  clear hadd hit hrt hlv hlr hbd hno hyes hx hhok hn gx3 r32 l32 hNok hsl hb hl hv hu hkok heok hak hnk hNK hSI hRT hRL hNH hOKB hNB hm hnl hnb hhd hZ gu3 hOH hOK
  go_enter Try.func63, Try.ntmps63
  go_wp2_with fail
  refine (H.out.1 _ k1).mono ?_
  rintro e w2 ⟨r, rfl, kn, rr⟩
  have k2 := k1.trans kn
  have z2 := z1.kept kn (fun h => h)
  have sw : w.heap.size < w2.heap.size := z2.lt
  obtain ⟨ar, cr, rfl, _, _, _⟩ := rr.ps.form
  rw [knosC_len] at rr ⊢
  have RR := hid (And.intro rr.ps rr)
  clear k1 z1 kn rr
  cases OKB with
  | false =>
    have hno := HB.out.1 (.inl rfl)
    have HNO := hid hno
    clear hno
    go_wp2_with (first | go_skip | (refine wpList_store_blk rfl _ _ _ rfl rfl rfl z2 Hp.aHd HZ.out.1 HZ.out.2 ?_; intro wz hz kz) | fail)
    exact bodyPost_ret (v := .tuple #[hdV zeroHd, .slice none 0 0, .bool false]) (res_ctt rfl _ rfl rfl rfl hz Hp.aHd) rfl ⟨.slice none 0 0, by rw [HOUT.out.1, HNO.out]; rfl, k2.then kz (fun i hi (h : i = w.heap.size) => by omega), by rw [HOUT.out.2, HNO.out]; exact Off.of w (Ps.nil _ _ lo hi)⟩
  | true =>
    by_cases c1 : m < 1
    · have hno := HB.out.1 (.inr (fun h => by omega))
      have HNO := hid hno
      clear hno
      go_wp2_with (first | go_skip | (refine wpList_store_blk rfl _ _ _ rfl rfl rfl z2 Hp.aHd HZ.out.1 HZ.out.2 ?_; intro wz hz kz) | fail)
      exact bodyPost_ret (v := .tuple #[hdV zeroHd, .slice none 0 0, .bool false]) (res_ctt rfl _ rfl rfl rfl hz Hp.aHd) rfl ⟨.slice none 0 0, by rw [HOUT.out.1, HNO.out]; rfl, k2.then kz (fun i hi (h : i = w.heap.size) => by omega), by rw [HOUT.out.2, HNO.out]; exact Off.of w (Ps.nil _ _ lo hi)⟩
    · by_cases c2 : 8 < m
      · have hno := HB.out.1 (.inr (fun h => by omega))
        have HNO := hid hno
        clear hno
        go_wp2_with (first | go_skip | (refine wpList_store_blk rfl _ _ _ rfl rfl rfl z2 Hp.aHd HZ.out.1 HZ.out.2 ?_; intro wz hz kz) | fail)
        exact bodyPost_ret (v := .tuple #[hdV zeroHd, .slice none 0 0, .bool false]) (res_ctt rfl _ rfl rfl rfl hz Hp.aHd) rfl ⟨.slice none 0 0, by rw [HOUT.out.1, HNO.out]; rfl, k2.then kz (fun i hi (h : i = w.heap.size) => by omega), by rw [HOUT.out.2, HNO.out]; exact Off.of w (Ps.nil _ _ lo hi)⟩
      · by_cases c3 : t < 0
        · have hno := HB.out.1 (.inr (fun h => by omega))
          have HNO := hid hno
          clear hno
          go_wp2_with (first | go_skip | (refine wpList_store_blk rfl _ _ _ rfl rfl rfl z2 Hp.aHd HZ.out.1 HZ.out.2 ?_; intro wz hz kz) | fail)
          exact bodyPost_ret (v := .tuple #[hdV zeroHd, .slice none 0 0, .bool false]) (res_ctt rfl _ rfl rfl rfl hz Hp.aHd) rfl ⟨.slice none 0 0, by rw [HOUT.out.1, HNO.out]; rfl, k2.then kz (fun i hi (h : i = w.heap.size) => by omega), by rw [HOUT.out.2, HNO.out]; exact Off.of w (Ps.nil _ _ lo hi)⟩
        · by_cases c4 : 1152921504606846976 < t
          · have hno := HB.out.1 (.inr (fun h => by omega))
            have g4 := big_gt t true (decide_eq_true c4)
            clear c4
            have HNO := hid hno
            clear hno
            go_wp2_with (first | go_skip | (refine wpList_store_blk rfl _ _ _ rfl rfl rfl z2 Hp.aHd HZ.out.1 HZ.out.2 ?_; intro wz hz kz) | fail)
            exact bodyPost_ret (v := .tuple #[hdV zeroHd, .slice none 0 0, .bool false]) (res_ctt rfl _ rfl rfl rfl hz Hp.aHd) rfl ⟨.slice none 0 0, by rw [HOUT.out.1, HNO.out]; rfl, k2.then kz (fun i hi (h : i = w.heap.size) => by omega), by rw [HOUT.out.2, HNO.out]; exact Off.of w (Ps.nil _ _ lo hi)⟩
          · have g4 := big_gt t false (decide_eq_false c4)
            by_cases c5 : n = 0
            · have hyes := HB.out.2 rfl ⟨by omega, by omega, by omega, by omega, .inl c5⟩
              have g5 : decide (1 < (n : Int) + 1) = false := by rw [decide_eq_false_iff_not]; omega
              clear c4 c5
              have HY := hid hyes
              clear hyes
              go_wp2_with (first | go_skip | fail)
              have hIt := H.out.2.1 _ _ _ _ RR.out.1
              refine hIt.mono ?_
              rintro e w3 ⟨u3, rfl, o3, kn⟩
              have k3 := k2.trans kn
              have z3 := z2.kept kn (fun h => h)
              have r3 := RR.out.2.kept kn (fun _ _ _ h => h) (fun _ _ h => h)
              have i3 := o3.its (Nat.le_refl _)
              obtain ⟨a3, c3', rfl⟩ := o3.form
              clear k2 z2 kn o3 hIt
              go_wp2_with fail
              refine (H.out.2.2.1 _ _ _ _ i3).mono ?_
              rintro e w4 ⟨rfl, kn⟩
              have k4 := k3.trans kn
              have z4 := z3.kept kn (fun h => h)
              have r4 := r3.kept kn (fun _ _ _ h => h) (fun _ _ h => h)
              clear k3 z3 r3 kn i3
              go_wp2_with fail
              refine (H.out.2.2.2.1 _ (HX.out.1.kept k4 (fun _ _ _ h => h))).mono ?_
              rintro e w5 ⟨u5, rfl, o5, kn⟩
              have k5 := k4.trans kn
              have z5 := z4.kept kn (fun h => h)
              have r5 := r4.kept kn (fun _ _ _ h => h) (fun _ _ h => h)
              have i5 : Rh 0 w5 u5 _ := ⟨w5.heap.size, (o5.base (Nat.zero_le _)).hs (Nat.le_refl _)⟩
              obtain ⟨a5, c5', rfl⟩ := o5.form
              clear k4 z4 r4 kn o5
              go_wp2_with fail
              refine (H.out.2.2.2.2.1 _ _ i5).mono ?_
              rintro e w6 ⟨rfl, kn⟩
              have k6 := k5.trans kn
              have z6 := z5.kept kn (fun h => h)
              have r6 := r5.kept kn (fun _ _ _ h => h) (fun _ _ h => h)
              have hbd := H.out.2.2.2.2.2 w6
              have aN := Hp.aHd' HS.out.2.2
              have sN : Z.size = (hdC NH).toArray.size := HZ.out.1.trans (hdC_size HS.out.2.2).symm
              clear k5 z5 r5 kn i5
              have hKK := ‹∀ (a : Act) (w : World), wpList Try.prog _ _ _ a w → _›
              refine hKK _ _ ?_
              clear hKK
              refine wpList_build_five rfl rfl rfl rfl rfl rfl rfl hbd ?_
              go_wp2_with (first | (refine wpList_store_blk rfl _ _ _ rfl rfl rfl z6 aN sN (hdC_one NH) ?_; intro wz hz kz) | fail)
              exact bodyPost_ret (v := .tuple #[hdV NH, .slice ar NK.length cr, .bool true]) (res_ctt rfl _ rfl rfl rfl hz aN) rfl ⟨.slice ar NK.length cr, by rw [HOUT.out.1, HY.out]; rfl, k6.then kz (fun i hi (h : i = w.heap.size) => by omega), by rw [HOUT.out.2, HY.out]; exact (r6.kept kz (fun b _ q2 (h : b = w.heap.size) => by omega) (fun b q1 (h : b = w.heap.size) => by simp at q1; omega)).base (by simp)⟩
            · have hn1 : 0 < hs.length := by have := HX.out.2.2.1; omega
              obtain ⟨bx, ox, q1, hc⟩ := (HX.out.1.kept k2 (fun _ _ _ h => h)).head hn1
              obtain rfl := q1
              have rl := hc (n - 1) (by have := HX.out.2.2.1; omega)
              have hlt := lastT_eq HX.out.2.2.1 (by have := HX.out.2.2.1; omega)
              have ct : w2.cell? ⟨bx, ox + (n - 1) * 69 + 1, none⟩ = some (.int .i64 (lastT hs)) := by
                rw [← hlt]
                exact rl 1 _ rfl
              obtain ⟨LT, hLT⟩ : ∃ y, y = lastT hs := ⟨_, rfl⟩
              rw [← hLT] at ct
              obtain ⟨n1, hn1'⟩ : ∃ y, y = n - 1 := ⟨_, rfl⟩
              rw [← hn1'] at ct
              have g5 : 1 < (n : Int) + 1 := by omega
              have g6 : (n : Int) + 1 - 2 = (n1 : Int) := by omega
              have g7 : IntKind.i64.wrap (n1 : Int) = (n1 : Int) := by rw [IntKind.wrap_i64]; have := HLT.out; omega
              have g8 : (n1 : Int) < (n : Int) := by omega
              have HLL := hid hLT
              clear hc rl hlt hLT hn1 hn1'
              by_cases c6 : t < LT
              · have hno := HB.out.1 (.inr (fun h => by have := HLL.out; omega))
                clear c4
                have HNO := hid hno
                clear hno
                go_wp2_with (first | go_skip | (refine wpList_store_blk rfl _ _ _ rfl rfl rfl z2 Hp.aHd HZ.out.1 HZ.out.2 ?_; intro wz hz kz) | fail)
                exact bodyPost_ret (v := .tuple #[hdV zeroHd, .slice none 0 0, .bool false]) (res_ctt rfl _ rfl rfl rfl hz Hp.aHd) rfl ⟨.slice none 0 0, by rw [HOUT.out.1, HNO.out]; rfl, k2.then kz (fun i hi (h : i = w.heap.size) => by omega), by rw [HOUT.out.2, HNO.out]; exact Off.of w (Ps.nil _ _ lo hi)⟩
              · have hyes := HB.out.2 rfl ⟨by omega, by omega, by omega, by omega, .inr (by have := HLL.out; omega)⟩
                clear c4
                have HY := hid hyes
                clear hyes
                go_wp2_with (first | go_skip | fail)
                have hIt := H.out.2.1 _ _ _ _ RR.out.1
                refine hIt.mono ?_
                rintro e w3 ⟨u3, rfl, o3, kn⟩
                have k3 := k2.trans kn
                have z3 := z2.kept kn (fun h => h)
                have r3 := RR.out.2.kept kn (fun _ _ _ h => h) (fun _ _ h => h)
                have i3 := o3.its (Nat.le_refl _)
                obtain ⟨a3, c3', rfl⟩ := o3.form
                clear k2 z2 kn o3 hIt
                go_wp2_with fail
                refine (H.out.2.2.1 _ _ _ _ i3).mono ?_
                rintro e w4 ⟨rfl, kn⟩
                have k4 := k3.trans kn
                have z4 := z3.kept kn (fun h => h)
                have r4 := r3.kept kn (fun _ _ _ h => h) (fun _ _ h => h)
                clear k3 z3 r3 kn i3
                go_wp2_with fail
                refine (H.out.2.2.2.1 _ (HX.out.1.kept k4 (fun _ _ _ h => h))).mono ?_
                rintro e w5 ⟨u5, rfl, o5, kn⟩
                have k5 := k4.trans kn
                have z5 := z4.kept kn (fun h => h)
                have r5 := r4.kept kn (fun _ _ _ h => h) (fun _ _ h => h)
                have i5 : Rh 0 w5 u5 _ := ⟨w5.heap.size, (o5.base (Nat.zero_le _)).hs (Nat.le_refl _)⟩
                obtain ⟨a5, c5', rfl⟩ := o5.form
                clear k4 z4 r4 kn o5
                go_wp2_with fail
                refine (H.out.2.2.2.2.1 _ _ i5).mono ?_
                rintro e w6 ⟨rfl, kn⟩
                have k6 := k5.trans kn
                have z6 := z5.kept kn (fun h => h)
                have r6 := r5.kept kn (fun _ _ _ h => h) (fun _ _ h => h)
                have hbd := H.out.2.2.2.2.2 w6
                have aN := Hp.aHd' HS.out.2.2
                have sN : Z.size = (hdC NH).toArray.size := HZ.out.1.trans (hdC_size HS.out.2.2).symm
                clear k5 z5 r5 kn i5
                have hKK := ‹∀ (a : Act) (w : World), wpList Try.prog _ _ _ a w → _›
                refine hKK _ _ ?_
                clear hKK
                refine wpList_build_five rfl rfl rfl rfl rfl rfl rfl hbd ?_
                go_wp2_with (first | (refine wpList_store_blk rfl _ _ _ rfl rfl rfl z6 aN sN (hdC_one NH) ?_; intro wz hz kz) | fail)
                exact bodyPost_ret (v := .tuple #[hdV NH, .slice ar NK.length cr, .bool true]) (res_ctt rfl _ rfl rfl rfl hz aN) rfl ⟨.slice ar NK.length cr, by rw [HOUT.out.1, HY.out]; rfl, k6.then kz (fun i hi (h : i = w.heap.size) => by omega), by rw [HOUT.out.2, HY.out]; exact (r6.kept kz (fun b _ q2 (h : b = w.heap.size) => by omega) (fun b q1 (h : b = w.heap.size) => by simp at q1; omega)).base (by simp)⟩
end R23
end Go.Proofs.Ytibkijloibnkfaa

namespace Go.Pm
open Go Go.RowKit
def leN (a b : ByteArray) : Bool := ltN a b || eqN a b
/-- Where an entry comes, in the order by names: behind the first so many. -/
def placeN (l : List Ent) (x : Ent) : Nat := (l.takeWhile (fun y => leN y.n x.n)).length
def insN (l : List Ent) (x : Ent) : List Ent := l.take (placeN l x) ++ x :: l.drop (placeN l x)
def byNameF (l : List Ent) : List Ent := l.foldl insN []
theorem placeN_le (l : List Ent) (x : Ent) : placeN l x ≤ l.length := by
  unfold placeN
  exact (List.takeWhile_sublist _).length_le
theorem placeN_lt {l : List Ent} {x : Ent} {i : Nat} (h : i < placeN l x) (hl : i < l.length) : leN l[i].n x.n = true := by
  induction l generalizing i with
  | nil => simp at hl
  | cons y l ih =>
    unfold placeN at h
    rw [List.takeWhile_cons] at h
    split at h
    · rename_i hy
      cases i with
      | zero => exact hy
      | succ i => exact ih (by simpa [placeN] using h) (by simpa using hl)
    · simp at h
theorem placeN_at {l : List Ent} {x : Ent} (hl : placeN l x < l.length) : leN l[placeN l x].n x.n = false := by
  induction l with
  | nil => simp at hl
  | cons y l ih =>
    cases hy : leN y.n x.n with
    | false =>
      have : placeN (y :: l) x = 0 := by simp [placeN, hy]
      simp only [this, List.getElem_cons_zero, hy]
    | true =>
      have e1 : placeN (y :: l) x = placeN l x + 1 := by simp [placeN, hy]
      have hl' : placeN l x < l.length := by rw [e1] at hl; simpa using hl
      have := ih hl'
      simp only [e1, List.getElem_cons_succ]
      exact this
theorem insN_len (l : List Ent) (x : Ent) : (insN l x).length = l.length + 1 := by
  unfold insN
  have := placeN_le l x
  simp
  omega
theorem byNameF_take (l : List Ent) (k : Nat) (h : k < l.length) : byNameF (l.take (k + 1)) = insN (byNameF (l.take k)) l[k] := by
  unfold byNameF
  rw [List.take_succ_eq_append_getElem h, List.foldl_append]
  rfl
theorem byNameF_len : ∀ (l : List Ent), (byNameF l).length = l.length := by
  intro l
  have g : ∀ (l out : List Ent), (l.foldl insN out).length = out.length + l.length := by
    intro l
    induction l with
    | nil => intro out; rfl
    | cons x l ih =>
      intro out
      rw [List.foldl_cons, ih, insN_len, List.length_cons]
      omega
  have := g l []
  unfold byNameF
  simpa using this
end Go.Pm
namespace Go.Proofs.Ytibkijloibnkfaa
open Go.RowKit Go.Pm
namespace R23
theorem rtEntry : RowTyK Try.prog 70 53 (.agg #[.string ⟨#[]⟩, .int .i64 0, .int .u64 0]) 3 32 := Hk.rtyK (by kernel_rfl) (by kernel_rfl) (by rfl) (by decide)
theorem elEntry : Try.prog.elem 70 = 53 := by kernel_rfl
theorem tEntry : Try.prog.underlying 70 = some (.slice (Try.prog.elem 70)) := by rw [elEntry]; kernel_rfl
theorem zEntry : ∀ W, (sizeOf (Try.prog.elem 70)).run Try.prog W = .ok 3 W := by rw [elEntry]; intro W; kernel_rfl
open R16 (ps_blk)
set_option maxRecDepth 100000 in
set_option maxHeartbeats 16000000 in
/-- byName. -/
theorem byName (v : Value) (lo hi : Nat) (l : List Ent) (w : World) (hv : Ps 3 w lo hi v (entsC l)) (hlen : l.length ≤ 274877906944) :
    Calls Try.prog 64 #[v] w fun e w' => ∃ u, e = .returned u ∧ Kept None w w' ∧ Po 3 53 w' w.heap.size u (entsC (byNameF l)) := by
  obtain ⟨a, cap, rfl, g1, g2, g3⟩ := hv.form
  rw [entsC_len] at g1 hv ⊢
  obtain ⟨n, hn⟩ : ∃ n, n = l.length := ⟨_, rfl⟩
  rw [← hn] at g1 hlen hv ⊢
  have HV := hid hv
  have HN := hid (And.intro hn hlen)
  clear hv hn g3
  have K0 := hid (Kept.refl None w)
  go_enter Try.func64, Try.ntmps64
  go_wp2
  go_loopg [3, 4] n (fun kx s3 s4 wr => ∃ (k : Nat) (ao : Option Addr) (no co : Nat), s4 = .int .i64 k ∧ s3 = .slice ao no co ∧ k ≤ n ∧ n - k ≤ kx ∧ Hid (Kept None w wr) ∧ Hid (Po 3 53 wr w.heap.size (.slice ao no co) (entsC (byNameF (l.take k)))))
  case atStart => exact ⟨0, _, _, _, rfl, rfl, Nat.zero_le _, Nat.le_refl _, K0, hid (Po.nil _ _ _ _)⟩
  case round =>
    obtain ⟨k, ao, no, co, rfl, rfl, hk, hkx, HK, HO⟩ := hrel
    by_cases hlt : k < n
    · have hz : (k : Int) < (n : Int) := by omega
      have wk : IntKind.i64.wrap ((k : Int) + 1) = (k : Int) + 1 := by rw [IntKind.wrap_i64]; have := HN.out.2; omega
      have kl : k < l.length := by have := HN.out.1; omega
      obtain ⟨bb, oo, q1, hc⟩ := (HV.out.kept HK.out (fun _ _ _ h => h)).ent (by omega)
      obtain rfl := q1
      obtain ⟨_, _, _, rE⟩ := hc k kl
      have htk := byNameF_take l k kl
      have hol : (byNameF (l.take k)).length = k := by rw [byNameF_len, List.length_take]; omega
      have o9 := (HO.out.ps (Nat.le_refl _)).wider (Nat.zero_le _) (Nat.le_refl _)
      obtain ⟨e, he⟩ : ∃ e, e = l[k] := ⟨_, rfl⟩
      rw [← he] at rE htk
      obtain ⟨out, hout⟩ : ∃ o, o = byNameF (l.take k) := ⟨_, rfl⟩
      rw [← hout] at htk hol o9
      have hno : no = out.length ∧ no ≤ co := by
        obtain ⟨q1, q2, q3, q4, _, _⟩ := o9.form
        rw [entsC_len] at q3 q4
        injection q3 with _ r2 r3
        omega
      have HNO := hid hno
      have HT := hid (And.intro hout (Nat.le_of_eq hol))
      have HADD := hid htk
      have hpl := placeN_le out e
      have hplt := fun i (h : i < placeN out e) hi => placeN_lt (x := e) h hi
      have hpat := fun hi => placeN_at (l := out) (x := e) hi
      obtain ⟨pl, hpd⟩ : ∃ pl, pl = placeN out e := ⟨_, rfl⟩
      rw [← hpd] at hpl hplt hpat
      have HPL := hid (And.intro hpl (And.intro hplt (And.intro hpat hpd)))
      obtain ⟨wo, hwo⟩ : ∃ wo, wo = wr := ⟨_, rfl⟩
      rw [← hwo] at o9 rE HK ⊢
      have K9 := HK
      have O9 := hid o9
      have R9 := hid rE
      clear hc he hout htk hol hno hpl hplt hpat hpd hwo HO HK o9 rE
      go_wp2
      go_loopg [5] no (fun kx4 s5 wr => ∃ i : Nat, s5 = .int .i64 i ∧ i ≤ pl ∧ no - i ≤ kx4 ∧ Hid (Kept None wo wr))
      case atStart => exact ⟨0, rfl, Nat.zero_le _, Nat.le_refl _, hid (Kept.refl _ _)⟩
      case round =>
        obtain ⟨i, rfl, hi, hix, HK4⟩ := hrel
        have f0 : wr.cell? ⟨bb, oo + k * 3, none⟩ = some (.string e.n) := rangeAt_kept R9.out HK4.out 0 _ rfl
        obtain ⟨e0, he0⟩ : ∃ x, x = e.n := ⟨_, rfl⟩
        rw [← he0] at f0
        by_cases hin : i < no
        · have hzi : (i : Int) < (no : Int) := by omega
          have wi : IntKind.i64.wrap ((i : Int) + 1) = (i : Int) + 1 := by rw [IntKind.wrap_i64]; have := HNO.out; have := HT.out.2; have := HN.out; omega
          have hio : i < out.length := by have := HNO.out; omega
          obtain ⟨b4, o4, q4, hc4⟩ := (O9.out.kept HK4.out (fun _ _ _ h => h)).ent (by omega)
          obtain rfl := q4
          obtain ⟨c0, _, _, _⟩ := hc4 i hio
          obtain ⟨y0, hy0⟩ : ∃ y, y = out[i].n := ⟨_, rfl⟩
          rw [← hy0] at c0
          have hah : leN out[i].n e.n = (ltN y0 e0 || eqN y0 e0) := by rw [hy0, he0]; rfl
          have hbel : i < pl → leN out[i].n e.n = true := fun h => HPL.out.2.1 i h hio
          have habv : i = pl → leN out[i].n e.n = false := fun h => by
            subst h
            exact HPL.out.2.2.1 hio
          rw [hah] at hbel habv
          obtain ⟨LT, hLT⟩ : ∃ q, q = ltN y0 e0 := ⟨_, rfl⟩
          obtain ⟨EQ, hEQ⟩ : ∃ q, q = eqN y0 e0 := ⟨_, rfl⟩
          rw [← hLT, ← hEQ] at hbel habv
          have gLT : Go.Op.bytesLess y0.toList e0.toList = LT := by rw [hLT]; rfl
          have gEQ : (y0.toList == e0.toList) = EQ := by rw [hEQ]; rfl
          have hcs : (i < pl ∧ LT = true) ∨ (i < pl ∧ LT = false ∧ EQ = true) ∨ (i = pl ∧ LT = false ∧ EQ = false) := by
            by_cases hp : i < pl
            · have h3 := hbel hp
              cases LT
              · right; left
                simp only [Bool.false_or] at h3
                exact ⟨hp, rfl, h3⟩
              · left; exact ⟨hp, rfl⟩
            · have hpe : i = pl := by omega
              have h3 := habv hpe
              right; right
              simp only [Bool.or_eq_false_iff] at h3
              exact ⟨hpe, h3.1, h3.2⟩
          clear hLT hEQ hbel habv hah hc4 hy0 he0
          rcases hcs with ⟨hp, rfl⟩ | ⟨hp, rfl, rfl⟩ | ⟨hp, rfl, rfl⟩
          · skip
            go_wp2_with fail
            go_quiet (fail)
            obtain ⟨w9, hw9⟩ : ∃ w9, w9 = wr.drewN nq := ⟨_, rfl⟩
            have k9 : Kept None wr w9 := hw9 ▸ Kept.toDrewN _ _ _
            rw [← hw9]
            clear hw9 f0 c0
            have HK6 := hid (HK4.out.trans k9)
            clear k9
            go_wp2
            go_roundg (no - (i + 1))
            case measure => omega
            case rel => exact ⟨i + 1, by go_num, by omega, Nat.le_refl _, HK6⟩
          · skip
            go_wp2_with fail
            go_quiet (fail)
            obtain ⟨w9, hw9⟩ : ∃ w9, w9 = wr.drewN nq := ⟨_, rfl⟩
            have k9 : Kept None wr w9 := hw9 ▸ Kept.toDrewN _ _ _
            rw [← hw9]
            clear hw9 f0 c0
            have HK6 := hid (HK4.out.trans k9)
            clear k9
            go_wp2
            go_roundg (no - (i + 1))
            case measure => omega
            case rel => exact ⟨i + 1, by go_num, by omega, Nat.le_refl _, HK6⟩
          · have HP := hid hp
            clear hp
            go_wp2_with fail
            go_quiet (fail)
            obtain ⟨w9, hw9⟩ : ∃ w9, w9 = wr.drewN nq := ⟨_, rfl⟩
            have k9 : Kept None wr w9 := hw9 ▸ Kept.toDrewN _ _ _
            rw [← hw9]
            clear hw9 f0 c0
            obtain rfl := HP.out
            have hino : i ≤ no := by have := HPL.out.1; have := HNO.out; omega
            have K10 := hid ((K9.out.trans HK4.out).trans k9)
            have o10 := (O9.out.kept HK4.out (fun _ _ _ h => h)).kept k9 (fun _ _ _ h => h)
            have E10 : Hid (w9.rangeAt bb (oo + k * 3) [.string e.n, .int .i64 e.v, .int .u64 (e.k : Int)]) := hid (rangeAt_kept (rangeAt_kept R9.out HK4.out) k9)
            obtain ⟨aT, sT, pT⟩ := ps_to tEntry zEntry o10 .i64 i (by omega)
            obtain ⟨aD, sD, pD⟩ := ps_from tEntry zEntry o10 .i64 i (by omega)
            rw [← entsC_take] at pT
            rw [← entsC_drop] at pD
            have HSL := hid (And.intro sT (And.intro pT (And.intro sD pD)))
            have HLN : Hid ((out.take i).length = i ∧ (out.drop i).length = no - i ∧ out.length ≤ 549755813888) := hid (by rw [List.length_take, List.length_drop]; have := HNO.out; have := HT.out.2; have := HN.out; omega)
            clear o10 sT pT sD pD k9 HK4
            go_wp2_with fail
            refine wp_region_plan (Kept None w9) [{ k := 3, uses := [], pure := fun u => ∃ a n c, u = .slice a n c, fact := fun u W => Po 3 53 W w9.heap.size u (entsC (out.take i)) }, { k := 8, uses := [], pure := fun u => ∃ g, u = .slice (some ⟨g, 0, none⟩) 1 1, fact := fun u W => ∃ g, u = .slice (some ⟨g, 0, none⟩) 1 1 ∧ Blk W g #[.string e.n, .int .i64 e.v, .int .u64 (e.k : Int)] 53 }, { k := 9, uses := [3, 8], spends := [3, 8], later := [13], pure := fun u => ∃ a n c, u = .slice a n c, fact := fun u W => Po 3 53 W w9.heap.size u (entsC (out.take i ++ [e])) }, { k := 13, uses := [9, 3, 8], spends := [9, 3, 8], pure := fun u => ∃ a n c, u = .slice a n c, fact := fun u W => Po 3 53 W w9.heap.size u (entsC (out.take i ++ e :: out.drop i)) }] [] (by kernel_rfl) (by kernel_rfl) (by kernel_rfl) (by rfl) ?pures1 ((Kept.refl _ w9).drew) ?starts1 ?walk1
            case pures1 =>
              intro f hf
              simp only [List.mem_cons, List.not_mem_nil, or_false] at hf
              rcases hf with rfl | rfl | rfl | rfl
              · exact ⟨_, none, 0, 0, rfl⟩
              · exact ⟨_, 0, rfl⟩
              · exact ⟨_, none, 0, 0, rfl⟩
              · exact ⟨_, none, 0, 0, rfl⟩
            case starts1 =>
              intro k hk
              cases hk
            iterate 2 (refine wpPar_pure rfl (by rfl) _ (fun W hW => by
                go_simp
                exact rfl) ?_; simp only [Act.put, List.setIfInBounds_toArray, List.set_cons_zero, List.set_cons_succ])
            refine wpPar_pure rfl (by rfl) (.slice aT i co) (fun W hW => by have q := HSL.out.1 W; go_simp) ?_; simp only [Act.put, List.setIfInBounds_toArray, List.set_cons_zero, List.set_cons_succ]
            refine wpPar_adds rfl (by rfl) (fun W hW hd => ?_) (fun v3 hv => ?_)
            · refine gives_append_po _ _ 70 rfl rtEntry (by decide) rfl rfl (Po.nil 3 53 W w9.heap.size) (HSL.out.2.1.kept hW (fun _ _ _ h => h)) (entsC_one _) (by rw [entsC_len]; have := HLN.out; simp; omega) hW.size ?_
              intro a' n' c' W' hP kO o9
              have kN : Kept None W W' := (Kept.refl None W).then kO (fun i hi h => by cases h)
              have hP' : Po 3 53 W' w9.heap.size (.slice a' n' c') (entsC (out.take i)) := by simpa using hP
              refine ⟨hW.then kN (fun _ _ h => h.elim), ⟨_, _, _, rfl⟩, hP', keeps_of fun f hf hs hl hne u hfu => ?_⟩
              simp only [List.mem_cons, List.not_mem_nil, or_false] at hf
              rcases hf with rfl | rfl | rfl | rfl
              · exact absurd rfl hne
              · (obtain ⟨g, e1, e3⟩ := hfu; exact ⟨g, e1, e3.kept kN (fun h => h)⟩)
              · exact Po.kept hfu kN (fun _ _ h => h)
              · exact Po.kept hfu kN (fun _ _ h => h)
            obtain ⟨a3, n3, c3, rfl⟩ : ∃ a n c, v3 = .slice a n c := hv
            simp only [Act.put, List.setIfInBounds_toArray, List.set_cons_zero, List.set_cons_succ]
            iterate 3 (refine wpPar_pure rfl (by rfl) _ (fun W hW => by
                go_simp
                exact rfl) ?_; simp only [Act.put, List.setIfInBounds_toArray, List.set_cons_zero, List.set_cons_succ])
            refine wpPar_pure rfl (by rfl) _ (fun W hW => by first | exact exec_load_at rfl rfl (rangeAt_kept E10.out hW) Up.aEnt | (go_simp; exact rfl)) ?_; simp only [Act.put, List.setIfInBounds_toArray, List.set_cons_zero, List.set_cons_succ]
            refine wpPar_adds rfl (by rfl) (fun W hW hd => ?_) (fun v8 hv => ?_)
            · unfold Gives
              rw [exec_one_item 70 (.tmp 38) rfl rtEntry (by decide) (A := #[.string e.n, .int .i64 e.v, .int .u64 (e.k : Int)]) rfl rfl]
              have kN : Kept None W (W.alloc (.cells #[.string e.n, .int .i64 e.v, .int .u64 (e.k : Int)] 53)) := (Kept.refl None W).alloc _
              refine ⟨hW.then kN (fun _ _ h => h.elim), ⟨_, rfl⟩, ⟨_, rfl, Blk.new _ _ _⟩, keeps_of fun f hf hs hl hne u hfu => ?_⟩
              simp only [List.mem_cons, List.not_mem_nil, or_false] at hf
              rcases hf with rfl | rfl | rfl | rfl
              · exact Po.kept hfu kN (fun _ _ h => h)
              · exact absurd rfl hne
              · exact Po.kept hfu kN (fun _ _ h => h)
              · exact Po.kept hfu kN (fun _ _ h => h)
            obtain ⟨g8, rfl⟩ : ∃ g, v8 = .slice (some ⟨g, 0, none⟩) 1 1 := hv
            simp only [Act.put, List.setIfInBounds_toArray, List.set_cons_zero, List.set_cons_succ]
            refine wpPar_adds rfl (by rfl) (fun W hW hd => ?_) (fun v9 hv => ?_)
            · have hO : Po 3 53 W w9.heap.size (.slice a3 n3 c3) (entsC (out.take i)) := hd 3 (List.Mem.head _)
              obtain ⟨g, hgg, hg3⟩ : ∃ g, Value.slice (some ⟨g8, 0, none⟩) 1 1 = .slice (some ⟨g, 0, none⟩) 1 1 ∧ Blk W g #[.string e.n, .int .i64 e.v, .int .u64 (e.k : Int)] 53 := hd 8 (List.Mem.tail _ (List.Mem.head _))
              obtain rfl : g8 = g := by simpa using hgg
              have hu : Ps 3 W 0 W.heap.size (.slice (some ⟨g8, 0, none⟩) 1 1) (entsC [e]) := ps_blk (x := entC e) hg3 rfl
              refine gives_append_po _ _ 70 rfl rtEntry (by decide) rfl rfl hO hu (entsC_one _) (by rw [entsC_len, entsC_len]; have := HLN.out; simp; omega) hW.size ?_
              intro a' n' c' W' hP kS o9
              have kN : True := trivial
              rw [← entsC_app] at hP
              refine ⟨hW.then kS (fun i hi h => by have := (hO.own i h).1; omega), ⟨_, _, _, rfl⟩, hP, keeps_of fun f hf hs hl hne u hfu => ?_⟩
              simp only [List.mem_cons, List.not_mem_nil, or_false] at hf
              rcases hf with rfl | rfl | rfl | rfl
              · exact absurd (List.Mem.head _) hs
              · exact absurd (List.Mem.tail _ (List.Mem.head _)) hs
              · exact absurd rfl hne
              · exact absurd (List.Mem.head _) hl
            obtain ⟨a9, n9, c9, rfl⟩ : ∃ a n c, v9 = .slice a n c := hv
            simp only [Act.put, List.setIfInBounds_toArray, List.set_cons_zero, List.set_cons_succ]
            iterate 2 (refine wpPar_pure rfl (by rfl) _ (fun W hW => by
                go_simp
                exact rfl) ?_; simp only [Act.put, List.setIfInBounds_toArray, List.set_cons_zero, List.set_cons_succ])
            refine wpPar_pure rfl (by rfl) (.slice aD (no - i) (co - i)) (fun W hW => by have q := HSL.out.2.2.1 W; go_simp) ?_; simp only [Act.put, List.setIfInBounds_toArray, List.set_cons_zero, List.set_cons_succ]
            refine wpPar_adds rfl (by rfl) (fun W hW hd => ?_) (fun v13 hv => ?_)
            · have hO : Po 3 53 W w9.heap.size (.slice a9 n9 c9) (entsC (out.take i ++ [e])) := hd 9 (List.Mem.head _)
              refine gives_append_po _ _ 70 rfl rtEntry (by decide) rfl rfl hO (HSL.out.2.2.2.kept hW (fun _ _ _ h => h)) (entsC_one _) (by rw [entsC_len, entsC_len, List.length_append]; have := HLN.out; simp; omega) hW.size ?_
              intro a' n' c' W' hP kS o9
              have kN : True := trivial
              rw [← entsC_app, List.append_assoc, List.singleton_append] at hP
              refine ⟨hW.then kS (fun i hi h => by have := (hO.own i h).1; omega), ⟨_, _, _, rfl⟩, hP, keeps_of fun f hf hs hl hne u hfu => ?_⟩
              simp only [List.mem_cons, List.not_mem_nil, or_false] at hf
              rcases hf with rfl | rfl | rfl | rfl
              · exact absurd (List.Mem.tail _ (List.Mem.head _)) hs
              · exact absurd (List.Mem.tail _ (List.Mem.tail _ (List.Mem.head _))) hs
              · exact absurd (List.Mem.head _) hs
              · exact absurd rfl hne
            obtain ⟨a13, n13, c13, rfl⟩ : ∃ a n c, v13 = .slice a n c := hv
            simp only [Act.put, List.setIfInBounds_toArray, List.set_cons_zero, List.set_cons_succ]
            iterate 1 (refine wpPar_pure rfl (by rfl) _ (fun W hW => by
                go_simp
                exact rfl) ?_; simp only [Act.put, List.setIfInBounds_toArray, List.set_cons_zero, List.set_cons_succ])
            refine wpPar_nil (fun W hW hG => ?_)
            have bz : Po 3 53 W w9.heap.size (.slice a13 n13 c13) (entsC (out.take i ++ e :: out.drop i)) := hG 13
            have HKW := hid (K10.out.trans hW)
            have HOW : Hid (Po 3 53 W w.heap.size (.slice a13 n13 c13) (entsC (byNameF (l.take (k + 1))))) := hid (by
              have h1 := bz.base K10.out.size
              rw [HADD.out]
              unfold insN
              rw [← HPL.out.2.2.2]
              exact h1)
            clear hG bz hW K10 E10 HSL
            go_wp2
            go_roundg (n - (k + 1))
            case measure => omega
            case rel => exact ⟨k + 1, _, _, _, by go_num, rfl, by omega, Nat.le_refl _, HKW, HOW⟩
        · have hzi : ¬ (i : Int) < (no : Int) := by omega
          have hip : i = pl := by have := HPL.out.1; have := HNO.out; omega
          have HIP := hid hip
          clear hip he0
          go_wp2_with fail
          go_quiet (fail)
          obtain ⟨w9, hw9⟩ : ∃ w9, w9 = wr.drewN nq := ⟨_, rfl⟩
          have k9 : Kept None wr w9 := hw9 ▸ Kept.toDrewN _ _ _
          rw [← hw9]
          clear hw9 f0
          obtain rfl := HIP.out
          have hino : i ≤ no := by have := HPL.out.1; have := HNO.out; omega
          have K10 := hid ((K9.out.trans HK4.out).trans k9)
          have o10 := (O9.out.kept HK4.out (fun _ _ _ h => h)).kept k9 (fun _ _ _ h => h)
          have E10 : Hid (w9.rangeAt bb (oo + k * 3) [.string e.n, .int .i64 e.v, .int .u64 (e.k : Int)]) := hid (rangeAt_kept (rangeAt_kept R9.out HK4.out) k9)
          obtain ⟨aT, sT, pT⟩ := ps_to tEntry zEntry o10 .i64 i (by omega)
          obtain ⟨aD, sD, pD⟩ := ps_from tEntry zEntry o10 .i64 i (by omega)
          rw [← entsC_take] at pT
          rw [← entsC_drop] at pD
          have HSL := hid (And.intro sT (And.intro pT (And.intro sD pD)))
          have HLN : Hid ((out.take i).length = i ∧ (out.drop i).length = no - i ∧ out.length ≤ 549755813888) := hid (by rw [List.length_take, List.length_drop]; have := HNO.out; have := HT.out.2; have := HN.out; omega)
          clear o10 sT pT sD pD k9 HK4
          go_wp2_with fail
          refine wp_region_plan (Kept None w9) [{ k := 3, uses := [], pure := fun u => ∃ a n c, u = .slice a n c, fact := fun u W => Po 3 53 W w9.heap.size u (entsC (out.take i)) }, { k := 8, uses := [], pure := fun u => ∃ g, u = .slice (some ⟨g, 0, none⟩) 1 1, fact := fun u W => ∃ g, u = .slice (some ⟨g, 0, none⟩) 1 1 ∧ Blk W g #[.string e.n, .int .i64 e.v, .int .u64 (e.k : Int)] 53 }, { k := 9, uses := [3, 8], spends := [3, 8], later := [13], pure := fun u => ∃ a n c, u = .slice a n c, fact := fun u W => Po 3 53 W w9.heap.size u (entsC (out.take i ++ [e])) }, { k := 13, uses := [9, 3, 8], spends := [9, 3, 8], pure := fun u => ∃ a n c, u = .slice a n c, fact := fun u W => Po 3 53 W w9.heap.size u (entsC (out.take i ++ e :: out.drop i)) }] [] (by kernel_rfl) (by kernel_rfl) (by kernel_rfl) (by rfl) ?pures0 ((Kept.refl _ w9).drew) ?starts0 ?walk0
          case pures0 =>
            intro f hf
            simp only [List.mem_cons, List.not_mem_nil, or_false] at hf
            rcases hf with rfl | rfl | rfl | rfl
            · exact ⟨_, none, 0, 0, rfl⟩
            · exact ⟨_, 0, rfl⟩
            · exact ⟨_, none, 0, 0, rfl⟩
            · exact ⟨_, none, 0, 0, rfl⟩
          case starts0 =>
            intro k hk
            cases hk
          iterate 2 (refine wpPar_pure rfl (by rfl) _ (fun W hW => by
              go_simp
              exact rfl) ?_; simp only [Act.put, List.setIfInBounds_toArray, List.set_cons_zero, List.set_cons_succ])
          refine wpPar_pure rfl (by rfl) (.slice aT i co) (fun W hW => by have q := HSL.out.1 W; go_simp) ?_; simp only [Act.put, List.setIfInBounds_toArray, List.set_cons_zero, List.set_cons_succ]
          refine wpPar_adds rfl (by rfl) (fun W hW hd => ?_) (fun v3 hv => ?_)
          · refine gives_append_po _ _ 70 rfl rtEntry (by decide) rfl rfl (Po.nil 3 53 W w9.heap.size) (HSL.out.2.1.kept hW (fun _ _ _ h => h)) (entsC_one _) (by rw [entsC_len]; have := HLN.out; simp; omega) hW.size ?_
            intro a' n' c' W' hP kO o9
            have kN : Kept None W W' := (Kept.refl None W).then kO (fun i hi h => by cases h)
            have hP' : Po 3 53 W' w9.heap.size (.slice a' n' c') (entsC (out.take i)) := by simpa using hP
            refine ⟨hW.then kN (fun _ _ h => h.elim), ⟨_, _, _, rfl⟩, hP', keeps_of fun f hf hs hl hne u hfu => ?_⟩
            simp only [List.mem_cons, List.not_mem_nil, or_false] at hf
            rcases hf with rfl | rfl | rfl | rfl
            · exact absurd rfl hne
            · (obtain ⟨g, e1, e3⟩ := hfu; exact ⟨g, e1, e3.kept kN (fun h => h)⟩)
            · exact Po.kept hfu kN (fun _ _ h => h)
            · exact Po.kept hfu kN (fun _ _ h => h)
          obtain ⟨a3, n3, c3, rfl⟩ : ∃ a n c, v3 = .slice a n c := hv
          simp only [Act.put, List.setIfInBounds_toArray, List.set_cons_zero, List.set_cons_succ]
          iterate 3 (refine wpPar_pure rfl (by rfl) _ (fun W hW => by
              go_simp
              exact rfl) ?_; simp only [Act.put, List.setIfInBounds_toArray, List.set_cons_zero, List.set_cons_succ])
          refine wpPar_pure rfl (by rfl) _ (fun W hW => by first | exact exec_load_at rfl rfl (rangeAt_kept E10.out hW) Up.aEnt | (go_simp; exact rfl)) ?_; simp only [Act.put, List.setIfInBounds_toArray, List.set_cons_zero, List.set_cons_succ]
          refine wpPar_adds rfl (by rfl) (fun W hW hd => ?_) (fun v8 hv => ?_)
          · unfold Gives
            rw [exec_one_item 70 (.tmp 38) rfl rtEntry (by decide) (A := #[.string e.n, .int .i64 e.v, .int .u64 (e.k : Int)]) rfl rfl]
            have kN : Kept None W (W.alloc (.cells #[.string e.n, .int .i64 e.v, .int .u64 (e.k : Int)] 53)) := (Kept.refl None W).alloc _
            refine ⟨hW.then kN (fun _ _ h => h.elim), ⟨_, rfl⟩, ⟨_, rfl, Blk.new _ _ _⟩, keeps_of fun f hf hs hl hne u hfu => ?_⟩
            simp only [List.mem_cons, List.not_mem_nil, or_false] at hf
            rcases hf with rfl | rfl | rfl | rfl
            · exact Po.kept hfu kN (fun _ _ h => h)
            · exact absurd rfl hne
            · exact Po.kept hfu kN (fun _ _ h => h)
            · exact Po.kept hfu kN (fun _ _ h => h)
          obtain ⟨g8, rfl⟩ : ∃ g, v8 = .slice (some ⟨g, 0, none⟩) 1 1 := hv
          simp only [Act.put, List.setIfInBounds_toArray, List.set_cons_zero, List.set_cons_succ]
          refine wpPar_adds rfl (by rfl) (fun W hW hd => ?_) (fun v9 hv => ?_)
          · have hO : Po 3 53 W w9.heap.size (.slice a3 n3 c3) (entsC (out.take i)) := hd 3 (List.Mem.head _)
            obtain ⟨g, hgg, hg3⟩ : ∃ g, Value.slice (some ⟨g8, 0, none⟩) 1 1 = .slice (some ⟨g, 0, none⟩) 1 1 ∧ Blk W g #[.string e.n, .int .i64 e.v, .int .u64 (e.k : Int)] 53 := hd 8 (List.Mem.tail _ (List.Mem.head _))
            obtain rfl : g8 = g := by simpa using hgg
            have hu : Ps 3 W 0 W.heap.size (.slice (some ⟨g8, 0, none⟩) 1 1) (entsC [e]) := ps_blk (x := entC e) hg3 rfl
            refine gives_append_po _ _ 70 rfl rtEntry (by decide) rfl rfl hO hu (entsC_one _) (by rw [entsC_len, entsC_len]; have := HLN.out; simp; omega) hW.size ?_
            intro a' n' c' W' hP kS o9
            have kN : True := trivial
            rw [← entsC_app] at hP
            refine ⟨hW.then kS (fun i hi h => by have := (hO.own i h).1; omega), ⟨_, _, _, rfl⟩, hP, keeps_of fun f hf hs hl hne u hfu => ?_⟩
            simp only [List.mem_cons, List.not_mem_nil, or_false] at hf
            rcases hf with rfl | rfl | rfl | rfl
            · exact absurd (List.Mem.head _) hs
            · exact absurd (List.Mem.tail _ (List.Mem.head _)) hs
            · exact absurd rfl hne
            · exact absurd (List.Mem.head _) hl
          obtain ⟨a9, n9, c9, rfl⟩ : ∃ a n c, v9 = .slice a n c := hv
          simp only [Act.put, List.setIfInBounds_toArray, List.set_cons_zero, List.set_cons_succ]
          iterate 2 (refine wpPar_pure rfl (by rfl) _ (fun W hW => by
              go_simp
              exact rfl) ?_; simp only [Act.put, List.setIfInBounds_toArray, List.set_cons_zero, List.set_cons_succ])
          refine wpPar_pure rfl (by rfl) (.slice aD (no - i) (co - i)) (fun W hW => by have q := HSL.out.2.2.1 W; go_simp) ?_; simp only [Act.put, List.setIfInBounds_toArray, List.set_cons_zero, List.set_cons_succ]
          refine wpPar_adds rfl (by rfl) (fun W hW hd => ?_) (fun v13 hv => ?_)
          · have hO : Po 3 53 W w9.heap.size (.slice a9 n9 c9) (entsC (out.take i ++ [e])) := hd 9 (List.Mem.head _)
            refine gives_append_po _ _ 70 rfl rtEntry (by decide) rfl rfl hO (HSL.out.2.2.2.kept hW (fun _ _ _ h => h)) (entsC_one _) (by rw [entsC_len, entsC_len, List.length_append]; have := HLN.out; simp; omega) hW.size ?_
            intro a' n' c' W' hP kS o9
            have kN : True := trivial
            rw [← entsC_app, List.append_assoc, List.singleton_append] at hP
            refine ⟨hW.then kS (fun i hi h => by have := (hO.own i h).1; omega), ⟨_, _, _, rfl⟩, hP, keeps_of fun f hf hs hl hne u hfu => ?_⟩
            simp only [List.mem_cons, List.not_mem_nil, or_false] at hf
            rcases hf with rfl | rfl | rfl | rfl
            · exact absurd (List.Mem.tail _ (List.Mem.head _)) hs
            · exact absurd (List.Mem.tail _ (List.Mem.tail _ (List.Mem.head _))) hs
            · exact absurd (List.Mem.head _) hs
            · exact absurd rfl hne
          obtain ⟨a13, n13, c13, rfl⟩ : ∃ a n c, v13 = .slice a n c := hv
          simp only [Act.put, List.setIfInBounds_toArray, List.set_cons_zero, List.set_cons_succ]
          iterate 1 (refine wpPar_pure rfl (by rfl) _ (fun W hW => by
              go_simp
              exact rfl) ?_; simp only [Act.put, List.setIfInBounds_toArray, List.set_cons_zero, List.set_cons_succ])
          refine wpPar_nil (fun W hW hG => ?_)
          have bz : Po 3 53 W w9.heap.size (.slice a13 n13 c13) (entsC (out.take i ++ e :: out.drop i)) := hG 13
          have HKW := hid (K10.out.trans hW)
          have HOW : Hid (Po 3 53 W w.heap.size (.slice a13 n13 c13) (entsC (byNameF (l.take (k + 1))))) := hid (by
            have h1 := bz.base K10.out.size
            rw [HADD.out]
            unfold insN
            rw [← HPL.out.2.2.2]
            exact h1)
          clear hG bz hW K10 E10 HSL
          go_wp2
          go_roundg (n - (k + 1))
          case measure => omega
          case rel => exact ⟨k + 1, _, _, _, by go_num, rfl, by omega, Nat.le_refl _, HKW, HOW⟩
    · have hz : ¬ (k : Int) < (n : Int) := by omega
      obtain rfl : k = n := by omega
      have hO := HO.out
      rw [HN.out.1, List.take_length] at hO
      have HO2 := hid hO
      clear hO HO
      go_wp2
      go_ret
      exact ⟨_, rfl, HK.out, HO2.out⟩
end R23
end Go.Proofs.Ytibkijloibnkfaa

namespace Go.Pm
open Go Go.RowKit
/-- What is published: a head, a row of entries. -/
def pubC (h : Hd) (u : Value) : List Value := hdC h ++ [u]
theorem pubC_len {h : Hd} (hk : h.Ok) (u : Value) : (pubC h u).length = 70 := by
  unfold pubC
  rw [List.length_append, hdC_len hk]
  rfl
theorem pubC_one (h : Hd) (a : Option Addr) (n c : Nat) : (pubC h (.slice a n c)).toArray.all (·.oneCell') = true := by
  have h1 := hdC_one h
  unfold pubC
  rw [← List.append_toArray, Array.all_append, h1]
  simp [Value.oneCell']
theorem Off.old {k : Nat} {S : Nat → Prop} {w w' w2 w3 : World} {lo hi : Nat} {r : Value} {xs : List (List Value)} (h : Off k w lo hi w' r xs) (hk1 : Kept None w' w2) (hk : Kept S w2 w3) (hs : ∀ b, b < w'.heap.size → ¬ S b) : Off k w lo hi w3 r xs := by
  obtain ⟨lo2, hi2, hp, hq⟩ := h
  refine ⟨lo2, min hi2 w'.heap.size, (hp.lt.kept hk1 (fun _ _ _ h => h)).kept hk (fun b q1 q2 => hs b (by omega)), ?_⟩
  rcases hq with ⟨p1, p2⟩ | p
  · exact .inl ⟨p1, by omega⟩
  · exact .inr p
def pubPl (i : Nat) : Option (Nat × Nat) := #[(0, 69), (69, 1)][i]?
theorem fill_pub {h : Hd} (hk : h.Ok) (a : Option Addr) (n c : Nat) : Instr.fill pubPl (pubC zeroHd (.slice none 0 0)).toArray [(0, hdV h), (1, .slice a n c)] = some (pubC h (.slice a n c)).toArray := by
  have hl := hdC_len hk
  have hz := pubC_len zeroHd_ok (.slice none 0 0)
  rw [fill_cons (v := hdV h) (off := 0) (size := 69) rfl (show (hdC h).toArray.size = 69 by simpa using hl) (show 0 + (hdC h).toArray.size ≤ _ by simp [hl, hz])]
  have e1 : ((hdV h).cells.zipIdx.foldl (fun cs (c, j) => cs.setIfInBounds (0 + j) c) (pubC zeroHd (.slice none 0 0)).toArray) = (pubC h (.slice none 0 0)).toArray := by
    rw [show (hdV h).cells = (hdC h).toArray from rfl, ← Array.foldl_toList, Array.toList_zipIdx]
    refine (fold_put 0 (hdC h) 0 _ (by simp [hl, hz])).trans ?_
    unfold pubC
    simp [hl, hdC_len zeroHd_ok]
  rw [e1, fill_cons (v := .slice a n c) (off := 69) (size := 1) rfl rfl (by show 69 + 1 ≤ _; simp [pubC_len hk])]
  have e2 : ((Value.slice a n c).cells.zipIdx.foldl (fun cs (c, j) => cs.setIfInBounds (69 + j) c) (pubC h (.slice none 0 0)).toArray) = (pubC h (.slice a n c)).toArray := by
    show (pubC h (.slice none 0 0)).toArray.setIfInBounds 69 (.slice a n c) = _
    rw [List.setIfInBounds_toArray]
    congr 1
    unfold pubC
    rw [List.set_append_right _ _ (by omega), hl]
    rfl
  rw [e2]
  rfl
theorem wpList_build_pair {P : Program} {ops : Array Oper} {rest : List Oper} {o : Oper} {a : Act} {w : World} {Q : Exit → Act → World → Prop} (hgd : o.guard = none) {t : TypeId} {x y : Operand} {u z v : Value} (ho : o.op = .build t #[(0, x), (1, y)]) (hx : a.eval x = u) (hy : a.eval y = z)
    (hr : (Instr.build t #[(0, u), (1, z)]).run P w = .ok v w) (h : wpList P ops Q rest (a.put o.dst v) w) : wpList P ops Q (o :: rest) a w :=
  wpList_plain hgd fun _ hK => by
    have hb : (execOp a.eval o).run P w = .ok (.value v) w := run_execOp_build ho (by subst hx hy; simpa using hr)
    unfold Oper.wp
    rw [hb]
    exact hK _ _ h
end Go.Pm
namespace Go.Proofs.Ytibkijloibnkfaa
open Go.RowKit Go.Pm
namespace R23
theorem aPub : AggTy Try.prog 77 70 := Sg.AggTy.of (by kernel_rfl) (by kernel_rfl)
theorem aPub' {h : Hd} (hk : h.Ok) (u : Value) : AggTy Try.prog 77 (pubC h u).toArray.size := by
  rw [show (pubC h u).toArray.size = 70 by simpa using pubC_len hk u]
  exact aPub
theorem built_pub (parts : List (Nat × Value)) : Try.prog.built 77 parts = Instr.fill pubPl (pubC zeroHd (.slice none 0 0)).toArray parts := by kernel_rfl
theorem build_pub (w : World) {h : Hd} (hk : h.Ok) (a : Option Addr) (n c : Nat) : (Instr.build 77 #[(0, hdV h), (1, .slice a n c)]).run Try.prog w = .ok (.agg (pubC h (.slice a n c)).toArray) w := by
  refine run_build w _ _ _ ?_
  rw [built_pub]
  exact fill_pub hk a n c
set_option maxRecDepth 100000 in
set_option maxHeartbeats 16000000 in
/-- Build. -/
theorem build (xx : Nat) (v x u : Value) (lo hi lo2 hi2 lo' hi' : Nat) (l : List Kno) (hs : List Hd) (b : List Ent) (t : Int) (w : World) (hv : Ps 4 w lo hi v (knosC l)) (hx : Ps 69 w lo2 hi2 x (headsC hs)) (hu : Ps 3 w lo' hi' u (entsC b)) (hl : l.length ≤ 274877906944) (hsl : hs.length ≤ 274877906944) (hb : b.length ≤ 274877906944) (hkok : KOk l) (heok : EOk b) (hhok : HOk hs) :
    Calls Try.prog 32 #[.int .u64 xx, v, x, u, .int .i64 t] w fun e w' => ∃ r a n c, e = .returned (.tuple #[.agg (pubC (if nextB l hs b t then signHd xx (nextH l hs b t) else zeroHd) (.slice a n c)).toArray, r, .int .i64 (if nextB l hs b t then 0 else 23)]) ∧ Kept None w w' ∧ Off 4 w lo (min hi w.heap.size) w' r (if nextB l hs b t then knosC (nextK l hs b) else []) ∧ Ps 3 w' w.heap.size w'.heap.size (.slice a n c) (if nextB l hs b t then entsC (byNameF b) else []) := by
  have hle : ∀ {W : World}, Kept None w W → min (min hi w.heap.size) W.heap.size = min hi w.heap.size := fun h => by have := h.size; omega
  replace hv := hv.lt
  have hnx := fun W hW => next v x u lo (min hi w.heap.size) lo2 hi2 lo' hi' l hs b t W (hv.kept hW (fun _ _ _ h => h)) (hx.kept hW (fun _ _ _ h => h)) (hu.kept hW (fun _ _ _ h => h)) hl hsl hb hkok heok hhok
  have hnx' : ∀ W, Kept None w W → _ := fun W hW => by
    have h := hnx W hW
    rw [hle hW] at h
    exact h
  have hhi : min hi w.heap.size ≤ w.heap.size := Nat.min_le_right _ _
  clear hnx
  generalize min hi w.heap.size = hi at hv hhi hnx' hle ⊢
  have hsg := fun W => RHp.sign xx (nextH l hs b t) W (nextH_ok l hs b t)
  have hby := fun W (hW : Kept None w W) => byName u lo' hi' b W (hu.kept hW (fun _ _ _ h => h)) hb
  have hok := nextH_ok l hs b t
  have sok := signHd_ok xx hok
  obtain ⟨av, cv, rfl, _, _, _⟩ := hv.form
  obtain ⟨ax, cx, rfl, _, _, _⟩ := hx.form
  obtain ⟨au, cu, rfl, _, _, _⟩ := hu.form
  rw [knosC_len] at hnx' ⊢
  rw [headsC_len] at hnx' ⊢
  rw [entsC_len] at hnx' hby ⊢
  obtain ⟨NH, hNH⟩ : ∃ h, h = nextH l hs b t := ⟨_, rfl⟩
  rw [← hNH] at hnx' hsg hok sok ⊢
  obtain ⟨NK, hNK⟩ : ∃ k, k = nextK l hs b := ⟨_, rfl⟩
  rw [← hNK] at hnx' ⊢
  obtain ⟨SH, hSH⟩ : ∃ h, h = signHd xx NH := ⟨_, rfl⟩
  rw [← hSH] at hsg sok ⊢
  obtain ⟨NB, hNB⟩ : ∃ o, o = nextB l hs b t := ⟨_, rfl⟩
  rw [← hNB] at hnx' ⊢
  obtain ⟨BY, hBY⟩ : ∃ o, o = byNameF b := ⟨_, rfl⟩
  rw [← hBY] at hby ⊢
  obtain ⟨n, hn⟩ : ∃ n, n = hs.length := ⟨_, rfl⟩
  obtain ⟨m, hm⟩ : ∃ m, m = b.length := ⟨_, rfl⟩
  obtain ⟨nl, hnl⟩ : ∃ m, m = l.length := ⟨_, rfl⟩
  rw [← hn, ← hm, ← hnl] at hnx' ⊢
  rw [← hm] at hby
  have k1 : Kept None w (w.alloc (.cells Try.zeroCells77 77)) := (Kept.refl _ _).alloc _
  obtain ⟨Z, hZ, z1⟩ := Blk.any (n := 70) (Blk.new w Try.zeroCells77 77) (by rfl)
  have hzall : (Try.zeroCells77 : Array Value).all (·.oneCell') = true := pubC_one zeroHd none 0 0
  have HZ := hid (And.intro hZ hzall)
  have HSG := hid (And.intro hsg (And.intro hby (And.intro hok sok)))
  clear hv hx hu hl hsl hb hkok heok hhok hsg hby hok sok hNH hNK hSH hNB hBY hn hm hnl hZ hzall hle
  cases NB with
  | false =>
    simp only [Bool.false_eq_true, if_false] at hnx' ⊢
    have H := hid hnx'
    clear hnx'
    go_enter Try.func32, Try.ntmps32
    go_wp2_with fail
    refine (H.out _ k1).mono ?_
    rintro e w2 ⟨r, rfl, kn, off⟩
    have k2 := k1.trans kn
    have z2 := z1.kept kn (fun h => h)
    have sz2 := z2.lt
    obtain ⟨y0, hy0, y2⟩ := Blk.any (n := 69) (Blk.new w2 Try.zeroCells28 28) (by rfl)
    have k3 : Kept None w (w2.alloc (.cells Try.zeroCells28 28)) := k2.alloc _
    have z3 : Blk (w2.alloc (.cells Try.zeroCells28 28)) w.heap.size Z 77 := z2.alloc _
    have aO := Hp.aHd' zeroHd_ok
    have sO : y0.size = (hdC zeroHd).toArray.size := hy0.trans (hdC_size zeroHd_ok).symm
    clear k1 z1 kn k2 z2 hy0 off
    go_wp2_with (first | (refine wpList_store_blk rfl _ _ _ rfl rfl rfl y2 aO sO (hdC_one _) ?_; intro w4 y4 k34; have z4 := z3.kept k34 (fun (h : w.heap.size = w2.heap.size) => by omega)) | (refine wpList_store_blk rfl _ _ _ rfl rfl rfl z4 aPub HZ.out.1 HZ.out.2 ?_; intro wz hz kz) | fail)
    have k4 := k3.then k34 (fun i hi (h : i = w2.heap.size) => by omega)
    exact bodyPost_ret (v := .tuple #[.agg Try.zeroCells77, .slice none 0 0, .int .i64 23]) (res_ctt rfl _ rfl rfl rfl hz aPub) rfl ⟨.slice none 0 0, none, 0, 0, rfl, k4.then kz (fun i hi (h : i = w.heap.size) => by omega), Off.of w (Ps.nil _ _ lo hi), Ps.nil _ _ _ _⟩
  | true =>
    simp only [if_true] at hnx' ⊢
    have H := hid hnx'
    clear hnx'
    go_enter Try.func32, Try.ntmps32
    go_wp2_with fail
    refine (H.out _ k1).mono ?_
    rintro e w2 ⟨r, rfl, kn, off⟩
    have k2 := k1.trans kn
    have z2 := z1.kept kn (fun h => h)
    have sz2 := z2.lt
    obtain ⟨y0, hy0, y2⟩ := Blk.any (n := 69) (Blk.new w2 Try.zeroCells28 28) (by rfl)
    have k3 : Kept None w (w2.alloc (.cells Try.zeroCells28 28)) := k2.alloc _
    have z3 : Blk (w2.alloc (.cells Try.zeroCells28 28)) w.heap.size Z 77 := z2.alloc _
    have aO := Hp.aHd' HSG.out.2.2.1
    have sO : y0.size = (hdC NH).toArray.size := hy0.trans (hdC_size HSG.out.2.2.1).symm
    obtain ⟨ar, cr, rfl, _, _, _⟩ := off.ps.form
    rw [knosC_len] at off ⊢
    clear k1 z1 kn k2 z2 hy0
    go_wp2_with (first | (refine wpList_store_blk rfl _ _ _ rfl rfl rfl y2 aO sO (hdC_one _) ?_; intro w4 y4 k34) | (refine wpList_load_blk rfl _ _ rfl rfl y4 aO ?_) | fail)
    have z4 := z3.kept k34 (fun (h : w.heap.size = w2.heap.size) => by omega)
    have k4 := k3.then k34 (fun i hi (h : i = w2.heap.size) => by omega)
    have off4 := off.old ((Kept.refl None w2).alloc (.cells Try.zeroCells28 28)) k34 (fun b q1 (h : b = w2.heap.size) => by omega)
    clear k3 z3 off k34 y2
    refine (HSG.out.1 w4).mono ?_
    rintro e w5 ⟨rfl, kn⟩
    have k5 := k4.trans kn
    have z5 := z4.kept kn (fun h => h)
    have off5 := off4.kept kn (fun _ _ _ h => h) (fun _ _ h => h)
    clear k4 z4 off4 kn y4
    go_wp2_with fail
    refine (HSG.out.2.1 w5 k5).mono ?_
    rintro e w6 ⟨ue, rfl, kn, p6⟩
    have k6 := k5.trans kn
    have z6 := z5.kept kn (fun h => h)
    have off6 := off5.kept kn (fun _ _ _ h => h) (fun _ _ h => h)
    have e6 := (p6.base (base' := w.heap.size + 1) (by have := z5.lt; omega)).ps (Nat.le_refl _)
    obtain ⟨ae, ce, rfl⟩ := p6.form
    rw [entsC_len] at e6 ⊢
    have hbd := build_pub w6 HSG.out.2.2.2 ae BY.length ce
    have aN := aPub' HSG.out.2.2.2 (.slice ae BY.length ce)
    have sN : Z.size = (pubC SH (.slice ae BY.length ce)).toArray.size := HZ.out.1.trans (by simpa using (pubC_len HSG.out.2.2.2 (.slice ae BY.length ce)).symm)
    clear k5 z5 off5 kn p6
    dsimp only
    have hKK := ‹∀ (a : Act) (w : World), wpList Try.prog _ _ _ a w → _›
    refine hKK _ _ ?_
    clear hKK
    refine wpList_build_pair rfl rfl rfl rfl hbd ?_
    go_wp2_with (first | (refine wpList_store_blk rfl _ _ _ rfl rfl rfl z6 aN sN (pubC_one SH ae BY.length ce) ?_; intro wz hz kz) | fail)
    exact bodyPost_ret (v := .tuple #[.agg (pubC SH (.slice ae BY.length ce)).toArray, .slice ar NK.length cr, .int .i64 0]) (res_ctt rfl _ rfl rfl rfl hz aN) rfl ⟨.slice ar NK.length cr, ae, BY.length, ce, rfl, k6.then kz (fun i hi (h : i = w.heap.size) => by omega), (off6.kept kz (fun b _ q2 (h : b = w.heap.size) => by omega) (fun b q1 (h : b = w.heap.size) => by simp at q1; omega)).base (by simp), ((e6.kept kz (fun b q1 _ (h : b = w.heap.size) => by omega)).wider (Nat.le_succ _) kz.size)⟩
end R23
end Go.Proofs.Ytibkijloibnkfaa
