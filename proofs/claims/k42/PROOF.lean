import PyProof.Rows.All
import Wide.All
import OpenK.AllK
import Wide.FinOn
import HandS.ForMost
import HandS.Flow
import HandS.Wide
import HandS.Small
import HandS.Conv
import HandS.DictComp
import HandS.Walk
import HandS.IsInst
import HandS.ListItems
import HandS.Text
import HandS.Exc
import HandS.ExcOwn
import HandS.ExcInit
import HandS.ExcIs
import HandS.ExcField
import HandS.WordsExc
import HandS.TryOnly
import HandS.Star
import HandS.Property
import HandS.RaiseMore
import PyProof.ReprRoads
import PyProof.RowDictHeap
import PyProof.StrBlock2
import HandS.Codes
import HandS.Lambda
import HandS.Set
import HandS.Strs
import HandS.SetKeys
import PyProof.DictCopy
import KE.KExcIs
import PyProof.Rows.CountFlat
import PyProof.Rows.StrSigns2
import HandS.ExcCtx
import HandS.SuiteRaise
import HandS.TupAny
import KE.GoesMore
import HandS.HotCalls
import HandS.RaiseFrom
import HandS.ExcInitHot
import HandS.Defaults
import PyProof.NeKinds
import KE.KEqDict
import HandS.Style
import PyProof.ReprLen
import HandS.EndTab
import HandS.ClsMeth
import HandS.SortRule
import PyProof.DictUpdate
import PyProof.EqAt
import HandS.Head0
import HandS.Head1
import HandS.Head2
import HandS.HeadHook4
import PySem.Challenge.RW_blockorder_k42_whole_attempts
set_option Elab.async false
set_option linter.all false
set_option maxRecDepth 100000
set_option maxHeartbeats 4000000
namespace Bo
open PySem L2
def top (i : Nat) : Stmt := PySem.Challenge.pw_blockorder_k42_whole_attempts.main.body.getD i (.Pass ⟨0, 0, 0, 0⟩)
abbrev sBegin : Stmt := top 65
abbrev sDraw : Stmt := top 66
abbrev sPick : Stmt := top 67
abbrev kC : Key := Sum.inr (Str.ofString "cells")
abbrev kP : Key := Sum.inr (Str.ofString "place")
abbrev kL : Key := Sum.inr (Str.ofString "left")
theorem ne1 : ¬ (kC = kP) := by decide +kernel
theorem ne2 : ¬ (kC = kL) := by decide +kernel
theorem ne3 : ¬ (kP = kL) := by decide +kernel
theorem same_new {H : Hp} {p : Addr} {o : HO} (h : H p = none) : Same H (upd H p o) := fun b u e => by rw [upd_ne (ne_of_none e h)]; exact e
def tapeK (c : Addr) (p l : Int) : List (Key × V) := [(kC, V.ref c), (kP, V.int p), (kL, V.int l)]
theorem tk_cells (c : Addr) (p l : Int) : valV (tapeK c p l) kC = some (V.ref c) := by
  unfold tapeK; rw [valV_pos rfl]
theorem tk_place (c : Addr) (p l : Int) : valV (tapeK c p l) kP = some (V.int p) := by
  unfold tapeK; rw [valV_neg ne1, valV_pos rfl]
theorem tk_left (c : Addr) (p l : Int) : valV (tapeK c p l) kL = some (V.int l) := by
  unfold tapeK; rw [valV_neg ne2, valV_neg ne3, valV_pos rfl]
theorem tp_place (c : Addr) (p l q : Int) : putK (tapeK c p l) kP (V.int q) = tapeK c q l := by
  unfold tapeK putK
  have e : ([(kC, V.ref c), (kP, V.int p), (kL, V.int l)].any fun kv => decide (kv.1 = kP)) = true := by
    rw [List.any_cons, List.any_cons, decide_eq_true (rfl : kP = kP), Bool.true_or, Bool.or_true]
  rw [if_pos e]
  show [if kC = kP then _ else _, if kP = kP then _ else _, if kL = kP then _ else _] = _
  rw [if_neg ne1, if_pos rfl, if_neg (Ne.symm ne3)]
theorem tp_left (c : Addr) (p l q : Int) : putK (tapeK c p l) kL (V.int q) = tapeK c p q := by
  unfold tapeK putK
  have e : ([(kC, V.ref c), (kP, V.int p), (kL, V.int l)].any fun kv => decide (kv.1 = kL)) = true := by
    rw [List.any_cons, List.any_cons, List.any_cons, decide_eq_true (rfl : kL = kL), Bool.true_or, Bool.or_true, Bool.or_true]
  rw [if_pos e]
  show [if kC = kL then _ else _, if kP = kL then _ else _, if kL = kL then _ else _] = _
  rw [if_neg ne2, if_neg ne3, if_pos rfl]
theorem tk_merge (c : Addr) (p l : Int) : mergeK [] (tapeK c p l) = tapeK c p l := by
  have e1 : putK ([] : List (Key × V)) kC (V.ref c) = [(kC, V.ref c)] := rfl
  have e2 : putK [(kC, V.ref c)] kP (V.int p) = [(kC, V.ref c), (kP, V.int p)] := putK_new _ (by rw [valV_neg ne1]; rfl)
  have e3 : putK [(kC, V.ref c), (kP, V.int p)] kL (V.int l) = tapeK c p l := putK_new _ (by rw [valV_neg ne2, valV_neg ne3]; rfl)
  show putK (putK (putK [] kC (V.ref c)) kP (V.int p)) kL (V.int l) = _
  rw [e1, e2, e3]
/-- all that was tracked but t is as it was -/
def But (t : Addr) (H H' : Hp) : Prop := ∀ b o, H b = some o → b ≠ t → H' b = some o
theorem But.refl {t : Addr} {H : Hp} : But t H H := fun _ _ e _ => e
theorem But.trans {t : Addr} {H H1 H2 : Hp} (a : But t H H1) (b : But t H1 H2) : But t H H2 := fun c o e n => b c o (a c o e n) n
theorem But.upd {t : Addr} {H H1 : Hp} {o : HO} (a : But t H H1) : But t H (upd H1 t o) := fun c u e n => by rw [upd_ne n]; exact a c u e n
theorem But.new {t q : Addr} {H H1 : Hp} {o : HO} (a : But t H H1) (h : H1 q = none) : But t H (L2.upd H1 q o) := fun c u e n => by
  have e1 := a c u e n
  rw [upd_ne (ne_of_none e1 h)]; exact e1
/-- a reader of draws stands at t -/
structure Tape (H : Hp) (t c : Addr) (cs : List Int) (p l : Int) : Prop where
  d : H t = some (.dK (tapeK c p l))
  c : H c = some (.lst (cs.map V.int))
  n : cs ≠ []
  m : cs.length ≤ 63
  p0 : 0 ≤ p
  l0 : 0 ≤ l
theorem Tape.ne {H : Hp} {t c : Addr} {cs : List Int} {p l : Int} (T : Tape H t c cs p l) : t ≠ c := ne_of T.d T.c (by intro z; cases z)
theorem Tape.keep {H H' : Hp} {t c : Addr} {cs : List Int} {p l : Int} (T : Tape H t c cs p l) (k : Same H H') : Tape H' t c cs p l := ⟨k _ _ T.d, k _ _ T.c, T.n, T.m, T.p0, T.l0⟩
theorem Tape.gl {H : Hp} {t c : Addr} {cs : List Int} {p l : Int} (T : Tape H t c cs p l) : DGet H t (V.str (Str.ofString "left")) (some (V.int l)) := tk_left c p l ▸ DGet.k (k := kL) T.d
theorem Tape.gp {H : Hp} {t c : Addr} {cs : List Int} {p l : Int} (T : Tape H t c cs p l) : DGet H t (V.str (Str.ofString "place")) (some (V.int p)) := tk_place c p l ▸ DGet.k (k := kP) T.d
theorem Tape.gc {H : Hp} {t c : Addr} {cs : List Int} {p l : Int} (T : Tape H t c cs p l) : DGet H t (V.str (Str.ofString "cells")) (some (V.ref c)) := tk_cells c p l ▸ DGet.k (k := kC) T.d
theorem Tape.pp {H : Hp} {t c : Addr} {cs : List Int} {p l : Int} (T : Tape H t c cs p l) (q : Int) : DPut H t (V.str (Str.ofString "place")) (V.int q) (upd H t (.dK (tapeK c q l))) := tp_place c p l q ▸ DPut.k (k := kP) T.d (by show 3 < sizeLine; decide)
theorem Tape.pl {H : Hp} {t c : Addr} {cs : List Int} {p l : Int} (T : Tape H t c cs p l) (q : Int) : DPut H t (V.str (Str.ofString "left")) (V.int q) (upd H t (.dK (tapeK c p q))) := tp_left c p l q ▸ DPut.k (k := kL) T.d (by show 3 < sizeLine; decide)
theorem Tape.put {H : Hp} {t c : Addr} {cs : List Int} {p l : Int} (T : Tape H t c cs p l) {p' l' : Int} (h1 : 0 ≤ p') (h2 : 0 ≤ l') : Tape (upd H t (.dK (tapeK c p' l'))) t c cs p' l' :=
  ⟨upd_same, by rw [upd_ne T.ne.symm]; exact T.c, T.n, T.m, h1, h2⟩
theorem Tape.new {H : Hp} {t c : Addr} {cs : List Int} {p l : Int} (T : Tape H t c cs p l) {q : Addr} {o : HO} (h : H q = none) : Tape (upd H q o) t c cs p l := T.keep (same_new h)
def spBegin (K : PySem.W.Frag) : Sp := fun vs H Q _ => ∃ (a : Addr) (ns : List Int), vs = [.ref a] ∧ SqL K H a (ns.map V.int) ∧ ns.length ≤ 63 ∧
  ∀ (t c : Addr) (cs : List Int) (H' : Hp), H t = none → H c = none → Tape H' t c cs 0 0 → Same H H' → Q (.ref t) H'
structure TxtB (mg : Str → Option Value) : Prop where
  len : mg "len" = none
section
variable {P : Program} {w : World} {K : PySem.W.Frag} {mg : Str → Option Value} {base : Heap}
theorem scB : FnScope ["_law_script"] ["_law_script"] (defScope sBegin) := ⟨rfl, rfl, rfl, by decide +kernel, rfl, by decide +kernel, by decide +kernel⟩
theorem ok_begin {f : Addr} {fd : FuncData} (F : Fun K "_law_begin" "_law_begin" sBegin f fd) : FnOk P w K mg base CX0 1 f fd ["_law_script"] (spBegin K) := by
  refine F.ok scB (fun vs H Q E h => ?_) (fun cdv A outer s H vs Q E hr h => ?_)
  · obtain ⟨a, ns, rfl, _⟩ := h
    rfl
  · obtain ⟨a, ns, rfl, hS, hl, k⟩ := h
    refine ⟨_, pss_one (ps_ret (pe_disp (pps_cons pe_str (pe_orT (pe_slice sl_list (pv 0) po_none (po_some pe_int)) (pe_one (pe_lst (pa_cons pe_int pa_nil)))) (pps_cons pe_str pe_int (pps_cons pe_str pe_int pps_nil))) (by rfl) (by rfl) (fun z => by cases z) (by decide))), ?_⟩
    intro t ht
    have s1 : Same H (upd H t (HO.dK [])) := same_new ht
    refine ⟨_, rfl, ⟨63, rfl, a, _, rfl, s1.seq hS, fun c hc => ?_⟩⟩
    have hcn : H c = none := s1.free hc
    have tc : t ≠ c := fun e => by rw [← e, upd_same] at hc; cases hc
    have ecut : cutV (ns.map V.int) none (some 63) = ns.map V.int := by
      unfold cutV
      rw [HT.sIx_none, Nat.sub_zero, List.drop_zero]
      have : HT.sIx (ns.map V.int).length (ns.map V.int).length (some (63 : Int)) = (ns.map V.int).length := by
        have h2 : (ns.map V.int).length ≤ 63 := by rw [List.length_map]; exact hl
        exact (HT.sIx_nat _ _ 63).trans (by omega)
      rw [this, List.take_length]
    rw [ecut]
    cases ns with
    | nil =>
      refine ⟨false, .inl ⟨[], .inl (.inl upd_same), rfl⟩, ?_⟩
      refine iteF ?_
      refine ⟨by decide, fun d hd => ?_⟩
      have td : t ≠ d := fun e => by rw [← e, upd_ne tc, upd_same] at hd; cases hd
      have cd : c ≠ d := fun e => by rw [← e, upd_same] at hd; cases hd
      have hdn : H d = none := by rw [upd_ne cd.symm, upd_ne td.symm] at hd; exact hd
      refine ⟨by rw [upd_ne td, upd_ne tc]; exact upd_same, tapeK d 0 0, rfl, by show 3 ≤ 15; decide, ?_⟩
      have em : mergeK [] (tapeK d 0 0) = tapeK d 0 0 := tk_merge d 0 0
      rw [em]
      refine k t d [0] _ ht hdn ⟨upd_same, by rw [upd_ne td.symm]; exact upd_same, by simp, by decide, by decide, by decide⟩ fun b o e => ?_
      rw [upd_ne (ne_of_none e ht), upd_ne (ne_of_none e hdn), upd_ne (ne_of_none e hcn), upd_ne (ne_of_none e ht)]
      exact e
    | cons n r =>
      refine ⟨true, .inl ⟨_, .inl (.inl upd_same), rfl⟩, ?_⟩
      refine iteT ?_
      refine ⟨by rw [upd_ne tc]; exact upd_same, tapeK c 0 0, rfl, by show 3 ≤ 15; decide, ?_⟩
      have em : mergeK [] (tapeK c 0 0) = tapeK c 0 0 := tk_merge c 0 0
      rw [em]
      refine k t c (n :: r) _ ht hcn ⟨upd_same, by rw [upd_ne tc.symm]; exact upd_same, by simp, hl, by decide, by decide⟩ fun b o e => ?_
      rw [upd_ne (ne_of_none e ht), upd_ne (ne_of_none e hcn), upd_ne (ne_of_none e ht)]
      exact e
/-- draw(tape, m) -/
def spDraw : Sp := fun vs H Q _ => ∃ (t c : Addr) (cs : List Int) (p l m : Int), vs = [.ref t, .int m] ∧ Tape H t c cs p l ∧ 0 < m ∧ m < 1073741824 ∧ p < 1000000000000 ∧
  ∀ (r p' l' : Int) (H' : Hp), 0 ≤ r → r < m → p ≤ p' → p' ≤ p + 1 → Tape H' t c cs p' l' → But t H H' → Q (.int r) H'
theorem scD : FnScope ["_law_tape", "_law_many", "_law_place", "_law_cap", "_law_cell", "_law_found"] ["_law_tape", "_law_many"] (defScope sDraw) := ⟨rfl, rfl, rfl, by decide +kernel, rfl, by decide +kernel, by decide +kernel⟩
theorem ok_draw {f : Addr} {fd : FuncData} (F : Fun K "_law_draw" "_law_draw" sDraw f fd) (T : TxtB mg) : FnOk P w K mg base CX0 1 f fd ["_law_tape", "_law_many"] spDraw := by
  refine F.ok scD (fun vs H Q E h => ?_) (fun cdv A outer s H vs Q E hr h => ?_)
  · obtain ⟨t, c, cs, p, l, m, rfl, _⟩ := h
    rfl
  · obtain ⟨t, c, cs, p, l, m, rfl, hT, hm0, hm1, hp, k⟩ := h
    have hu := hu_of hr
    refine ⟨_, pss_cons (ps_if (pt_cmpR op_lt (pe_dget hu (pv 0) pe_str (fun _ _ => rfl)) (pv 1) (nomark _))
        (pss_cons (ps_par (i := 2) (j := 3) (by rfl) scD.nd rfl rfl (by decide) rfl rfl (pa_cons (pe_dget hu (pv 0) pe_str (fun _ _ => rfl)) (pa_cons (pe_callB call_len_seq (by rfl) T.len PySem.boot_len (pa_cons (pe_dget hu (pv 0) pe_str (fun _ _ => rfl)) pa_nil)) pa_nil)) (by rfl))
        (pss_cons (ps_asg (pe_tup (pa_cons (pe_ix ix_list (pe_dget hu (pv 0) pe_str (fun _ _ => rfl)) (pe_op op_mod (pv 2) (pv 3)) (fun _ _ => rfl)) (pa_cons (pe_op op_add (pv 2) pe_int) pa_nil)))
          (pg_tup (by rfl) (pgs_cons (pg_name (i := 4) scD.nd rfl (.inl rfl)) (pgs_cons (pg_sub (pv 0) pe_str (set_dict hu)) pgs_nil))))
        (pss_cons (ps_dput hu (pv 0) pe_str (pe_op op_mod (pe_op op_pow (pe_op op_add (pe_op op_add (pe_op op_mod (pv 4) pe_int) (pe_op op_mul pe_int (pv 2))) pe_int) pe_int) (pe_op op_add (pe_op op_pow pe_int pe_int) pe_int)) rfl)
        (pss_one (ps_if (PW.pt (pw_and (pt_cmpR op_ge (pv 4) (pe_op op_pow pe_int pe_int) (nomark _)) (pw_and1 (pt_cmpR op_lt (pv 2) (pv 3) (nomark _)))))
          (pss_one (ps_dput hu (pv 0) pe_str (pe_op op_sub (pv 4) (pe_op op_pow pe_int pe_int)) rfl)) pss_nil))))) pss_nil)
      (pss_cons (ps_asg (pe_tup (pa_cons (pe_op op_mod (pe_dget hu (pv 0) pe_str (fun _ _ => rfl)) (pv 1)) (pa_cons (pe_op op_fdivW (pe_dget hu (pv 0) pe_str (fun _ _ => rfl)) (pv 1)) pa_nil)))
          (pg_tup (by rfl) (pgs_cons (pg_name (i := 5) scD.nd rfl (.inl rfl)) (pgs_cons (pg_sub (pv 0) pe_str (set_dict hu)) pgs_nil))))
      (pss_one (ps_ret (pv 5)))), ?_⟩
    refine ⟨_, rfl, t, _, rfl, hT.gl, _, rfl, _, _, rfl, rfl, _, rfl, ?_⟩
    -- behind the if: the left is what it is
    have last : ∀ (H1 : Hp) (σ : St) (p1 l1 : Int), σ[0]? = some (some (V.ref t)) → σ[1]? = some (some (V.int m)) → σ.length = 6 → Tape H1 t c cs p1 l1 → p ≤ p1 → p1 ≤ p + 1 → But t H H1 →
      (tSeq (tAsg (tTup (tCons (tOp (rI (fun _ j => 0 < j) fun i j => .int (i % j)) (tDGet (tVar 0) (tC (V.str (Str.ofString "left")))) (tVar 1)) (tCons (tOp (rI CDivW fun i j => .int (i / j)) (tDGet (tVar 0) (tC (V.str (Str.ofString "left")))) (tVar 1)) tNil))) (gTup K 2 (gCons (gName 5) (gCons (gSub (tVar 0) (tC (V.str (Str.ofString "left"))) rSetD) gNil)))) (tRet (tVar 5))) { nx := fun _ H' => Q .non H', rt := Q } σ H1 := by
      intro H1 σ p1 l1 e0 e1 el T1 a1 a2 sm
      refine ⟨_, e0, t, _, rfl, T1.gl, _, e1, _, _, rfl, rfl, hm0, _, e0, t, _, rfl, T1.gl, _, e1, _, _, rfl, rfl, wide_div (b := 40) hm0 (by omega) (by decide) (by decide), by show 2 ≤ sizeLine; decide, fun q hq => ?_⟩
      have T2 := T1.new (q := q) (o := .tup [.int (l1 % m), .int (l1 / m)]) hq
      have hr0 : 0 ≤ l1 % m := Int.emod_nonneg l1 (by omega)
      have hr1 : l1 % m < m := Int.emod_lt_of_pos l1 hm0
      have hl0 : 0 ≤ l1 / m := Int.ediv_nonneg T1.l0 (by omega)
      refine ⟨q, _, rfl, SqT.of upd_same, rfl, _, _, rfl, _, _, rfl, ?_⟩
      have g0 : (σ.set 5 (some (V.int (l1 % m))))[0]? = some (some (V.ref t)) := by rw [List.getElem?_set_ne (by decide)]; exact e0
      have g5 : (σ.set 5 (some (V.int (l1 % m))))[5]? = some (some (V.int (l1 % m))) := by rw [List.getElem?_set_self (by omega)]
      refine ⟨_, g0, t, _, rfl, T2.pl _, rfl, _, g5, ?_⟩
      exact k _ p1 _ _ hr0 hr1 a1 a2 (T2.put T1.p0 hl0) (But.upd (But.new sm hq))
    refine ite2 (fun hlt => ?_) (fun hge => ?_)
    · -- the cell is read
      have hlen : (0 : Int) < (cs.length : Int) := by
        have := List.length_pos_iff.mpr hT.n
        omega
      have hp0 := hT.p0
      have hix : ∃ cell, cs[(p % (cs.length : Int)).toNat]? = some cell := by
        have h1 : p % (cs.length : Int) < (cs.length : Int) := Int.emod_lt_of_pos _ hlen
        have h0 : 0 ≤ p % (cs.length : Int) := Int.emod_nonneg _ (by omega)
        exact ⟨_, List.getElem?_eq_getElem (by omega)⟩
      obtain ⟨cell, hcell⟩ := hix
      have hcv : atI (cs.map V.int) (p % ((cs.map V.int).length : Int)) = some (V.int cell) := by
        have h0 : 0 ≤ p % (cs.length : Int) := Int.emod_nonneg _ (by omega)
        rw [List.length_map]
        have e : p % (cs.length : Int) = ((p % (cs.length : Int)).toNat : Int) := by omega
        rw [e]
        exact atI_nat (by rw [List.getElem?_map, hcell]; rfl)
      refine ⟨_, rfl, t, _, rfl, hT.gp, _, rfl, t, _, rfl, hT.gc, c, _, rfl, .inl (SqL.of hT.c), _, _, rfl, ?_⟩
      refine ⟨_, rfl, t, _, rfl, hT.gc, _, rfl, _, rfl, _, _, rfl, rfl, by rw [List.length_map]; exact hlen, c, _, _, _, rfl, rfl, SqL.of hT.c, hcv, _, rfl, _, _, rfl, rfl, by show 2 ≤ sizeLine; decide, fun q hq => ?_⟩
      have T2 := hT.new (q := q) (o := .tup [V.int cell, .int (p + 1)]) hq
      refine ⟨q, _, rfl, SqT.of upd_same, rfl, _, _, rfl, _, _, rfl, ?_⟩
      refine ⟨_, rfl, t, _, rfl, T2.pp _, rfl, ?_⟩
      have T3 := T2.put (p' := p + 1) (l' := l) (by omega) T2.l0
      have B3 : But t H (upd (upd H q (.tup [V.int cell, .int (p + 1)])) t (.dK (tapeK c (p + 1) l))) := But.upd (But.new But.refl hq)
      -- left = (..) ** 17 .. 
      have hb0 : 0 ≤ cell % 2147483647 := Int.emod_nonneg _ (by decide)
      have hb1 : cell % 2147483647 < 2147483647 := Int.emod_lt_of_pos _ (by decide)
      refine ⟨_, rfl, _, _, rfl, rfl, (by show (0 : Int) < 2147483647; decide), _, rfl, _, _, rfl, rfl, .inl ⟨by decide, by decide⟩, _, _, rfl, rfl, _, _, rfl, rfl, _, _, rfl, rfl, ⟨by decide, by decide, by omega⟩, _, _, rfl, rfl, ⟨by decide, by decide, by decide⟩, _, _, rfl, rfl, _, _, rfl, rfl, ?_, ?_⟩
      · show (0 : Int) < 10 ^ 50 + 151
        decide
      have hbig : (0 : Int) ≤ ((cell % 2147483647 + 69621 * p + 48271) ^ Int.toNat 17) % (10 ^ Int.toNat 50 + 151) := Int.emod_nonneg _ (by show (10 : Int) ^ 50 + 151 ≠ 0; decide)
      refine ⟨_, rfl, t, _, rfl, T3.pl _, ?_⟩
      have T4 := T3.put (p' := p + 1) (l' := ((cell % 2147483647 + 69621 * p + 48271) ^ Int.toNat 17) % (10 ^ Int.toNat 50 + 151)) (by omega) hbig
      have B4 := B3.upd (o := .dK (tapeK c (p + 1) (((cell % 2147483647 + 69621 * p + 48271) ^ Int.toNat 17) % (10 ^ Int.toNat 50 + 151))))
      refine ⟨_, rfl, _, _, rfl, rfl, ⟨by decide, by decide, by decide⟩, _, _, rfl, rfl, _, rfl, ?_⟩
      refine ite2 (fun hc => ?_) (fun hc => iteF (last _ _ (p + 1) _ rfl rfl rfl T4 (by omega) (by omega) B4))
      refine ⟨_, rfl, _, rfl, _, _, rfl, rfl, _, rfl, ?_⟩
      refine ite2 (fun _ => ?_) (fun _ => last _ _ (p + 1) _ rfl rfl rfl T4 (by omega) (by omega) B4)
      refine ⟨_, rfl, _, _, rfl, rfl, ⟨by decide, by decide, by decide⟩, _, _, rfl, rfl, _, rfl, t, _, rfl, T4.pl _, ?_⟩
      have hc' : (10 : Int) ^ Int.toNat 18 ≤ cell := of_decide_eq_true hc
      exact last _ _ (p + 1) _ rfl rfl rfl (T4.put (by omega) (by omega)) (by omega) (by omega) B4.upd
    · exact last H _ p l rfl rfl rfl hT (by omega) (by omega) But.refl
/-- pick(tape, items): one of the items, which stands as before -/
def spPick : Sp := fun vs H Q _ => ∃ (t c a : Addr) (cs : List Int) (p l : Int) (xs : List V), vs = [.ref t, .ref a] ∧ Tape H t c cs p l ∧ H a = some (.lst xs) ∧ xs ≠ [] ∧ xs.length ≤ 1000000 ∧ p < 1000000000000 ∧
  ∀ (i : Nat) (x : V) (p' l' : Int) (H' : Hp), xs[i]? = some x → p ≤ p' → p' ≤ p + 1 → Tape H' t c cs p' l' → But t H H' → Q x H'
theorem scP : FnScope ["_law_tape", "_law_items"] ["_law_tape", "_law_items"] (defScope sPick) := ⟨rfl, rfl, rfl, by decide +kernel, rfl, by decide +kernel, by decide +kernel⟩
theorem ok_pick {f fD : Addr} {fd fdD : FuncData} (F : Fun K "_law_pick" "_law_pick" sPick f fd) (T : TxtB mg) (G : FnOk P w K mg base CX0 1 fD fdD ["_law_tape", "_law_many"] spDraw) (mD : mg "_law_draw" = some (.ref fD)) (kD : PySem.W.keepIn K (.ref fD) = true) (bD : Binds K fdD ["_law_tape", "_law_many"] []) :
    FnOk P w K mg base CX0 2 f fd ["_law_tape", "_law_items"] spPick := by
  refine F.ok scP (fun vs H Q E h => ?_) (fun cdv A outer s H vs Q E hr h => ?_)
  · obtain ⟨t, c, a, cs, p, l, xs, rfl, _⟩ := h
    rfl
  · obtain ⟨t, c, a, cs, p, l, xs, rfl, hT, ha, hn, hx, hp, k⟩ := h
    have hl : 0 < xs.length := List.length_pos_iff.mpr hn
    refine ⟨_, pss_one (ps_ret (pe_ix ix_list (pv 1) (pe_call G hr rfl mD kD bD .nil pass0 (pa_cons (pv 0) (pa_cons (pe_callB call_len_seq (by rfl) T.len PySem.boot_len (pa_cons (pv 1) pa_nil)) pa_nil))) (fun _ _ => rfl))), ?_⟩
    refine ⟨_, rfl, _, rfl, _, rfl, a, xs, rfl, .inl (SqL.of ha), t, c, cs, p, l, _, rfl, hT, by omega, by omega, hp, fun r p' l' H' h0 h1 a1 a2 hT' hB => ?_⟩
    have hat : a ≠ t := ne_of ha hT.d (by intro z; cases z)
    obtain ⟨i, rfl⟩ : ∃ i : Nat, r = (i : Int) := ⟨r.toNat, by omega⟩
    have hi : i < xs.length := by omega
    refine ⟨a, xs, _, _, rfl, rfl, SqL.of (hB _ _ ha hat), atI_nat (List.getElem?_eq_getElem hi), k i _ p' l' H' (List.getElem?_eq_getElem hi) a1 a2 hT' hB⟩
end
end Bo
set_option Elab.async false
set_option linter.all false
set_option maxRecDepth 100000
set_option maxHeartbeats 8000000
namespace Bo
open PySem PySem.Spec PyProof.Rows L2
def tFz (t : TE) : TE := fun σ H Q => t σ H fun x H1 => ∃ d u, x = .ref d ∧ H1 d = some u ∧ Mut (some u) ∧ ∀ od, Q x (upd H1 d (.frz od u))
theorem pe_fz {X : Cx} {e : Expr} {t : TE} (h : PE X e t) : PE X e (tFz t) :=
  ⟨fun pins s σ H Q I hw => thn (h.run pins s σ H _ I hw) fun v s1 ⟨x, H1, I1, r, d, u, ex, hd, mu, q⟩ => by
    obtain ⟨od, I2⟩ := I1.lock hd mu
    exact ⟨x, _, I2, r, q od⟩⟩
def Fz (H : Hp) (a : Addr) (u : HO) : Prop := ∃ o, H a = some (.frz o u)
theorem Fz.rd {H : Hp} {a : Addr} {u : HO} (h : Fz H a u) : Rd H a u := .inr h
theorem Fz.keep {H H' : Hp} {a : Addr} {u : HO} (h : Fz H a u) (k : Same H H') : Fz H' a u := by
  obtain ⟨o, e⟩ := h
  exact ⟨o, k _ _ e⟩
theorem Rd.keep {H H' : Hp} {a : Addr} {u : HO} (h : Rd H a u) (k : Same H H') : Rd H' a u := h.elim (fun e => .inl (k _ _ e)) fun ⟨o, e⟩ => .inr ⟨o, k _ _ e⟩
theorem SqT.keep {K : PySem.W.Frag} {H H' : Hp} {a : Addr} {xs : List V} (h : SqT K H a xs) (k : Same H H') : SqT K H' a xs := h.elim (fun e => .inl (Rd.keep e k)) .inr
theorem SqL.keep {K : PySem.W.Frag} {H H' : Hp} {a : Addr} {xs : List V} (h : SqL K H a xs) (k : Same H H') : SqL K H' a xs := h.elim (fun e => .inl (Rd.keep e k)) .inr
/-- a comprehension that makes a dict -/
theorem dc_go {J : It} {n : Nat} {G : Hp → Prop} {Y : Nat → Hp → V → Hp → Prop} (w : L2.Walk J n G Y) {g : TG} {tt : TT} {tk tv : TE} {vs : List Nat} {σ : L2.St} {H1 : Hp} {D : Addr} {Qd : Hp → Prop} (Pv : Nat → Hp → Prop) (h0 : Pv 0 (upd H1 D (.dK [])))
    (hG : ∀ i H, i ≤ n → Pv i H → G H) (hs : ∀ i x H H', i < n → Pv i H → Y i H x H' → g x (wipe σ vs) H' fun σ2 H2 => wipe σ2 vs = wipe σ vs ∧ tt σ2 H2 fun b H3 =>
      if b = true then tk σ2 H3 fun y H4 => tv σ2 H4 fun z H5 => ∃ kvs k, y = kV k ∧ H5 D = some (.dK kvs) ∧ kvs.length < sizeLine ∧ Pv (i + 1) (upd H5 D (.dK (putK kvs k z))) else Pv (i + 1) H3) (hd : ∀ H, Pv n H → Qd H) :
    ∃ W : Nat → Nat → Hp → Prop, (∃ m, W 0 m (upd H1 D (.dK []))) ∧ ∀ i m H, W i m H → (J.stop i H ∧ Qd H) ∨ (J.go i H ∧ ∃ Nx : Hp → Prop, (∀ H', Nx H' → ∃ m', m' < m ∧ W (i + 1) m' H') ∧ ∀ x H', J.yld i H x H' → g x (wipe σ vs) H' fun σ2 H2 => wipe σ2 vs = wipe σ vs ∧ tt σ2 H2 fun b H3 =>
        if b = true then tk σ2 H3 fun y H4 => tv σ2 H4 fun z H5 => ∃ kvs k, y = kV k ∧ H5 D = some (.dK kvs) ∧ kvs.length < sizeLine ∧ Nx (upd H5 D (.dK (putK kvs k z))) else Nx H3) := by
  refine ⟨fun i m H => (m = n - i ∧ i ≤ n) ∧ Pv i H, ⟨n, ⟨rfl, Nat.zero_le _⟩, h0⟩, fun i m H hw => ?_⟩
  obtain ⟨⟨hm, hi⟩, p⟩ := hw
  have g1 := hG i H hi p
  rcases Nat.lt_or_ge i n with lt | ge
  · refine .inr ⟨w.goes i H lt g1, Pv (i + 1), fun H' p' => ⟨n - (i + 1), by omega, ⟨rfl, lt⟩, p'⟩, fun x H' y => hs i x H H' lt p (w.yields i H x H' lt g1 y)⟩
  · obtain rfl : i = n := Nat.le_antisymm hi ge
    exact .inl ⟨w.stops H g1, hd H p⟩
def atomV : V → Bool
  | .non => true
  | .bl _ => true
  | .int _ => true
  | .str _ => true
  | _ => false
def tyA : V → String
  | .non => "NoneType"
  | .bl _ => "bool"
  | .int _ => "int"
  | _ => "str"
theorem atom_ty {K : PySem.W.Frag} {H : Hp} : ∀ {v : V}, atomV v = true → TyX K H v (.type (tyA v))
  | .non, _ => .base .non
  | .bl _, _ => .base (.bl _)
  | .int _, _ => .base (.int _)
  | .str _, _ => .base (.str _)
theorem atom_no {v : V} (h : atomV v = true) (K : PySem.W.Frag) {c : String} (hc : c = "tuple" ∨ c = "list" ∨ c = "dict") : PySem.W.kitOne K (.type (tyA v)) (.type c) = some false := by
  cases v with
  | non => rcases hc with rfl | rfl | rfl <;> exact kit_ty (by decide +kernel)
  | bl b => rcases hc with rfl | rfl | rfl <;> exact kit_ty (a := "bool") (by decide +kernel)
  | int i => rcases hc with rfl | rfl | rfl <;> exact kit_ty (a := "int") (by decide +kernel)
  | str x => rcases hc with rfl | rfl | rfl <;> exact kit_ty (a := "str") (by decide +kernel)
  | _ => cases h
def dataA : V → PyData
  | .bl b => .bool b
  | .int i => .int i
  | .str x => .str x
  | _ => .none
def Atoms (xs : List V) : Prop := ∀ x ∈ xs, atomV x = true
def strK (ps : List (Str × V)) : List (Key × V) := ps.map fun p => (Sum.inr p.1, p.2)
def strD (ps : List (Str × V)) : List (PyData × PyData) := ps.map fun p => (.str p.1, dataA p.2)
inductive Flat (K : PySem.W.Frag) (H : Hp) : V → PyData → Prop where
  | atom {v : V} (h : atomV v = true) : Flat K H v (dataA v)
  | tup {a : Addr} {xs : List V} (h : SqT K H a xs) (x : Atoms xs) (l : xs.length ≤ 1000) : Flat K H (.ref a) (.tuple (xs.map dataA))
  | lst {a : Addr} {xs : List V} (h : H a = some (.lst xs)) (x : Atoms xs) (l : xs.length ≤ 1000) : Flat K H (.ref a) (.list (xs.map dataA))
  | dct {a : Addr} {ps : List (Str × V)} (h : H a = some (.dK (strK ps))) (x : Atoms (ps.map (·.2))) (nd : (ps.map (·.1)).Nodup) (l : ps.length ≤ 1000) : Flat K H (.ref a) (.dict (strD ps))
theorem Flat.keep {K : PySem.W.Frag} {H H' : Hp} {v : V} {d : PyData} (h : Flat K H v d) (k : Same H H') : Flat K H' v d := by
  cases h with
  | atom h => exact .atom h
  | tup h x l => exact .tup (SqT.keep h k) x l
  | lst h x l => exact .lst (k _ _ h) x l
  | dct h x nd l => exact .dct (k _ _ h) x nd l
theorem take_snoc {α : Type} : ∀ {l : List α} {i : Nat} {x : α}, l[i]? = some x → l.take (i + 1) = l.take i ++ [x]
  | [], i, x, h => by simp at h
  | a :: l, 0, x, h => by simp at h; simp [h]
  | a :: l, i + 1, x, h => by simpa using take_snoc (l := l) (i := i) (x := x) (by simpa using h)
end Bo
set_option Elab.async false
set_option linter.all false
set_option maxRecDepth 100000
set_option maxHeartbeats 8000000
namespace Bo
open PySem L2
abbrev sCopied : Stmt := top 2
structure TxtC (mg : Str → Option Value) : Prop where
  isi : mg "isinstance" = none
  tup : mg "tuple" = none
  lst : mg "list" = none
  dct : mg "dict" = none
def spAtom : Sp := fun vs H Q _ => ∃ v, vs = [v] ∧ atomV v = true ∧ Q v H
section
variable {P : Program} {w : World} {K : PySem.W.Frag} {mg : Str → Option Value} {base : Heap}
theorem scC : FnScope ["thing", "inner", "key"] ["thing"] (defScope sCopied) := ⟨rfl, rfl, rfl, by decide +kernel, rfl, by decide +kernel, by decide +kernel⟩
theorem ok_atom {f : Addr} {fd : FuncData} (F : Fun K "copied" "copied" sCopied f fd) (T : TxtC mg) : FnOk P w K mg base CX0 1 f fd ["thing"] spAtom := by
  refine F.ok scC (fun vs H Q E h => ?_) (fun cdv A outer s H vs Q E hr h => ?_)
  · obtain ⟨v, rfl, _⟩ := h
    rfl
  · obtain ⟨v, rfl, hv, q⟩ := h
    refine ⟨_, pss_cons (ps_if (pt_val (pe_callB call_isi (by rfl) T.isi (by decide +kernel) (pa_cons (pv 0) (pa_cons (pe_bltn (v := .ty "tuple") (by rfl) T.tup (by decide +kernel) rfl) pa_nil)))) (pss_one ps_never) pss_nil)
      (pss_cons (ps_if (pt_val (pe_callB call_isi (by rfl) T.isi (by decide +kernel) (pa_cons (pv 0) (pa_cons (pe_bltn (v := .ty "list") (by rfl) T.lst (by decide +kernel) rfl) pa_nil)))) (pss_one ps_never) pss_nil)
      (pss_cons (ps_if (pt_val (pe_callB call_isi (by rfl) T.isi (by decide +kernel) (pa_cons (pv 0) (pa_cons (pe_bltn (v := .ty "dict") (by rfl) T.dct (by decide +kernel) rfl) pa_nil)))) (pss_one ps_never) pss_nil)
      (pss_one (ps_ret (pv 0))))), ?_⟩
    refine ⟨_, rfl, v, _, _, _, false, rfl, .ty "tuple", atom_ty hv, atom_no hv K (.inl rfl), _, rfl, iteF ?_⟩
    refine ⟨_, rfl, v, _, _, _, false, rfl, .ty "list", atom_ty hv, atom_no hv K (.inr (.inl rfl)), _, rfl, iteF ?_⟩
    refine ⟨_, rfl, v, _, _, _, false, rfl, .ty "dict", atom_ty hv, atom_no hv K (.inr (.inr rfl)), _, rfl, iteF ?_⟩
    exact ⟨_, rfl, q⟩
theorem sqT_ty {H : Hp} {a : Addr} {xs : List V} (h : SqT K H a xs) : TyX K H (.ref a) (.type "tuple") := by
  rcases h with (h | ⟨o, h⟩) | ⟨o, its, n, h, c, _⟩
  · exact .base (.tup h)
  · exact .fTuple h
  · exact .kTuple h c
/-- a tuple of atoms: a new tuple of the same -/
def spTupA (K : PySem.W.Frag) : Sp := fun vs H Q _ => ∃ (a : Addr) (xs : List V), vs = [.ref a] ∧ SqT K H a xs ∧ Atoms xs ∧ xs.length ≤ 1000 ∧ ∀ (b : Addr) (H' : Hp), Same H H' → H b = none → H' b = some (.tup xs) → Q (.ref b) H'
theorem ok_tupA {f : Addr} {fd : FuncData} (F : Fun K "copied" "copied" sCopied f fd) (T : TxtC mg) (mC : mg "copied" = some (.ref f)) (bC : Binds K fd ["thing"] []) : FnOk P w K mg base CX0 2 f fd ["thing"] (spTupA K) := by
  have G : FnOk P w K mg base CX0 1 f fd ["thing"] spAtom := ok_atom F T
  refine F.ok scC (fun vs H Q E h => ?_) (fun cdv A outer s H vs Q E hr h => ?_)
  · obtain ⟨a, xs, rfl, _⟩ := h
    rfl
  · obtain ⟨a, xs, rfl, ha, hat, hl, k⟩ := h
    refine ⟨_, pss_cons (ps_if (pt_val (pe_callB call_isi (by rfl) T.isi (by decide +kernel) (pa_cons (pv 0) (pa_cons (pe_bltn (v := .ty "tuple") (by rfl) T.tup (by decide +kernel) rfl) pa_nil)))) (pss_one (ps_ret (pe_callTy call_tuple_of (by rfl) T.tup (by decide +kernel)
          (pa_cons (pe_lc (own := [("inner", 1)]) (g := gName 1) (tt := tYes) rfl scC.nd (pi_tup (pv 0)) (blkOk_by (N := ["thing", "inner", "key"]) (sc := defScope sCopied) (by decide +kernel)) (fun _ _ _ _ _ => pg_name (i := 1) scC.nd rfl (Or.inl rfl)) (fun _ _ _ _ _ => pts_nil) (fun _ _ _ _ _ => pe_call G hr rfl mC F.kp bC .nil pass0 (pa_cons (pv 1) pa_nil))) pa_nil)))) pss_nil)
      (pss_cons ps_never (pss_cons ps_never (pss_one ps_never))), ?_⟩
    refine ⟨_, rfl, _, _, _, _, true, rfl, .ty "tuple", sqT_ty ha, kit_ty (by decide +kernel), _, rfl, iteT ?_⟩
    refine ⟨_, rfl, a, rfl, ⟨xs, ha⟩, fun D hD => ?_⟩
    refine lc_tup (xs := xs) (fun i H' => H' = upd H D (.lst (xs.take i))) rfl (fun i H' _ e => by subst e; exact SqT.keep ha (same_new hD)) ?_ ?_
    · intro i x H' hx e
      subst e
      refine ⟨rfl, iteT (B := True) ⟨x, rfl, x, rfl, hat x (List.mem_of_getElem? hx), xs.take i, upd_same, ?_, ?_⟩⟩
      · rw [sizeLine_eq, List.length_take]; omega
      · rw [upd_upd, ← take_snoc hx]
    · intro H' e
      subst e
      rw [List.take_length]
      refine ⟨D, xs, rfl, .inl ⟨SqL.of upd_same, fun b hb => ?_⟩⟩
      have bD : b ≠ D := fun z => by rw [z, upd_same] at hb; cases hb
      have hbn : H b = none := by rw [upd_ne bD] at hb; exact hb
      exact k b _ ((same_new hD).trans (same_new hb)) hbn upd_same
/-- a list of atoms: a new list of the same -/
def spLstA : Sp := fun vs H Q _ => ∃ (a : Addr) (xs : List V), vs = [.ref a] ∧ H a = some (.lst xs) ∧ Atoms xs ∧ xs.length ≤ 1000 ∧ ∀ (b : Addr) (H' : Hp), Same H H' → H b = none → H' b = some (.lst xs) → Q (.ref b) H'
theorem ok_lstA {f : Addr} {fd : FuncData} (F : Fun K "copied" "copied" sCopied f fd) (T : TxtC mg) (mC : mg "copied" = some (.ref f)) (bC : Binds K fd ["thing"] []) : FnOk P w K mg base CX0 2 f fd ["thing"] spLstA := by
  have G : FnOk P w K mg base CX0 1 f fd ["thing"] spAtom := ok_atom F T
  refine F.ok scC (fun vs H Q E h => ?_) (fun cdv A outer s H vs Q E hr h => ?_)
  · obtain ⟨a, xs, rfl, _⟩ := h
    rfl
  · obtain ⟨a, xs, rfl, ha, hat, hl, k⟩ := h
    refine ⟨_, pss_cons (ps_if (pt_val (pe_callB call_isi (by rfl) T.isi (by decide +kernel) (pa_cons (pv 0) (pa_cons (pe_bltn (v := .ty "tuple") (by rfl) T.tup (by decide +kernel) rfl) pa_nil)))) (pss_one ps_never) pss_nil)
      (pss_cons (ps_if (pt_val (pe_callB call_isi (by rfl) T.isi (by decide +kernel) (pa_cons (pv 0) (pa_cons (pe_bltn (v := .ty "list") (by rfl) T.lst (by decide +kernel) rfl) pa_nil)))) (pss_one (ps_ret
          (pe_lc (own := [("inner", 1)]) (g := gName 1) (tt := tYes) rfl scC.nd (pi_list (pv 0)) (blkOk_by (N := ["thing", "inner", "key"]) (sc := defScope sCopied) (by decide +kernel)) (fun _ _ _ _ _ => pg_name (i := 1) scC.nd rfl (Or.inl rfl)) (fun _ _ _ _ _ => pts_nil) (fun _ _ _ _ _ => pe_call G hr rfl mC F.kp bC .nil pass0 (pa_cons (pv 1) pa_nil))))) pss_nil)
      (pss_cons ps_never (pss_one ps_never))), ?_⟩
    refine ⟨_, rfl, _, _, _, _, false, rfl, .ty "tuple", .base (.lst ha), kit_ty (by decide +kernel), _, rfl, iteF ?_⟩
    refine ⟨_, rfl, _, _, _, _, true, rfl, .ty "list", .base (.lst ha), kit_ty (by decide +kernel), _, rfl, iteT ?_⟩
    refine ⟨_, rfl, a, rfl, ⟨xs, SqL.of ha⟩, fun D hD => ?_⟩
    refine lc_list (xs := xs) (fun i H' => H' = upd H D (.lst (xs.take i))) rfl (fun i H' _ e => by subst e; exact SqL.of (same_new hD _ _ ha)) ?_ ?_
    · intro i x H' hx e
      subst e
      refine ⟨rfl, iteT (B := True) ⟨x, rfl, x, rfl, hat x (List.mem_of_getElem? hx), xs.take i, upd_same, ?_, ?_⟩⟩
      · rw [sizeLine_eq, List.length_take]; omega
      · rw [upd_upd, ← take_snoc hx]
    · intro H' e
      subst e
      rw [List.take_length]
      exact k D _ (same_new hD) hD upd_same
theorem strK_get {ps : List (Str × V)} {i : Nat} {k : Key} {v : V} (h : (strK ps)[i]? = some (k, v)) : ∃ x, ps[i]? = some (x, v) ∧ k = Sum.inr x := by
  unfold strK at h
  rw [List.getElem?_map] at h
  obtain ⟨p, hp, e⟩ := Option.map_eq_some_iff.mp h
  cases e
  exact ⟨p.1, hp, rfl⟩
theorem strK_val {ps : List (Str × V)} (nd : (ps.map (·.1)).Nodup) {i : Nat} {x : Str} {v : V} (h : ps[i]? = some (x, v)) : valV (strK ps) (Sum.inr x) = some v := by
  induction ps generalizing i with
  | nil => simp at h
  | cons p r ih =>
    obtain ⟨n1, n2⟩ := List.nodup_cons.mp (show (p.1 :: r.map (·.1)).Nodup from nd)
    cases i with
    | zero =>
      simp at h
      subst h
      exact valV_pos (p := (Sum.inr x, v)) rfl
    | succ i =>
      have h' : r[i]? = some (x, v) := by simpa using h
      have hne : ¬ (Sum.inr p.1 : Key) = Sum.inr x := fun e => by
        cases e
        exact n1 (List.mem_map.mpr ⟨_, List.mem_of_getElem? h', rfl⟩)
      exact (valV_neg (p := (Sum.inr p.1, p.2)) hne).trans (ih n2 h')
theorem strK_put {ps : List (Str × V)} (nd : (ps.map (·.1)).Nodup) {i : Nat} {x : Str} {v : V} (h : ps[i]? = some (x, v)) : putK (strK (ps.take i)) (Sum.inr x) v = strK (ps.take (i + 1)) := by
  have hn : valV (strK (ps.take i)) (Sum.inr x) = none := by
    have key : ∀ qs : List (Str × V), x ∉ qs.map (·.1) → valV (strK qs) (Sum.inr x) = none := by
      intro qs
      induction qs with
      | nil => intro _; rfl
      | cons q r ih =>
        intro hx
        have hne : ¬ (Sum.inr q.1 : Key) = Sum.inr x := fun e => by
          cases e
          exact hx List.mem_cons_self
        exact (valV_neg (p := (Sum.inr q.1, q.2)) hne).trans (ih fun z => hx (List.mem_cons_of_mem _ z))
    refine key _ fun z => ?_
    rw [List.map_take] at z
    have hi : (ps.map (·.1))[i]? = some x := by rw [List.getElem?_map, h]; rfl
    obtain ⟨j, hj, e⟩ := List.getElem_of_mem z
    rw [List.length_take] at hj
    rw [List.getElem_take] at e
    obtain ⟨hl, e2⟩ := List.getElem?_eq_some_iff.mp hi
    have := (List.pairwise_iff_getElem.mp nd) j i (by omega) hl (by omega)
    exact this (e.trans e2.symm)
  rw [putK_new _ hn, take_snoc h]
  unfold strK
  rw [List.map_append]
  rfl
/-- a dict of atoms: a new dict of the same -/
def spDctA : Sp := fun vs H Q _ => ∃ (a : Addr) (ps : List (Str × V)), vs = [.ref a] ∧ H a = some (.dK (strK ps)) ∧ Atoms (ps.map (·.2)) ∧ (ps.map (·.1)).Nodup ∧ ps.length ≤ 1000 ∧ ∀ (b : Addr) (H' : Hp), Same H H' → H b = none → H' b = some (.dK (strK ps)) → Q (.ref b) H'
theorem ok_dctA {f : Addr} {fd : FuncData} (F : Fun K "copied" "copied" sCopied f fd) (T : TxtC mg) (mC : mg "copied" = some (.ref f)) (bC : Binds K fd ["thing"] []) : FnOk P w K mg base CX0 2 f fd ["thing"] spDctA := by
  have G : FnOk P w K mg base CX0 1 f fd ["thing"] spAtom := ok_atom F T
  refine F.ok scC (fun vs H Q E h => ?_) (fun cdv A outer s H vs Q E hr h => ?_)
  · obtain ⟨a, ps, rfl, _⟩ := h
    rfl
  · obtain ⟨a, ps, rfl, ha, hat, nd, hl, k⟩ := h
    refine ⟨_, pss_cons (ps_if (pt_val (pe_callB call_isi (by rfl) T.isi (by decide +kernel) (pa_cons (pv 0) (pa_cons (pe_bltn (v := .ty "tuple") (by rfl) T.tup (by decide +kernel) rfl) pa_nil)))) (pss_one ps_never) pss_nil)
      (pss_cons (ps_if (pt_val (pe_callB call_isi (by rfl) T.isi (by decide +kernel) (pa_cons (pv 0) (pa_cons (pe_bltn (v := .ty "list") (by rfl) T.lst (by decide +kernel) rfl) pa_nil)))) (pss_one ps_never) pss_nil)
      (pss_cons (ps_if (pt_val (pe_callB call_isi (by rfl) T.isi (by decide +kernel) (pa_cons (pv 0) (pa_cons (pe_bltn (v := .ty "dict") (by rfl) T.dct (by decide +kernel) rfl) pa_nil)))) (pss_one (ps_ret
          (pe_lock (pe_dc (own := [("key", 2)]) (g := gName 2) (tt := tYes) rfl scC.nd (pi_keys (pv 0)) (blkOk_by (N := ["thing", "inner", "key"]) (sc := defScope sCopied) (by decide +kernel)) (fun _ _ _ _ _ => pg_name (i := 2) scC.nd rfl (Or.inl rfl)) (fun _ _ _ _ _ => pts_nil) (fun _ _ _ _ _ => pv 2) (fun _ _ _ _ _ => pe_call G hr rfl mC F.kp bC .nil pass0 (pa_cons (pe_dget (hu_of hr) (pv 0) (pv 2) (fun _ _ => rfl)) pa_nil)))))) pss_nil)
      (pss_one ps_never))), ?_⟩
    refine ⟨_, rfl, _, _, _, _, false, rfl, .ty "tuple", .base (.dK ha), kit_ty (by decide +kernel), _, rfl, iteF ?_⟩
    refine ⟨_, rfl, _, _, _, _, false, rfl, .ty "list", .base (.dK ha), kit_ty (by decide +kernel), _, rfl, iteF ?_⟩
    refine ⟨_, rfl, _, _, _, _, true, rfl, .ty "dict", .base (.dK ha), kit_ty (by decide +kernel), _, rfl, iteT ?_⟩
    refine ⟨a, _, ha, True.intro, fun od => ?_⟩
    refine ⟨_, rfl, a, od, rfl, .inl ⟨_, upd_same, fun D hD => ?_⟩⟩
    have aD : D ≠ a := fun z => by rw [z, upd_same] at hD; cases hD
    have nD : H D = none := by rw [upd_ne aD] at hD; exact hD
    refine dc_go (walk_keys (kvs := strK ps)) (fun i H' => H' = upd (upd H a (.frz od (.dK (strK ps)))) D (.dK (strK (ps.take i)))) rfl (fun i H' _ e => by subst e; rw [upd_ne aD.symm]; exact upd_same) ?_ ?_
    · intro i x H1 H' hi e y
      subst e
      obtain ⟨eH, kk, v, hkv, rfl⟩ := y
      subst eH
      obtain ⟨z, hz, rfl⟩ := strK_get hkv
      refine ⟨rfl, iteT (B := True) ⟨_, rfl, _, rfl, _, rfl, a, v, rfl, ?_, v, rfl, hat v (List.mem_map.mpr ⟨_, List.mem_of_getElem? hz, rfl⟩), strK (ps.take i), Sum.inr z, rfl, upd_same, ?_, ?_⟩⟩
      · exact .inl ⟨_, Sum.inr z, .inr ⟨od, by rw [upd_ne aD.symm]; exact upd_same⟩, rfl, (strK_val nd hz).symm⟩
      · unfold strK
        rw [sizeLine_eq, List.length_map, List.length_take]; omega
      · rw [upd_upd, strK_put nd hz]
    · intro H' e
      subst e
      have hlen : (strK ps).length = ps.length := by unfold strK; rw [List.length_map]
      rw [hlen, List.take_length]
      refine ⟨by rw [upd_ne aD.symm]; exact upd_same, ?_⟩
      refine k D _ (fun b o e => ?_) nD (by rw [upd_ne aD, upd_same])
      by_cases hb : b = a
      · subst hb
        rw [ha] at e
        cases e
        exact upd_same
      · rw [upd_ne hb, upd_ne (ne_of_none e nD), upd_ne hb]
        exact e
def spCopy (K : PySem.W.Frag) : Sp := fun vs H Q _ => ∃ (v : V) (d : PyData), vs = [v] ∧ Flat K H v d ∧ ∀ v' H', Same H H' → Flat K H' v' d → Q v' H'
theorem ok_copy {f : Addr} {fd : FuncData} (F : Fun K "copied" "copied" sCopied f fd) (T : TxtC mg) (mC : mg "copied" = some (.ref f)) (bC : Binds K fd ["thing"] []) : FnOk P w K mg base CX0 2 f fd ["thing"] (spCopy K) := by
  have G1 : FnOk P w K mg base CX0 2 f fd ["thing"] spAtom := (ok_atom F T).mono (by decide)
  have G2 : FnOk P w K mg base CX0 2 f fd ["thing"] (spTupA K) := ok_tupA F T mC bC
  have G3 : FnOk P w K mg base CX0 2 f fd ["thing"] spLstA := ok_lstA F T mC bC
  have G4 : FnOk P w K mg base CX0 2 f fd ["thing"] spDctA := ok_dctA F T mC bC
  refine ⟨fun vs H Q E h => ?_, fun A outer s H args us vs Q E hr he hb hv hs => ?_⟩
  · obtain ⟨v, d, rfl, _⟩ := h
    rfl
  · obtain ⟨v, d, rfl, hp, k⟩ := hs
    cases id hp with
    | atom h => exact G1.run A outer s H args us _ Q E hr he hb hv ⟨v, rfl, h, k v H (Same.refl H) hp⟩
    | tup h x l => exact G2.run A outer s H args us _ Q E hr he hb hv ⟨_, _, rfl, h, x, l, fun b H' sm _ e => k _ H' sm (.tup (SqT.of e) x l)⟩
    | lst h x l => exact G3.run A outer s H args us _ Q E hr he hb hv ⟨_, _, rfl, h, x, l, fun b H' sm _ e => k _ H' sm (.lst e x l)⟩
    | dct h x nd l => exact G4.run A outer s H args us _ Q E hr he hb hv ⟨_, _, rfl, h, x, nd, l, fun b H' sm _ e => k _ H' sm (.dct e x nd l)⟩
end
end Bo
set_option Elab.async false
set_option linter.all false
set_option maxRecDepth 100000
set_option maxHeartbeats 8000000
namespace Bo
open PySem L2
abbrev sIsName : Stmt := top 23
def lets : Str := Str.ofString "abcdefghijklmnopqrstuvwxyz"
def digs : Str := Str.ofString "0123456789"
def isLet (c : Nat) : Bool := decide (c ∈ lets.cps.toList)
def isSign (c : Nat) : Bool := decide (c ∈ lets.cps.toList) || decide (c ∈ digs.cps.toList)
/-- x is a name -/
def nameOk (x : Str) : Bool := decide (1 ≤ x.cps.toList.length) && (decide (x.cps.toList.length ≤ 8) && ((x.cps.toList.head?.any isLet) && x.cps.toList.all isSign))
def nameV : V → Bool
  | .str x => nameOk x
  | _ => false
structure TxtN (mg : Str → Option Value) : Prop extends TxtC mg where
  let_ : ∃ t, mg "LETTERS" = some (.str lets t)
  dig : ∃ t, mg "DIGITS" = some (.str digs t)
  lon : ∃ t, mg "LONGEST_NAME" = some (.int 8 t)
  len : mg "len" = none
  str_ : mg "str" = none
  all_ : mg "all" = none
/-- v is no text, of one of the kinds of flat data -/
theorem flat_ty {K : PySem.W.Frag} {H : Hp} {v : V} {d : PyData} (h : Flat K H v d) : (∃ x, v = .str x) ∨ ∃ t : Value, TyX K H v t ∧ PySem.W.kitOne K t (.type "str") = some false := by
  cases h with
  | atom h =>
    cases v with
    | str x => exact .inl ⟨x, rfl⟩
    | non => exact .inr ⟨_, .base .non, kit_ty (by decide +kernel)⟩
    | bl b => exact .inr ⟨_, .base (.bl b), kit_ty (by decide +kernel)⟩
    | int i => exact .inr ⟨_, .base (.int i), kit_ty (by decide +kernel)⟩
    | _ => cases h
  | tup h x l => exact .inr ⟨_, sqT_ty h, kit_ty (by decide +kernel)⟩
  | lst h x l => exact .inr ⟨_, .base (.lst h), kit_ty (by decide +kernel)⟩
  | dct h x nd l => exact .inr ⟨_, .base (.dK h), kit_ty (by decide +kernel)⟩
theorem nameV_no {v : V} (h : ∀ x, v ≠ .str x) : nameV v = false := by
  cases v with
  | str x => exact absurd rfl (h x)
  | _ => rfl
/-- is_name(thing) -/
def spIsName (K : PySem.W.Frag) : Sp := fun vs H Q _ => ∃ (v : V) (d : PyData), vs = [v] ∧ Flat K H v d ∧ (∀ x, v = .str x → x.length ≤ 1000) ∧ ∀ H', Same H H' → Q (.bl (nameV v)) H'
section
variable {P : Program} {w : World} {K : PySem.W.Frag} {mg : Str → Option Value} {base : Heap}
theorem scN : FnScope ["thing", "sign"] ["thing"] (defScope sIsName) := ⟨rfl, rfl, rfl, by decide +kernel, rfl, by decide +kernel, by decide +kernel⟩
theorem ok_isName {f : Addr} {fd : FuncData} (F : Fun K "is_name" "is_name" sIsName f fd) (T : TxtN mg) : FnOk P w K mg base CX0 1 f fd ["thing"] (spIsName K) := by
  obtain ⟨t1, mL⟩ := T.let_
  obtain ⟨t2, mD⟩ := T.dig
  obtain ⟨t3, mO⟩ := T.lon
  refine F.ok scN (fun vs H Q E h => ?_) (fun cdv A outer s H vs Q E hr h => ?_)
  · obtain ⟨v, d, rfl, _⟩ := h
    rfl
  · obtain ⟨v, d, rfl, hf, hz, k⟩ := h
    refine ⟨_, pss_cons (ps_if (PW.pt (pw_or (pt_not (pt_val (pe_callB call_isi (by rfl) T.isi (by decide +kernel) (pa_cons (pv 0) (pa_cons (pe_bltn (v := .ty "str") (by rfl) T.str_ (by decide +kernel) rfl) pa_nil)))))
          (pw_or1 (pt_not (pt_chain op_le op_le pe_int (pe_callB call_len_str (by rfl) T.len PySem.boot_len (pa_cons (pv 0) pa_nil)) (pe_glob (v := .int 8) (by rfl) mO ⟨_, rfl⟩)))))) (pss_one (ps_ret pe_bl)) pss_nil)
      (pss_one (ps_ret (pe_and (pe_cmpR op_in_sign (pe_ix ix_str (pv 0) pe_int (fun _ _ => rfl)) (pe_glob (v := .str lets) (by rfl) mL ⟨_, rfl⟩) (by rfl))
        (pe_one (pe_callB (cr_all rfl) (by rfl) T.all_ (by decide +kernel) (pa_cons (pe_lc (own := [("sign", 1)]) (g := gName 1) (tt := tYes) rfl scN.nd (pi_str (pv 0)) (blkOk_by (N := ["thing", "sign"]) (sc := defScope sIsName) (by decide +kernel)) (fun _ _ _ _ _ => pg_name (i := 1) scN.nd rfl (Or.inl rfl)) (fun _ _ _ _ _ => pts_nil)
          (fun _ _ _ _ _ => pe_or (pe_cmpR op_in_sign (pv 1) (pe_glob (v := .str lets) (by rfl) mL ⟨_, rfl⟩) (by rfl)) (pe_one (pe_cmpR op_in_sign (pv 1) (pe_glob (v := .str digs) (by rfl) mD ⟨_, rfl⟩) (by rfl))))) pa_nil)))))), ?_⟩
    rcases flat_ty hf with ⟨x, rfl⟩ | ⟨t, ty, kn⟩
    · have hl := hz x rfl
      refine ⟨_, rfl, _, _, _, _, true, rfl, .ty "str", .base (.str x), kit_ty (by decide +kernel), _, rfl, iteF ?_⟩
      refine ⟨_, rfl, x, rfl, by rw [sizeLine_eq]; omega, _, _, rfl, rfl, _, rfl, ?_⟩
      have lenE : x.cps.toList.length = x.length := by show _ = x.cps.size; exact Array.length_toList
      have bad : (1 ≤ x.cps.toList.length ∧ x.cps.toList.length ≤ 8 → False) → Q (.bl false) H := fun hb => by
        have e : nameV (.str x) = false := by
          show (decide _ && (decide _ && _)) = false
          by_cases h1 : 1 ≤ x.cps.toList.length
          · rw [decide_eq_false (fun h2 => hb ⟨h1, h2⟩), Bool.false_and, Bool.and_false]
          · rw [decide_eq_false h1, Bool.false_and]
        rw [← e]
        exact k H (Same.refl H)
      refine ite2 (fun h1 => ?_) (fun h1 => ⟨_, rfl, iteT (bad fun z => h1 (decide_eq_true (by omega)))⟩)
      have h1 : (1 : Int) ≤ x.length := of_decide_eq_true h1
      refine ⟨_, _, rfl, rfl, _, rfl, ite2 (fun h2 => bad fun z => ?_) (fun h2 => ?_)⟩
      · rw [decide_eq_true (show ((x.length : Nat) : Int) ≤ 8 by omega)] at h2
        cases h2
      have h2 : (x.length : Int) ≤ 8 := by
        by_cases z : (x.length : Int) ≤ 8
        · exact z
        · exact absurd (by rw [decide_eq_false z]; rfl) h2
      obtain ⟨c, hc⟩ : ∃ c, x.cps.toList[0]? = some c := ⟨_, List.getElem?_eq_getElem (by omega)⟩
      have hhd : x.cps.toList.head? = some c := by
        rw [List.head?_eq_getElem?]
        exact hc
      have val : nameV (.str x) = (isLet c && x.cps.toList.all isSign) := by
        show (decide _ && (decide _ && _)) = _
        rw [decide_eq_true (show 1 ≤ x.cps.toList.length by omega), decide_eq_true (show x.cps.toList.length ≤ 8 by omega), hhd, Bool.true_and, Bool.true_and]
        rfl
      refine ⟨_, rfl, x, 0, c, rfl, rfl, by rw [sizeLine_eq]; omega, atI_nat (j := 0) hc, c, lets, rfl, rfl, _, rfl, ite2 (fun h3 => ?_) (fun h3 => ?_)⟩
      · refine ⟨_, rfl, x, rfl, fun D hD => ?_⟩
        refine lc_it walk_str (fun i H' => H' = upd H D (.lst ((x.cps.toList.take i).map fun c => V.bl (isSign c)))) rfl (fun _ _ _ _ => True.intro) ?_ ?_
        · intro i v H1 H' hi e y
          subst e
          obtain ⟨eH, c', hc', rfl⟩ := y
          subst eH
          have hc2 : x.cps.toList[i]? = some c' := by rw [Array.getElem?_toList]; exact hc'
          have fin : ∀ b : Bool, b = isSign c' → ∃ acc, (upd H D (.lst ((x.cps.toList.take i).map fun c => V.bl (isSign c)))) D = some (.lst acc) ∧ acc.length < sizeLine ∧ upd (upd H D (.lst ((x.cps.toList.take i).map fun c => V.bl (isSign c)))) D (.lst (acc ++ [V.bl b])) = upd H D (.lst ((x.cps.toList.take (i + 1)).map fun c => V.bl (isSign c))) := fun b hb => by
            refine ⟨_, upd_same, by rw [sizeLine_eq, List.length_map, List.length_take]; omega, ?_⟩
            rw [upd_upd, take_snoc hc2, List.map_append, hb]
            rfl
          refine ⟨rfl, iteT (B := True) ⟨_, rfl, c', lets, rfl, rfl, _, rfl, ite2 (fun h4 => fin true ?_) (fun h4 => ⟨_, rfl, c', digs, rfl, rfl, fin _ ?_⟩)⟩⟩
          · show true = (decide _ || _)
            rw [h4]
            rfl
          · show _ = (decide (c' ∈ lets.cps.toList) || _)
            rw [decide_eq_false (fun z => h4 (decide_eq_true z)), Bool.false_or]
        · intro H' e
          subst e
          have en : x.cps.toList.take x.cps.size = x.cps.toList := by
            rw [← Array.length_toList, List.take_length]
          refine ⟨D, x.cps.toList.map isSign, rfl, SqL.of ?_, ?_⟩
          · rw [en, List.map_map]
            exact upd_same
          · have e2 : ((x.cps.toList.map isSign).all id) = nameV (.str x) := by
              rw [val, List.all_map]
              show _ = (decide (c ∈ lets.cps.toList) && _)
              rw [h3, Bool.true_and]
              rfl
            rw [e2, en]
            exact k _ (same_new hD)
      · have e : nameV (.str x) = false := by
          rw [val]
          show (decide (c ∈ lets.cps.toList) && _) = false
          rw [decide_eq_false (fun z => h3 (decide_eq_true z)), Bool.false_and]
        rw [← e]
        exact k H (Same.refl H)
    · have hno : nameV v = false := nameV_no fun x e => by
        subst e
        cases ty with
        | base h =>
          cases h
          rw [show PySem.W.kitOne K (.type "str") (.type "str") = some true from kit_ty (by decide +kernel)] at kn
          cases kn
      refine ⟨_, rfl, v, _, _, _, false, rfl, .ty "str", ty, kn, _, rfl, iteT (iteT ?_)⟩
      rw [← hno]
      exact k H (Same.refl H)
end
end Bo
set_option Elab.async false
set_option linter.all false
set_option maxRecDepth 100000
set_option maxHeartbeats 8000000
namespace Bo
open PySem L2
theorem Flat.step {K : PySem.W.Frag} {H H' : Hp} {v : V} {d : PyData} (h : Flat K H v d) (kt : ∀ a xs, SqT K H a xs → SqT K H' a xs) (kl : ∀ a xs, H a = some (.lst xs) → H' a = some (.lst xs)) (kd : ∀ a kvs, H a = some (.dK kvs) → H' a = some (.dK kvs)) : Flat K H' v d := by
  cases h with
  | atom h => exact .atom h
  | tup h x l => exact .tup (kt _ _ h) x l
  | lst h x l => exact .lst (kl _ _ h) x l
  | dct h x nd l => exact .dct (kd _ _ h) x nd l
theorem exo_lst {e C : Addr} {d : Option Addr} {xs : List V} : exo e C d ≠ .lst xs := fun z => by cases (show HO.ext _ = HO.lst xs from z)
theorem exo_dK {e C : Addr} {d : Option Addr} {xs : List (Key × V)} : exo e C d ≠ .dK xs := fun z => by cases (show HO.ext _ = HO.dK xs from z)
theorem sqT_off {K : PySem.W.Frag} {H H' : Hp} {a : Addr} (k : ∀ b o, H b = some o → b ≠ a → H' b = some o) (ha : ∀ xs, H a ≠ some (.tup xs)) (hf : ∀ o xs, H a ≠ some (.frz o (.tup xs))) {b : Addr} {xs : List V} (h : SqT K H b xs) : SqT K H' b xs := by
  rcases h with (h | ⟨o, h⟩) | h
  · exact .inl (.inl (k _ _ h fun z => ha xs (z ▸ h)))
  · exact .inl (.inr ⟨o, k _ _ h fun z => hf o xs (z ▸ h)⟩)
  · exact .inr h
/-- what the written part says of an error class with one field -/
structure ErrC (K : PySem.W.Frag) (C fI : Addr) (f : Str) : Prop where
  o : OexC K C
  i : PySem.W.findIn K (.ref C) "__init__" = some (some (.ref fI))
  t : PySem.W.typeIn K (.ref fI) = some (.type "function")
  no : PySem.W.findIn K (.ref C) f = some none
/-- the error of the class at C, its field data d, is let out -/
def Thrown (K : PySem.W.Frag) (E : XK) (H : Hp) (C : Addr) (f : Str) (d : PyData) : Prop := ∀ (dx : Addr) (v : V) (H' : Hp), Same H H' → H' dx = some (.xd [(f, v)]) → Flat K H' v d → E (.ref C) (some dx) H'
theorem Thrown.later {K : PySem.W.Frag} {E : XK} {H H1 : Hp} {C : Addr} {f : Str} {d : PyData} (h : Thrown K E H C f d) (k : Same H H1) : Thrown K E H1 C f d := fun dx v H' k' e1 e2 => h dx v H' (k.trans k') e1 e2
end Bo
set_option Elab.async false
set_option linter.all false
set_option maxRecDepth 100000
set_option maxHeartbeats 8000000
namespace Bo
open PySem L2
/-- flat data, or a pair of flat data -/
inductive Fl2 (K : PySem.W.Frag) (H : Hp) : V → PyData → Prop where
  | fl {v : V} {d : PyData} (h : Flat K H v d) : Fl2 K H v d
  | pr {a : Addr} {x y : V} {dx dy : PyData} (h : SqT K H a [x, y]) (hx : Flat K H x dx) (hy : Flat K H y dy) : Fl2 K H (.ref a) (.tuple [dx, dy])
theorem Fl2.keep {K : PySem.W.Frag} {H H' : Hp} {v : V} {d : PyData} (h : Fl2 K H v d) (k : Same H H') : Fl2 K H' v d := by
  cases h with
  | fl h => exact .fl (h.keep k)
  | pr h hx hy => exact .pr (SqT.keep h k) (hx.keep k) (hy.keep k)
def spCopy2 (K : PySem.W.Frag) : Sp := fun vs H Q _ => ∃ (v : V) (d : PyData), vs = [v] ∧ Fl2 K H v d ∧ ∀ v' H', Same H H' → Fl2 K H' v' d → Q v' H'
def spCopyP (K : PySem.W.Frag) : Sp := fun vs H Q _ => ∃ (a : Addr) (x y : V) (dx dy : PyData), vs = [.ref a] ∧ SqT K H a [x, y] ∧ Flat K H x dx ∧ Flat K H y dy ∧ ∀ v' H', Same H H' → Fl2 K H' v' (.tuple [dx, dy]) → Q v' H'
section
variable {P : Program} {w : World} {K : PySem.W.Frag} {mg : Str → Option Value} {base : Heap}
def spCopyF (K : PySem.W.Frag) : Sp := fun vs H Q _ => ∃ (v : V) (d : PyData), vs = [v] ∧ Flat K H v d ∧ ∀ v' H', Same H H' → Flat K H' v' d → (∀ a, v' = .ref a → H a = none) → Q v' H'
theorem ok_copyF {f : Addr} {fd : FuncData} (F : Fun K "copied" "copied" sCopied f fd) (T : TxtC mg) (mC : mg "copied" = some (.ref f)) (bC : Binds K fd ["thing"] []) : FnOk P w K mg base CX0 2 f fd ["thing"] (spCopyF K) := by
  have G1 : FnOk P w K mg base CX0 2 f fd ["thing"] spAtom := (ok_atom F T).mono (by decide)
  have G2 : FnOk P w K mg base CX0 2 f fd ["thing"] (spTupA K) := ok_tupA F T mC bC
  have G3 : FnOk P w K mg base CX0 2 f fd ["thing"] spLstA := ok_lstA F T mC bC
  have G4 : FnOk P w K mg base CX0 2 f fd ["thing"] spDctA := ok_dctA F T mC bC
  refine ⟨fun vs H Q E h => ?_, fun A outer s H args us vs Q E hr he hb hv hs => ?_⟩
  · obtain ⟨v, d, rfl, _⟩ := h
    rfl
  · obtain ⟨v, d, rfl, hp, k⟩ := hs
    cases id hp with
    | atom h => exact G1.run A outer s H args us _ Q E hr he hb hv ⟨v, rfl, h, k v H (Same.refl H) hp (fun a e => by rw [e] at h; cases h)⟩
    | tup h x l => exact G2.run A outer s H args us _ Q E hr he hb hv ⟨_, _, rfl, h, x, l, fun b H' sm n e => k _ H' sm (.tup (SqT.of e) x l) (fun a ea => by cases ea; exact n)⟩
    | lst h x l => exact G3.run A outer s H args us _ Q E hr he hb hv ⟨_, _, rfl, h, x, l, fun b H' sm n e => k _ H' sm (.lst e x l) (fun a ea => by cases ea; exact n)⟩
    | dct h x nd l => exact G4.run A outer s H args us _ Q E hr he hb hv ⟨_, _, rfl, h, x, nd, l, fun b H' sm n e => k _ H' sm (.dct e x nd l) (fun a ea => by cases ea; exact n)⟩
theorem ok_copyP {f : Addr} {fd : FuncData} (F : Fun K "copied" "copied" sCopied f fd) (T : TxtC mg) (mC : mg "copied" = some (.ref f)) (bC : Binds K fd ["thing"] []) : FnOk P w K mg base CX0 3 f fd ["thing"] (spCopyP K) := by
  have G : FnOk P w K mg base CX0 2 f fd ["thing"] (spCopyF K) := ok_copyF F T mC bC
  refine F.ok scC (fun vs H Q E h => ?_) (fun cdv A outer s H vs Q E hr h => ?_)
  · obtain ⟨a, x, y, dx, dy, rfl, _⟩ := h
    rfl
  · obtain ⟨a, x, y, dx, dy, rfl, ha, hx, hy, k⟩ := h
    refine ⟨_, pss_cons (ps_if (pt_val (pe_callB call_isi (by rfl) T.isi (by decide +kernel) (pa_cons (pv 0) (pa_cons (pe_bltn (v := .ty "tuple") (by rfl) T.tup (by decide +kernel) rfl) pa_nil)))) (pss_one (ps_ret (pe_callTy call_tuple_of (by rfl) T.tup (by decide +kernel)
          (pa_cons (pe_lc (own := [("inner", 1)]) (g := gName 1) (tt := tYes) rfl scC.nd (pi_tup (pv 0)) (blkOk_by (N := ["thing", "inner", "key"]) (sc := defScope sCopied) (by decide +kernel)) (fun _ _ _ _ _ => pg_name (i := 1) scC.nd rfl (Or.inl rfl)) (fun _ _ _ _ _ => pts_nil) (fun _ _ _ _ _ => pe_call G hr rfl mC F.kp bC .nil pass0 (pa_cons (pv 1) pa_nil))) pa_nil)))) pss_nil)
      (pss_cons ps_never (pss_cons ps_never (pss_one ps_never))), ?_⟩
    refine ⟨_, rfl, _, _, _, _, true, rfl, .ty "tuple", sqT_ty ha, kit_ty (by decide +kernel), _, rfl, iteT ?_⟩
    refine ⟨_, rfl, a, rfl, ⟨_, ha⟩, fun D hD => ?_⟩
    refine lc_tup (xs := [x, y]) (fun i H' => Same H H' ∧ ((i = 0 ∧ H' D = some (.lst [])) ∨ (i = 1 ∧ ∃ x', H' D = some (.lst [x']) ∧ Flat K H' x' dx ∧ x' ≠ .ref D) ∨ (i = 2 ∧ ∃ x' y', H' D = some (.lst [x', y']) ∧ Flat K H' x' dx ∧ Flat K H' y' dy))) ⟨same_new hD, .inl ⟨rfl, upd_same⟩⟩ (fun i H' _ e => SqT.keep ha e.1) ?_ ?_
    · have off : ∀ {H1 : Hp} {vs : List V}, Same H H1 → Same H (upd H1 D (.lst vs)) := fun {H1 vs} s b o e => by
        rw [upd_ne (ne_of_none e hD)]
        exact s b o e
      have fl_off : ∀ {H1 : Hp} {us vs : List V} {v : V} {d : PyData}, H1 D = some (.lst us) → Flat K H1 v d → v ≠ .ref D → Flat K (upd H1 D (.lst vs)) v d := fun {H1 us vs v d} e f n => by
        have n' : ∀ a, v = .ref a → a ≠ D := fun a ea z => n (by rw [ea, z])
        cases f with
        | atom h => exact .atom h
        | tup h x l =>
          refine .tup ?_ x l
          rcases h with (h | ⟨o, h⟩) | h
          · exact .inl (.inl ((upd_ne (n' _ rfl)).trans h))
          · exact .inl (.inr ⟨o, (upd_ne (n' _ rfl)).trans h⟩)
          · exact .inr h
        | lst h x l => exact .lst ((upd_ne (n' _ rfl)).trans h) x l
        | dct h x nd l => exact .dct ((upd_ne (n' _ rfl)).trans h) x nd l
      intro i z H' hz ⟨sm, p⟩
      rcases p with ⟨rfl, eD⟩ | ⟨rfl, x', eD, fx, nx⟩ | ⟨rfl, _⟩
      · cases hz
        refine ⟨rfl, iteT (B := True) ⟨x, rfl, x, dx, rfl, hx.keep sm, fun v' H1 s1 f1 n1 => ⟨[], s1 _ _ eD, by decide, off (sm.trans s1), .inr (.inl ⟨rfl, v', upd_same, ?_⟩)⟩⟩⟩
        have nD : v' ≠ .ref D := fun e => by
          have := n1 D e
          rw [eD] at this
          cases this
        exact ⟨fl_off (s1 _ _ eD) f1 nD, nD⟩
      · cases hz
        refine ⟨rfl, iteT (B := True) ⟨y, rfl, y, dy, rfl, hy.keep sm, fun v' H1 s1 f1 n1 => ⟨[x'], s1 _ _ eD, by show 1 < sizeLine; decide, off (sm.trans s1), .inr (.inr ⟨rfl, x', v', upd_same, ?_, ?_⟩)⟩⟩⟩
        · exact fl_off (s1 _ _ eD) (fx.keep s1) nx
        · refine fl_off (s1 _ _ eD) f1 fun e => ?_
          have := n1 D e
          rw [eD] at this
          cases this
      · simp at hz
    · rintro H' ⟨sm, p⟩
      rcases p with ⟨z, _⟩ | ⟨z, _⟩ | ⟨_, x', y', eD, fx, fy⟩
      · cases z
      · cases z
      refine ⟨D, _, rfl, .inl ⟨SqL.of eD, fun b hb => ?_⟩⟩
      have sb : Same H' (upd H' b (.tup [x', y'])) := same_new hb
      exact k _ _ (sm.trans sb) (.pr (SqT.of upd_same) (fx.keep sb) (fy.keep sb))
end
end Bo
set_option Elab.async false
set_option linter.all false
set_option maxRecDepth 100000
set_option maxHeartbeats 4000000
namespace Bo
open PySem PySem.Spec PyProof.Rows L2
/-- room, and no repr in progress -/
structure Quiet (k : Nat) (A : Around) : Prop where
  room : Room k A
  gd : A.guards = some []
theorem Quiet.mono {j k : Nat} {A : Around} (q : Quiet k A) (h : j ≤ k) : Quiet j A := ⟨q.room.mono h, q.gd⟩
/-- a def's promise, kept where no repr is in progress -/
structure FnQ (P : Program) (w : World) (K : PySem.W.Frag) (mg : Str → Option Value) (base : Heap) (CX : CXT) (k : Nat) (f : Addr) (fd : FuncData) (ps : List Str) (sp : Sp) : Prop where
  len : ∀ vs H Q E, sp vs H Q E → vs.length = ps.length
  run : ∀ (A : Around) (outer : List Env) (s : Shared) (H : Hp) (args : Args) (us : List Value) (vs : List V) (Q : VK) (E : XK), Quiet k A → Env0 P w K mg base A outer s H → BindsTo s fd args (ps.zip us) → Vals vs us → sp vs H Q E →
    codeAny (model P w) A (.call (.ref f) args) (CR CX outer P w H s Q E) s
theorem FnQ.of {P : Program} {w : World} {K : PySem.W.Frag} {mg : Str → Option Value} {base : Heap} {CX : CXT} {k : Nat} {f : Addr} {fd : FuncData} {ps : List Str} {sp : Sp} (F : FnOk P w K mg base CX k f fd ps sp) : FnQ P w K mg base CX k f fd ps sp :=
  ⟨F.len, fun A outer s H args us vs Q E hr => F.run A outer s H args us vs Q E hr.room⟩
section
variable {CX : CXT} {P : Program} {w : World} {K : PySem.W.Frag} {mg : Str → Option Value} {base : Heap}
theorem fnq_of {k : Nat} {f : Addr} {name qual : Str} {params : Arguments} {body : List Stmt} {scope : Scope} {dV kV doc pm cdv ct oc : Value} {an od : Option Addr}
    {osl : Array (Option Value)} {N ps : List Str} {sp : Sp} (lk : K.lookup f = some ⟨oc, od, .func (PySem.W.fnOf name qual params body scope dV kV doc pm an cdv ct), osl⟩) (hcd : PySem.W.codeIn K cdv qual = true) (S : FnScope N ps scope)
    (len : ∀ vs H Q E, sp vs H Q E → vs.length = ps.length)
    (hbody : ∀ (A : Around) (outer : List Env) (s : Shared) (H : Hp) (vs : List V) (Q : VK) (E : XK), Quiet k (A.deeper (envOfC qual scope s.heap.objs.size f cdv)) → sp vs H Q E →
      ∃ t, PSs (cxOf CX P w K mg base N qual scope f cdv A outer s H E) body t ∧ t { nx := fun _ H' => Q .non H', rt := Q } (start N vs) H) :
    FnQ P w K mg base CX (k + 1) f (PySem.W.fnOf name qual params body scope dV kV doc pm an cdv ct) ps sp := by
  refine ⟨len, fun A outer s H args us vs Q E hq0 e0 hb r hsp => ?_⟩
  have hr := hq0.room
  have hl := len _ _ _ _ hsp
  have KX : K.In s.heap := e0.mod.kin.keeps fun b o e => (e0.bs b o e).1
  have lim : s.heap.NoLimit := e0.mod.nolimit.keeps fun b o e => (e0.bs b o e).1
  have hk : ∀ y ∈ ps.zip us, scope.names.lookup y.1 = some .local ∨ (scope.names.lookup y.1 = some .cell ∧ ((cellsFrom (s.heap.objs.size + 1) scope.names []).lookup y.1).isSome = true) := fun ⟨n, v⟩ hy => by
    rcases S.par n (List.of_mem_zip hy).1 with q | q
    · exact .inl q
    · exact .inr ⟨q, PySem.W.cellsFrom_some _ _ _ (.inl q)⟩
  refine codeAny_call_function hr.depth (KX _ _ lk) rfl S.co S.gen rfl (PySem.W.codeRec_of KX hcd) (hb _ _ _ _ (wpAny_newFunctionEnv_cells S.kind hk fun env he s1 x => ?_))
  subst he
  refine ⟨lim.keeps x.toInCall.keep, codeAny_func ?_⟩
  have hq1 : Quiet k (A.deeper (envOfC qual scope s.heap.objs.size f cdv)) := ⟨hr.deeper _, hq0.gd⟩
  obtain ⟨t, ht, hq⟩ := hbody A outer s H vs Q E hq1 hsp
  have I : L2.Inv (cxOf CX P w K mg base N qual scope f cdv A outer s H E) [] (start N vs) H s1 := inv_start S hr.hd e0 hl r x
  refine wpAny_mono (ht.run [] s1 (start N vs) H _ I hq) (fun fl s' hs => ?_) fun e s' hs => hs
  cases fl with
  | ret u =>
    obtain ⟨v, σ', H', J, rv, q⟩ := hs
    exact ⟨v, H', J.os, J.bare, J.base, J.hok, rv, q⟩
  | next =>
    obtain ⟨σ', H', J, q⟩ := hs
    exact ⟨V.non, H', J.os, J.bare, J.base, J.hok, rfl, q⟩
  | brk => exact (let ⟨_, _, _, q⟩ := hs; False.elim q)
  | cont => exact (let ⟨_, _, _, q⟩ := hs; False.elim q)
/-- THE RULE for a def of the text that asks repr -/
theorem fun_okQ {x qual : Str} {st : Stmt} {f : Addr} {fd : FuncData} {N ps : List Str} {k : Nat} {sp : Sp} (F : Fun K x qual st f fd) (S : FnScope N ps (defScope st)) (len : ∀ vs H Q E, sp vs H Q E → vs.length = ps.length)
    (hbody : ∀ (cdv : Value) (A : Around) (outer : List Env) (s : Shared) (H : Hp) (vs : List V) (Q : VK) (E : XK), Quiet k (A.deeper (envOfC qual (defScope st) s.heap.objs.size f cdv)) → sp vs H Q E →
      ∃ t, PSs (cxOf CX P w K mg base N qual (defScope st) f cdv A outer s H E) (defBody st) t ∧ t { nx := fun _ H' => Q .non H', rt := Q } (start N vs) H) : FnQ P w K mg base CX (k + 1) f fd ps sp := by
  obtain ⟨oc, od, kV, doc, pm, an, cdv, ct, osl, rfl, lk, hcd⟩ := F.ex
  exact fnq_of lk hcd S len fun A outer s H vs Q E hr hsp => hbody cdv A outer s H vs Q E hr hsp
/-- .. which no exception leaves -/
theorem fun_okQ0 {x qual : Str} {st : Stmt} {f : Addr} {fd : FuncData} {N ps : List Str} {k : Nat} {sp : Sp} (F : Fun K x qual st f fd) (S : FnScope N ps (defScope st)) (len : ∀ vs H Q E, sp vs H Q E → vs.length = ps.length)
    (hbody : ∀ (cdv : Value) (A : Around) (outer : List Env) (s : Shared) (H : Hp) (vs : List V) (Q : VK) (E : XK), Quiet k (A.deeper (envOfC qual (defScope st) s.heap.objs.size f cdv)) → sp vs H Q E →
      ∃ t, PSs (cxOf CX0 P w K mg base N qual (defScope st) f cdv A outer s H E).nox (defBody st) t ∧ t { nx := fun _ H' => Q .non H', rt := Q } (start N vs) H) : FnQ P w K mg base CX0 (k + 1) f fd ps sp :=
  fun_okQ F S len fun cdv A outer s H vs Q E hq hsp => let ⟨t, h, q⟩ := hbody cdv A outer s H vs Q E hq hsp; ⟨t, h.nox, q⟩
end
section
variable {X : Cx} {CX : CXT} {k : Nat} {f C : Addr} {fd : FuncData} {ps : List Str} {ds : List Value} {dvs : List V} {sp : Sp} {E : XK} {x m : Str} {p pos apos : Pos} {e o : Expr} {es : List Expr} {ta : TE} {t : TA}
theorem run_fnQ {pins : List (Addr × Obj)} {σ : L2.St} {H : Hp} {s : Shared} {Q : VK} {us : List Value} {vs : List V} (F : FnQ X.prog X.w X.K X.mg X.base CX k f fd ps sp) (hr : Quiet k X.A) (hb : Binds X.K fd ps ds) (hd : Vals dvs ds) (hx : Passes CX X E)
    (I : L2.Inv X pins σ H s) (r : Vals vs us) (h : sp (vs ++ dvs) H Q E) : wpAny (model X.prog X.w) X.A (call (.ref f) us) (EP X pins σ Q) X.xe s := by
  have r2 : Vals (vs ++ dvs) (us ++ ds) := r.append hd
  have hl : (us ++ ds).length = ps.length := r2.length.symm.trans (F.len _ _ _ _ h)
  refine wpAny_call (codeAny_mono (F.run X.A X.stack s H ⟨us, []⟩ (us ++ ds) (vs ++ dvs) Q E hr I.env0 (hb s us I.kIn hl) r2 h) fun r s' hq => ?_)
  match r, hq with
  | .error e, hq => exact hx pins σ H s e s' I hq
  | .ok (.ret u), hq => exact I.after hq
/-- f(e, ..) of such a def -/
theorem pe_callQ (F : FnQ X.prog X.w X.K X.mg X.base CX k f fd ps sp) (hr : Quiet k X.A) (hg : Gl X x) (hm : X.mg x = some (.ref f)) (hk : PySem.W.keepIn X.K (.ref f) = true) (hb : Binds X.K fd ps ds) (hd : Vals dvs ds) (hx : Passes CX X E)
    (ha : PA X (e :: es) t) (hdb : (x == ("__debug__" : Str)) = false := by decide) (he : starEach (e :: es) X.env = (false, eval e X.env) :: starEach es X.env := by rfl) (hpl : (backTo pos (starEach es X.env)).any (·.1) = false := by rfl) :
    PE X (.Call (.Name x p) (e :: es) [] pos) (tCall sp dvs E t) :=
  ⟨fun pins s σ H Q I h => wpAny_Call_Name_kw (ld_glob I hg hm
    (PySem.W.callWith_K (h₀ := X.base) I.ok.mod.kin hk (thn (ha.run pos pins s σ H _ I h) fun us s1 ⟨vs, H1, I1, r, q⟩ => ⟨I1.kIn, run_fnQ F hr hb hd hx I1 r q⟩) he hpl) hdb)⟩
mutual
theorem dp_hasDict {K : PySem.W.Frag} {H : Hp} : ∀ (d : PyData) (v : V), Dp K H v d → d.hasDict = false
  | .none, _, _ => rfl
  | .bool _, _, _ => rfl
  | .int _, _, _ => rfl
  | .str _, _, _ => rfl
  | .list ds, _, h => by
    cases h with
    | lst _ ha => unfold PyData.hasDict; exact dp_hasDictAll ds _ ha
  | .tuple ds, _, h => by
    cases h with
    | tup _ ha => unfold PyData.hasDict; exact dp_hasDictAll ds _ ha
  | .dict _, _, h => by cases h
theorem dp_hasDictAll {K : PySem.W.Frag} {H : Hp} : ∀ (ds : List PyData) (vs : List V), DpAll K H vs ds → PyData.hasDictAll ds = false
  | [], _, _ => rfl
  | d :: ds, _, h => by
    cases h with
    | cons h1 h2 => unfold PyData.hasDictAll; rw [dp_hasDict d _ h1, dp_hasDictAll ds _ h2]; rfl
end
/-- repr(x), x data of any depth without dicts: its text -/
def rRepr (K : PySem.W.Frag) : List V → Hp → VK → Prop := fun xs H Q => ∃ (x : V) (d : PyData), xs = [x] ∧ Dp K H x d ∧ d.showable = true ∧ d.depth ≤ 60 ∧ d.shown.length ≤ sizeLine ∧ Q (.str d.shown) H
theorem call_reprQ {k : Nat} (hr : Quiet k X.A) : CallR X (.builtin "repr") (rRepr X.K) := by
  intro pins s σ H xs us Q I r h
  obtain ⟨x, d, rfl, hd, hs, hdep, hz, q⟩ := h
  obtain ⟨u, rfl, ru⟩ := vals1 r
  have hun := hr.room.un
  have hnd := dp_hasDict d x hd
  obtain ⟨as, R⟩ := Dp.reads I d x u hd ru
  have big : ∀ a, u = Value.ref a → wpAny (model X.prog X.w) X.A (call (.builtin "repr") [u]) (EP X pins σ Q) X.xe s := fun a e => by
    subst e
    refine repr_of_reads' R hs (fun z => by rw [hnd] at z; cases z) hr.gd (by omega) (fun _ _ e => e) (fun h' u tk hk => ?_) hz
    exact ⟨.str d.shown, H, I.kept (t' := tk) hk, ⟨u, rfl⟩, q⟩
  cases hd with
  | non =>
    cases (show u = Value.none from ru)
    exact P.repr_of_none ⟨.str PyData.none.shown, H, I.tok _, ⟨_, rfl⟩, q⟩
  | bl b =>
    cases (show u = Value.bool b from ru)
    refine P.repr_of_bool ⟨.str (PyData.bool b).shown, H, I.tok _, ⟨s.toks, ?_⟩, q⟩
    cases b <;> rfl
  | int i =>
    obtain ⟨t, rfl⟩ := (show ∃ t, u = Value.int i t from ru)
    exact P.repr_of_int (of_decide_eq_true hs) ⟨.str (PyData.int i).shown, H, I.tok _, ⟨_, rfl⟩, q⟩
  | str y =>
    obtain ⟨t, rfl⟩ := (show ∃ t, u = Value.str y t from ru)
    exact P.repr_of_str ⟨.str (PyData.str y).shown, H, I.tok _, ⟨_, rfl⟩, q⟩ hz
  | lst _ _ => exact big _ ru
  | tup _ _ => exact big _ ru
end
theorem quiet_caller {k : Nat} (h : Room k callerA) : Quiet k callerA := ⟨h, rfl⟩
end Bo
set_option Elab.async false
set_option linter.all false
set_option maxRecDepth 100000
set_option maxHeartbeats 4000000
namespace Bo
open PySem PySem.Spec PyProof.Rows L2
theorem atom_reads {h : Heap} {v : V} {u : Value} (a : atomV v = true) (r : RelV v u) : Reads h u (dataA v) [] := by
  cases v with
  | non =>
    cases (show u = Value.none from r)
    exact .none
  | bl b =>
    cases (show u = Value.bool b from r)
    exact .bool b
  | int i =>
    obtain ⟨t, rfl⟩ := (show ∃ t, u = Value.int i t from r)
    exact .int i t
  | str x =>
    obtain ⟨t, rfl⟩ := (show ∃ t, u = Value.str x t from r)
    exact .str x t
  | _ => cases a
theorem atoms_reads {h : Heap} : ∀ {xs : List V} {us : List Value}, Atoms xs → Vals xs us → ReadsAll h us (xs.map dataA) []
  | [], _, _, .nil => .nil
  | x :: xs, _, a, .cons r t => ReadsAll.cons (as := []) (bs := []) (atom_reads (a x List.mem_cons_self) r) (atoms_reads (fun y hy => a y (List.mem_cons_of_mem _ hy)) t)
def encK : Key → PyData
  | .inl i => .int i
  | .inr x => .str x
theorem encK_reads {P : Program} {w : World} {h : Heap} (k : Key) (u : Value) (e : (mixKind P w).is k u = true) : Reads h u (encK k) [] := by
  rcases keyIs_shape e with ⟨i, t, rfl, rfl⟩ | ⟨x, t, rfl, rfl⟩
  · exact .int i t
  · exact .str x t
theorem strK_reads {h : Heap} : ∀ {ps : List (Str × V)} {vs : List (Key × Value)}, Atoms (ps.map (·.2)) → KV (strK ps) vs → PyProof.V.PairsRead h encK vs (strD ps) []
  | [], vs, _, r => by
    cases r
    exact .nil
  | p :: ps, vs, a, r => by
    cases r with
    | cons r1 r2 =>
      rename_i q qs
      obtain ⟨k, v⟩ := q
      obtain ⟨e1, e2⟩ := r1
      subst e1
      exact PyProof.V.PairsRead.cons (as := []) (bs := []) (atom_reads (a p.2 List.mem_cons_self) e2) (strK_reads (fun y hy => a y (List.mem_cons_of_mem _ hy)) r2)
theorem atoms_nodict : ∀ xs : List V, PyData.hasDictAll (xs.map dataA) = false
  | [] => rfl
  | x :: xs => by
    show (PyData.hasDict (dataA x) || PyData.hasDictAll (xs.map dataA)) = false
    rw [atoms_nodict xs, Bool.or_false]
    cases x <;> rfl
section
variable {X : Cx} {pins : List (Addr × Obj)} {σ : L2.St} {H : Hp} {s : Shared}
theorem Flat.reads (I : L2.Inv X pins σ H s) {v : V} {d : PyData} {u : Value} (f : Flat X.K H v d) (r : RelV v u) : ∃ as, Reads s.heap u d as ∧ (d.hasDict = true → sysModules ∉ as) := by
  cases f with
  | atom h => exact ⟨[], atom_reads h r, fun _ => List.not_mem_nil⟩
  | tup h x l =>
    cases r
    obtain ⟨its, rv, ⟨o, ho, hc, n, hd⟩, _⟩ := I.tuple h
    exact ⟨[], Reads.tuple ho hc hd (atoms_reads x rv), fun _ => List.not_mem_nil⟩
  | lst h x l =>
    cases r
    obtain ⟨its, rv, ⟨o, n, ho, hc, _, hd⟩, _⟩ := I.list (SqL.of h)
    refine ⟨_, Reads.list ho hc hd (atoms_reads x rv), fun z => ?_⟩
    rw [show PyData.hasDict (.list _) = PyData.hasDictAll _ from rfl, atoms_nodict] at z
    cases z
  | dct h x nd l =>
    cases r
    obtain ⟨_, z, vs, rel, dd⟩ := dk_of I.hok h
    refine ⟨_, PyProof.V.reads_dictOf encK_reads dd (strK_reads x rel), fun _ m => ?_⟩
    rw [List.mem_singleton.mp m] at z
    simp at z
end
/-- what _law_error tells: flat data, or a pair of a text and flat data -/
inductive Rp (K : PySem.W.Frag) (H : Hp) : V → PyData → Prop where
  | flat {v : V} {d : PyData} (h : Flat K H v d) : Rp K H v d
  | pair {a : Addr} {x : Str} {v : V} {d : PyData} (h : SqT K H a [.str x, v]) (f : Flat K H v d) : Rp K H (.ref a) (.tuple [.str x, d])
theorem Rp.keep {K : PySem.W.Frag} {H H' : Hp} {v : V} {d : PyData} (h : Rp K H v d) (k : Same H H') : Rp K H' v d := by
  cases h with
  | flat h => exact .flat (h.keep k)
  | pair h f => exact .pair (SqT.keep h k) (f.keep k)
section
variable {X : Cx} {pins : List (Addr × Obj)} {σ : L2.St} {H : Hp} {s : Shared}
theorem Rp.reads (I : L2.Inv X pins σ H s) {v : V} {d : PyData} {u : Value} (f : Rp X.K H v d) (r : RelV v u) : ∃ as, Reads s.heap u d as ∧ (d.hasDict = true → sysModules ∉ as) := by
  cases f with
  | flat h => exact h.reads I r
  | @pair a y w e h f =>
    cases r
    obtain ⟨its, rv, ⟨o, ho, hc, n, hd⟩, _⟩ := I.tuple h
    cases rv with
    | cons r1 r2 =>
      cases r2 with
      | cons r2 r3 =>
        cases r3
        obtain ⟨t, rfl⟩ := r1
        obtain ⟨as, h1, h2⟩ := f.reads I r2
        have ra : ReadsAll s.heap [Value.str y t, _] [PyData.str y, e] ([] ++ (as ++ [])) := ReadsAll.cons (.str y t) (ReadsAll.cons h1 .nil)
        rw [List.nil_append, List.append_nil] at ra
        refine ⟨as, Reads.tuple ho hc hd ra, fun z => h2 ?_⟩
        have e2 : PyData.hasDict (.tuple [.str y, e]) = (false || (PyData.hasDict e || false)) := rfl
        rw [e2, Bool.false_or, Bool.or_false] at z
        exact z
end
end Bo
set_option Elab.async false
set_option linter.all false
set_option maxRecDepth 100000
set_option maxHeartbeats 8000000
namespace Bo
open PySem L2
def spPickS : Sp := fun vs H Q _ => ∃ (t c : Addr) (cs : List Int) (p l : Int) (z : Str), vs = [.ref t, .str z] ∧ Tape H t c cs p l ∧ 0 < z.cps.toList.length ∧ z.cps.toList.length ≤ 1000000 ∧ p < 1000000000000 ∧
  ∀ (u : Nat) (p' l' : Int) (H' : Hp), u ∈ z.cps.toList → p ≤ p' → p' ≤ p + 1 → Tape H' t c cs p' l' → But t H H' → Q (.str ⟨#[u]⟩) H'
section
variable {P : Program} {w : World} {K : PySem.W.Frag} {mg : Str → Option Value} {base : Heap}
theorem ok_pickS {f fD : Addr} {fd fdD : FuncData} (F : Fun K "_law_pick" "_law_pick" sPick f fd) (T : TxtB mg) (G : FnOk P w K mg base CX0 1 fD fdD ["_law_tape", "_law_many"] spDraw) (mD : mg "_law_draw" = some (.ref fD)) (kD : PySem.W.keepIn K (.ref fD) = true) (bD : Binds K fdD ["_law_tape", "_law_many"] []) :
    FnOk P w K mg base CX0 2 f fd ["_law_tape", "_law_items"] spPickS := by
  refine F.ok scP (fun vs H Q E h => ?_) (fun cdv A outer s H vs Q E hr h => ?_)
  · obtain ⟨t, c, cs, p, l, z, rfl, _⟩ := h
    rfl
  · obtain ⟨t, c, cs, p, l, z, rfl, hT, hn, hx, hp, k⟩ := h
    have hsz : z.length = z.cps.toList.length := (Array.length_toList (xs := z.cps)).symm
    refine ⟨_, pss_one (ps_ret (pe_ix ix_str (pv 1) (pe_call G hr rfl mD kD bD .nil pass0 (pa_cons (pv 0) (pa_cons (pe_callB call_len_str (by rfl) T.len PySem.boot_len (pa_cons (pv 1) pa_nil)) pa_nil))) (fun _ _ => rfl))), ?_⟩
    refine ⟨_, rfl, _, rfl, _, rfl, z, rfl, by rw [sizeLine_eq]; omega, t, c, cs, p, l, _, rfl, hT, by omega, by omega, hp, fun r p' l' H' h0 h1 a1 a2 hT' hB => ?_⟩
    obtain ⟨i, rfl⟩ : ∃ i : Nat, r = (i : Int) := ⟨r.toNat, by omega⟩
    have hi : i < z.cps.toList.length := by omega
    exact ⟨z, _, _, rfl, rfl, by rw [sizeLine_eq]; omega, atI_nat (List.getElem?_eq_getElem hi), k _ p' l' H' (List.getElem_mem hi) a1 a2 hT' hB⟩
end
structure TxtOk (x : Str) : Prop where
  l : x.cps.toList.length ≤ 20
  c : ∀ u ∈ x.cps.toList, u < 128
structure Thg (K : PySem.W.Frag) (H : Hp) (v : V) (d : PyData) : Prop where
  f : Flat K H v d
  t : ∀ x, v = .str x → TxtOk x
  s : d.showable = true
  p : d.depth ≤ 5
  z : d.shown.length ≤ 1000
  o : d.hasDict = false → SeqAt.shaped d = true
theorem Thg.keep {K : PySem.W.Frag} {H H' : Hp} {v : V} {d : PyData} (h : Thg K H v d) (k : Same H H') : Thg K H' v d := ⟨h.f.keep k, h.t, h.s, h.p, h.z, h.o⟩
theorem Flat.but {K : PySem.W.Frag} {H H' : Hp} {v : V} {d : PyData} {t : Addr} (h : Flat K H v d) (n : v ≠ .ref t) (b : But t H H') : Flat K H' v d := by
  have n' : ∀ a, v = .ref a → a ≠ t := fun a e z => n (by rw [e, z])
  cases h with
  | atom h => exact .atom h
  | tup h x l =>
    refine .tup ?_ x l
    rcases h with (h | ⟨o, h⟩) | h
    · exact .inl (.inl (b _ _ h (n' _ rfl)))
    · exact .inl (.inr ⟨o, b _ _ h (n' _ rfl)⟩)
    · exact .inr h
  | lst h x l => exact .lst (b _ _ h (n' _ rfl)) x l
  | dct h x nd l => exact .dct (b _ _ h (n' _ rfl)) x nd l
end Bo
set_option Elab.async false
set_option linter.all false
set_option maxRecDepth 100000
set_option maxHeartbeats 1000000
namespace Bo
open PySem PySem.Spec PyProof.Rows L2 LamX
end Bo
set_option Elab.async false
set_option linter.all false
set_option maxRecDepth 100000
set_option maxHeartbeats 4000000
namespace Bo
open PySem PySem.Spec PyProof.Rows L2
/-- the text that a set's place holds -/
def txtOf (z : Int × Value) : Str := match z.2 with | .str x _ => x | _ => Str.empty
def TxtAt (w : World) (z : Int × Value) : Prop := ∃ (x : Str) (k : Tok), z.2 = Value.str x k ∧ z.1 = hashStr w x
/-- at a stands the set of the texts xs -/
def SetTx (w : World) (a : Addr) (xs : List Str) (h : Heap) : Prop :=
  ∃ (ob : Obj) (zs : Array (Int × Value)) (gen : Nat) (tb : SetTable), (h.get? a = some ob ∧ ob.ExactSet ∧ ob.data = .set zs gen tb) ∧ (∀ z ∈ zs.toList, TxtAt w z) ∧ (zs.toList.map txtOf).Perm xs ∧ xs.Nodup ∧
    (zs.size < scanBound ∧ tb.fits zs.size = true) ∧ Ris tb.place.toList ∧ (w.params.followText "set-order" = true ∨ tb.led = true)
section
variable {P : Program} {w : World} {A : Around} {E : Value → Shared → Prop} {s : Shared} {a : Addr} {xs : List Str}
theorem txt_elems {zs : List (Int × Value)} (g : ∀ z ∈ zs, TxtAt w z) : ElemsOf (PySem.strKind P w) zs := fun z hz => by
  obtain ⟨x, k, h1, h2⟩ := g z hz
  refine ⟨⟨x, ?_, h2⟩, ?_⟩
  · rw [h1]; exact strKind_is P w x k
  · rw [h1]; rfl
theorem txt_is {z : Int × Value} (g : TxtAt w z) (x : Str) : (PySem.strKind P w).is x z.2 = true ↔ txtOf z = x := by
  obtain ⟨y, k, h1, _⟩ := g
  unfold txtOf
  rw [h1]
  constructor
  · intro h
    obtain ⟨k', h'⟩ := Value.isStrOf_shape (x := x) (v := Value.str y k) h
    injection h' with h1 _
  · rintro rfl
    exact strKind_is P w _ _
theorem txt_mem {zs : List (Int × Value)} (g : ∀ z ∈ zs, TxtAt w z) (x : Str) : x ∈ zs.map txtOf ↔ ∃ z ∈ zs, (PySem.strKind P w).is x z.2 = true := by
  rw [List.mem_map]
  exact ⟨fun ⟨z, hz, q⟩ => ⟨z, hz, (txt_is (g z hz) x).2 q⟩, fun ⟨z, hz, q⟩ => ⟨z, hz, (txt_is (g z hz) x).1 q⟩⟩
theorem SetTx.size {h : Heap} {ob : Obj} {zs : Array (Int × Value)} (p : (zs.toList.map txtOf).Perm xs) : zs.size = xs.length := by
  rw [← p.length_eq, List.length_map, Array.length_toList]
theorem SetTx.setOf {h : Heap} (R : SetTx w a xs h) : h.SetOf (PySem.strKind P w) a (fun x => decide (x ∈ xs)) xs.length := by
  obtain ⟨ob, zs, gen, tb, ⟨e1, e2, e3⟩, g, p, nd, ⟨b1, b2⟩, _, _⟩ := R
  refine ⟨ob, zs, gen, tb, e1, e2, e3, txt_elems g, fun x => ?_, b1, b2, SetTx.size (h := h) (ob := ob) p⟩
  rw [decide_eq_true_eq, ← p.mem_iff]
  exact txt_mem g x
/-- behind the table's turn -/
theorem txt_store {g : Bool → Sem Unit} (hg : ∀ (b : Bool) (s1 : Shared) (Q' : Unit → Shared → Prop), Q' () s1 → wpAny (model P w) A (g b) Q' E s1)
    {ob : Obj} {zs zs1 : Array (Int × Value)} {gen : Nat} {tb tb1 : SetTable} (e1 : s.heap.get? a = some ob) (e2 : ob.ExactSet) (e3 : ob.data = .set zs gen tb)
    (g1 : ∀ z ∈ zs1.toList, TxtAt w z) (p1 : (zs1.toList.map txtOf).Perm xs) (nd : xs.Nodup) (b1 : zs1.size < scanBound) (f1 : tb1.fits zs1.size = true) (r1 : Ris tb1.place.toList) (l1 : w.params.followText "set-order" = true ∨ tb1.led = true)
    {wd : Bool} {R : Option Bool → Shared → Prop} (hR : ∀ h', Heap.SameBut a s.heap h' → SetTx w a xs h' → R (some true) { s with heap := h' }) :
    wpAny (model P w) A (do
        storeSet a zs1 tb1
        if (!wd && tb1.tooFull) = true then do
            g (relayAll tb1 zs1 (SetTable.grown zs1.size)).2.2
            storeSet a (relayAll tb1 zs1 (SetTable.grown zs1.size)).1 (relayAll tb1 zs1 (SetTable.grown zs1.size)).2.1
            pure (some true)
          else pure (some true)) R E s := by
  have at1 := L2.store_at (es' := zs1) (t' := tb1) e1 e3
  have same1 := Heap.SameBut.update s.heap a (Obj.putSet zs1 tb1)
  refine wpAny_bind (wpAny_storeSet_of e1 e3 ?_ (fits_of_scanBound b1))
  split
  · have q1 := relayAll_perm tb1 zs1 (SetTable.grown zs1.size)
    have q2 := relayAll_fits tb1 zs1 (SetTable.grown zs1.size)
    have q3 := L2.relayAll_ris tb1 zs1 (SetTable.grown zs1.size)
    have q4 := L2.relayAll_led tb1 zs1 (SetTable.grown zs1.size)
    generalize relayAll tb1 zs1 (SetTable.grown zs1.size) = T at q1 q2 q3 q4 ⊢
    obtain ⟨zs2, tb2, gave⟩ := T
    dsimp only at q1 q2 q3 q4 ⊢
    have n2 : zs2.size = zs1.size := by rw [← Array.length_toList, q1.length_eq, Array.length_toList]
    have b2 : zs2.size < scanBound := by rw [n2]; exact b1
    refine wpAny_bind (hg _ _ _ (wpAny_bind (wpAny_storeSet_of at1 rfl (wpAny_pure (hR _ (same1.trans (Heap.SameBut.update _ a _)) ?_)) (fits_of_scanBound b2))))
    refine ⟨_, zs2, _, tb2, ⟨L2.store_at (es' := zs2) (t' := tb2) at1 rfl, e2, rfl⟩, fun z hz => g1 z (q1.mem_iff.mp hz), (q1.map txtOf).trans p1, nd, ⟨b2, q2⟩, q3, ?_⟩
    rw [q4]
    exact l1
  · exact wpAny_pure (hR _ same1 ⟨_, zs1, _, tb1, ⟨at1, e2, rfl⟩, g1, p1, nd, ⟨b1, f1⟩, r1, l1⟩)
/-- what a member's adding makes of the texts -/
def addTx (xs : List Str) (x : Str) : List Str := if x ∈ xs then xs else x :: xs
theorem addTx_nd {xs : List Str} {x : Str} (h : xs.Nodup) : (addTx xs x).Nodup := by
  unfold addTx
  split
  · exact h
  · rename_i n
    exact List.nodup_cons.mpr ⟨n, h⟩
theorem addTx_len {xs : List Str} {x : Str} : (addTx xs x).length ≤ xs.length + 1 := by
  unfold addTx
  split
  · omega
  · simp
theorem txt_addHashed {x : Str} {k : Tok} {Q : Bool → Shared → Prop} (R : SetTx w a xs s.heap) (room : xs.length + 1 < scanBound)
    (hQ : ∀ (b : Bool) (h' : Heap), Heap.SameBut a s.heap h' → SetTx w a (addTx xs x) h' → Q b { s with heap := h' }) :
    wpAny (model P w) A (setAddHashed a (.str x k) ((PySem.strKind P w).hash x)) Q E s := by
  obtain ⟨ob, zs, gen, tb, ⟨e1, e2, e3⟩, g, p, nd, ⟨b1, f1⟩, r1, l1⟩ := R
  have ky : (PySem.strKind P w).is x (.str x k) = true := strKind_is P w x k
  have sc : (Value.str x k).scannable = true := rfl
  have el : ElemsOf (PySem.strKind P w) zs.toList := txt_elems g
  have nz : zs.size = xs.length := SetTx.size (h := s.heap) (ob := ob) p
  unfold setAddHashed setAddHashedIn
  refine wpAny_holding (wpAny_bind (wpAny_setState_of e1 e3 f1 ?_))
  dsimp only
  rw [byScan_of sc b1 el]
  simp only [↓reduceIte]
  unfold setAddByScan
  refine wpAny_bind (wpAny_bind (wpAny_rule (wpAny_bind (wpAny_setScan_of ky e1 e3 f1 el ?_))))
  cases hf : List.findIdx? (fun e => (PySem.strKind P w).is x e.2) zs.toList with
  | some j =>
    dsimp only
    obtain ⟨hj, pj, _⟩ := List.findIdx?_eq_some_iff_getElem.mp hf
    have hin : x ∈ xs := p.mem_iff.mp ((txt_mem (P := P) (w := w) g x).2 ⟨zs.toList[j], List.getElem_mem hj, pj⟩)
    refine wpAny_pure (wpAny_pure (hQ _ s.heap (Heap.SameBut.refl a s.heap) ⟨ob, zs, gen, tb, ⟨e1, e2, e3⟩, g, ?_, addTx_nd nd, ⟨b1, f1⟩, r1, l1⟩))
    unfold addTx
    rw [if_pos hin]
    exact p
  | none =>
    dsimp only
    have hno : x ∉ xs := fun z => by
      obtain ⟨e, he, q⟩ := (txt_mem (P := P) (w := w) g x).1 (p.mem_iff.mpr z)
      rw [List.findIdx?_eq_none_iff.mp hf e he] at q
      cases q
    have gw : ∀ (b : Bool) {s1 : Shared} {Q' : Unit → Shared → Prop}, Q' () s1 → wpAny (model P w) A (match b with | true => rule "set.scan.the-table-gave-way" | false => pure ()) Q' E s1 :=
      fun b _ _ q => by
        cases b
        · exact wpAny_pure q
        · exact wpAny_rule q
    have q1 := layNew_perm tb zs ((PySem.strKind P w).hash x) (.str x k)
    have q2 := layNew_fits tb zs ((PySem.strKind P w).hash x) (.str x k)
    have q3 := L2.layNew_ris tb zs ((PySem.strKind P w).hash x) (.str x k) r1
    have q4 := L2.layNew_led tb zs ((PySem.strKind P w).hash x) (.str x k)
    generalize layNew tb zs ((PySem.strKind P w).hash x) (.str x k) = T at q1 q2 q3 q4 ⊢
    obtain ⟨zs1, tb1, wd, gave⟩ := T
    dsimp only at q1 q2 q3 q4 ⊢
    rw [Array.toList_push] at q1
    have pc : zs1.toList.Perm (((PySem.strKind P w).hash x, Value.str x k) :: zs.toList) := q1.trans (List.perm_append_singleton _ _)
    have px : (zs1.toList.map txtOf).Perm (addTx xs x) := by
      unfold addTx
      rw [if_neg hno]
      exact (pc.map txtOf).trans (p.cons x)
    have g1 : ∀ z ∈ zs1.toList, TxtAt w z := fun z hz => by
      rcases List.mem_cons.mp (pc.mem_iff.mp hz) with e | hz
      · rw [e]
        exact ⟨x, k, rfl, rfl⟩
      · exact g z hz
    have n1 : zs1.size = xs.length + 1 := by rw [← Array.length_toList, pc.length_eq, List.length_cons, Array.length_toList, nz]
    have bb : zs1.size < scanBound := by rw [n1]; exact room
    have ll : w.params.followText "set-order" = true ∨ tb1.led = true := l1.imp id fun z => by rw [q4]; exact z
    have fin : ∀ h', Heap.SameBut a s.heap h' → SetTx w a (addTx xs x) h' → Q true { s with heap := h' } := fun h' m r => hQ _ h' m r
    refine wpAny_bind (gw _ ?_)
    split
    · refine wpAny_bind ?_
      rw [hashByValue_scannable 8 sc]
      refine wpAny_pure (txt_store ?_ e1 e2 e3 g1 px (addTx_nd nd) bb ?_ ?_ ?_ ?_)
      · intro b s1 Q' q
        exact gw b q
      · first | (split <;> first | exact q2 | exact SetTable.fits_plain_off q2) | exact q2
      · first | (split <;> exact q3) | exact q3
      · first | (split <;> exact ll) | exact ll
      · intro h' m r
        dsimp only
        exact wpAny_pure (fin h' m r)
    · refine wpAny_bind (wpAny_pure ?_)
      simp only [↓reduceIte]
      refine txt_store ?_ e1 e2 e3 g1 px (addTx_nd nd) bb q2 q3 ll ?_
      · intro b s1 Q' q
        exact gw b q
      · intro h' m r
        dsimp only
        exact wpAny_pure (fin h' m r)
end
end Bo
set_option Elab.async false
set_option linter.all false
set_option maxRecDepth 100000
set_option maxHeartbeats 8000000
namespace Bo
open PySem PySem.Spec PyProof.Rows L2
/-- the texts of a list, each once -/
def onceTx : List Str → List Str := fun ys => ys.foldl addTx []
theorem onceTx_take {ys : List Str} {i : Nat} {y : Str} (h : ys[i]? = some y) : onceTx (ys.take (i + 1)) = addTx (onceTx (ys.take i)) y := by
  have e : ys.take (i + 1) = ys.take i ++ [y] := by
    rw [List.take_add_one, h]
    rfl
  unfold onceTx
  rw [e, List.foldl_append]
  rfl
theorem addTx_new {xs : List Str} {x : Str} (h : x ∉ xs) : addTx xs x = x :: xs := if_neg h
/-- no text twice: the same texts, turned round -/
theorem onceTx_perm : ∀ {ys : List Str}, ys.Nodup → (onceTx ys).Perm ys := by
  intro ys
  have key : ∀ (ys acc : List Str), (ys ++ acc).Nodup → (ys.foldl addTx acc).Perm (ys ++ acc) := by
    intro ys
    induction ys with
    | nil => intro acc _; exact List.Perm.refl _
    | cons y r ih =>
      intro acc h
      obtain ⟨h1, h2⟩ := List.nodup_cons.mp (show (y :: (r ++ acc)).Nodup from h)
      have hn : y ∉ acc := fun z => h1 (List.mem_append.mpr (.inr z))
      rw [List.foldl_cons, addTx_new hn]
      have h3 : (r ++ y :: acc).Nodup := (List.perm_middle.nodup_iff).mpr h
      exact (ih (y :: acc) h3).trans List.perm_middle
  intro h
  have q := key ys [] (by rw [List.append_nil]; exact h)
  rw [List.append_nil] at q
  exact q
theorem len_onceTx (ys : List Str) : (onceTx ys).length ≤ ys.length := by
  have key : ∀ (ys acc : List Str), (ys.foldl addTx acc).length ≤ ys.length + acc.length := by
    intro ys
    induction ys with
    | nil => intro acc; simp
    | cons y r ih =>
      intro acc
      have h1 := ih (addTx acc y)
      have h2 := addTx_len (xs := acc) (x := y)
      rw [List.foldl_cons, List.length_cons]
      omega
  have h := key ys []
  rw [List.length_nil, Nat.add_zero] at h
  exact h
section
variable {prog : Program} {w : World} {A : Around} {R : Result → Shared → Prop} {I : Addr} {fp wr : List Addr} {G : Array GenState → Array GenState → Prop} {n : Nat} {Pv : Nat → Value → Prop} {St : Nat → Shared → Prop}
theorem SetTx.at {xs : List Str} {a : Addr} {h h' : Heap} (R : SetTx w a xs h) (k : ∀ o, h.get? a = some o → h'.get? a = some o) : SetTx w a xs h' := by
  obtain ⟨ob, zs, gen, tb, ⟨e1, e2⟩, r⟩ := R
  exact ⟨ob, zs, gen, tb, ⟨k ob e1, e2⟩, r⟩
/-- the loop of set(..): one member a turn -/
theorem set_turns (W : WalksS prog w A.in1 I fp wr G n Pv St) (C : Addr) (hC : C ∉ fp) (ys : List Str) (hn : ys.length = n) (hb : n + 1 < scanBound) (hv : ∀ i v, Pv i v → ∃ t, v = .str (ys.getD i Str.empty) t) :
    ∀ (m i : Nat) (s : Shared), n - i = m → i ≤ n → St i s → SetTx w C (onceTx (ys.take i)) s.heap → (∀ s', Moved (C :: wr) G s s' → SetTx w C (onceTx ys) s'.heap → R (.ok (.ret .none)) s') →
      codeAny (model prog w) A (.builtin "set.update.loop" ⟨[.ref C, .ref I], []⟩) R s := by
  have hCw : C ∉ wr := fun z => hC (W.sub _ z)
  have up : ∀ b ∈ wr, b ∈ C :: wr := fun b z => List.mem_cons_of_mem _ z
  intro m
  induction m with
  | zero =>
    intro i s hm hi hst hS hR
    obtain rfl : i = n := by omega
    refine codeAny_builtin PyProof.Rows.F.entry_set_update_loop ?_
    rw [Around.under_plainId PyProof.Rows.F.plain_set_update_loop _]
    show wpAny _ A.in1 (pyNext (.ref I) >>= _) _ _ s
    refine wpAny_bind (W.done s _ _ hst fun s' mv => wpAny_pure (hR s' (mv.mono up) ?_))
    have e : ys.take i = ys := by rw [← hn, List.take_length]
    rw [e] at hS
    exact hS.at fun o ho => mv.heap C o hCw ho
  | succ m ih =>
    intro i s hm hi hst hS hR
    have hlt : i < n := by omega
    refine codeAny_builtin PyProof.Rows.F.entry_set_update_loop ?_
    rw [Around.under_plainId PyProof.Rows.F.plain_set_update_loop _]
    show wpAny _ A.in1 (pyNext (.ref I) >>= _) _ _ s
    refine wpAny_bind (W.item i s _ _ hlt hst fun v s' hP hst' mv => ?_)
    obtain ⟨t, rfl⟩ := hv i v hP
    have hy : ys[i]? = some (ys.getD i Str.empty) := by
      have hl : i < ys.length := by omega
      rw [List.getD_eq_getElem?_getD, List.getElem?_eq_getElem hl]
      rfl
    have hS' : SetTx w C (onceTx (ys.take i)) s'.heap := hS.at fun o ho => mv.heap C o hCw ho
    show wpAny _ _ (holding [Value.str (ys.getD i Str.empty) t] (setAdd C (.str (ys.getD i Str.empty) t)) >>= _) _ _ s'
    refine wpAny_bind (wpAny_holding ?_)
    unfold setAdd
    refine wpAny_holding (wpAny_bind ((PySem.strKind prog w).pyHash (k := ys.getD i Str.empty) (strKind_is _ _ _ _) ?_))
    have few : (onceTx (ys.take i)).length + 1 < scanBound := by
      have h1 := len_onceTx (ys.take i)
      rw [List.length_take] at h1
      omega
    refine txt_addHashed (P := prog) (s := { s' with toks := s'.toks + 1 }) hS' few fun _ h' sb hS2 => ?_
    rw [← onceTx_take hy] at hS2
    refine wpAny_pure ⟨plainId_quiet PyProof.Rows.F.plain_set_update_loop _, ih (i + 1) _ (by omega) hlt (W.frame _ s' _ _ hst' (Nat.le_succ _) fun b hb o e => ?_) hS2 fun s2 mv2 hS3 => ?_⟩
    · rw [sb.2 b (fun z : b = C => hC (by rw [← z]; exact hb))]
      exact e
    · refine hR s2 (Moved.trans W.gtrans ((mv.mono up).then_heap (Nat.le_succ _) fun b o hb e => ?_) mv2) hS3
      rw [sb.2 b (fun z : b = C => hb (by rw [z]; exact List.mem_cons_self))]
      exact e
end
def freshSet (w : World) : Obj := { cls := .type "set", dict := none, data := .set #[] 0 (.fresh 0 0 (!w.params.followText "set-order")) }
theorem freshSet_tx {h : Heap} (w : World) : SetTx w h.objs.size (onceTx (([] : List Str).take 0)) (h.push (freshSet w)) := by
  refine ⟨_, #[], 0, _, ⟨Heap.get?_push_size _ rfl, ⟨rfl, rfl, rfl⟩, rfl⟩, fun z hz => by simp at hz, List.Perm.refl _, List.nodup_nil, ⟨by decide, by rfl⟩, List.Pairwise.nil, ?_⟩
  show _ ∨ (!w.params.followText "set-order") = true
  cases w.params.followText "set-order"
  · exact .inr rfl
  · exact .inl rfl
section
variable {P : Program} {w : World} {A : Around} {E : Value → Shared → Prop} {s : Shared}
theorem code_setNew (a : Value) {Q : Value → Shared → Prop} (h : Q (.ref s.heap.objs.size) { s with heap := s.heap.push (freshSet w) }) :
    codeAny (model P w) A (.call (.builtin "set.__new__") ⟨[.type "set", a], []⟩) (wants Q E) s := by
  refine codeAny_of_tree ?_
  show wpAny _ A.in1 (do checkBuiltinCall "set.__new__" ⟨[.type "set", a], []⟩; again (.builtin "set.__new__" ⟨[.type "set", a], []⟩)) _ _ s
  refine wpAny_bind (wpAny_of_eq (PySem.F.newCall_set_1 a) (wpAny_pure ⟨plainId_quiet PySem.F.plain_set_new _, codeAny_builtin PySem.F.entry_set_new ?_⟩))
  rw [Around.under_plainId PySem.F.plain_set_new _]
  unfold Builtin.«set.__new__» Builtin.Frozenset.newClass
  have self := sub_set_self
  obtain ⟨hp, g, d, tk, os⟩ := s
  dsimp only
  wp_walk
  refine wpAny_askSetting (wpAny_pure ?_)
  dsimp only
  simp only [newObj]
  exact wpAny_bind (wpAny_alloc (wpAny_pure (wpAny_pure h)))
end
section
variable {prog : Program} {w : World} {A : Around} {E : Value → Shared → Prop} {s : Shared}
/-- set(ys), ys a tuple of texts -/
theorem set_of_tuple {l : Addr} {its : Array Value} {ys : List Str} {Q : Value → Shared → Prop} (hh : A.handled = none) (hl : s.heap.IsTuple l its) (hi : StrsAre its.toList ys) (hb : ys.length + 1 < scanBound)
    (hQ : ∀ (h' : Heap) (tk : Nat), SetTx w s.heap.objs.size (onceTx ys) h' → (∀ b o, b < s.heap.objs.size → s.heap.get? b = some o → h'.get? b = some o) → Q (.ref s.heap.objs.size) { s with heap := h', toks := tk }) :
    wpAny (model prog w) A (call (.type "set") [.ref l]) Q E s := by
  obtain ⟨c, tl, mro⟩ := PySem.F.called_set.mro
  have f1 := PySem.F.called_set.made
  have f2 := PySem.F.called_set.sub
  refine wpAny_call (codeAny_of_tree (?_ : wpAny _ _ (callAny (.type "set") _) _ _ _))
  refine wpAny_pure ⟨Code.quiet_builtin _ (by decide +kernel), codeAny_builtin PySem.F.entry_type_call ?_⟩
  rw [Around.under_plain (weight_type_call_type "set" [.ref l] []) rfl]
  have f3 := PySem.F.called_set.notType
  have f4 := PySem.F.called_set.canCreate
  have f5 := PySem.F.typeCall_set_1 (.ref l)
  repeat (any_goals (first | assumption | wp_step))
  refine codeAny_mono (code_setNew (.ref l) (E := E) (Q := fun v s1 => v = .ref s.heap.objs.size ∧ s1 = { s with heap := s.heap.push (freshSet w) }) ⟨rfl, rfl⟩) fun r s1 hr => ?_
  match r, hr with
  | .error e, hr => exact hr
  | .ok (.ret v), hr =>
    obtain ⟨rfl, rfl⟩ := hr
    have at0 : (s.heap.push (freshSet w)).get? s.heap.objs.size = some (freshSet w) := Heap.get?_push_size _ rfl
    have ty0 : Shared.TypeIs { s with heap := s.heap.push (freshSet w) } (.ref s.heap.objs.size) "set" := ⟨_, at0, rfl⟩
    have f6 := PySem.F.called_set.init.lookup
    have f7 := PySem.F.called_set.init.bind (.ref s.heap.objs.size)
    repeat (any_goals (first | assumption | wp_step))
    refine codeAny_mono (codeAny_call_builtin (R := wants (fun r s2 => r = .none ∧ ∃ h' tk, s2 = { s with heap := h', toks := tk } ∧ SetTx w s.heap.objs.size (onceTx ys) h' ∧
        (∀ b o, b < s.heap.objs.size → s.heap.get? b = some o → h'.get? b = some o)) E) PySem.F.called_set.init.plain PySem.F.entry_set_init (check_set_init_1 ty0 ?_)) fun r2 s2 hr2 => ?_
    · obtain ⟨⟨lc, ld, ldat, lsl⟩, hol, hcl, nl, hdl⟩ := hl
      simp only at hcl hdl
      subst hcl
      subst hdl
      have at1 : (s.heap.push (freshSet w)).get? l = some { cls := .type "tuple", dict := ld, data := .seq its nl, slots := lsl } := Heap.get?_push_of_some _ hol
      have g1 := PySem.F.sub_tuple_set
      have g2 := PySem.F.sub_tuple_frozenset
      have g3 : (Value.type "tuple" == Value.type "dict") = false := by decide
      have is1 : (s.heap.push (freshSet w)).IsTuple l its := ⟨_, at1, rfl, nl, rfl⟩
      unfold Builtin.«set.__init__» noKeywords Builtin.Frozenset.updateFrom
      generalize hPI : pyIter = PI
      wp_walk
      subst hPI
      refine wpAny_pyIter_tuple is1 (wpAny_bind (wpAny_runValue ?_))
      have lt1 : l < s.heap.objs.size := Heap.lt_size hol
      have hh3 : A.in1.in1.in1.handled = none := by simp [hh]
      have ne1 : l ≠ (s.heap.push (freshSet w)).objs.size := by
        rw [Heap.size_push]
        exact Nat.ne_of_lt (Nat.lt_succ_of_lt lt1)
      have out1 : s.heap.objs.size ∉ [(s.heap.push (freshSet w)).objs.size, l] := by
        rw [Heap.size_push]
        intro z
        rcases List.mem_cons.mp z with z | z
        · exact absurd z (Nat.ne_of_lt (Nat.lt_succ_self _))
        · exact absurd (List.mem_singleton.mp z) (Nat.ne_of_gt lt1)
      have n1 : ys.length = its.size := by rw [← StrsAre.len_eq hi, Array.length_toList]
      have val1 : ∀ (i : Nat) (v : Value), its[i]? = some v → ∃ t, v = .str (ys.getD i Str.empty) t := fun i v hv => SS.strs_at hi i v (by rw [Array.getElem?_toList]; exact hv)
      refine set_turns ((Walks.tuple hh3 _ l ne1 its).toS) s.heap.objs.size out1 ys n1 (by rw [← n1]; exact hb) val1 (its.size - 0) 0 _ rfl (Nat.zero_le _) ⟨⟨_, Heap.get?_push_size _ rfl, rfl, rfl⟩, is1.push _⟩ ?h0 ?hR
      case h0 => exact (freshSet_tx w).at fun o ho => Heap.get?_push_of_some _ ho
      case hR =>
        rintro ⟨h', g', d', tk', os'⟩ mv hS'
        obtain rfl : g' = s.gens := mv.gens
        obtain rfl : d' = s.drawn := mv.drawn
        obtain rfl : os' = s.os := mv.os
        refine wpAny_pure (?_ : wpAny _ _ (ret Value.none) _ _ _)
        refine wpAny_pure ⟨rfl, h', tk', rfl, hS', fun b o hb e => ?_⟩
        refine mv.heap b o (fun z => ?_) (Heap.get?_push_of_some _ (Heap.get?_push_of_some _ e))
        rcases List.mem_cons.mp z with z | z
        · exact absurd z (Nat.ne_of_lt hb)
        · have z := List.mem_singleton.mp z
          rw [Heap.size_push] at z
          exact absurd z (Nat.ne_of_lt (Nat.lt_succ_of_lt hb))
    · match r2, hr2 with
      | .error e, hr2 => exact hr2
      | .ok (.ret r), hr2 =>
        obtain ⟨e1, h', tk, e2, hS', hk'⟩ := hr2
        subst e1 e2
        repeat (any_goals (first | assumption | wp_step))
        exact hQ _ _ hS' hk'
end
end Bo
set_option Elab.async false
set_option linter.all false
set_option maxRecDepth 100000
set_option maxHeartbeats 4000000
namespace Bo
open PySem PySem.Spec PyProof.Rows L2
/-- the set of the texts xs, as a thing of the abstract heap -/
def TxO (w : World) (a : Addr) (xs : List Str) : HO := .ext (SetTx w a xs)
theorem txO_new {P : Program} {w : World} {H : Hp} {h : Heap} {a : Addr} {xs : List Str} (R : SetTx w a xs h) : ObjOk P w H h a (TxO w a xs) := by
  refine ⟨R, ?_, fun _ _ q k => q.at k⟩
  obtain ⟨ob, _, _, _, ⟨e, _⟩, _⟩ := R
  exact ⟨ob, e⟩
section
variable {X : Cx} {pins : List (Addr × Obj)} {σ : L2.St} {H : Hp} {s : Shared} {a : Addr} {xs : List Str}
theorem txO_get (I : L2.Inv X pins σ H s) (ha : H a = some (TxO X.w a xs)) : SetTx X.w a xs s.heap := (I.hok a _ ha).1
/-- set(ys), ys a tuple of texts -/
def rSetTx (K : PySem.W.Frag) (w : World) : List V → Hp → VK → Prop := fun vs H Q => ∃ (l : Addr) (ys : List Str), vs = [.ref l] ∧ SqT K H l (ys.map V.str) ∧ ys.length + 1 < scanBound ∧ ∀ a, H a = none → Q (.ref a) (upd H a (TxO w a (onceTx ys)))
theorem cr_setTx (hc : X.calm = true) : CallR X (.type "set") (rSetTx X.K X.w) := by
  intro pins s σ H vs us Q I r h
  obtain ⟨l, ys, rfl, hq, hb, q⟩ := h
  rw [Vals.ref1 r]
  obtain ⟨its, rv, hT, _⟩ := I.tuple hq
  refine set_of_tuple (I.ok.hd hc) hT (ys := ys) (by simpa using strsAre_of rv) hb fun h' tk hS k => ?_
  have n0 : H s.heap.objs.size = none := I.hok.fresh (Nat.le_refl _)
  exact ⟨.ref s.heap.objs.size, _, I.laid (t' := tk) (a := s.heap.objs.size) (o := TxO X.w s.heap.objs.size (onceTx ys)) (h' := h') (fun b o e => k b o (Heap.lt_size e) e) (Nat.le_refl _) (txO_new hS), rfl, q _ n0⟩
/-- x in ys, x not in ys -/
def rInTx (w : World) (neg : Bool) : V → V → Hp → VK → Prop := fun x y H Q => ∃ (z : Str) (a : Addr) (xs : List Str), x = .str z ∧ y = .ref a ∧ H a = some (TxO w a xs) ∧ Q (.bl (if neg then !decide (z ∈ xs) else decide (z ∈ xs))) H
theorem op_inTx : OpR X (compareOp .In) (rInTx X.w false) := by
  intro pins s σ H x y u v Q I rx ry h
  obtain ⟨z, a, xs, rfl, rfl, ha, q⟩ := h
  obtain ⟨k, rfl⟩ := rx
  cases ry
  exact wpAny_inSet_of (knd := PySem.strKind X.prog X.w) (strKind_is _ _ _ _) rfl (txO_get I ha).setOf ⟨.bl (decide (z ∈ xs)), H, I.tok _, rfl, q⟩
/-- len(s) -/
def rLenTx (w : World) : List V → Hp → VK → Prop := fun vs H Q => ∃ (a : Addr) (xs : List Str), vs = [.ref a] ∧ H a = some (TxO w a xs) ∧ Q (.int xs.length) H
theorem call_lenTx : CallR X (.builtin "len") (rLenTx X.w) := by
  intro pins s σ H vs us Q I r h
  obtain ⟨a, xs, rfl, ha, q⟩ := h
  rw [Vals.ref1 r]
  obtain ⟨ob, zs, gen, tb, ⟨e1, e2, e3⟩, g, p, nd, ⟨b1, f1⟩, _⟩ := txO_get I ha
  have n1 : zs.size = xs.length := SetTx.size (h := s.heap) (ob := ob) p
  have b2 : (zs.size : Int) < 2 ^ 63 := by
    have : scanBound = 4096 := rfl
    omega
  refine call_len_set e1 e2 e3 f1 b2 ⟨.int xs.length, H, I.tok _, ⟨s.toks + 1, by rw [n1]⟩, q⟩
/-- sorted(s), fewer than 64 members -/
def rSortTx (w : World) : List V → Hp → VK → Prop := fun vs H Q => ∃ (a : Addr) (xs : List Str), vs = [.ref a] ∧ H a = some (TxO w a xs) ∧ xs.length < 64 ∧
  ∀ (ys : List Str) (p : Addr), ys.Perm xs → sortedS ys = true → H p = none → Q (.ref p) (upd H p (.lst (ys.map V.str)))
theorem txts_are {w : World} : ∀ {vs : List Value}, (∀ v ∈ vs, ∃ x k, v = Value.str x k) → StrsAre vs (vs.map fun v => match v with | .str x _ => x | _ => Str.empty)
  | [], _ => .nil
  | v :: r, h => by
    obtain ⟨x, k, rfl⟩ := h v List.mem_cons_self
    exact .cons x k (txts_are (w := w) fun u hu => h u (List.mem_cons_of_mem _ hu))
theorem cr_sortTx (hc : X.calm = true) : CallR X (.builtin "sorted") (rSortTx X.w) := by
  intro pins s σ H vs us Q I r h
  obtain ⟨a, xs, rfl, ha, few, q⟩ := h
  rw [Vals.ref1 r]
  obtain ⟨ob, zs, gen, tb, ⟨e1, e2, e3⟩, g, p, nd, ⟨b1, f1⟩, r1, l1⟩ := txO_get I ha
  have n1 : zs.size = xs.length := SetTx.size (h := s.heap) (ob := ob) p
  refine Calls.call_function_entry kind_sorted plain_sorted entry_sorted (args_sorted1 _) ?_
  unfold Builtin.«sorted»
  refine wpAny_bind (m := checkCount "sorted" 1 1 _) (wpAny_pure (wpAny_bind (L2.collect_set (A := X.A.in1) (I.ok.hd hc) ⟨ob, e1, e2.1, e3⟩ f1 b1 r1 l1 fun s1 vs k1 z1 g1 o1 pm => ?_)))
  have nv : vs.length = xs.length := by rw [pm.length_eq, List.length_map, Array.length_toList]; exact n1
  have sa : StrsAre vs (vs.map fun v => match v with | .str x _ => x | _ => Str.empty) := txts_are (w := X.w) fun v hv => by
    obtain ⟨z, hz, e⟩ := List.mem_map.mp (pm.mem_iff.mp hv)
    obtain ⟨x, k, h1, _⟩ := g z hz
    exact ⟨x, k, by rw [← e]; exact h1⟩
  have pk : (vs.map fun v => match v with | .str x _ => x | _ => Str.empty).Perm xs := by
    have q1 := pm.map fun v => match v with | .str x _ => x | _ => Str.empty
    rw [List.map_map] at q1
    exact q1.trans p
  refine wpAny_bind (wpAny_newList ?_ (by rw [nv, sizeLine_eq]; omega))
  have at1 : (s1.heap.push (seqObj "list" vs.toArray 0)).get? s1.heap.objs.size = some (seqObj "list" vs.toArray 0) := Heap.get?_push_size _ rfl
  refine wpAny_bind (wpAny_holding (wpAny_call_entry slot_list_sort ⟨_, at1, rfl⟩ entry_list_sort (list_sort_treeK strKind_oneLt at1 sa.keysOf (fun v1 v2 rest e => keyKind_strs (by rw [← e]; exact sa)) (by rw [nv]; exact few) fun st hp hs => ?_) (args_list_sort _)))
  obtain ⟨ys, q1, q2, q3⟩ := sorted_out_str sa hp hs
  obtain ⟨c, hc2⟩ := sortedHeap_at (vs := vs) (out := (arrOf st).map (·.2)) at1
  refine ⟨_, rfl, wpAny_pure ⟨_, rfl, ?_⟩⟩
  have hn : H s1.heap.objs.size = none := I.hok.fresh z1
  have py : ys.Perm xs := q2.trans pk
  have nl : (ys.map V.str).length ≤ sizeLine := by rw [List.length_map, py.length_eq, sizeLine_eq]; omega
  have kp : ∀ b o, s.heap.get? b = some o → (sortedHeap (s1.heap.push (seqObj "list" vs.toArray 0)) s1.heap.objs.size vs ((arrOf st).map (·.2))).get? b = some o := fun b o e => by
    have e' := k1 b o e
    have lt := Heap.lt_size e'
    rw [sortedHeap_old (Nat.ne_of_lt lt) (by rw [size_push']; exact Nat.lt_succ_of_lt lt)]
    exact Heap.get?_push_of_some _ e'
  have J : L2.Inv X pins σ (upd H s1.heap.objs.size (.lst (ys.map V.str))) { s with heap := sortedHeap (s1.heap.push (seqObj "list" vs.toArray 0)) s1.heap.objs.size vs ((arrOf st).map (·.2)), gens := s1.gens, drawn := s1.drawn, toks := s1.toks } :=
    I.call (ch := []) (Un.laid kp z1 hn) (I.hok.laid kp z1 ⟨nl, _, c, vals_of_strs q1, hc2⟩) (by rw [g1]; exact I.bare) (fun _ z => nomatch z)
  have e : ({ s1 with heap := sortedHeap (s1.heap.push (seqObj "list" vs.toArray 0)) s1.heap.objs.size vs ((arrOf st).map (·.2)) } : Shared) = { s with heap := sortedHeap (s1.heap.push (seqObj "list" vs.toArray 0)) s1.heap.objs.size vs ((arrOf st).map (·.2)), gens := s1.gens, drawn := s1.drawn, toks := s1.toks } := by
    cases s1
    cases s
    cases o1
    rfl
  show EP X pins σ Q _ ({ s1 with heap := _ } : Shared)
  rw [e]
  exact ⟨.ref s1.heap.objs.size, _, J, rfl, q ys _ py q3 hn⟩
/-- s.add(x) -/
def tAddTx (w : World) (to : TE) (t : TA) : TE := fun σ H Q => to σ H fun x H1 => (∃ a xs, x = V.ref a ∧ H1 a = some (TxO w a xs)) ∧ t σ H1 fun vs H2 => ∃ (a : Addr) (xs : List Str) (z : Str), x = .ref a ∧ vs = [.str z] ∧ H2 a = some (TxO w a xs) ∧ xs.length + 1 < scanBound ∧ Q .non (upd H2 a (TxO w a (addTx xs z)))
theorem pe_addTx {o e : Expr} {es : List Expr} {to : TE} {t : TA} {apos cpos : Pos} (ho : PE X o to) (ha : PA X (e :: es) t) (hbase : attributeBase o "add" X.env (eval o X.env) = eval o X.env := by rfl)
    (hfew : ((backTo cpos (starEach (e :: es) X.env)).all (fun x => !x.1) && (backToKw cpos (keywordEach [] X.env)).all (fun x => x.1.isSome) && decide ((e :: es).length + ([] : List Keyword).length + (if ([] : List Keyword).isEmpty then 0 else 1) < 30)) = true := by rfl)
    (hline : (apos.endLine == cpos.line) = true := by rfl) (hs : starEach (e :: es) X.env = (false, eval e X.env) :: starEach es X.env := by rfl) (hpl : (backTo cpos (starEach es X.env)).any (·.1) = false := by rfl) :
    PE X (.Call (.Attribute o "add" apos) (e :: es) [] cpos) (tAddTx X.w to t) := by
  refine ⟨fun pins s σ H Q I h => wpAny_Call_method_late hbase hfew hline rfl (thn (ho.run pins s σ H _ I h) fun v s1 ⟨x, H1, I1, r1, ty, q1⟩ => ?_)⟩
  obtain ⟨a, xs, rfl, ha1⟩ := ty
  have st := (txO_get I1 ha1).setOf (P := X.prog)
  cases r1
  refine ⟨"set", "set.add", PySem.F.plainAttrs_set, PySem.F.slot_set_add, PySem.F.type_set_add, st.typeIs, st.noDict, ?_⟩
  have hA := ha.run cpos pins s1 σ H1 _ I1 q1
  rw [hs] at hA ⊢
  refine Calls.callWith_builtin (by show (false || (backTo cpos (starEach es X.env)).any (·.1)) = false; rw [hpl]; rfl) (Calls.evalArgs_plain (thn hA fun us s2 ⟨vs, H2, I2, r2, a', ys, z, ea, ev, ha2, room, q2⟩ => ?_))
  cases ea
  subst ev
  obtain ⟨u, rfl, k, rfl⟩ := vals1 r2
  have R2 := txO_get I2 ha2
  refine wpAny_call_entry PySem.F.slot_set_add (R2.setOf (P := X.prog)).typeIs PySem.F.entry_set_add ?_ (PySem.F.args_set_add_2 _ _)
  unfold Builtin.«set.add» Builtin.Frozenset.oneOther
  simp only [List.isEmpty_nil, bind_assoc]
  unfold Builtin.Frozenset.addrOf setAdd
  refine wpAny_bind (wpAny_pure ?_)
  try dsimp only
  refine wpAny_bind (wpAny_holding (wpAny_bind ((PySem.strKind X.prog X.w).pyHash (strKind_is X.prog X.w z k) (txt_addHashed (P := X.prog) (s := { s2 with toks := s2.toks + 1 }) R2 room fun b h' sb R3 => ?_))))
  refine wpAny_pure ⟨_, rfl, ?_⟩
  have he : ∃ u, h'.get? a = some u := by
    obtain ⟨ob, _, _, _, ⟨e, _⟩, _⟩ := R3
    exact ⟨ob, e⟩
  exact ⟨.non, _, I2.write (e := a) (x := a) (o := TxO X.w a (addTx ys z)) (t' := s2.toks + 1) (by rw [ha2]; trivial) (.inl rfl) (fun b u hb hu => (sb.2 b hb).trans hu) he (txO_new R3), rfl, q2⟩
end
end Bo
set_option Elab.async false
set_option linter.all false
set_option maxRecDepth 100000
set_option maxHeartbeats 8000000
namespace Bo
open PySem PySem.Spec PyProof.Rows L2
section
variable {X : Cx}
/-- d.copy(), d a dict that may be known -/
def tDCopy (to : TE) : TE := fun σ H Q => to σ H fun x H1 => ∃ a kvs, x = .ref a ∧ Rd H1 a (.dK kvs) ∧ ∀ p, H1 p = none → Q (.ref p) (upd H1 p (.dK kvs))
theorem pe_dcopy {o : Expr} {to : TE} {apos cpos : Pos} (ho : PE X o to) (hbase : attributeBase o "copy" X.env (eval o X.env) = eval o X.env := by rfl) (hline : (apos.endLine == cpos.line) = true := by rfl) :
    PE X (.Call (.Attribute o "copy" apos) [] [] cpos) (tDCopy to) := by
  refine ⟨fun pins s σ H Q I h => wpAny_Call_method0_late hbase hline (thn (ho.run pins s σ H _ I h) fun v s1 ⟨x, H1, I1, r1, a, kvs, ex, hd, q⟩ => ?_)⟩
  subst ex
  obtain rfl : v = Value.ref a := r1
  obtain ⟨z, sysn, vs, rel, dd⟩ := dk_rd I1.hok hd
  obtain ⟨ob, es, ep, ho1, hex, _⟩ := id dd
  refine ⟨"dict", "dict.copy", PySem.F.plainAttrs_dict, PySem.F.slot_dict_copy, PySem.F.type_dict_copy, ⟨ob, ho1, hex.1⟩, fun b e => ?_, Calls.callWith_builtin rfl (PySem.evalArgs_none ?_)⟩
  · cases e
    exact ⟨ob, ho1, hex.2.1⟩
  refine call_meetsIn PySem.F.slot_dict_copy ⟨ob, ho1, hex.1⟩ PySem.F.entry_dict_copy (PySem.F.args_dict_copy_1 _) (meets_dict_copy (mixKind X.prog X.w) a sysn) ⟨vs, dd, by rw [← rel.length]; exact z, fun h' d1 d2 k => ?_⟩
  exact ⟨.ref s1.heap.objs.size, _, I1.laid (t' := s1.toks) (a := s1.heap.objs.size) (o := .dK kvs) k (Nat.le_refl _) (dk_new z (beq_eq_false_iff_ne.mpr (Ne.symm (Nat.ne_of_lt I1.big))) rel d1), rfl, q _ (I1.hok.fresh (Nat.le_refl _))⟩
/-- len(d), d a dict that may be known -/
theorem call_lenR : CallR X (.builtin "len") (fun xs H Q => ∃ a kvs, xs = [V.ref a] ∧ Rd H a (.dK kvs) ∧ Q (.int kvs.length) H) := by
  intro pins s σ H xs us Q I r h
  obtain ⟨a, kvs, rfl, ha, q⟩ := h
  obtain ⟨u, rfl, ru⟩ := vals1 r
  cases ru
  exact d_len I ha fun t s' I' => ⟨.int kvs.length, H, I', ⟨t, rfl⟩, q⟩
end
structure Ct where
  cols : List Str
  rows : List (Str × List (Str × Int))
  cons : List (Str × Int)
def refK (rs : List (Str × Addr)) : List (Key × V) := rs.map fun p => (Sum.inr p.1, V.ref p.2)
def intK (l : List (Str × Int)) : List (Key × V) := l.map fun p => (Sum.inr p.1, V.int p.2)
theorem putF_len (f : Str) (v : V) : ∀ fs : List (Str × V), (putF f v fs).length ≤ fs.length + 1
  | [] => Nat.le_refl _
  | (g, x) :: r => by
    show (if g = f then _ else _ : List (Str × V)).length ≤ _
    split
    · simp
    · have := putF_len f v r
      simp only [List.length_cons]
      omega
/-- the fields of Contents -/
def ctF (ac ar ak : Addr) : List (Str × V) := putF "constants" (.ref ak) (putF "rows" (.ref ar) (putF "columns" (.ref ac) []))
theorem ctF_c (ac ar ak : Addr) : (ctF ac ar ak).lookup ("columns" : Str) = some (.ref ac) := by
  unfold ctF
  rw [lookup_putF, if_neg (by decide +kernel), lookup_putF, if_neg (by decide +kernel), lookup_putF, if_pos rfl]
theorem ctF_r (ac ar ak : Addr) : (ctF ac ar ak).lookup ("rows" : Str) = some (.ref ar) := by
  unfold ctF
  rw [lookup_putF, if_neg (by decide +kernel), lookup_putF, if_pos rfl]
theorem ctF_k (ac ar ak : Addr) : (ctF ac ar ak).lookup ("constants" : Str) = some (.ref ak) := by
  unfold ctF
  rw [lookup_putF, if_pos rfl]
/-- at a stands a Contents with the state S -/
structure CtAt (K : PySem.W.Frag) (CC : Addr) (H : Hp) (a : Addr) (S : Ct) (dx ac ar ak : Addr) (rs : List (Str × Addr)) : Prop where
  i : H a = some (.ins CC dx (ctF ac ar ak))
  c : SqT K H ac (S.cols.map V.str)
  r : Fz H ar (.dK (refK rs))
  p : Paired (fun (p : Str × List (Str × Int)) (q : Str × Addr) => p.1 = q.1 ∧ Fz H q.2 (.dK (intK p.2))) S.rows rs
  k : Fz H ak (.dK (intK S.cons))
def CtIn (K : PySem.W.Frag) (CC : Addr) (H : Hp) (a : Addr) (S : Ct) : Prop := ∃ dx ac ar ak rs, CtAt K CC H a S dx ac ar ak rs
theorem CtAt.keep {K : PySem.W.Frag} {CC : Addr} {H H' : Hp} {a : Addr} {S : Ct} {dx ac ar ak : Addr} {rs : List (Str × Addr)} (h : CtAt K CC H a S dx ac ar ak rs) (m : Same H H') : CtAt K CC H' a S dx ac ar ak rs :=
  ⟨m _ _ h.i, SqT.keep h.c m, h.r.keep m, Paired.mapP h.p fun p q z => ⟨z.1, z.2.keep m⟩, h.k.keep m⟩
theorem CtIn.keep {K : PySem.W.Frag} {CC : Addr} {H H' : Hp} {a : Addr} {S : Ct} (h : CtIn K CC H a S) (m : Same H H') : CtIn K CC H' a S :=
  let ⟨dx, ac, ar, ak, rs, z⟩ := h; ⟨dx, ac, ar, ak, rs, z.keep m⟩
/-- what the written part says of a class without more -/
structure ClsT (K : PySem.W.Frag) (C fI : Addr) : Prop where
  cl : Cls K C
  mkC : Mk K C fI
abbrev sCtInit : Stmt := inClass (top 30) 0
/-- Contents.__init__ -/
def spCtInit (CC : Addr) : Sp := fun vs H Q _ => ∃ (p dx ac ar ak : Addr), vs = [.ref p, .ref ac, .ref ar, .ref ak] ∧ H p = some (.ins CC dx []) ∧ ∀ H', (∀ b o, H b = some o → b ≠ p → H' b = some o) → H' p = some (.ins CC dx (ctF ac ar ak)) → Q .non H'
section
variable {P : Program} {w : World} {K : PySem.W.Frag} {mg : Str → Option Value} {base : Heap} {CC : Addr}
structure CtT (K : PySem.W.Frag) (mg : Str → Option Value) (CC fI : Addr) : Prop extends ClsT K CC fI where
  g : mg "Contents" = some (.ref CC)
  n1 : NoAttr K CC "columns"
  n2 : NoAttr K CC "rows"
  n3 : NoAttr K CC "constants"
theorem scCI : FnScope ["self", "columns", "rows", "constants"] ["self", "columns", "rows", "constants"] (defScope sCtInit) := ⟨rfl, rfl, rfl, by decide +kernel, rfl, by decide +kernel, by decide +kernel⟩
theorem ok_ctInit {f : Addr} {fd : FuncData} (F : Fun K "__init__" "Contents.__init__" sCtInit f fd) {fI : Addr} (T : CtT K mg CC fI) : FnOk P w K mg base CX0 1 f fd ["self", "columns", "rows", "constants"] (spCtInit CC) := by
  refine F.ok scCI (fun vs H Q E h => ?_) (fun cdv A outer s H vs Q E hr h => ?_)
  · obtain ⟨p, dx, ac, ar, ak, rfl, _⟩ := h
    rfl
  · obtain ⟨p, dx, ac, ar, ak, rfl, hp, k⟩ := h
    refine ⟨_, pss_cons (ps_fld (pv 0) (pv 1) rfl) (pss_cons (ps_fld (pv 0) (pv 2) rfl) (pss_one (ps_fld (pv 0) (pv 3) rfl))), ?_⟩
    refine ⟨_, rfl, _, rfl, p, CC, dx, [], rfl, hp, T.cl, T.n1, by decide, ?_⟩
    refine ⟨_, rfl, _, rfl, p, CC, dx, _, rfl, upd_same, T.cl, T.n2, by have := putF_len "columns" (.ref ac) []; simp only [List.length_nil] at this; omega, ?_⟩
    refine ⟨_, rfl, _, rfl, p, CC, dx, _, rfl, upd_same, T.cl, T.n3, by have := putF_len "columns" (.ref ac) []; have := putF_len "rows" (.ref ar) (putF "columns" (.ref ac) []); simp only [List.length_nil] at *; omega, ?_⟩
    rw [upd_upd, upd_upd]
    exact k _ (fun b o e n => by rw [upd_ne n]; exact e) upd_same
/-- Contents(c, r, k): what it gives -/
theorem mk_ct {H : Hp} {Q : VK} {E : XK} {ac ar ak : Addr} (k : ∀ (a dx : Addr) (H' : Hp), Same H H' → H' a = some (.ins CC dx (ctF ac ar ak)) → Q (.ref a) H') :
    ∀ x dx, H x = none → H dx = none → dx ≠ x → spCtInit CC (.ref x :: ([.ref ac, .ref ar, .ref ak] ++ [])) (upd (upd H dx (.own x)) x (.ins CC dx [])) (fun v H2 => v = .non ∧ Q (.ref x) H2) E :=
  fun x dx hx hd ne => ⟨x, dx, ac, ar, ak, rfl, upd_same, fun H' kk e => ⟨rfl, k x dx H' (fun b o q => kk b o (by rw [upd_ne (ne_of_none q hx), upd_ne (ne_of_none q hd)]; exact q) (ne_of_none q hx)) e⟩⟩
/-- replaced(table, key, thing) -/
abbrev sReplaced : Stmt := top 47
def spReplaced : Sp := fun vs H Q _ => ∃ (a : Addr) (kvs : List (Key × V)) (k : Key) (v : V), vs = [.ref a, kV k, v] ∧ Rd H a (.dK kvs) ∧ kvs.length < sizeLine ∧ ∀ (p : Addr), H p = none → Q (.ref p) (upd H p (.dK (putK kvs k v)))
theorem scRp : FnScope ["table", "key", "thing", "changed"] ["table", "key", "thing"] (defScope sReplaced) := ⟨rfl, rfl, rfl, by decide +kernel, rfl, by decide +kernel, by decide +kernel⟩
theorem ok_replaced {f : Addr} {fd : FuncData} (F : Fun K "replaced" "replaced" sReplaced f fd) : FnOk P w K mg base CX0 1 f fd ["table", "key", "thing"] spReplaced := by
  refine F.ok scRp (fun vs H Q E h => ?_) (fun cdv A outer s H vs Q E hr h => ?_)
  · obtain ⟨a, kvs, k, v, rfl, _⟩ := h
    rfl
  · obtain ⟨a, kvs, k, v, rfl, ha, hl, q⟩ := h
    have hu := hu_of hr
    refine ⟨_, pss_cons (ps_set (i := 3) scRp.nd rfl (.inl rfl) (pe_dcopy (pv 0))) (pss_cons (ps_dput hu (pv 3) (pv 1) (pv 2) rfl) (pss_one (ps_ret (pv 3)))), ?_⟩
    refine ⟨_, rfl, a, kvs, rfl, ha, fun p hp => ?_⟩
    refine ⟨_, rfl, _, rfl, _, rfl, p, _, rfl, DPut.k (k := k) upd_same hl, _, rfl, ?_⟩
    rw [upd_upd]
    exact q p hp
end
end Bo
set_option Elab.async false
set_option linter.all false
set_option maxRecDepth 100000
set_option maxHeartbeats 8000000
namespace Bo
open PySem L2
abbrev sWU : Stmt := top 33
section
variable {P : Program} {w : World} {K : PySem.W.Frag} {mg : Str → Option Value} {base : Heap} {CC fCI CN fIN : Addr}
theorem scWU : FnScope ["contents", "names", "name", "seen"] ["contents", "names"] (defScope sWU) := ⟨rfl, rfl, rfl, by decide +kernel, rfl, by decide +kernel, by decide +kernel⟩
end
end Bo
set_option Elab.async false
set_option linter.all false
set_option maxRecDepth 100000
set_option maxHeartbeats 8000000
namespace Bo
open PySem L2
abbrev sCU : Stmt := top 44
abbrev sWE : Stmt := top 34
abbrev sWT : Stmt := top 36
theorem valV_out {k : Key} : ∀ {kvs : List (Key × V)}, k ∉ kvs.map (·.1) → valV kvs k = none
  | [], _ => rfl
  | p :: r, h => by
    have h1 : ¬ p.1 = k := fun e => h (by rw [List.map_cons, e]; exact List.mem_cons_self)
    exact (valV_neg (p := p) h1).trans (valV_out fun z => h (List.mem_cons_of_mem _ z))
theorem refK_out {rs : List (Str × Addr)} {y : Str} (h : y ∉ rs.map (·.1)) : valV (refK rs) (Sum.inr y) = none := valV_out fun z => by
  unfold refK at z
  rw [List.map_map] at z
  obtain ⟨p, hp, e⟩ := List.mem_map.mp z
  cases e
  exact h (List.mem_map.mpr ⟨p, hp, rfl⟩)
theorem intK_out {rs : List (Str × Int)} {y : Str} (h : y ∉ rs.map (·.1)) : valV (intK rs) (Sum.inr y) = none := valV_out fun z => by
  unfold intK at z
  rw [List.map_map] at z
  obtain ⟨p, hp, e⟩ := List.mem_map.mp z
  cases e
  exact h (List.mem_map.mpr ⟨p, hp, rfl⟩)
theorem pair_keys {F : (Str × List (Str × Int)) → (Str × Addr) → Prop} (hF : ∀ p q, F p q → p.1 = q.1) : ∀ {rows : List (Str × List (Str × Int))} {rs : List (Str × Addr)}, Paired F rows rs → rs.map (·.1) = rows.map (·.1)
  | _, _, .nil => rfl
  | _, _, .cons h t => by rw [List.map_cons, List.map_cons, pair_keys hF t, hF _ _ h]
theorem pair_snoc {α β : Type} {F : α → β → Prop} : ∀ {l₁ : List α} {l₂ : List β} {a : α} {b : β}, Paired F l₁ l₂ → F a b → Paired F (l₁ ++ [a]) (l₂ ++ [b])
  | _, _, _, _, .nil, h => .cons h .nil
  | _, _, _, _, .cons q t, h => .cons q (pair_snoc t h)
section
variable {P : Program} {w : World} {K : PySem.W.Frag} {mg : Str → Option Value} {base : Heap} {CC fCI CN fIN : Addr}
theorem scCU : FnScope ["known", "unknowns", "unknown", "at"] ["known", "unknowns"] (defScope sCU) := ⟨rfl, rfl, rfl, by decide +kernel, rfl, by decide +kernel, by decide +kernel⟩
theorem scWT : FnScope ["contents", "name", "constant", "terms", "rows", "unknown", "number"] ["contents", "name", "constant", "terms"] (defScope sWT) := ⟨rfl, rfl, rfl, by decide +kernel, rfl, by decide +kernel, by decide +kernel⟩
theorem scWE : FnScope ["contents", "name", "unknowns", "unknown"] ["contents", "name", "unknowns"] (defScope sWE) := ⟨rfl, rfl, rfl, by decide +kernel, rfl, by decide +kernel, by decide +kernel⟩
end
end Bo
set_option Elab.async false
set_option linter.all false
set_option maxRecDepth 100000
set_option maxHeartbeats 8000000
namespace Bo
open PySem L2
abbrev sEO : Stmt := top 32
abbrev sSys : Stmt := top 63
abbrev sSInit : Stmt := inClass sSys 2
abbrev sAU : Stmt := inClass sSys 5
abbrev sAE : Stmt := inClass sSys 6
abbrev sEqs : Stmt := inClass sSys 16
abbrev sUns : Stmt := inClass sSys 17
abbrev sEns : Stmt := inClass sSys 18
abbrev sTake : Stmt := inClass sSys 23
/-- the fields of a System -/
def syF (c b h : Addr) : List (Str × V) := putF "_history" (.ref h) (putF "_begun" (.ref b) (putF "_contents" (.ref c) []))
theorem syF_c (c b h : Addr) : (syF c b h).lookup ("_contents" : Str) = some (.ref c) := by
  unfold syF
  rw [lookup_putF, if_neg (by decide +kernel), lookup_putF, if_neg (by decide +kernel), lookup_putF, if_pos rfl]
theorem syF_b (c b h : Addr) : (syF c b h).lookup ("_begun" : Str) = some (.ref b) := by
  unfold syF
  rw [lookup_putF, if_neg (by decide +kernel), lookup_putF, if_pos rfl]
theorem syF_h (c b h : Addr) : (syF c b h).lookup ("_history" : Str) = some (.ref h) := by
  unfold syF
  rw [lookup_putF, if_pos rfl]
theorem syF_no (c b h : Addr) {x : Str} (h1 : x ≠ "_contents") (h2 : x ≠ "_begun") (h3 : x ≠ "_history") : (syF c b h).lookup x = none := by
  unfold syF
  rw [lookup_putF, if_neg h3, lookup_putF, if_neg h2, lookup_putF, if_neg h1]
  rfl
theorem syF_eq (c b h : Addr) : syF c b h = [(("_contents" : Str), V.ref c), (("_begun" : Str), V.ref b), (("_history" : Str), V.ref h)] := by
  have e1 : ¬ (("_contents" : Str) = "_begun") := by decide +kernel
  have e2 : ¬ (("_contents" : Str) = "_history") := by decide +kernel
  have e3 : ¬ (("_begun" : Str) = "_history") := by decide +kernel
  show putF "_history" (.ref h) (if ("_contents" : Str) = "_begun" then _ else _) = _
  rw [if_neg e1]
  show (if ("_contents" : Str) = "_history" then _ else _) = _
  rw [if_neg e2]
  show _ :: (if ("_begun" : Str) = "_history" then _ else _) = _
  rw [if_neg e3]
  rfl
theorem syF_put (c c' b h : Addr) : putF "_contents" (.ref c') (syF c b h) = syF c' b h := by
  rw [syF_eq, syF_eq]
  show (if ("_contents" : Str) = "_contents" then _ else _) = _
  rw [if_pos rfl]
theorem syF_len (c b h : Addr) : (syF c b h).length = 3 := by
  rw [syF_eq]
  rfl
/-- at s stands a System without open transactions -/
structure SyAt (CS : Addr) (H : Hp) (s dx c b h : Addr) (hs : List V) : Prop where
  i : H s = some (.ins CS dx (syF c b h))
  b : H b = some (.lst [])
  h : H h = some (.lst hs)
/-- all but the things at M is as it was -/
def Off (M : List Addr) (H H' : Hp) : Prop := ∀ b o, H b = some o → b ∉ M → H' b = some o
theorem CtAt.off {K : PySem.W.Frag} {CC CS : Addr} {H H' : Hp} {a : Addr} {S : Ct} {d1 ac ar ak : Addr} {rs : List (Str × Addr)} {s dx c b h : Addr} {hs : List V} (C : CtAt K CC H a S d1 ac ar ak rs) (Y : SyAt CS H s dx c b h hs) (o : Off [s, h] H H') : CtAt K CC H' a S d1 ac ar ak rs := by
  have ins : H' a = some (.ins CC d1 (ctF ac ar ak)) := o _ _ C.i fun z => by
    rcases List.mem_cons.mp z with z | z
    · have e := C.i
      rw [z, Y.i] at e
      injection e with e
      injection e with _ _ e3
      have l1 := ctF_c ac ar ak
      rw [← e3, syF_no _ _ _ (by decide +kernel) (by decide +kernel) (by decide +kernel)] at l1
      cases l1
    · have e := C.i
      rw [List.mem_singleton.mp z, Y.h] at e
      cases e
  have out : ∀ q u, H q = some u → (∀ C' d' f', u ≠ .ins C' d' f') → (∀ xs, u ≠ .lst xs) → H' q = some u := fun q u e n1 n2 => o _ _ e fun z => by
    rcases List.mem_cons.mp z with z | z
    · rw [z, Y.i] at e
      exact n1 _ _ _ (Option.some.inj e).symm
    · rw [List.mem_singleton.mp z, Y.h] at e
      exact n2 _ (Option.some.inj e).symm
  have fz : ∀ q u, Fz H q u → Fz H' q u := fun q u ⟨ob, e⟩ => ⟨ob, out _ _ e (fun _ _ _ z => by cases z) fun _ z => by cases z⟩
  refine ⟨ins, ?_, fz _ _ C.r, Paired.mapP C.p fun p q z => ⟨z.1, fz _ _ z.2⟩, fz _ _ C.k⟩
  rcases C.c with (e | e) | e
  · exact .inl (.inl (out _ _ e (fun _ _ _ z => by cases z) fun _ z => by cases z))
  · exact .inl (.inr (fz _ _ e))
  · exact .inr e
theorem CtIn.off {K : PySem.W.Frag} {CC CS : Addr} {H H' : Hp} {a : Addr} {S : Ct} {s dx c b h : Addr} {hs : List V} (C : CtIn K CC H a S) (Y : SyAt CS H s dx c b h hs) (o : Off [s, h] H H') : CtIn K CC H' a S :=
  let ⟨d1, ac, ar, ak, rs, z⟩ := C; ⟨d1, ac, ar, ak, rs, z.off Y o⟩
theorem SyAt.keep {CS : Addr} {H H' : Hp} {s dx c b h : Addr} {hs : List V} (Y : SyAt CS H s dx c b h hs) (m : Same H H') : SyAt CS H' s dx c b h hs := ⟨m _ _ Y.i, m _ _ Y.b, m _ _ Y.h⟩
structure SysT (K : PySem.W.Frag) (mg : Str → Option Value) (CS fSI fTk : Addr) : Prop where
  cl : Cls K CS
  mkC : Mk K CS fSI
  g : mg "System" = some (.ref CS)
  n1 : NoAttr K CS "_contents"
  n2 : NoAttr K CS "_begun"
  n3 : NoAttr K CS "_history"
  tk : Meth K CS "_take" fTk
section
variable {P : Program} {w : World} {K : PySem.W.Frag} {mg : Str → Option Value} {base : Heap} {CC fCI CN fIN CS fSI fTk : Addr}
theorem scTk : FnScope ["self", "contents"] ["self", "contents"] (defScope sTake) := ⟨rfl, rfl, rfl, by decide +kernel, rfl, by decide +kernel, by decide +kernel⟩
theorem scSI : FnScope ["self"] ["self"] (defScope sSInit) := ⟨rfl, rfl, rfl, by decide +kernel, rfl, by decide +kernel, by decide +kernel⟩
end
end Bo
set_option Elab.async false
set_option linter.all false
set_option maxRecDepth 100000
set_option maxHeartbeats 8000000
namespace Bo
open PySem L2
/-- a System with the state S stands at s; it was made behind H0, and what H0 has is as it was -/
def SyOn (K : PySem.W.Frag) (CC CS : Addr) (H0 H : Hp) (s : Addr) (S : Ct) (m : Nat) : Prop := ∃ dx c b h hs, SyAt CS H s dx c b h hs ∧ CtIn K CC H c S ∧ h ≠ b ∧ hs.length ≤ m ∧ H0 s = none ∧ H0 h = none ∧ Same H0 H
theorem SyOn.keep {K : PySem.W.Frag} {CC CS : Addr} {H0 H H' : Hp} {s : Addr} {S : Ct} {m : Nat} (h : SyOn K CC CS H0 H s S m) (k : Same H H') : SyOn K CC CS H0 H' s S m :=
  let ⟨dx, c, b, h, hs, Y, C, e1, e2, e3, e4, e5⟩ := h; ⟨dx, c, b, h, hs, Y.keep k, C.keep k, e1, e2, e3, e4, e5.trans k⟩
theorem SyOn.same {K : PySem.W.Frag} {CC CS : Addr} {H0 H : Hp} {s : Addr} {S : Ct} {m : Nat} (h : SyOn K CC CS H0 H s S m) : Same H0 H := let ⟨_, _, _, _, _, _, _, _, _, _, _, e⟩ := h; e
theorem SyOn.more {K : PySem.W.Frag} {CC CS : Addr} {H0 H : Hp} {s : Addr} {S : Ct} {m m' : Nat} (h : SyOn K CC CS H0 H s S m) (l : m ≤ m') : SyOn K CC CS H0 H s S m' :=
  let ⟨dx, c, b, h, hs, Y, C, e1, e2, e3⟩ := h; ⟨dx, c, b, h, hs, Y, C, e1, Nat.le_trans e2 l, e3⟩
theorem Off.of {M : List Addr} {H0 H1 H2 : Hp} (a : Same H0 H1) (o : Off M H1 H2) (n : ∀ q ∈ M, H0 q = none) : Same H0 H2 := fun q u e => o _ _ (a _ _ e) fun z => by
  rw [n q z] at e
  cases e
section
variable {P : Program} {w : World} {K : PySem.W.Frag} {mg : Str → Option Value} {base : Heap} {CC fCI CN fIN CS fSI fTk : Addr}
theorem scAU : FnScope ["self", "names"] ([("self" : Str)] ++ [("names" : Str)]) (defScope sAU) := ⟨rfl, rfl, rfl, by decide +kernel, rfl, by decide +kernel, by decide +kernel⟩
theorem scAE : FnScope ["self", "name", "unknowns"] ([("self" : Str), ("name" : Str)] ++ [("unknowns" : Str)]) (defScope sAE) := ⟨rfl, rfl, rfl, by decide +kernel, rfl, by decide +kernel, by decide +kernel⟩
structure TxtP (mg : Str → Option Value) : Prop where
  tup : mg "tuple" = none
  srt : mg "sorted" = none
theorem scEqs : FnScope ["self"] ["self"] (defScope sEqs) := ⟨rfl, rfl, rfl, by decide +kernel, rfl, by decide +kernel, by decide +kernel⟩
theorem refK_keys (rs : List (Str × Addr)) : (refK rs).map (·.1) = (rs.map (·.1)).map Sum.inr := by
  unfold refK
  rw [List.map_map, List.map_map]
  rfl
theorem scUns : FnScope ["self"] ["self"] (defScope sUns) := ⟨rfl, rfl, rfl, by decide +kernel, rfl, by decide +kernel, by decide +kernel⟩
theorem scEO : FnScope ["contents", "equation", "unknown"] ["contents"] (defScope sEO) := ⟨rfl, rfl, rfl, by decide +kernel, rfl, by decide +kernel, by decide +kernel⟩
theorem pair_at {α β : Type} {F : α → β → Prop} : ∀ {l₁ : List α} {l₂ : List β} {i : Nat} {b : β}, Paired F l₁ l₂ → l₂[i]? = some b → ∃ a, l₁[i]? = some a ∧ F a b
  | _, _, i, b, .nil, h => by simp at h
  | _, _, 0, b, .cons (a := a) q t, h => by
    simp at h
    subst h
    exact ⟨a, by simp, q⟩
  | _, _, i + 1, b, .cons q t, h => by
    obtain ⟨a, h1, h2⟩ := pair_at t (by simpa using h)
    exact ⟨a, by simpa using h1, h2⟩
theorem refK_at {rs : List (Str × Addr)} {i : Nat} {k : Key} {v : V} (h : (refK rs)[i]? = some (k, v)) : ∃ y d, rs[i]? = some (y, d) ∧ k = Sum.inr y ∧ v = .ref d := by
  unfold refK at h
  rw [List.getElem?_map] at h
  obtain ⟨p, hp, e⟩ := Option.map_eq_some_iff.mp h
  cases e
  exact ⟨p.1, p.2, hp, rfl, rfl⟩
theorem refK_in {y : Str} : ∀ {rs : List (Str × Addr)}, y ∈ rs.map (·.1) → ∃ d, valV (refK rs) (Sum.inr y) = some (.ref d) ∧ (y, d) ∈ rs
  | p :: r, h => by
    by_cases e : p.1 = y
    · exact ⟨p.2, valV_pos (p := (Sum.inr p.1, V.ref p.2)) (congrArg Sum.inr e), by rw [← e]; exact List.mem_cons_self⟩
    · rw [List.map_cons, List.mem_cons] at h
      obtain ⟨d, h1, h2⟩ := refK_in (h.resolve_left (Ne.symm e))
      exact ⟨d, (valV_neg (p := (Sum.inr p.1, V.ref p.2)) (fun z => e (Sum.inr.inj z))).trans h1, List.mem_cons_of_mem _ h2⟩
theorem scEns : FnScope ["self"] ["self"] (defScope sEns) := ⟨rfl, rfl, rfl, by decide +kernel, rfl, by decide +kernel, by decide +kernel⟩
end
end Bo
set_option Elab.async false
set_option linter.all false
set_option maxRecDepth 100000
set_option maxHeartbeats 8000000
namespace Bo
open PySem PySem.Spec PyProof.Rows L2
abbrev sErr : Stmt := top 70
/-- the caught error: it has no fields, or these -/
def Dd (H : Hp) (d : Option Addr) : Prop := d = none ∨ ∃ (dd : Addr) (fs : List (Str × V)), d = some dd ∧ H dd = some (.xd fs)
theorem Dd.keep {H H' : Hp} {d : Option Addr} (h : Dd H d) (k : Same H H') : Dd H' d := h.elim .inl fun ⟨dd, fs, e, z⟩ => .inr ⟨dd, fs, e, k _ _ z⟩
def rIsY (K : PySem.W.Frag) (cls : Value) (d : Option Addr) (a : Addr) : List V → Hp → VK → Prop := fun xs H Q => ∃ (D : Addr) (c : V) (cv : Value) (b : Bool), cls = .ref D ∧ ExcC K D ∧ Dd H d ∧ xs = [.ref a, c] ∧ (∀ u, RelV c u → u = cv) ∧ PySem.W.kitOne K (.ref D) cv = some b ∧ Q (.bl b) H
theorem call_isY {X : Cx} {a : Addr} {oe : Obj} {cls : Value} {d : Option Addr} {pn : List (Addr × Obj)} (hz : Zc cls d oe) (hf : ∃ vs, oe.data = .fields vs) : CallR (X.suite a ((a, oe) :: pn)) (.builtin "isinstance") (rIsY X.K cls d a) := by
  intro pins s σ H xs us Q I r h
  obtain ⟨D, c, cv, b, ec, C, hd, rfl, hcv, e, q⟩ := h
  subst ec
  cases r with
  | cons rx rr =>
    cases rr with
    | cons rt rr =>
      cases rr
      cases rx
      have ecv := hcv _ rt
      subst ecv
      have here := (I.pin (a, oe) (List.mem_append.mpr (.inl List.mem_cons_self))).1
      obtain ⟨vs, hv⟩ := hf
      obtain ⟨od, J⟩ : ∃ od, PySem.W.InstAt s.heap a oe D od := by
        rcases hd with rfl | ⟨dd, fs, rfl, ha⟩
        · exact ⟨none, here, hz.1, (by unfold PySem.W.notCls; rw [hv] <;> rfl), (by rw [hz.2]; trivial)⟩
        · obtain ⟨mA, hns, _⟩ := (show ObjOk X.prog X.w H s.heap dd (.xd fs) from I.hok dd _ ha)
          obtain ⟨od, hod, _⟩ := lookIn_ns hns
          exact ⟨some od, here, hz.1, (by unfold PySem.W.notCls; rw [hv] <;> rfl), (by rw [hz.2]; exact hod)⟩
      obtain ⟨cd, hcd, _⟩ := PySem.W.any_some C.hd
      have Z := PySem.W.kitx_exc (K := X.K) (x := a) (C := D) (ox := oe) (od := od) (by rw [hcd]; rfl) C.hg C.hk C.hs C.ha C.hn C.ht C.hm
      exact PySem.W.kia_one Z I.kIn J e (fun z => by cases z) fun tk => ⟨.bl b, H, I.kept (t' := tk) fun _ _ z => z, rfl, q⟩
/-- e.n of the caught error -/
def tXfY (K : PySem.W.Frag) (a : Addr) (cls : Value) (d : Option Addr) (n : Str) (te : TE) : TE := fun σ H Q => te σ H fun x H1 => x = .ref a ∧ ∃ (C dd : Addr) (fs : List (Str × V)) (v : V), cls = .ref C ∧ XfC K C ∧ PySem.W.findIn K (.ref C) n = some none ∧ d = some dd ∧ H1 dd = some (.xd fs) ∧ fs.lookup n = some v ∧ Q v H1
theorem pe_xfY {X : Cx} {a : Addr} {oe : Obj} {cls : Value} {d : Option Addr} {pn : List (Addr × Obj)} {e : Expr} {te : TE} {pos : Pos} {n : Str} (hz : Zc cls d oe) (hf : ∃ vs, oe.data = .fields vs) (he : PE (X.suite a ((a, oe) :: pn)) e te) (hb : attributeBase e n X.env (eval e X.env) = eval e X.env := by rfl) :
    PE (X.suite a ((a, oe) :: pn)) (.Attribute e n pos) (tXfY X.K a cls d n te) := by
  refine ⟨fun pins s σ H Q I h => attr_of hb (thn (he.run pins s σ H _ I h) fun u s1 ⟨x, H1, I1, rx, ex, C, dd, fs, v, ec, T, hno, ed, ea, l, q⟩ => ?_)⟩
  subst ex ec ed
  obtain rfl : u = Value.ref a := rx
  have pin1 := (I1.pin (a, oe) (List.mem_append_left _ List.mem_cons_self)).1
  obtain ⟨vs, hd⟩ := hf
  obtain ⟨mA, hns, hr⟩ := (show ObjOk X.prog X.w H1 s1.heap dd (.xd fs) from I1.hok dd _ ea)
  obtain ⟨od, ho, hl⟩ := lookIn_ns hns
  obtain ⟨u1, hu1, ru1⟩ := RelO.some_of (v := v) (o := mA n) (by rw [← l]; exact hr n)
  have J : PySem.W.InstAt s1.heap a oe C (some od) := ⟨pin1, hz.1, (by unfold PySem.W.notCls; rw [hd] <;> rfl), (by rw [hz.2]; exact ho)⟩
  exact HandSPX.exc_get I1.kIn J T.ga T.gg T.exC (PySem.W.findObj_own T.hdC hno rfl (by rw [hl, hu1])) (handed_of ru1) ⟨v, H1, I1.tok _, ru1, q⟩
/-- xs.count(b) of a list of bools -/
def rCntB (K : PySem.W.Frag) : V → List V → Hp → VK → Prop := fun x xs H Q => ∃ (p : Addr) (bs : List Bool) (k : Bool), x = .ref p ∧ xs = [.bl k] ∧ SqL K H p (bs.map V.bl) ∧ Q (.int (countIn (.bool k) (bs.map PyData.bool))) H
theorem mt_cntB {X : Cx} : MtR X "list.count" (rCntB X.K) := by
  intro pins s σ H x xs v us Q I rx rxs h
  obtain ⟨p, bs, k, rfl, rfl, hs, q⟩ := h
  cases rx
  obtain ⟨u, rfl, ru⟩ := rxs.one
  obtain rfl : u = Value.bool k := ru
  obtain ⟨its, rv, hl, _⟩ := I.list hs
  have ra := atoms_reads (h := s.heap) (xs := bs.map V.bl) (fun y hy => by
    obtain ⟨b, _, rfl⟩ := List.mem_map.mp hy
    rfl) rv
  rw [List.map_map] at ra
  have e : bs.map (dataA ∘ V.bl) = bs.map PyData.bool := rfl
  rw [e] at ra
  refine count_list_bools hl.isList ra ?_ ⟨.int (countIn (.bool k) (bs.map PyData.bool)), H, I.tok _, ⟨s.toks, rfl⟩, q⟩
  rw [List.all_eq_true]
  intro y hy
  obtain ⟨b, _, rfl⟩ := List.mem_map.mp hy
  rfl
theorem pe_bmE {X : Cx} {a : Addr} {oe : Obj} {pn : List (Addr × Obj)} {o e : Expr} {es : List Expr} {to : TE} {t : TA} {name : Str} {apos cpos : Pos} {T id : String} {r : V → List V → Hp → VK → Prop} (pa : PlainAttrs T) (slot : Slot T name id) (hty : typeOf (.builtin id) = pure (.type "method_descriptor"))
    (hm : MtR (X.suite a ((a, oe) :: pn)) id r) (ho : PE (X.suite a ((a, oe) :: pn)) o to) (ha : PA (X.suite a ((a, oe) :: pn)) (e :: es) t) (hb : attributeBase o name X.env (eval o X.env) = eval o X.env := by rfl)
    (hfew : ((backTo cpos (starEach (e :: es) X.env)).all (fun x => !x.1) && (backToKw cpos (keywordEach [] X.env)).all (fun x => x.1.isSome) && decide ((e :: es).length + ([] : List Keyword).length + (if ([] : List Keyword).isEmpty then 0 else 1) < 30)) = true := by rfl)
    (hl : (apos.endLine == cpos.line) = true := by rfl) (hs : starEach (e :: es) X.env = (false, eval e X.env) :: starEach es X.env := by rfl) (hp : (backTo cpos (starEach es X.env)).any (·.1) = false := by rfl) :
    PE (X.suite a ((a, oe) :: pn)) (.Call (.Attribute o name apos) (e :: es) [] cpos) (tBM X.K T r to t) := pe_bm pa slot hty hm ho ha hb hfew hl hs hp
theorem mt_cntE {X : Cx} {a : Addr} {oe : Obj} {pn : List (Addr × Obj)} : MtR (X.suite a ((a, oe) :: pn)) "list.count" (rCntB X.K) := mt_cntB
theorem mt_idxE {X : Cx} {a : Addr} {oe : Obj} {pn : List (Addr × Obj)} : MtR (X.suite a ((a, oe) :: pn)) "list.index" (rIndex X.K) := mt_index
theorem ix_listE {X : Cx} {a : Addr} {oe : Obj} {pn : List (Addr × Obj)} : IxR (X.suite a ((a, oe) :: pn)) (rIxL X.K) := ix_list
/-- the field of the error -/
def erFld : Nat → Str
  | 0 => "name" | 1 => "item" | 2 => "item" | 3 => "entry" | 4 => "entry" | 5 => "limit" | 9 => "index" | _ => "line"
/-- what _law_error says of it -/
def erWord : Nat → Str
  | 0 => "name" | 1 => "duplicate" | 2 => "unknown" | 3 => "double" | 4 => "missing" | 5 => "large" | 6 => "closed" | 7 => "open" | 8 => "undo" | 9 => "failed" | _ => "text"
/-- it has no field -/
def erBare (j : Nat) : Bool := decide (6 ≤ j) && decide (j ≤ 8)
/-- the error number j let out: what is told of it -/
def EchA (K : PySem.W.Frag) (cs : Nat → Addr) (Q : VK) : XK := fun cls d H' => ∃ j, j < 11 ∧ cls = .ref (cs j) ∧
  ((erBare j = true ∧ d = none ∧ ∀ (a : Addr) (H2 : Hp), Same H' H2 → SqT K H2 a [.str (erWord j)] → Q (.ref a) H2) ∨
   (erBare j = false ∧ ∃ (dx : Addr) (v : V), d = some dx ∧ H' dx = some (.xd [(erFld j, v)]) ∧ ∀ (a : Addr) (H2 : Hp), Same H' H2 → SqT K H2 a [.str (erWord j), v] → Q (.ref a) H2))
/-- behind the call -/
def backN (Q : VK) : VK := fun v H' => tRet (tIf (tB (tIsN (tVar 1))) (tC V.non) (tTup (tCons (tC (V.str (Str.ofString "returned"))) tNil))) { nx := fun _ H' => Q .non H', rt := Q } [none, some v] H'
theorem backN_non {Q : VK} {H : Hp} (h : Q .non H) : backN Q .non H := ⟨_, rfl, _, rfl, iteT h⟩
def TTa (K : PySem.W.Frag) (cs : Nat → Addr) : (XK → Hp → VK → Prop) → Hp → VK → Prop := fun tl H Q => tl (EchA K cs Q) H (backN Q)
structure ErrA (K : PySem.W.Frag) (mg : Str → Option Value) (CB : Addr) (cs : Nat → Addr) : Prop where
  gB : mg "BlockorderError" = some (.ref CB)
  ex : ∀ j, j < 11 → PySem.W.exmOne K (.ref (cs j)) (.ref CB) = some true
  gV : mg "ValueError" = none
  isi : mg "isinstance" = none
  k : ∀ i j, i < 11 → j < 11 → PySem.W.kitOne K (.ref (cs j)) (.ref (cs i)) = some (decide (i = j))
  kV : ∀ j, j < 11 → PySem.W.kitOne K (.ref (cs j)) (.type "ValueError") = some true
  E : ∀ j, j < 11 → ExcC K (cs j)
  xf : ∀ j, j < 11 → XfC K (cs j)
  no : ∀ j, j < 11 → PySem.W.findIn K (.ref (cs j)) (erFld j) = some none
  g0 : mg "InvalidName" = some (.ref (cs 0))
  g1 : mg "DuplicateItem" = some (.ref (cs 1))
  g2 : mg "UnknownItem" = some (.ref (cs 2))
  g3 : mg "DuplicateEntry" = some (.ref (cs 3))
  g4 : mg "UnknownEntry" = some (.ref (cs 4))
  g5 : mg "TooLarge" = some (.ref (cs 5))
  g6 : mg "NoTransaction" = some (.ref (cs 6))
  g7 : mg "OpenTransaction" = some (.ref (cs 7))
  g8 : mg "NothingToUndo" = some (.ref (cs 8))
  g9 : mg "EditFailed" = some (.ref (cs 9))
  g10 : mg "InvalidText" = some (.ref (cs 10))
section
variable {P : Program} {w : World} {K : PySem.W.Frag} {mg : Str → Option Value} {base : Heap}
theorem scErr : FnScope ["_law_call", "_law_told_here", "e", "_law_flags", "_law_at"] ["_law_call"] (defScope sErr) := ⟨rfl, rfl, rfl, by decide +kernel, rfl, by decide +kernel, by decide +kernel⟩
abbrev ngE : List Str := ["_law_call", "_law_told_here", "e", "_law_flags", "_law_at"]
theorem takes_len {X : Cx} {W : WX} (t : Takes X W) : Takes X (fun cls d σ H => σ.length = X.N.length → W cls d σ H) := fun u s' ⟨a, B, sI, pins, σ, H, cls, d, e, I, nb, up, sky, na, os, ag, w⟩ => t u s' ⟨a, B, sI, pins, σ, H, cls, d, e, I, nb, up, sky, na, os, ag, w I.len⟩
theorem cnt_one : ∀ j, j < 11 → countIn (.bool true) (((List.range 11).map fun i => decide (i = j)).map PyData.bool) = 1 := by decide +kernel
theorem idx_at {j : Nat} (hj : j < 11) : (((List.range 11).map fun i => decide (i = j)).map V.bl)[j]? = some (V.bl true) := by
  rw [List.getElem?_map, List.getElem?_map, List.getElem?_range hj]
  simp
theorem idx_no {j : Nat} (hj : j < 11) : ∀ (m : Nat) (z : V), m < j → (((List.range 11).map fun i => decide (i = j)).map V.bl)[m]? = some z → eqV z (V.bl true) = false := fun m z hm h => by
  rw [List.getElem?_map, List.getElem?_map, List.getElem?_range (Nat.lt_trans hm hj)] at h
  have e : z = V.bl (decide (m = j)) := (Option.some.inj h).symm
  rw [e, decide_eq_false (Nat.ne_of_lt hm)]
  rfl
theorem bools_flat (bs : List Bool) : (bs.map V.bl).all flatV = true := by
  rw [List.all_eq_true]
  intro y hy
  obtain ⟨b, _, rfl⟩ := List.mem_map.mp hy
  rfl
theorem err_givesA {X : Cx} {g CB : Addr} {cs : Nat → Addr} {cdg : Value} {q : Str} (T : ErrA X.K X.mg CB cs) : LamX.GivesTo X ngE "_law_error" (defScope sErr) g cdg (defBody sErr) "_law_call" q (TTa X.K cs) := by
  intro f c' s H Q tl act hc h
  refine ⟨_, pss_cons (ps_try_as (i := 2) rfl rfl scErr.nd rfl rfl ⟨by rfl, by decide, .inl T.gB⟩ LamX.takes0
      (tb := fun W D σ H => ∃ Ech : XK, (∀ cls d σ' H', σ'.length = 5 → Ech cls d H' → W cls d σ' H') ∧ σ[0]? = some (some (.ref f)) ∧ H c' = some (LamX.CodeO c' q) ∧ tl Ech H fun v H' => D.nx (σ.set 1 (some v)) H')
      (fun W pn xe tk _ => ?_)
      (fun a oe cls d pn hz hf => pss_cons (ps_set (i := 3) scErr.nd rfl (.inl rfl) (pe_lst (pa_cons (pe_callB (call_isY hz hf) (by rfl) T.isi (by decide +kernel) (pa_cons (pv 2) (pa_cons (pe_glob (v := .ref _) (by rfl) T.g0 rfl) pa_nil))) (pa_cons (pe_callB (call_isY hz hf) (by rfl) T.isi (by decide +kernel) (pa_cons (pv 2) (pa_cons (pe_glob (v := .ref _) (by rfl) T.g1 rfl) pa_nil))) (pa_cons (pe_callB (call_isY hz hf) (by rfl) T.isi (by decide +kernel) (pa_cons (pv 2) (pa_cons (pe_glob (v := .ref _) (by rfl) T.g2 rfl) pa_nil))) pa_nil)))))
        (pss_cons (ps_set (i := 3) scErr.nd rfl (.inl rfl) (pe_op op_cat (pv 3) (pe_lst (pa_cons (pe_callB (call_isY hz hf) (by rfl) T.isi (by decide +kernel) (pa_cons (pv 2) (pa_cons (pe_glob (v := .ref _) (by rfl) T.g3 rfl) pa_nil))) (pa_cons (pe_callB (call_isY hz hf) (by rfl) T.isi (by decide +kernel) (pa_cons (pv 2) (pa_cons (pe_glob (v := .ref _) (by rfl) T.g4 rfl) pa_nil))) (pa_cons (pe_callB (call_isY hz hf) (by rfl) T.isi (by decide +kernel) (pa_cons (pv 2) (pa_cons (pe_glob (v := .ref _) (by rfl) T.g5 rfl) pa_nil))) pa_nil))))))
        (pss_cons (ps_set (i := 3) scErr.nd rfl (.inl rfl) (pe_op op_cat (pv 3) (pe_lst (pa_cons (pe_callB (call_isY hz hf) (by rfl) T.isi (by decide +kernel) (pa_cons (pv 2) (pa_cons (pe_glob (v := .ref _) (by rfl) T.g6 rfl) pa_nil))) (pa_cons (pe_callB (call_isY hz hf) (by rfl) T.isi (by decide +kernel) (pa_cons (pv 2) (pa_cons (pe_glob (v := .ref _) (by rfl) T.g7 rfl) pa_nil))) (pa_cons (pe_callB (call_isY hz hf) (by rfl) T.isi (by decide +kernel) (pa_cons (pv 2) (pa_cons (pe_glob (v := .ref _) (by rfl) T.g8 rfl) pa_nil))) pa_nil))))))
        (pss_cons (ps_set (i := 3) scErr.nd rfl (.inl rfl) (pe_op op_cat (pv 3) (pe_lst (pa_cons (pe_callB (call_isY hz hf) (by rfl) T.isi (by decide +kernel) (pa_cons (pv 2) (pa_cons (pe_glob (v := .ref _) (by rfl) T.g9 rfl) pa_nil))) (pa_cons (pe_callB (call_isY hz hf) (by rfl) T.isi (by decide +kernel) (pa_cons (pv 2) (pa_cons (pe_glob (v := .ref _) (by rfl) T.g10 rfl) pa_nil))) pa_nil)))))
        (pss_cons (ps_if (PW.pt (pw_or (pt_cmpR op_ne (pe_bmE PySem.F.plainAttrs_list PySem.F.slot_list_count PySem.F.type_list_count mt_cntE (pv 3) (pa_cons pe_bl pa_nil)) pe_int (nomark _)) (pw_or1 (pt_not (pt_val (pe_callB (call_isY hz hf) (by rfl) T.isi (by decide +kernel) (pa_cons (pv 2) (pa_cons (pe_bltn (v := .ty "ValueError") (by rfl) T.gV (by decide +kernel) rfl) pa_nil)))))))) (pss_one ps_never) pss_nil)
        (pss_cons (ps_set (i := 4) scErr.nd rfl (.inl rfl) (pe_bmE PySem.F.plainAttrs_list PySem.F.slot_list_index PySem.F.type_list_index mt_idxE (pv 3) (pa_cons pe_bl pa_nil)))
        (pss_cons (ps_if (pt_cmpR op_eq (pv 4) pe_int (nomark _)) (pss_one (ps_ret (pe_tup (pa_cons pe_str (pa_cons (pe_xfY hz hf (pv 2)) pa_nil))))) pss_nil)
        (pss_cons (ps_if (pt_cmpR op_lt (pv 4) pe_int (nomark _)) (pss_one (ps_ret (pe_tup (pa_cons (pe_ix (r := rIxL X.K) ix_listE (pe_lst (pa_cons pe_str (pa_cons pe_str pa_nil))) (pe_op op_sub (pv 4) pe_int) (fun _ _ => rfl)) (pa_cons (pe_xfY hz hf (pv 2)) pa_nil))))) pss_nil)
        (pss_cons (ps_if (pt_cmpR op_lt (pv 4) pe_int (nomark _)) (pss_one (ps_ret (pe_tup (pa_cons (pe_ix (r := rIxL X.K) ix_listE (pe_lst (pa_cons pe_str (pa_cons pe_str pa_nil))) (pe_op op_sub (pv 4) pe_int) (fun _ _ => rfl)) (pa_cons (pe_xfY hz hf (pv 2)) pa_nil))))) pss_nil)
        (pss_cons (ps_if (pt_cmpR op_gt (pv 4) pe_int (nomark _)) (pss_one (ps_ret (pe_ifExp (pt_cmpR op_eq (pv 4) pe_int (nomark _)) (pe_tup (pa_cons pe_str (pa_cons (pe_xfY hz hf (pv 2)) pa_nil))) (pe_tup (pa_cons pe_str (pa_cons (pe_xfY hz hf (pv 2)) pa_nil)))))) pss_nil)
        (pss_one (ps_ret (pe_ifExp (pt_cmpR op_eq (pv 4) pe_int (nomark _)) (pe_tup (pa_cons pe_str (pa_cons (pe_xfY hz hf (pv 2)) pa_nil))) (pe_tup (pa_cons (pe_ix (r := rIxL X.K) ix_listE (pe_lst (pa_cons pe_str (pa_cons pe_str (pa_cons pe_str pa_nil)))) (pe_op op_sub (pv 4) pe_int) (fun _ _ => rfl)) pa_nil))))))))))))))))
    (pss_one (ps_ret (pe_ifExp (pt_cmp (pc_isN (pv 1))) pe_non (pe_tup (pa_cons pe_str pa_nil))))), ?_⟩
  · refine ⟨fun pins s' σ H' D I h' => ?_⟩
    obtain ⟨Ech, hW, h1, h2, h3⟩ := h'
    have hp := fun p1 p2 => act _ pn xe Ech p1 p2 (takes_len tk) (fun cls d σ' H' e l => hW cls d σ' H' l e)
    exact (pss_one (ps_set (i := 1) scErr.nd rfl (.inl rfl) (hp _ _))).run pins s' σ H' D I ⟨h1, h2, h3⟩
  · refine ⟨EchA X.K cs Q, fun cls d σ' H' hl hE => ?_, rfl, hc, h⟩
    obtain ⟨j, hj, rfl, hE⟩ := hE
    have D0 : Dd H' d := hE.elim (fun z => .inl z.2.1) fun ⟨_, dx, v, e, z, _⟩ => .inr ⟨dx, _, e, z⟩
    obtain ⟨z0, z1, z2, z3, z4, rfl⟩ : ∃ z0 z1 z2 z3 z4, σ' = [z0, z1, z2, z3, z4] := by
      match σ', hl with
      | [z0, z1, z2, z3, z4], _ => exact ⟨z0, z1, z2, z3, z4, rfl⟩
    refine ⟨true, T.ex j hj, fun _ a ha => ?_, fun z => by cases z⟩
    have EE := T.E j hj
    refine ⟨_, rfl, cs j, _, _, _, rfl, EE, D0, rfl, (fun _ r => r), T.k 0 j (by decide) hj, _, rfl, cs j, _, _, _, rfl, EE, D0, rfl, (fun _ r => r), T.k 1 j (by decide) hj, _, rfl, cs j, _, _, _, rfl, EE, D0, rfl, (fun _ r => r), T.k 2 j (by decide) hj, by show 3 ≤ sizeLine; decide, fun l1 hl1 => ?_⟩
    obtain ⟨L1, eL1⟩ : ∃ L1 : List V, L1 = [.bl (decide (0 = j)), .bl (decide (1 = j)), .bl (decide (2 = j))] := ⟨_, rfl⟩
    rw [← eL1]
    have s1 : Same H' (upd H' l1 (.lst L1)) := same_new hl1
    have e1 : (upd H' l1 (.lst L1)) l1 = _ := upd_same
    generalize upd H' l1 (.lst L1) = H1 at s1 e1 ⊢
    have D1 := D0.keep s1
    refine ⟨_, rfl, _, rfl, cs j, _, _, _, rfl, EE, D1, rfl, (fun _ r => r), T.k 3 j (by decide) hj, _, rfl, cs j, _, _, _, rfl, EE, D1, rfl, (fun _ r => r), T.k 4 j (by decide) hj, _, rfl, cs j, _, _, _, rfl, EE, D1, rfl, (fun _ r => r), T.k 5 j (by decide) hj, by show 3 ≤ sizeLine; decide, fun l2a hl2a => ?_⟩
    obtain ⟨L2a, eL2a⟩ : ∃ L2a : List V, L2a = [.bl (decide (3 = j)), .bl (decide (4 = j)), .bl (decide (5 = j))] := ⟨_, rfl⟩
    rw [← eL2a]
    refine ⟨l1, l2a, _, _, rfl, rfl, (same_new hl2a) _ _ e1, upd_same, by rw [eL2a, eL1]; show 3 + 3 ≤ sizeLine; decide, fun l2b hl2b => ?_⟩
    obtain ⟨L2, eL2⟩ : ∃ L2 : List V, L2 = [.bl (decide (0 = j)), .bl (decide (1 = j)), .bl (decide (2 = j)), .bl (decide (3 = j)), .bl (decide (4 = j)), .bl (decide (5 = j))] := ⟨_, rfl⟩
    rw [show L1 ++ L2a = L2 by rw [eL2a, eL1, eL2]; rfl]
    have s2 : Same H1 (upd (upd H1 l2a (.lst L2a)) l2b (.lst L2)) := (same_new hl2a).trans (same_new hl2b)
    have e2 : (upd (upd H1 l2a (.lst L2a)) l2b (.lst L2)) l2b = _ := upd_same
    generalize upd (upd H1 l2a (.lst L2a)) l2b (.lst L2) = H2 at s2 e2 ⊢
    have D2 := D1.keep s2
    refine ⟨_, rfl, _, rfl, cs j, _, _, _, rfl, EE, D2, rfl, (fun _ r => r), T.k 6 j (by decide) hj, _, rfl, cs j, _, _, _, rfl, EE, D2, rfl, (fun _ r => r), T.k 7 j (by decide) hj, _, rfl, cs j, _, _, _, rfl, EE, D2, rfl, (fun _ r => r), T.k 8 j (by decide) hj, by show 3 ≤ sizeLine; decide, fun l3a hl3a => ?_⟩
    obtain ⟨L3a, eL3a⟩ : ∃ L3a : List V, L3a = [.bl (decide (6 = j)), .bl (decide (7 = j)), .bl (decide (8 = j))] := ⟨_, rfl⟩
    rw [← eL3a]
    refine ⟨l2b, l3a, _, _, rfl, rfl, (same_new hl3a) _ _ e2, upd_same, by rw [eL3a, eL2]; show 6 + 3 ≤ sizeLine; decide, fun l3b hl3b => ?_⟩
    obtain ⟨L3, eL3⟩ : ∃ L3 : List V, L3 = [.bl (decide (0 = j)), .bl (decide (1 = j)), .bl (decide (2 = j)), .bl (decide (3 = j)), .bl (decide (4 = j)), .bl (decide (5 = j)), .bl (decide (6 = j)), .bl (decide (7 = j)), .bl (decide (8 = j))] := ⟨_, rfl⟩
    rw [show L2 ++ L3a = L3 by rw [eL3a, eL2, eL3]; rfl]
    have s3 : Same H2 (upd (upd H2 l3a (.lst L3a)) l3b (.lst L3)) := (same_new hl3a).trans (same_new hl3b)
    have e3 : (upd (upd H2 l3a (.lst L3a)) l3b (.lst L3)) l3b = _ := upd_same
    generalize upd (upd H2 l3a (.lst L3a)) l3b (.lst L3) = H3 at s3 e3 ⊢
    have D3 := D2.keep s3
    refine ⟨_, rfl, _, rfl, cs j, _, _, _, rfl, EE, D3, rfl, (fun _ r => r), T.k 9 j (by decide) hj, _, rfl, cs j, _, _, _, rfl, EE, D3, rfl, (fun _ r => r), T.k 10 j (by decide) hj, by show 2 ≤ sizeLine; decide, fun l4a hl4a => ?_⟩
    obtain ⟨L4a, eL4a⟩ : ∃ L4a : List V, L4a = [.bl (decide (9 = j)), .bl (decide (10 = j))] := ⟨_, rfl⟩
    rw [← eL4a]
    refine ⟨l3b, l4a, _, _, rfl, rfl, (same_new hl4a) _ _ e3, upd_same, by rw [eL4a, eL3]; show 9 + 2 ≤ sizeLine; decide, fun l4b hl4b => ?_⟩
    obtain ⟨L4, eL4⟩ : ∃ L4 : List V, L4 = [.bl (decide (0 = j)), .bl (decide (1 = j)), .bl (decide (2 = j)), .bl (decide (3 = j)), .bl (decide (4 = j)), .bl (decide (5 = j)), .bl (decide (6 = j)), .bl (decide (7 = j)), .bl (decide (8 = j)), .bl (decide (9 = j)), .bl (decide (10 = j))] := ⟨_, rfl⟩
    rw [show L3 ++ L4a = L4 by rw [eL4a, eL3, eL4]; rfl]
    have s4 : Same H3 (upd (upd H3 l4a (.lst L4a)) l4b (.lst L4)) := (same_new hl4a).trans (same_new hl4b)
    have e4 : (upd (upd H3 l4a (.lst L4a)) l4b (.lst L4)) l4b = _ := upd_same
    generalize upd (upd H3 l4a (.lst L4a)) l4b (.lst L4) = H4 at s4 e4 ⊢
    have D4 := D3.keep s4
    have e : L4 = ((List.range 11).map fun i => decide (i = j)).map V.bl := eL4
    rw [e] at e4
    refine ⟨_, rfl, .inl ⟨rfl, _, SqL.of e4⟩, l4b, _, true, rfl, rfl, SqL.of e4, rfl, ?_⟩
    rw [cnt_one j hj]
    refine ⟨_, rfl, iteNS rfl ⟨_, rfl, cs j, _, _, _, rfl, EE, D4, rfl, (fun _ r => r), T.kV j hj, _, rfl, iteF ?_⟩⟩
    refine ⟨_, rfl, .inl ⟨rfl, _, SqL.of e4⟩, l4b, _, V.bl true, j, V.bl true, rfl, rfl, SqL.of e4, rfl, bools_flat _, idx_at hj, rfl, idx_no hj, ?_⟩
    have ss := ((s1.trans s2).trans s3).trans s4
    clear e4 e3 e2 e1 hl1 eL1 eL2 eL3 eL4 eL2a eL3a eL4a
    have hcase : j = 0 ∨ j = 1 ∨ j = 2 ∨ j = 3 ∨ j = 4 ∨ j = 5 ∨ j = 6 ∨ j = 7 ∨ j = 8 ∨ j = 9 ∨ j = 10 := by omega
    rcases hcase with rfl | rfl | rfl | rfl | rfl | rfl | rfl | rfl | rfl | rfl | rfl
    · rcases hE with ⟨z, _⟩ | ⟨_, dx, v, hd, hx, kk⟩
      · cases z
      · have x4 := ss _ _ hx
        refine ⟨_, rfl, rfl, _, rfl, iteT ?_⟩
        refine ⟨_, rfl, rfl, cs 0, dx, _, v, rfl, T.xf 0 hj, T.no 0 hj, hd, x4, rfl, by show 2 ≤ sizeLine; decide, fun p hp => kk p _ (ss.trans (same_new hp)) (SqT.of upd_same)⟩
    · rcases hE with ⟨z, _⟩ | ⟨_, dx, v, hd, hx, kk⟩
      · cases z
      · have x4 := ss _ _ hx
        refine ⟨_, rfl, rfl, _, rfl, iteF ⟨_, rfl, _, _, rfl, rfl, _, rfl, iteT ?_⟩⟩
        refine ⟨by show 2 ≤ sizeLine; decide, fun lw hlw => ⟨_, rfl, _, _, rfl, rfl, lw, _, _, _, rfl, rfl, SqL.of upd_same, rfl, _, rfl, rfl, cs 1, dx, _, v, rfl, T.xf 1 hj, T.no 1 hj, hd, same_new hlw _ _ x4, rfl, by show 2 ≤ sizeLine; decide, fun p hp => kk p _ ((ss.trans (same_new hlw)).trans (same_new hp)) (SqT.of upd_same)⟩⟩
    · rcases hE with ⟨z, _⟩ | ⟨_, dx, v, hd, hx, kk⟩
      · cases z
      · have x4 := ss _ _ hx
        refine ⟨_, rfl, rfl, _, rfl, iteF ⟨_, rfl, _, _, rfl, rfl, _, rfl, iteT ?_⟩⟩
        refine ⟨by show 2 ≤ sizeLine; decide, fun lw hlw => ⟨_, rfl, _, _, rfl, rfl, lw, _, _, _, rfl, rfl, SqL.of upd_same, rfl, _, rfl, rfl, cs 2, dx, _, v, rfl, T.xf 2 hj, T.no 2 hj, hd, same_new hlw _ _ x4, rfl, by show 2 ≤ sizeLine; decide, fun p hp => kk p _ ((ss.trans (same_new hlw)).trans (same_new hp)) (SqT.of upd_same)⟩⟩
    · rcases hE with ⟨z, _⟩ | ⟨_, dx, v, hd, hx, kk⟩
      · cases z
      · have x4 := ss _ _ hx
        refine ⟨_, rfl, rfl, _, rfl, iteF ⟨_, rfl, _, _, rfl, rfl, _, rfl, iteF ⟨_, rfl, _, _, rfl, rfl, _, rfl, iteT ?_⟩⟩⟩
        refine ⟨by show 2 ≤ sizeLine; decide, fun lw hlw => ⟨_, rfl, _, _, rfl, rfl, lw, _, _, _, rfl, rfl, SqL.of upd_same, rfl, _, rfl, rfl, cs 3, dx, _, v, rfl, T.xf 3 hj, T.no 3 hj, hd, same_new hlw _ _ x4, rfl, by show 2 ≤ sizeLine; decide, fun p hp => kk p _ ((ss.trans (same_new hlw)).trans (same_new hp)) (SqT.of upd_same)⟩⟩
    · rcases hE with ⟨z, _⟩ | ⟨_, dx, v, hd, hx, kk⟩
      · cases z
      · have x4 := ss _ _ hx
        refine ⟨_, rfl, rfl, _, rfl, iteF ⟨_, rfl, _, _, rfl, rfl, _, rfl, iteF ⟨_, rfl, _, _, rfl, rfl, _, rfl, iteT ?_⟩⟩⟩
        refine ⟨by show 2 ≤ sizeLine; decide, fun lw hlw => ⟨_, rfl, _, _, rfl, rfl, lw, _, _, _, rfl, rfl, SqL.of upd_same, rfl, _, rfl, rfl, cs 4, dx, _, v, rfl, T.xf 4 hj, T.no 4 hj, hd, same_new hlw _ _ x4, rfl, by show 2 ≤ sizeLine; decide, fun p hp => kk p _ ((ss.trans (same_new hlw)).trans (same_new hp)) (SqT.of upd_same)⟩⟩
    · rcases hE with ⟨z, _⟩ | ⟨_, dx, v, hd, hx, kk⟩
      · cases z
      · have x4 := ss _ _ hx
        refine ⟨_, rfl, rfl, _, rfl, iteF ⟨_, rfl, _, _, rfl, rfl, _, rfl, iteF ⟨_, rfl, _, _, rfl, rfl, _, rfl, iteF ⟨_, rfl, _, _, rfl, rfl, _, rfl, iteF ⟨_, rfl, rfl, _, rfl, iteT ?_⟩⟩⟩⟩⟩
        refine ⟨_, rfl, rfl, cs 5, dx, _, v, rfl, T.xf 5 hj, T.no 5 hj, hd, x4, rfl, by show 2 ≤ sizeLine; decide, fun p hp => kk p _ (ss.trans (same_new hp)) (SqT.of upd_same)⟩
    · rcases hE with ⟨_, hd, kk⟩ | ⟨z, _⟩
      · refine ⟨_, rfl, rfl, _, rfl, iteF ⟨_, rfl, _, _, rfl, rfl, _, rfl, iteF ⟨_, rfl, _, _, rfl, rfl, _, rfl, iteF ⟨_, rfl, _, _, rfl, rfl, _, rfl, iteF ⟨_, rfl, rfl, _, rfl, iteF ?_⟩⟩⟩⟩⟩
        refine ⟨by show 3 ≤ sizeLine; decide, fun lw hlw => ⟨_, rfl, _, _, rfl, rfl, lw, _, _, _, rfl, rfl, SqL.of upd_same, rfl, by show 1 ≤ sizeLine; decide, fun p hp => kk p _ ((ss.trans (same_new hlw)).trans (same_new hp)) (SqT.of upd_same)⟩⟩
      · cases z
    · rcases hE with ⟨_, hd, kk⟩ | ⟨z, _⟩
      · refine ⟨_, rfl, rfl, _, rfl, iteF ⟨_, rfl, _, _, rfl, rfl, _, rfl, iteF ⟨_, rfl, _, _, rfl, rfl, _, rfl, iteF ⟨_, rfl, _, _, rfl, rfl, _, rfl, iteF ⟨_, rfl, rfl, _, rfl, iteF ?_⟩⟩⟩⟩⟩
        refine ⟨by show 3 ≤ sizeLine; decide, fun lw hlw => ⟨_, rfl, _, _, rfl, rfl, lw, _, _, _, rfl, rfl, SqL.of upd_same, rfl, by show 1 ≤ sizeLine; decide, fun p hp => kk p _ ((ss.trans (same_new hlw)).trans (same_new hp)) (SqT.of upd_same)⟩⟩
      · cases z
    · rcases hE with ⟨_, hd, kk⟩ | ⟨z, _⟩
      · refine ⟨_, rfl, rfl, _, rfl, iteF ⟨_, rfl, _, _, rfl, rfl, _, rfl, iteF ⟨_, rfl, _, _, rfl, rfl, _, rfl, iteF ⟨_, rfl, _, _, rfl, rfl, _, rfl, iteF ⟨_, rfl, rfl, _, rfl, iteF ?_⟩⟩⟩⟩⟩
        refine ⟨by show 3 ≤ sizeLine; decide, fun lw hlw => ⟨_, rfl, _, _, rfl, rfl, lw, _, _, _, rfl, rfl, SqL.of upd_same, rfl, by show 1 ≤ sizeLine; decide, fun p hp => kk p _ ((ss.trans (same_new hlw)).trans (same_new hp)) (SqT.of upd_same)⟩⟩
      · cases z
    · rcases hE with ⟨z, _⟩ | ⟨_, dx, v, hd, hx, kk⟩
      · cases z
      · have x4 := ss _ _ hx
        refine ⟨_, rfl, rfl, _, rfl, iteF ⟨_, rfl, _, _, rfl, rfl, _, rfl, iteF ⟨_, rfl, _, _, rfl, rfl, _, rfl, iteF ⟨_, rfl, _, _, rfl, rfl, _, rfl, iteT ⟨_, rfl, rfl, _, rfl, iteT ?_⟩⟩⟩⟩⟩
        refine ⟨_, rfl, rfl, cs 9, dx, _, v, rfl, T.xf 9 hj, T.no 9 hj, hd, x4, rfl, by show 2 ≤ sizeLine; decide, fun p hp => kk p _ (ss.trans (same_new hp)) (SqT.of upd_same)⟩
    · rcases hE with ⟨z, _⟩ | ⟨_, dx, v, hd, hx, kk⟩
      · cases z
      · have x4 := ss _ _ hx
        refine ⟨_, rfl, rfl, _, rfl, iteF ⟨_, rfl, _, _, rfl, rfl, _, rfl, iteF ⟨_, rfl, _, _, rfl, rfl, _, rfl, iteF ⟨_, rfl, _, _, rfl, rfl, _, rfl, iteT ⟨_, rfl, rfl, _, rfl, iteF ?_⟩⟩⟩⟩⟩
        refine ⟨_, rfl, rfl, cs 10, dx, _, v, rfl, T.xf 10 hj, T.no 10 hj, hd, x4, rfl, by show 2 ≤ sizeLine; decide, fun p hp => kk p _ (ss.trans (same_new hp)) (SqT.of upd_same)⟩
end
end Bo
set_option Elab.async false
set_option linter.all false
set_option maxRecDepth 100000
set_option maxHeartbeats 8000000
namespace Bo
open PySem L2
def spInit2 (K : PySem.W.Frag) (f : Str) : Sp := fun vs H Q _ => ∃ (a C : Addr) (v : V) (d : PyData), vs = [.ref a, v] ∧ H a = some (exo a C none) ∧ OexC K C ∧ PySem.W.findIn K (.ref C) f = some none ∧ Fl2 K H v d ∧
  ∀ (v' : V) (dx : Addr) (H' : Hp), (∀ b o, H b = some o → b ≠ a → H' b = some o) → H' a = some (exo a C (some dx)) → H' dx = some (exd dx [(f, v')]) → H dx = none → dx ≠ a → Fl2 K (del H' a) v' d → Q .non H'
theorem Fl2.step {K : PySem.W.Frag} {H H' : Hp} {v : V} {d : PyData} (h : Fl2 K H v d) (kt : ∀ a xs, SqT K H a xs → SqT K H' a xs) (kl : ∀ a xs, H a = some (.lst xs) → H' a = some (.lst xs)) (kd : ∀ a kvs, H a = some (.dK kvs) → H' a = some (.dK kvs)) : Fl2 K H' v d := by
  cases h with
  | fl h => exact .fl (h.step kt kl kd)
  | pr h hx hy => exact .pr (kt _ _ h) (hx.step kt kl kd) (hy.step kt kl kd)
theorem init_read2 {K : PySem.W.Frag} {a C : Addr} {f : Str} {v : V} {d : PyData} {H : Hp} {Q : VK} (ha : H a = some (exo a C none)) (T : OexC K C) (hno : PySem.W.findIn K (.ref C) f = some none) (hp : Fl2 K H v d)
    (k : ∀ (v' : V) (dx : Addr) (H' : Hp), (∀ b o, H b = some o → b ≠ a → H' b = some o) → H' a = some (exo a C (some dx)) → H' dx = some (exd dx [(f, v')]) → H dx = none → dx ≠ a → Fl2 K (del H' a) v' d → Q .non H') :
    tOst K f (tVar 0) (tCall (spCopy2 K) [] E0 (tCons (tVar 1) tNil)) { nx := fun _ H' => Q .non H', rt := Q } [some (.ref a), some v] H := by
  refine ⟨v, rfl, v, d, rfl, hp, fun v' H1 sm hp' => ⟨_, rfl, a, C, rfl, T, hno, .inl ⟨sm _ _ ha, fun dx hdx ne => ?_⟩⟩⟩
  have keepO : ∀ b o, H1 b = some o → b ≠ a → (del (upd (upd H1 dx (exd dx [(f, v')])) a (exo a C (some dx))) a) b = some o := fun b o e ba => by
    rw [del_ne ba, upd_ne ba, upd_ne (ne_of_none e hdx)]
    exact e
  have ea := sm _ _ ha
  refine k v' dx _ (fun b o e ba => ?_) upd_same (by rw [upd_ne ne]; exact upd_same) (sm.free hdx) ne (hp'.step (fun b xs h => sqT_off keepO (fun xs e => ?_) (fun o xs e => ?_) h) (fun b xs e => keepO b _ e (at_ne ea e exo_lst)) fun b xs e => keepO b _ e (at_ne ea e exo_dK))
  · rw [upd_ne ba, upd_ne (ne_of_none (sm _ _ e) hdx)]
    exact sm _ _ e
  · rw [ea] at e
    exact exo_tup (Option.some.inj e)
  · rw [ea] at e
    exact exo_frz (Option.some.inj e)
/-- the error of the class at C, its field data d, is let out -/
def Thrown2 (K : PySem.W.Frag) (E : XK) (H : Hp) (C : Addr) (f : Str) (d : PyData) : Prop := ∀ (dx : Addr) (v : V) (H' : Hp), Same H H' → H' dx = some (.xd [(f, v)]) → Fl2 K H' v d → E (.ref C) (some dx) H'
theorem Thrown2.later {K : PySem.W.Frag} {E : XK} {H H1 : Hp} {C : Addr} {f : Str} {d : PyData} (h : Thrown2 K E H C f d) (k : Same H H1) : Thrown2 K E H1 C f d := fun dx v H' k' e1 e2 => h dx v H' (k.trans k') e1 e2
theorem raise_read2 {K : PySem.W.Frag} {E : XK} {H : Hp} {C fI : Addr} {f : Str} {d : PyData} {v : V} (T : ErrC K C fI f) (hf : Fl2 K H v d) (h : Thrown2 K E H C f d) :
    [v].length ≤ 1000 ∧ ∀ a, H a = none → spInit2 K f (.ref a :: ([v] ++ [])) (upd H a (exo a C none)) (fun v H2 => v = .non ∧ ∃ (d : Addr) (fs : List (Str × V)), H2 a = some (exo a C (some d)) ∧ H2 d = some (exd d fs) ∧ H d = none ∧ E (.ref C) (some d) (upd (del H2 a) d (.xd fs))) (fun _ _ _ => False) := by
  refine ⟨by show 1 ≤ 1000; decide, fun a ha => ⟨a, C, v, d, rfl, upd_same, T.o, T.no, hf.keep (same_new ha), fun v' dx H' k e1 e2 e3 e4 e5 => ⟨rfl, dx, _, e1, e2, ?_, h dx v' _ (fun b o e => ?_) upd_same (e5.step ?_ ?_ ?_)⟩⟩⟩
  · rw [upd_ne e4] at e3
    exact e3
  · have ba := ne_of_none e ha
    have nd : b ≠ dx := fun z => by
      rw [upd_ne e4, ← z] at e3
      rw [e] at e3
      cases e3
    rw [upd_ne nd, del_ne ba]
    exact k b o (by rw [upd_ne ba]; exact e) ba
  · have hx : del H' a dx = some (exd dx [(f, v')]) := by rw [del_ne e4]; exact e2
    exact fun b xs q => sqT_off (fun c o e n => by rw [upd_ne n]; exact e) (fun xs e => by rw [hx] at e; exact exd_tup (Option.some.inj e)) (fun o xs e => by rw [hx] at e; cases (show HO.ext _ = HO.frz _ _ from Option.some.inj e)) q
  · have hx : del H' a dx = some (exd dx [(f, v')]) := by rw [del_ne e4]; exact e2
    exact fun b xs q => by
      have n : b ≠ dx := fun z => by rw [z, hx] at q; cases (show HO.ext _ = HO.lst _ from Option.some.inj q)
      rw [upd_ne n]; exact q
  · have hx : del H' a dx = some (exd dx [(f, v')]) := by rw [del_ne e4]; exact e2
    exact fun b xs q => by
      have n : b ≠ dx := fun z => by rw [z, hx] at q; cases (show HO.ext _ = HO.dK _ from Option.some.inj q)
      rw [upd_ne n]; exact q
section
variable {P : Program} {w : World} {K : PySem.W.Frag} {mg : Str → Option Value} {base : Heap}
theorem ok_copy2 {f : Addr} {fd : FuncData} (F : Fun K "copied" "copied" sCopied f fd) (T : TxtC mg) (mC : mg "copied" = some (.ref f)) (bC : Binds K fd ["thing"] []) : FnOk P w K mg base CX0 3 f fd ["thing"] (spCopy2 K) := by
  have G1 : FnOk P w K mg base CX0 3 f fd ["thing"] (spCopy K) := (ok_copy F T mC bC).mono (by decide)
  have G2 : FnOk P w K mg base CX0 3 f fd ["thing"] (spCopyP K) := ok_copyP F T mC bC
  refine ⟨fun vs H Q E h => ?_, fun A outer s H args us vs Q E hr he hb hv hs => ?_⟩
  · obtain ⟨v, d, rfl, _⟩ := h
    rfl
  · obtain ⟨v, d, rfl, hp, k⟩ := hs
    cases id hp with
    | fl h => exact G1.run A outer s H args us _ Q E hr he hb hv ⟨v, d, rfl, h, fun v' H' sm f => k v' H' sm (.fl f)⟩
    | pr h hx hy => exact G2.run A outer s H args us _ Q E hr he hb hv ⟨_, _, _, _, _, rfl, h, hx, hy, fun v' H' sm f => k v' H' sm f⟩
abbrev sEr0 : Stmt := inClass (top 5) 0
theorem scEr0 : FnScope ["self", "name"] ["self", "name"] (defScope sEr0) := ⟨rfl, rfl, rfl, by decide +kernel, rfl, by decide +kernel, by decide +kernel⟩
theorem ok_er0 {f fC : Addr} {fd fdC : FuncData} (F : Fun K "__init__" "InvalidName.__init__" sEr0 f fd) (G : FnOk P w K mg base CX0 3 fC fdC ["thing"] (spCopy2 K)) (mC : mg "copied" = some (.ref fC)) (kC : PySem.W.keepIn K (.ref fC) = true) (bC : Binds K fdC ["thing"] []) :
    FnOk P w K mg base CX0 4 f fd ["self", "name"] (spInit2 K "name") := by
  refine F.ok scEr0 (fun vs H Q E h => ?_) (fun cdv A outer s H vs Q E hr h => ?_)
  · obtain ⟨a, C, v, d, rfl, _⟩ := h
    rfl
  · obtain ⟨a, C, v, d, rfl, ha, T, hno, hp, k⟩ := h
    exact ⟨_, pss_one (ps_ost (pv 0) (pe_call G hr rfl mC kC bC .nil pass0 (pa_cons (pv 1) pa_nil))), init_read2 ha T hno hp k⟩
abbrev sEr1 : Stmt := inClass (top 6) 0
theorem scEr1 : FnScope ["self", "item"] ["self", "item"] (defScope sEr1) := ⟨rfl, rfl, rfl, by decide +kernel, rfl, by decide +kernel, by decide +kernel⟩
theorem ok_er1 {f fC : Addr} {fd fdC : FuncData} (F : Fun K "__init__" "DuplicateItem.__init__" sEr1 f fd) (G : FnOk P w K mg base CX0 3 fC fdC ["thing"] (spCopy2 K)) (mC : mg "copied" = some (.ref fC)) (kC : PySem.W.keepIn K (.ref fC) = true) (bC : Binds K fdC ["thing"] []) :
    FnOk P w K mg base CX0 4 f fd ["self", "item"] (spInit2 K "item") := by
  refine F.ok scEr1 (fun vs H Q E h => ?_) (fun cdv A outer s H vs Q E hr h => ?_)
  · obtain ⟨a, C, v, d, rfl, _⟩ := h
    rfl
  · obtain ⟨a, C, v, d, rfl, ha, T, hno, hp, k⟩ := h
    exact ⟨_, pss_one (ps_ost (pv 0) (pe_call G hr rfl mC kC bC .nil pass0 (pa_cons (pv 1) pa_nil))), init_read2 ha T hno hp k⟩
abbrev sEr2 : Stmt := inClass (top 7) 0
theorem scEr2 : FnScope ["self", "item"] ["self", "item"] (defScope sEr2) := ⟨rfl, rfl, rfl, by decide +kernel, rfl, by decide +kernel, by decide +kernel⟩
theorem ok_er2 {f fC : Addr} {fd fdC : FuncData} (F : Fun K "__init__" "UnknownItem.__init__" sEr2 f fd) (G : FnOk P w K mg base CX0 3 fC fdC ["thing"] (spCopy2 K)) (mC : mg "copied" = some (.ref fC)) (kC : PySem.W.keepIn K (.ref fC) = true) (bC : Binds K fdC ["thing"] []) :
    FnOk P w K mg base CX0 4 f fd ["self", "item"] (spInit2 K "item") := by
  refine F.ok scEr2 (fun vs H Q E h => ?_) (fun cdv A outer s H vs Q E hr h => ?_)
  · obtain ⟨a, C, v, d, rfl, _⟩ := h
    rfl
  · obtain ⟨a, C, v, d, rfl, ha, T, hno, hp, k⟩ := h
    exact ⟨_, pss_one (ps_ost (pv 0) (pe_call G hr rfl mC kC bC .nil pass0 (pa_cons (pv 1) pa_nil))), init_read2 ha T hno hp k⟩
abbrev sEr3 : Stmt := inClass (top 8) 0
theorem scEr3 : FnScope ["self", "entry"] ["self", "entry"] (defScope sEr3) := ⟨rfl, rfl, rfl, by decide +kernel, rfl, by decide +kernel, by decide +kernel⟩
theorem ok_er3 {f fC : Addr} {fd fdC : FuncData} (F : Fun K "__init__" "DuplicateEntry.__init__" sEr3 f fd) (G : FnOk P w K mg base CX0 3 fC fdC ["thing"] (spCopy2 K)) (mC : mg "copied" = some (.ref fC)) (kC : PySem.W.keepIn K (.ref fC) = true) (bC : Binds K fdC ["thing"] []) :
    FnOk P w K mg base CX0 4 f fd ["self", "entry"] (spInit2 K "entry") := by
  refine F.ok scEr3 (fun vs H Q E h => ?_) (fun cdv A outer s H vs Q E hr h => ?_)
  · obtain ⟨a, C, v, d, rfl, _⟩ := h
    rfl
  · obtain ⟨a, C, v, d, rfl, ha, T, hno, hp, k⟩ := h
    exact ⟨_, pss_one (ps_ost (pv 0) (pe_call G hr rfl mC kC bC .nil pass0 (pa_cons (pv 1) pa_nil))), init_read2 ha T hno hp k⟩
abbrev sEr4 : Stmt := inClass (top 9) 0
theorem scEr4 : FnScope ["self", "entry"] ["self", "entry"] (defScope sEr4) := ⟨rfl, rfl, rfl, by decide +kernel, rfl, by decide +kernel, by decide +kernel⟩
theorem ok_er4 {f fC : Addr} {fd fdC : FuncData} (F : Fun K "__init__" "UnknownEntry.__init__" sEr4 f fd) (G : FnOk P w K mg base CX0 3 fC fdC ["thing"] (spCopy2 K)) (mC : mg "copied" = some (.ref fC)) (kC : PySem.W.keepIn K (.ref fC) = true) (bC : Binds K fdC ["thing"] []) :
    FnOk P w K mg base CX0 4 f fd ["self", "entry"] (spInit2 K "entry") := by
  refine F.ok scEr4 (fun vs H Q E h => ?_) (fun cdv A outer s H vs Q E hr h => ?_)
  · obtain ⟨a, C, v, d, rfl, _⟩ := h
    rfl
  · obtain ⟨a, C, v, d, rfl, ha, T, hno, hp, k⟩ := h
    exact ⟨_, pss_one (ps_ost (pv 0) (pe_call G hr rfl mC kC bC .nil pass0 (pa_cons (pv 1) pa_nil))), init_read2 ha T hno hp k⟩
abbrev sEr5 : Stmt := inClass (top 10) 0
theorem scEr5 : FnScope ["self", "limit"] ["self", "limit"] (defScope sEr5) := ⟨rfl, rfl, rfl, by decide +kernel, rfl, by decide +kernel, by decide +kernel⟩
theorem ok_er5 {f fC : Addr} {fd fdC : FuncData} (F : Fun K "__init__" "TooLarge.__init__" sEr5 f fd) (G : FnOk P w K mg base CX0 3 fC fdC ["thing"] (spCopy2 K)) (mC : mg "copied" = some (.ref fC)) (kC : PySem.W.keepIn K (.ref fC) = true) (bC : Binds K fdC ["thing"] []) :
    FnOk P w K mg base CX0 4 f fd ["self", "limit"] (spInit2 K "limit") := by
  refine F.ok scEr5 (fun vs H Q E h => ?_) (fun cdv A outer s H vs Q E hr h => ?_)
  · obtain ⟨a, C, v, d, rfl, _⟩ := h
    rfl
  · obtain ⟨a, C, v, d, rfl, ha, T, hno, hp, k⟩ := h
    exact ⟨_, pss_one (ps_ost (pv 0) (pe_call G hr rfl mC kC bC .nil pass0 (pa_cons (pv 1) pa_nil))), init_read2 ha T hno hp k⟩
abbrev sEr9 : Stmt := inClass (top 14) 0
theorem scEr9 : FnScope ["self", "index"] ["self", "index"] (defScope sEr9) := ⟨rfl, rfl, rfl, by decide +kernel, rfl, by decide +kernel, by decide +kernel⟩
theorem ok_er9 {f fC : Addr} {fd fdC : FuncData} (F : Fun K "__init__" "EditFailed.__init__" sEr9 f fd) (G : FnOk P w K mg base CX0 3 fC fdC ["thing"] (spCopy2 K)) (mC : mg "copied" = some (.ref fC)) (kC : PySem.W.keepIn K (.ref fC) = true) (bC : Binds K fdC ["thing"] []) :
    FnOk P w K mg base CX0 4 f fd ["self", "index"] (spInit2 K "index") := by
  refine F.ok scEr9 (fun vs H Q E h => ?_) (fun cdv A outer s H vs Q E hr h => ?_)
  · obtain ⟨a, C, v, d, rfl, _⟩ := h
    rfl
  · obtain ⟨a, C, v, d, rfl, ha, T, hno, hp, k⟩ := h
    exact ⟨_, pss_one (ps_ost (pv 0) (pe_call G hr rfl mC kC bC .nil pass0 (pa_cons (pv 1) pa_nil))), init_read2 ha T hno hp k⟩
abbrev sEr10 : Stmt := inClass (top 15) 0
theorem scEr10 : FnScope ["self", "line"] ["self", "line"] (defScope sEr10) := ⟨rfl, rfl, rfl, by decide +kernel, rfl, by decide +kernel, by decide +kernel⟩
theorem ok_er10 {f fC : Addr} {fd fdC : FuncData} (F : Fun K "__init__" "InvalidText.__init__" sEr10 f fd) (G : FnOk P w K mg base CX0 3 fC fdC ["thing"] (spCopy2 K)) (mC : mg "copied" = some (.ref fC)) (kC : PySem.W.keepIn K (.ref fC) = true) (bC : Binds K fdC ["thing"] []) :
    FnOk P w K mg base CX0 4 f fd ["self", "line"] (spInit2 K "line") := by
  refine F.ok scEr10 (fun vs H Q E h => ?_) (fun cdv A outer s H vs Q E hr h => ?_)
  · obtain ⟨a, C, v, d, rfl, _⟩ := h
    rfl
  · obtain ⟨a, C, v, d, rfl, ha, T, hno, hp, k⟩ := h
    exact ⟨_, pss_one (ps_ost (pv 0) (pe_call G hr rfl mC kC bC .nil pass0 (pa_cons (pv 1) pa_nil))), init_read2 ha T hno hp k⟩
end
/-- the errors with a field that the program raises: their classes, their inits -/
structure ErrsG (P : Program) (w : World) (K : PySem.W.Frag) (mg : Str → Option Value) (base : Heap) (cs fs : Nat → Addr) (fds : Nat → FuncData) : Prop where
  c : ∀ j, (j < 6 ∨ j = 9 ∨ j = 10) → ErrC K (cs j) (fs j) (erFld j)
  G : ∀ j, (j < 6 ∨ j = 9 ∨ j = 10) → FnOk P w K mg base CX0 4 (fs j) (fds j) ["self", erFld j] (spInit2 K (erFld j))
  b : ∀ j, (j < 6 ∨ j = 9 ∨ j = 10) → Binds K (fds j) ["self", erFld j] []
end Bo
set_option Elab.async false
set_option linter.all false
set_option maxRecDepth 100000
set_option maxHeartbeats 8000000
namespace Bo
open PySem L2
abbrev sCE : Stmt := top 43
abbrev sCEnds : Stmt := top 45
theorem inV_txt {y : Str} : ∀ {ys : List Str}, inV (.str y) (ys.map V.str) = decide (y ∈ ys)
  | [] => by
    rw [decide_eq_false (List.not_mem_nil)]
    rfl
  | x :: ys => by
    show ((x == y) || inV (.str y) (ys.map V.str)) = _
    rw [inV_txt (ys := ys)]
    by_cases h : x = y
    · subst h
      rw [decide_eq_true List.mem_cons_self]
      simp
    · have e : (x == y) = false := by simpa using h
      rw [e, Bool.false_or]
      by_cases z : y ∈ ys
      · rw [decide_eq_true z, decide_eq_true (List.mem_cons_of_mem _ z)]
      · rw [decide_eq_false z, decide_eq_false (fun q => (List.mem_cons.mp q).elim (fun q => h q.symm) z)]
theorem txts_flatV (ys : List Str) : (ys.map V.str).all flatV = true := by
  rw [List.all_eq_true]
  intro v hv
  obtain ⟨y, _, rfl⟩ := List.mem_map.mp hv
  rfl
section
variable {P : Program} {w : World} {K : PySem.W.Frag} {mg : Str → Option Value} {base : Heap} {CC fCI : Addr}
theorem scCE : FnScope ["contents", "equation"] ["contents", "equation"] (defScope sCE) := ⟨rfl, rfl, rfl, by decide +kernel, rfl, by decide +kernel, by decide +kernel⟩
theorem scCEn : FnScope ["contents", "equation", "unknown"] ["contents", "equation", "unknown"] (defScope sCEnds) := ⟨rfl, rfl, rfl, by decide +kernel, rfl, by decide +kernel, by decide +kernel⟩
end
end Bo
set_option Elab.async false
set_option linter.all false
set_option maxRecDepth 100000
set_option maxHeartbeats 8000000
namespace Bo
open PySem L2
abbrev sWEn : Stmt := top 37
/-- the rows with another row at y -/
def setRow {α : Type} (rows : List (Str × α)) (y : Str) (r : α) : List (Str × α) := rows.map fun p => if p.1 = y then (p.1, r) else p
theorem setRow_keys {α : Type} (rows : List (Str × α)) (y : Str) (r : α) : (setRow rows y r).map (·.1) = rows.map (·.1) := by
  unfold setRow
  rw [List.map_map]
  refine List.map_congr_left fun p _ => ?_
  show (if p.1 = y then (p.1, r) else p).1 = p.1
  split <;> rfl
theorem refK_put {y : Str} {d : Addr} : ∀ {rs : List (Str × Addr)}, y ∈ rs.map (·.1) → putK (refK rs) (Sum.inr y) (.ref d) = refK (setRow rs y d) := fun {rs} h => by
  have e : ((refK rs).any fun kv => decide (kv.1 = Sum.inr y)) = true := by
    rw [List.any_eq_true]
    obtain ⟨p, hp, rfl⟩ := List.mem_map.mp h
    exact ⟨(Sum.inr p.1, .ref p.2), List.mem_map.mpr ⟨p, hp, rfl⟩, decide_eq_true rfl⟩
  unfold putK
  rw [if_pos e]
  unfold refK setRow
  rw [List.map_map, List.map_map]
  refine List.map_congr_left fun p _ => ?_
  show (if (Sum.inr p.1 : Key) = Sum.inr y then ((Sum.inr p.1 : Key), V.ref d) else (Sum.inr p.1, V.ref p.2)) = (fun q : Str × Addr => ((Sum.inr q.1 : Key), V.ref q.2)) (if p.1 = y then (p.1, d) else p)
  by_cases z : p.1 = y
  · rw [if_pos (congrArg Sum.inr z), if_pos z]
  · rw [if_neg (fun q => z (Sum.inr.inj q)), if_neg z]
theorem intK_len (l : List (Str × Int)) : (intK l).length = l.length := List.length_map _
theorem refK_len (l : List (Str × Addr)) : (refK l).length = l.length := List.length_map _
theorem pair_set {F : (Str × List (Str × Int)) → (Str × Addr) → Prop} {y : Str} {r : List (Str × Int)} {d : Addr} (h1 : ∀ p q, F p q → p.1 = q.1) (h2 : ∀ z, z = y → F (z, r) (z, d)) : ∀ {rows : List (Str × List (Str × Int))} {rs : List (Str × Addr)}, Paired F rows rs → Paired F (setRow rows y r) (setRow rs y d)
  | _, _, .nil => .nil
  | _, _, .cons (a := p) (b := q) h t => by
    refine .cons ?_ (pair_set h1 h2 t)
    have e := h1 p q h
    show F (if p.1 = y then (p.1, r) else p) (if q.1 = y then (q.1, d) else q)
    by_cases z : p.1 = y
    · rw [if_pos z, if_pos (e ▸ z), ← e]
      exact h2 _ z
    · rw [if_neg z, if_neg (fun q' => z (e.trans q'))]
      exact h
theorem one_row {α : Type} {y : Str} {a b : α} : ∀ {rows : List (Str × α)}, (rows.map (·.1)).Nodup → (y, a) ∈ rows → (y, b) ∈ rows → a = b
  | p :: rows, h, h1, h2 => by
    rw [List.map_cons, List.nodup_cons] at h
    rcases List.mem_cons.mp h1 with z1 | z1
    · rcases List.mem_cons.mp h2 with z2 | z2
      · have := z1.trans z2.symm
        injection this
      · exact absurd (List.mem_map.mpr ⟨_, z2, by rw [← z1]⟩) h.1
    · rcases List.mem_cons.mp h2 with z2 | z2
      · exact absurd (List.mem_map.mpr ⟨_, z1, by rw [← z2]⟩) h.1
      · exact one_row h.2 z1 z2
section
variable {P : Program} {w : World} {K : PySem.W.Frag} {mg : Str → Option Value} {base : Heap} {CC fCI : Addr}
theorem scWEn : FnScope ["contents", "equation", "unknown", "row"] ["contents", "equation", "unknown"] (defScope sWEn) := ⟨rfl, rfl, rfl, by decide +kernel, rfl, by decide +kernel, by decide +kernel⟩
end
end Bo
set_option Elab.async false
set_option linter.all false
set_option maxRecDepth 100000
set_option maxHeartbeats 8000000
namespace Bo
open PySem L2
end Bo
set_option Elab.async false
set_option linter.all false
set_option maxRecDepth 100000
set_option maxHeartbeats 8000000
namespace Bo
open PySem L2
abbrev sRem : Stmt := top 48
theorem valV_at : ∀ {kvs : List (Key × V)} {i : Nat} {k : Key} {v : V}, (kvs.map (·.1)).Nodup → kvs[i]? = some (k, v) → valV kvs k = some v
  | p :: r, 0, k, v, _, h => by
    have e : p = (k, v) := Option.some.inj h
    rw [e]
    exact valV_pos (p := (k, v)) rfl
  | p :: r, i + 1, k, v, nd, h => by
    rw [List.map_cons, List.nodup_cons] at nd
    have h' : r[i]? = some (k, v) := h
    have ne : ¬ p.1 = k := fun z => nd.1 (List.mem_map.mpr ⟨(k, v), List.mem_of_getElem? h', z.symm⟩)
    exact (valV_neg (p := p) ne).trans (valV_at nd.2 h')
theorem not_before {kvs : List (Key × V)} {i : Nat} {k : Key} {v : V} (nd : (kvs.map (·.1)).Nodup) (h : kvs[i]? = some (k, v)) (f : Key × V → Bool) : valV ((kvs.take i).filter f) k = none := by
  refine valV_out fun z => ?_
  obtain ⟨p, hp, e⟩ := List.mem_map.mp z
  have hp := (List.mem_filter.mp hp).1
  obtain ⟨j, hj⟩ := List.mem_iff_getElem?.mp hp
  rw [List.getElem?_take] at hj
  split at hj
  · rename_i lt
    have a1 : (kvs.map (·.1))[j]? = some p.1 := by rw [List.getElem?_map, hj]; rfl
    have a2 : (kvs.map (·.1))[i]? = some k := by rw [List.getElem?_map, h]; rfl
    rw [e] at a1
    have li := (List.getElem?_eq_some_iff.mp a2).1
    exact absurd ((List.getElem?_inj (by omega) nd).mp (a1.trans a2.symm)) (by omega)
  · cases hj
/-- a dict without one key -/
def spRemoved : Sp := fun vs H Q _ => ∃ (a : Addr) (kvs : List (Key × V)) (ks : List Str) (y : Str), vs = [.ref a, .str y] ∧ Fz H a (.dK kvs) ∧ kvs.map (·.1) = ks.map Sum.inr ∧ ks.Nodup ∧ kvs.length ≤ 1000 ∧ ∀ (p : Addr), H p = none → Q (.ref p) (upd H p (.dK (kvs.filter fun q => !decide (q.1 = Sum.inr y))))
section
variable {P : Program} {w : World} {K : PySem.W.Frag} {mg : Str → Option Value} {base : Heap}
theorem scRm : FnScope ["table", "key", "other"] ["table", "key"] (defScope sRem) := ⟨rfl, rfl, rfl, by decide +kernel, rfl, by decide +kernel, by decide +kernel⟩
theorem ok_removed {f : Addr} {fd : FuncData} (F : Fun K "removed" "removed" sRem f fd) : FnOk P w K mg base CX0 1 f fd ["table", "key"] spRemoved := by
  refine F.ok scRm (fun vs H Q E h => ?_) (fun cdv A outer s H vs Q E hr h => ?_)
  · obtain ⟨a, kvs, ks, y, rfl, _⟩ := h
    rfl
  · obtain ⟨a, kvs, ks, y, rfl, ⟨od, ha⟩, hks, hn, hl, q⟩ := h
    have hu := hu_of hr
    refine ⟨_, pss_one (ps_ret (pe_dc (own := [("other", 2)]) (g := gName 2) rfl scRm.nd (pi_keys (pv 0)) (blkOk_by (N := ["table", "key", "other"]) (sc := defScope sRem) (by decide +kernel)) (fun _ _ _ _ _ => pg_name (i := 2) scRm.nd rfl (Or.inl rfl))
      (fun _ _ _ _ _ => pts_one (pt_cmpR op_ne (pv 2) (pv 1) (nomark _))) (fun _ _ _ _ _ => pv 2) (fun _ _ _ _ _ => pe_dget hu (pv 0) (pv 2) (fun _ _ => rfl)))), ?_⟩
    have nd : (kvs.map (·.1)).Nodup := by
      rw [hks]
      exact List.pairwise_map.mpr (hn.imp fun ne e => ne (Sum.inr.inj e))
    refine ⟨_, rfl, a, od, rfl, .inl ⟨kvs, ha, fun D hD => ?_⟩⟩
    have aD : a ≠ D := ne_of_none ha hD
    refine dc_go (walk_keys (kvs := kvs)) (fun i H' => H' = upd H D (.dK ((kvs.take i).filter fun q => !decide (q.1 = Sum.inr y)))) rfl (fun i H' _ e => by rw [e, upd_ne aD]; exact ha) ?_ ?_
    · intro i x H1 H' hi e y0
      subst e
      obtain ⟨eH, kk, v, hkv, rfl⟩ := y0
      subst eH
      have hkk : (kvs.map (·.1))[i]? = some kk := by rw [List.getElem?_map, hkv]; rfl
      rw [hks, List.getElem?_map] at hkk
      obtain ⟨z, hz, rfl⟩ := Option.map_eq_some_iff.mp hkk
      refine ⟨rfl, _, rfl, _, rfl, rfl, _, rfl, ?_⟩
      have ez : (!decide (V.str z = V.str y)) = (!decide ((Sum.inr z : Key) = Sum.inr y)) := by
        by_cases c : z = y
        · rw [c, decide_eq_true rfl, decide_eq_true rfl]
        · rw [decide_eq_false (fun e => c (V.str.inj e)), decide_eq_false (fun e => c (Sum.inr.inj e))]
      show (if (!decide (V.str z = V.str y)) = true then _ else _)
      rw [ez]
      refine ite2 (fun c => ?_) (fun c => ?_)
      · refine ⟨_, rfl, _, rfl, _, rfl, a, v, rfl, .inl ⟨_, Sum.inr z, .inr ⟨od, by rw [upd_ne aD]; exact ha⟩, rfl, (valV_at nd hkv).symm⟩, (kvs.take i).filter fun q => !decide (q.1 = Sum.inr y), Sum.inr z, rfl, upd_same, ?_, ?_⟩
        · have l1 := List.length_filter_le (fun q : Key × V => !decide (q.1 = Sum.inr y)) (kvs.take i)
          rw [List.length_take] at l1
          rw [sizeLine_eq]
          omega
        · rw [upd_upd, putK_new _ (not_before nd hkv _), take_snoc hkv, List.filter_append, List.filter_cons, if_pos c]
          rfl
      · rw [take_snoc hkv, List.filter_append, List.filter_cons, if_neg c, List.filter_nil, List.append_nil]
    · intro H' e
      subst e
      rw [List.take_length]
      exact q D hD
end
end Bo
set_option Elab.async false
set_option linter.all false
set_option maxRecDepth 100000
set_option maxHeartbeats 8000000
namespace Bo
open PySem L2
abbrev sWoE : Stmt := top 39
/-- the pairs but the one at y -/
def dropRow {α : Type} (rows : List (Str × α)) (y : Str) : List (Str × α) := rows.filter fun p => !decide (p.1 = y)
theorem drop_map {α : Type} {y : Str} (f : α → V) : ∀ l : List (Str × α), ((l.map fun p => ((Sum.inr p.1 : Key), f p.2)).filter fun q => !decide (q.1 = Sum.inr y)) = (dropRow l y).map fun p => ((Sum.inr p.1 : Key), f p.2)
  | [] => rfl
  | p :: l => by
    unfold dropRow
    rw [List.map_cons, List.filter_cons, List.filter_cons, drop_map f l]
    have e : (!decide ((Sum.inr p.1 : Key) = Sum.inr y)) = (!decide (p.1 = y)) := by
      by_cases c : p.1 = y
      · rw [c, decide_eq_true rfl, decide_eq_true rfl]
      · rw [decide_eq_false c, decide_eq_false (fun z => c (Sum.inr.inj z))]
    show (if (!decide ((Sum.inr p.1 : Key) = Sum.inr y)) = true then _ else _) = _
    rw [e]
    split <;> rfl
theorem pair_drop {F : (Str × List (Str × Int)) → (Str × Addr) → Prop} {y : Str} (h1 : ∀ p q, F p q → p.1 = q.1) : ∀ {rows : List (Str × List (Str × Int))} {rs : List (Str × Addr)}, Paired F rows rs → Paired F (dropRow rows y) (dropRow rs y)
  | _, _, .nil => .nil
  | _, _, .cons (a := p) (b := q) h t => by
    have e := h1 p q h
    have ih := pair_drop (y := y) h1 t
    unfold dropRow at ih ⊢
    rw [List.filter_cons, List.filter_cons]
    show Paired F (if (!decide (p.1 = y)) = true then _ else _) (if (!decide (q.1 = y)) = true then _ else _)
    rw [e]
    split
    · exact .cons h ih
    · exact ih
section
variable {P : Program} {w : World} {K : PySem.W.Frag} {mg : Str → Option Value} {base : Heap} {CC fCI : Addr}
theorem scWo : FnScope ["contents", "name"] ["contents", "name"] (defScope sWoE) := ⟨rfl, rfl, rfl, by decide +kernel, rfl, by decide +kernel, by decide +kernel⟩
end
end Bo
set_option Elab.async false
set_option linter.all false
set_option maxRecDepth 100000
set_option maxHeartbeats 4000000
namespace Bo
open PySem PySem.Spec PyProof.Rows
def leT (a b : Str) : Bool := !ltCps b.cps.toList a.cps.toList
theorem leT_iff {a b : Str} : leT a b = true ↔ a.cps.toList ≤ b.cps.toList := by
  unfold leT
  rw [ltCps_eq, Bool.not_eq_true', decide_eq_false_iff_not]
  exact List.not_lt
theorem str_ext {x y : Str} (h : x.cps.toList = y.cps.toList) : x = y := by
  cases x; cases y
  congr 1
  exact Array.toList_inj.mp h
theorem leT_trans {a b c : Str} (h1 : leT a b = true) (h2 : leT b c = true) : leT a c = true := leT_iff.mpr (List.le_trans (leT_iff.mp h1) (leT_iff.mp h2))
theorem leT_total (a b : Str) : (leT a b || leT b a) = true := by
  rw [Bool.or_eq_true, leT_iff, leT_iff]
  exact List.le_total _ _
theorem leT_anti {a b : Str} (h1 : leT a b = true) (h2 : leT b a = true) : a = b := str_ext (List.le_antisymm (leT_iff.mp h1) (leT_iff.mp h2))
def srt (xs : List Str) : List Str := xs.mergeSort leT
theorem srt_perm (xs : List Str) : (srt xs).Perm xs := List.mergeSort_perm _ _
theorem srt_pair (xs : List Str) : (srt xs).Pairwise fun a b => leT a b = true := List.pairwise_mergeSort (le := leT) (fun a b c h1 h2 => leT_trans (a := a) (b := b) (c := c) h1 h2) (fun a b => leT_total a b) xs
theorem risingS_pair : ∀ {p : Str} {l : List Str}, risingS p l = true → (p :: l).Pairwise fun a b => leT a b = true
  | p, [], _ => List.pairwise_singleton _ _
  | p, x :: r, h => by
    have h : (leT p x && risingS x r) = true := h
    rw [Bool.and_eq_true] at h
    have ih := risingS_pair h.2
    refine List.pairwise_cons.mpr ⟨fun y hy => ?_, ih⟩
    rcases List.mem_cons.mp hy with e | e
    · rw [e]; exact h.1
    · exact leT_trans h.1 ((List.pairwise_cons.mp ih).1 y e)
theorem sortedS_pair : ∀ {l : List Str}, sortedS l = true → l.Pairwise fun a b => leT a b = true
  | [], _ => .nil
  | x :: r, h => risingS_pair h
theorem sort_one : ∀ {l m : List Str}, l.Pairwise (fun a b => leT a b = true) → m.Pairwise (fun a b => leT a b = true) → l.Perm m → l = m
  | [], m, _, _, p => (p.symm.eq_nil).symm
  | x :: l, [], _, _, p => absurd p.eq_nil (by simp)
  | x :: l, y :: m, h1, h2, p => by
    have e : x = y := by
      have a1 : x ∈ y :: m := p.mem_iff.mp List.mem_cons_self
      have a2 : y ∈ x :: l := p.mem_iff.mpr List.mem_cons_self
      rcases List.mem_cons.mp a1 with e | e
      · exact e
      · rcases List.mem_cons.mp a2 with e2 | e2
        · exact e2.symm
        · exact leT_anti ((List.pairwise_cons.mp h1).1 y e2) ((List.pairwise_cons.mp h2).1 x e)
    subst e
    rw [sort_one (List.pairwise_cons.mp h1).2 (List.pairwise_cons.mp h2).2 (List.perm_cons x |>.mp p)]
/-- a sorted arrangement is the sorted one -/
theorem srt_of {zs xs : List Str} (p : zs.Perm xs) (h : sortedS zs = true) : zs = srt xs := sort_one (sortedS_pair h) (srt_pair xs) (p.trans (srt_perm xs).symm)
theorem srt_eq {xs ys : List Str} (p : xs.Perm ys) : srt xs = srt ys := sort_one (srt_pair _) (srt_pair _) ((srt_perm xs).trans (p.trans (srt_perm ys).symm))
theorem srt_mem {x : Str} {xs : List Str} : x ∈ srt xs ↔ x ∈ xs := (srt_perm xs).mem_iff
theorem srt_len (xs : List Str) : (srt xs).length = xs.length := (srt_perm xs).length_eq
end Bo
set_option Elab.async false
set_option linter.all false
set_option maxRecDepth 100000
set_option maxHeartbeats 8000000
namespace Bo
open PySem L2
def both : Str := Str.ofString "abcdefghijklmnopqrstuvwxyz0123456789"
theorem both_eq : both.cps.toList = lets.cps.toList ++ digs.cps.toList := by decide +kernel
theorem lets_eq : lets.cps.toList = List.range' 97 26 := by decide +kernel
theorem both_sign (c : Nat) : decide (c ∈ both.cps.toList) = isSign c := by
  unfold isSign
  rw [both_eq]
  by_cases h1 : c ∈ lets.cps.toList
  · rw [decide_eq_true (List.mem_append.mpr (.inl h1)), decide_eq_true h1, Bool.true_or]
  · by_cases h2 : c ∈ digs.cps.toList
    · rw [decide_eq_true (List.mem_append.mpr (.inr h2)), decide_eq_true h2, Bool.or_true]
    · rw [decide_eq_false (fun z => (List.mem_append.mp z).elim h1 h2), decide_eq_false h1, decide_eq_false h2, Bool.or_false]
theorem isLet_eq (c : Nat) : isLet c = decide (97 ≤ c ∧ c ≤ 122) := by
  unfold isLet
  rw [lets_eq]
  by_cases h : 97 ≤ c ∧ c ≤ 122
  · rw [decide_eq_true h, decide_eq_true (List.mem_range'_1.mpr ⟨h.1, by omega⟩)]
  · rw [decide_eq_false h, decide_eq_false (fun z => h ⟨(List.mem_range'_1.mp z).1, by have := (List.mem_range'_1.mp z).2; omega⟩)]
def oneTx (c : Nat) : V := V.str ⟨#[c]⟩
def oneD (c : Nat) : PyData := .str ⟨#[c]⟩
theorem ones_dp {K : PySem.W.Frag} {H : Hp} : ∀ cs : List Nat, DpAll K H (cs.map oneTx) (cs.map oneD)
  | [] => .nil
  | c :: cs => .cons (.str _) (ones_dp cs)
theorem ones_lay : ∀ {cs : List Nat}, (∀ c ∈ cs, c < 128) → PyData.canLayAll0 (cs.map oneD) = true
  | [], _ => rfl
  | c :: cs, h => by
    show (PyData.strOk ⟨#[c]⟩ && PyData.canLayAll0 (cs.map oneD)) = true
    rw [ones_lay fun x hx => h x (List.mem_cons_of_mem _ hx), Bool.and_true]
    have hc := h c List.mem_cons_self
    unfold PyData.strOk
    simp
    omega
theorem ones_depth : ∀ cs : List Nat, PyData.depthAll (cs.map oneD) = 0
  | [] => rfl
  | c :: cs => by
    show max (PyData.depth (oneD c)) (PyData.depthAll (cs.map oneD)) = 0
    rw [ones_depth cs]
    rfl
theorem ones_shaped {cs : List Nat} (h : ∀ c ∈ cs, c < 128) : SeqAt.shaped (.list (cs.map oneD)) = true := by
  show (PyData.canLayAll0 (cs.map oneD) && decide (PyData.depthAll (cs.map oneD) + 1 ≤ 64)) = true
  rw [ones_lay h, ones_depth]
  rfl
theorem ones_none : ∀ cs : List Nat, PyData.eqv (.list (cs.map oneD)) (.list []) = cs.isEmpty
  | [] => by simp [PyData.eqv, PyData.eqvAll]
  | c :: cs => by simp [PyData.eqv, PyData.eqvAll]
def oneS (c : Nat) : Str := ⟨#[c]⟩
theorem ones_map (us : List Nat) : us.map oneTx = (us.map oneS).map V.str := by
  rw [List.map_map]
  rfl
theorem ones_join (us : List Nat) : (Txt.join (Str.ofString "") (us.map oneS)).cps.toList = us := by
  have h := PySem.StrLaws.glued_eq_join (Str.ofString "") (us.map oneS)
  show (Builtin.Str.glued (Str.ofString "") (us.map oneS)).cps.toList = us
  unfold Builtin.Str.glued
  have key : ∀ (l : List Nat) (acc : Array Nat), ((l.map oneS).foldl (fun acc p => acc ++ (Str.ofString "").cps ++ p.cps) acc).toList = acc.toList ++ l := by
    intro l
    induction l with
    | nil => intro acc; simp
    | cons c l ih =>
      intro acc
      rw [List.map_cons, List.foldl_cons, ih]
      have e : (Str.ofString "").cps = #[] := rfl
      rw [e]
      simp [oneS]
  cases us with
  | nil => rfl
  | cons c l =>
    show ((l.map oneS).foldl (fun acc p => acc ++ (Str.ofString "").cps ++ p.cps) (oneS c).cps).toList = _
    rw [key]
    rfl
theorem ones_sum : ∀ us : List Nat, ((us.map oneS).map (·.length)).sum = us.length
  | [] => rfl
  | c :: us => by
    rw [List.map_cons, List.map_cons, List.sum_cons, ones_sum us]
    show 1 + us.length = us.length + 1
    omega
theorem str_app (x y : Str) : (x ++ y).cps.toList = x.cps.toList ++ y.cps.toList := Array.toList_append
theorem str_len (x : Str) : x.length = x.cps.toList.length := (Array.length_toList (xs := x.cps)).symm
theorem lets_ok : ∀ u ∈ lets.cps.toList, u < 128 := by decide +kernel
theorem both_ok : ∀ u ∈ both.cps.toList, u < 128 := by decide +kernel
end Bo
set_option Elab.async false
set_option linter.all false
set_option maxRecDepth 100000
set_option maxHeartbeats 4000000
namespace Bo
open PySem L2
/-- an argument: a text, or another object -/
inductive Arg where
  | nm (y : Str)
  | od (d : PyData)
def Arg.d : Arg → PyData
  | .nm y => .str y
  | .od d => d
def Arg.ok : Arg → Bool
  | .nm y => nameOk y
  | .od _ => false
def Arg.inT (known : List Str) : Arg → Bool
  | .nm y => decide (y ∈ known)
  | .od _ => false
structure Pl where
  rows : List (Str × List Str)
  us : List Str
def Pl.keys (p : Pl) : List Str := p.rows.map (·.1)
def rowOf (rows : List (Str × List Str)) (y : Str) : List Str := (rows.lookup y).getD []
abbrev Er : Type := Nat × PyData
def nmS : List Arg → List Str
  | [] => []
  | .nm y :: r => y :: nmS r
  | .od _ :: r => nmS r
def badA (xs : List Arg) : Option Arg := xs.find? fun x => !x.ok
def lackA (known : List Str) (xs : List Arg) : Option Arg := xs.find? fun x => !x.inT known
def dupT (known : List Str) : List Str → Option Str
  | [] => none
  | y :: r => if y ∈ known then some y else dupT (known ++ [y]) r
def itemD (k : Str) (x : Arg) : PyData := .tuple [.str k, x.d]
inductive Ed where
  | addU (xs : List Arg)
  | addE (x : Arg) (us : List Arg)
  | addN (e u : Arg)
  | rmN (e u : Arg)
  | rmE (e : Arg)
  | rmU (u : Arg)
abbrev kEq : Str := Str.ofString "equation"
abbrev kUn : Str := Str.ofString "unknown"
/-- unknowns of an equation, checked -/
def chkU (known : List Str) (us : List Arg) : Option Er := match lackA known us with
  | some u => some (2, itemD kUn u)
  | none => (dupT [] (nmS us)).map fun y => (1, itemD kUn (.nm y))
/-- the ends of an entry, checked -/
def chkN (p : Pl) (e u : Arg) : Except Er (Str × Str) := match e, u with
  | .nm y, .nm x => if y ∈ p.keys then if x ∈ p.us then .ok (y, x) else .error (2, itemD kUn u) else .error (2, itemD kEq e)
  | .nm y, .od _ => if y ∈ p.keys then .error (2, itemD kUn u) else .error (2, itemD kEq e)
  | .od _, _ => .error (2, itemD kEq e)
def newU (p : Pl) (xs : List Arg) : Except Er Pl := match badA xs with
  | some x => .error (0, x.d)
  | none => match dupT p.us (nmS xs) with
    | some y => .error (1, itemD kUn (.nm y))
    | none => if 24 < p.us.length + (nmS xs).length then .error (5, .int 24) else .ok { p with us := p.us ++ nmS xs }
def newE (p : Pl) (x : Arg) (us : List Arg) : Except Er Pl := match x with
  | .od d => .error (0, d)
  | .nm y => if nameOk y = false then .error (0, .str y) else if y ∈ p.keys then .error (1, itemD kEq x) else if 24 ≤ p.rows.length then .error (5, .int 24) else
    match chkU p.us us with
    | some e => .error e
    | none => .ok { p with rows := p.rows ++ [(y, nmS us)] }
def edP (p : Pl) : Ed → Except Er Pl
  | .addU xs => newU p xs
  | .addE x us => newE p x us
  | .addN e u => match chkN p e u with
    | .error er => .error er
    | .ok (y, x) => if x ∈ rowOf p.rows y then .error (3, .tuple [.str y, .str x]) else .ok { p with rows := setRow p.rows y (rowOf p.rows y ++ [x]) }
  | .rmN e u => match chkN p e u with
    | .error er => .error er
    | .ok (y, x) => if x ∈ rowOf p.rows y then .ok { p with rows := setRow p.rows y ((rowOf p.rows y).filter fun z => !decide (z = x)) } else .error (4, .tuple [.str y, .str x])
  | .rmE e => match e with
    | .nm y => if y ∈ p.keys then .ok { p with rows := dropRow p.rows y } else .error (2, itemD kEq e)
    | .od _ => .error (2, itemD kEq e)
  | .rmU u => match u with
    | .nm x => if x ∈ p.us then .ok { rows := p.rows.map fun r => (r.1, r.2.filter fun z => !decide (z = x)), us := p.us.filter fun z => !decide (z = x) } else .error (2, itemD kUn u)
    | .od _ => .error (2, itemD kUn u)
theorem name_txt {y : Str} (h : nameOk y = true) : TxtOk y := by
  unfold nameOk at h
  rw [Bool.and_eq_true, Bool.and_eq_true, Bool.and_eq_true] at h
  refine ⟨Nat.le_trans (of_decide_eq_true h.2.1) (by decide), fun u hu => ?_⟩
  have h2 := List.all_eq_true.mp h.2.2.2 u hu
  unfold isSign at h2
  rw [Bool.or_eq_true, decide_eq_true_eq, decide_eq_true_eq] at h2
  rcases h2 with z | z
  · exact lets_ok u z
  · exact both_ok u (by rw [both_eq]; exact List.mem_append_right _ z)
theorem name_strOk {y : Str} (h : TxtOk y) : PyData.strOk y = true := by
  show Array.all _ _ = true
  rw [← Array.all_toList, List.all_eq_true]
  intro u hu
  have := h.c u hu
  exact decide_eq_true (by omega)
structure PlWf (p : Pl) : Prop where
  k : p.keys.Nodup
  nk : ∀ y ∈ p.keys, nameOk y = true
  u : p.us.Nodup
  nu : ∀ y ∈ p.us, nameOk y = true
  r : ∀ row ∈ p.rows, row.2.Nodup ∧ ∀ x ∈ row.2, x ∈ p.us
  lk : p.rows.length ≤ 24
  lu : p.us.length ≤ 24
theorem nodup_len : ∀ {xs us : List Str}, xs.Nodup → (∀ z ∈ xs, z ∈ us) → xs.length ≤ us.length
  | [], _, _, _ => Nat.zero_le _
  | x :: xs, us, nd, h => by
    rw [List.nodup_cons] at nd
    have hx := h x List.mem_cons_self
    have ih := nodup_len (xs := xs) (us := us.erase x) nd.2 fun z hz => by
      refine (List.mem_erase_of_ne fun e => nd.1 (by rw [← e]; exact hz)).mpr (h z (List.mem_cons_of_mem _ hz))
    rw [List.length_erase_of_mem hx] at ih
    have := List.length_pos_of_mem hx
    show xs.length + 1 ≤ us.length
    omega
theorem PlWf.row {p : Pl} (w : PlWf p) {row : Str × List Str} (h : row ∈ p.rows) : row.2.length ≤ 24 := Nat.le_trans (nodup_len (w.r _ h).1 (w.r _ h).2) w.lu
theorem lookup_of {α : Type} {y : Str} {r : α} : ∀ {l : List (Str × α)}, (l.map (·.1)).Nodup → (y, r) ∈ l → l.lookup y = some r
  | q :: l, nd, h => by
    rw [List.map_cons, List.nodup_cons] at nd
    rw [List.lookup_cons]
    rcases List.mem_cons.mp h with e | e
    · rw [← e]
      simp
    · have ne : (y == q.1) = false := by
        rw [beq_eq_false_iff_ne]
        exact fun z => nd.1 (List.mem_map.mpr ⟨_, e, z⟩)
      rw [ne]
      exact lookup_of nd.2 e
theorem lookup_mem {α : Type} {y : Str} : ∀ {l : List (Str × α)}, y ∈ l.map (·.1) → ∃ r, (y, r) ∈ l
  | l, h => by
    obtain ⟨q, hq, e⟩ := List.mem_map.mp h
    exact ⟨q.2, by rw [← e]; exact hq⟩
theorem PlWf.rowOf {p : Pl} (w : PlWf p) {y : Str} (h : y ∈ p.keys) : (y, rowOf p.rows y) ∈ p.rows := by
  obtain ⟨r, hr⟩ := lookup_mem h
  unfold Bo.rowOf
  rw [lookup_of w.k hr]
  exact hr
theorem badA_none {xs : List Arg} (h : badA xs = none) : xs = (nmS xs).map Arg.nm ∧ ∀ y ∈ nmS xs, nameOk y = true := by
  induction xs with
  | nil => exact ⟨rfl, fun _ z => nomatch z⟩
  | cons x xs ih =>
    unfold badA at h
    rw [List.find?_cons] at h
    split at h
    · cases h
    · rename_i hx
      obtain ⟨e1, e2⟩ := ih h
      cases x with
      | od d => cases hx
      | nm y =>
        refine ⟨congrArg (Arg.nm y :: ·) e1, fun z hz => ?_⟩
        rcases List.mem_cons.mp hz with q | q
        · rw [q]
          simpa [Arg.ok] using hx
        · exact e2 z q
theorem badA_at {xs : List Arg} {i : Nat} {x : Arg} (h1 : ∀ j y, j < i → xs[j]? = some y → y.ok = true) (h2 : xs[i]? = some x) (h3 : x.ok = false) : badA xs = some x := by
  induction xs generalizing i with
  | nil => simp at h2
  | cons a xs ih =>
    unfold badA
    rw [List.find?_cons]
    cases i with
    | zero =>
      have e : a = x := by simpa using h2
      rw [e, h3]
      rfl
    | succ i =>
      have ha := h1 0 a (Nat.zero_lt_succ _) rfl
      rw [ha]
      exact ih (fun j y hj hy => h1 (j + 1) y (Nat.succ_lt_succ hj) (by simpa using hy)) (by simpa using h2)
theorem badA_all {xs : List Arg} (h : ∀ x ∈ xs, x.ok = true) : badA xs = none := by
  unfold badA
  rw [List.find?_eq_none]
  exact fun x hx => by rw [h x hx]; simp
theorem lackA_none {known : List Str} {xs : List Arg} (h : lackA known xs = none) : xs = (nmS xs).map Arg.nm ∧ ∀ y ∈ nmS xs, y ∈ known := by
  induction xs with
  | nil => exact ⟨rfl, fun _ z => nomatch z⟩
  | cons x xs ih =>
    unfold lackA at h
    rw [List.find?_cons] at h
    split at h
    · cases h
    · rename_i hx
      obtain ⟨e1, e2⟩ := ih h
      cases x with
      | od d => cases hx
      | nm y =>
        refine ⟨congrArg (Arg.nm y :: ·) e1, fun z hz => ?_⟩
        rcases List.mem_cons.mp hz with q | q
        · rw [q]
          simpa [Arg.inT] using hx
        · exact e2 z q
theorem lackA_at {known : List Str} {xs : List Arg} {i : Nat} {x : Arg} (h1 : ∀ j y, j < i → xs[j]? = some y → y.inT known = true) (h2 : xs[i]? = some x) (h3 : x.inT known = false) : lackA known xs = some x := by
  induction xs generalizing i with
  | nil => simp at h2
  | cons a xs ih =>
    unfold lackA
    rw [List.find?_cons]
    cases i with
    | zero =>
      have e : a = x := by simpa using h2
      rw [e, h3]
      rfl
    | succ i =>
      have ha := h1 0 a (Nat.zero_lt_succ _) rfl
      rw [ha]
      exact ih (fun j y hj hy => h1 (j + 1) y (Nat.succ_lt_succ hj) (by simpa using hy)) (by simpa using h2)
theorem lackA_all {known : List Str} {xs : List Arg} (h : ∀ x ∈ xs, x.inT known = true) : lackA known xs = none := by
  unfold lackA
  rw [List.find?_eq_none]
  exact fun x hx => by rw [h x hx]; simp
theorem dupT_at {ys : List Str} : ∀ {i : Nat} {known : List Str} {y : Str}, ys[i]? = some y → dupT known (ys.drop i) = if y ∈ known then some y else dupT (known ++ [y]) (ys.drop (i + 1)) := fun {i known y} h => by
  have e : ys.drop i = y :: ys.drop (i + 1) := by
    obtain ⟨hi, e⟩ := List.getElem?_eq_some_iff.mp h
    rw [List.drop_eq_getElem_cons hi, e]
  rw [e]
  rfl
theorem dupT_none : ∀ {l known : List Str}, known.Nodup → dupT known l = none → (known ++ l).Nodup
  | [], known, h, _ => by rw [List.append_nil]; exact h
  | y :: l, known, h, e => by
    have e : (if y ∈ known then some y else dupT (known ++ [y]) l) = none := e
    split at e
    · cases e
    · rename_i hy
      have := dupT_none (l := l) (known := known ++ [y]) (List.nodup_append.mpr ⟨h, List.nodup_cons.mpr ⟨List.not_mem_nil, List.nodup_nil⟩, fun a ha b hb => by rw [List.mem_singleton.mp hb]; exact fun z => hy (z ▸ ha)⟩) e
      rwa [List.append_assoc] at this
theorem dupT_of : ∀ {l known : List Str}, (known ++ l).Nodup → dupT known l = none
  | [], _, _ => rfl
  | y :: l, known, h => by
    show (if y ∈ known then some y else dupT (known ++ [y]) l) = none
    have hy : y ∉ known := fun z => by
      rw [List.nodup_append] at h
      exact h.2.2 _ z _ List.mem_cons_self rfl
    rw [if_neg hy]
    exact dupT_of (by rw [List.append_assoc]; exact h)
/-- it depends on what is known alone -/
theorem dupT_perm : ∀ {l k1 k2 : List Str}, (∀ z, z ∈ k1 ↔ z ∈ k2) → dupT k1 l = dupT k2 l
  | [], _, _, _ => rfl
  | y :: l, k1, k2, h => by
    show (if y ∈ k1 then some y else dupT (k1 ++ [y]) l) = if y ∈ k2 then some y else dupT (k2 ++ [y]) l
    rw [dupT_perm (l := l) (k1 := k1 ++ [y]) (k2 := k2 ++ [y]) fun z => by rw [List.mem_append, List.mem_append, h z]]
    by_cases e : y ∈ k1
    · rw [if_pos e, if_pos ((h y).mp e)]
    · rw [if_neg e, if_neg fun z => e ((h y).mpr z)]
end Bo
set_option Elab.async false
set_option linter.all false
set_option maxRecDepth 100000
set_option maxHeartbeats 4000000
namespace Bo
open PySem PySem.Spec PyProof.Rows L2
theorem _root_.L2.Fun.okN {P : Program} {w : World} {K : PySem.W.Frag} {mg : Str → Option Value} {base : Heap} {x qual : Str} {st : Stmt} {f : Addr} {fd : FuncData} {N ps : List Str} {k : Nat} {sp : Sp} (F : L2.Fun K x qual st f fd) (S : FnScope N ps (defScope st)) (len : ∀ vs H Q E, sp vs H Q E → vs.length = ps.length)
    (body : ∀ (cdv : Value) (A : Around) (outer : List Env) (s : Shared) (H : Hp) (vs : List V) (Q : VK) (E : XK), Room k (A.deeper (envOfC qual (defScope st) s.heap.objs.size f cdv)) → sp vs H Q E →
      ∃ t, PSs (cxOf (L2N.CX P w) P w K mg base N qual (defScope st) f cdv A outer s H E) (defBody st) t ∧ t { nx := fun _ H' => Q .non H', rt := Q } (L2.start N vs) H) : FnOk P w K mg base (L2N.CX P w) (k + 1) f fd ps sp := by
  have q := F.ex
  obtain ⟨_, _, _, _, _, _, c, _, _, rfl, l, h⟩ := q
  exact fn_of l h S len fun A o s H vs Q E r z => body c A o s H vs Q E r z
theorem cx_weak {P : Program} {w : World} {o : List Env} {H : Hp} {s : Shared} {E : XK} {u : Value} {s' : Shared} (h : L2N.CX P w o H s E u s') : L2.CX P w o H s E u s' := by
  obtain ⟨a, B, H', cls, d, e, fl, rest⟩ := h
  exact ⟨a, B, H', cls, d, e, L2H.flyingZ_imp (fun _ z => z.zc) fl, rest⟩
theorem _root_.L2.FnOk.weak {P : Program} {w : World} {K : PySem.W.Frag} {mg : Str → Option Value} {base : Heap} {k : Nat} {f : Addr} {fd : FuncData} {ps : List Str} {sp : Sp} (F : FnOk P w K mg base (L2N.CX P w) k f fd ps sp) : FnOk P w K mg base (L2.CX P w) k f fd ps sp :=
  ⟨F.len, fun A outer s H args us vs Q E hr he hb hv hs => codeAny_mono (F.run A outer s H args us vs Q E hr he hb hv hs) fun r s' q => by
    cases r with
    | error e => exact cx_weak q
    | ok v => cases v <;> exact q⟩
/-- C(e, ..) whose __init__ is the program's own -/
theorem pmk_oexN {X : Cx} {CX : CXT} {y : Str} {Cl ini : Addr} {lv : Nat} {fdI : FuncData} {pars : List Str} {sp : Sp} {ds : List Value} {dvs : List V} {e1 : Expr} {more : List Expr} {ta : TA} {p0 p1 : Pos}
    (T : OexC X.K Cl) (hi : PySem.W.findIn X.K (.ref Cl) "__init__" = some (some (.ref ini))) (ht : PySem.W.typeIn X.K (.ref ini) = some (.type "function")) (G : FnOk X.prog X.w X.K X.mg X.base CX lv ini fdI pars sp) (room : Room (lv + 1) X.A)
    (bi : Binds X.K fdI pars ds) (vd : Vals dvs ds) (np : Passes CX X (fun _ _ _ => False)) (gl : Gl X y) (at_ : X.mg y = some (.ref Cl)) (as : PA X (e1 :: more) ta) (nd : (y == ("__debug__" : Str)) = false := by decide)
    (h1 : starEach (e1 :: more) X.env = (false, eval e1 X.env) :: starEach more X.env := by rfl) (h2 : (backTo p1 (starEach more X.env)).any (·.1) = false := by rfl) : L2N.PMk X (.Call (.Name y p0) (e1 :: more) [] p1) (tMkO Cl sp dvs ta) := by
  rintro pins st σ H Q J rd
  obtain ⟨nm, q, N, bs, bm, sn, sub, ab, col, dd, k0, k1, k2, k3, k5, cl, ve⟩ := T.cls
  refine wpAny_Call_Name_kw (ld_glob J gl at_ ?_ nd)
  refine PySem.W.callWith_K (h₀ := X.base) J.ok.mod.kin T.kC ?_ h1 h2
  refine thn (as.run p1 pins st σ H _ J rd) ?_
  rintro ws s1 ⟨vs, H1, J1, rel, len, wish⟩
  refine ⟨J1.kIn, ?_⟩
  obtain ⟨hh, gs, dw, tk, os⟩ := s1
  have sz : hh.objs.size ≤ hh.objs.size + 1 := Nat.le_succ _
  have sq := wish _ (J1.hok.fresh sz)
  have old : ∀ b o, hh.get? b = some o → ((hh.push (PySem.W.kdv_tup ws)).push (PySem.HandSPX.excO Cl hh.objs.size)).get? b = some o := fun b o e =>
    Heap.get?_push_of_some _ (Heap.get?_push_of_some _ e)
  have new : ((hh.push (PySem.W.kdv_tup ws)).push (PySem.HandSPX.excO Cl hh.objs.size)).get? (hh.objs.size + 1) = some (PySem.HandSPX.excO Cl hh.objs.size) := by heap_get
  have J2 := J1.laid (t' := tk) (o := exo (hh.objs.size + 1) Cl none) old sz (exo_ok new)
  have rel2 : Vals (V.ref (hh.objs.size + 1) :: (vs ++ dvs)) (Value.ref (hh.objs.size + 1) :: (ws ++ ds)) := .cons rfl (rel.append vd)
  have len2 : (Value.ref (hh.objs.size + 1) :: ws ++ ds).length = pars.length := (rel2.length.symm.trans (G.len _ _ _ _ sq))
  have lws : ws.length ≤ sizeLine := by
    rw [sizeLine_eq, ← Paired.length rel]
    exact Nat.le_trans len (by decide)
  have go := G.run _ X.stack _ _ ⟨Value.ref (hh.objs.size + 1) :: ws, []⟩ (Value.ref (hh.objs.size + 1) :: (ws ++ ds)) _ _ (fun _ _ _ => False) (room.make Cl ws []) (J2.env0.make Cl ws []) (bi _ (Value.ref (hh.objs.size + 1) :: ws) J2.kIn len2) rel2 sq
  show wpAny _ _ (call (.ref Cl) ws) _ _ _
  refine wpAny_call (PySem.HandSPX.call_own F.excBase_ValueError (fun Y => PySem.HandSPX.refsVE_contains Y bm ve) (J1.kIn _ _ cl) (PySem.W.looks_findIn J1.kIn hi) (fun self => PySem.W.bind_fn J1.kIn self ht) lws (codeAny_mono go ?_))
  rintro (er | fl) s' z
  · exact np pins σ _ _ er s' J2 z
  · cases fl with
    | ret u =>
      obtain ⟨v, H2, o2, b2, n2, k2', rv, ev, d, fs, ea, ed, dn, z⟩ := z
      subst ev
      obtain ⟨h', g', d', t', o'⟩ := s'
      obtain ⟨t0, G0, J0, kG, ge, ho, na⟩ := mk_end0 (d2 := d') (t2 := t') J1 sz old n2 k2' o2 b2 ea ed dn
      exact ⟨rv, hh.objs.size + 1, _, _, ⟨G0, g', d', t', o'⟩, _, .ref Cl, some d, rfl, J0, kG, ge, ho, ⟨rfl, rfl, fun vs hv => by cases hv; rfl⟩, rfl, rfl, na, rfl, b2, raises_own T.exC T.tyC, z⟩
    | next => exact z.elim
    | brk => exact z.elim
    | cont => exact z.elim
end Bo
set_option Elab.async false
set_option linter.all false
set_option maxRecDepth 100000
set_option maxHeartbeats 8000000
namespace Bo
open PySem L2
theorem pairG {α β : Type} {F : α → β → Prop} : ∀ {l : List α} {m : List β} {i : Nat} {a : α}, Paired F l m → l[i]? = some a → ∃ b, m[i]? = some b ∧ F a b
  | _, _, i, a, .nil, h => by simp at h
  | _, _, 0, a, .cons (b := b) q t, h => by
    simp at h
    subst h
    exact ⟨b, by simp, q⟩
  | _, _, i + 1, a, .cons q t, h => by
    obtain ⟨b, h1, h2⟩ := pairG t (by simpa using h)
    exact ⟨b, by simpa using h1, h2⟩
/-- the contents of a plain system -/
def ctP (p : Pl) : Ct := ⟨srt p.us, p.rows.map fun r => (r.1, r.2.map fun x => (x, 1)), p.rows.map fun r => (r.1, 0)⟩
theorem ctP_keys (p : Pl) : (ctP p).rows.map (·.1) = p.keys := by
  unfold ctP Pl.keys
  rw [List.map_map]
  rfl
theorem ctP_cons (p : Pl) : (ctP p).cons.map (·.1) = p.keys := by
  unfold ctP Pl.keys
  rw [List.map_map]
  rfl
inductive AV (K : PySem.W.Frag) (H : Hp) : V → Arg → Prop where
  | nm {y : Str} (l : y.length ≤ 1000) : AV K H (.str y) (.nm y)
  | od {v : V} {d : PyData} (f : Flat K H v d) (n : ∀ y, v ≠ .str y) : AV K H v (.od d)
theorem AV.keep {K : PySem.W.Frag} {H H' : Hp} {v : V} {x : Arg} (h : AV K H v x) (k : Same H H') : AV K H' v x := by
  cases h with
  | nm l => exact .nm l
  | od f n => exact .od (f.keep k) n
theorem AV.flat {K : PySem.W.Frag} {H : Hp} {v : V} {x : Arg} (h : AV K H v x) : Flat K H v x.d := by
  cases h with
  | nm l => exact .atom (v := .str _) rfl
  | od f n => exact f
theorem AV.name {K : PySem.W.Frag} {H : Hp} {v : V} {x : Arg} (h : AV K H v x) : nameV v = x.ok := by
  cases h with
  | nm l => rfl
  | od f n =>
    cases v with
    | str y => exact absurd rfl (n y)
    | _ => rfl
theorem AV.len {K : PySem.W.Frag} {H : Hp} {v : V} {x : Arg} (h : AV K H v x) : ∀ z, v = .str z → z.length ≤ 1000 := fun z e => by
  cases h with
  | nm l => cases e; exact l
  | od f n => exact absurd e (n z)
theorem avs_keep {K : PySem.W.Frag} {H H' : Hp} {vs : List V} {xs : List Arg} (h : Paired (AV K H) vs xs) (k : Same H H') : Paired (AV K H') vs xs := Paired.mapP h fun _ _ z => z.keep k
/-- all are texts -/
theorem avs_txt {K : PySem.W.Frag} {H : Hp} : ∀ {vs : List V} {ys : List Str}, Paired (AV K H) vs (ys.map Arg.nm) → vs = ys.map V.str
  | _, [], h => by cases h; rfl
  | _, y :: ys, h => by
    cases h with
    | cons q t =>
      cases q
      rw [avs_txt t]
      rfl
theorem fl_two {K : PySem.W.Frag} {H : Hp} {q : Addr} {x y : Str} (h : SqT K H q [.str x, .str y]) : Fl2 K H (.ref q) (.tuple [.str x, .str y]) := by
  refine .fl (.tup h (fun v hv => ?_) (by show 2 ≤ 1000; decide))
  rcases List.mem_cons.mp hv with e | e
  · rw [e]
    rfl
  · rw [List.mem_singleton.mp e]
    rfl
/-- what becomes of an edit -/
def EdRes (K : PySem.W.Frag) (CC : Addr) (cs : Nat → Addr) (E : XK) (H : Hp) (Q : VK) : Except Er Pl → Prop
  | .error e => Thrown2 K E H (cs e.1) (erFld e.1) e.2
  | .ok p' => ∀ (a : Addr) (H' : Hp), Same H H' → CtIn K CC H' a (ctP p') → Q (.ref a) H'
theorem EdRes.later {K : PySem.W.Frag} {CC : Addr} {cs : Nat → Addr} {E : XK} {H H1 : Hp} {Q : VK} {r : Except Er Pl} (h : EdRes K CC cs E H Q r) (k : Same H H1) : EdRes K CC cs E H1 Q r := by
  cases r with
  | error e => exact Thrown2.later h k
  | ok p' => exact fun a H' s C => h a H' (k.trans s) C
structure TxtE (K : PySem.W.Frag) (mg : Str → Option Value) (CC fCI : Addr) : Prop extends TxtN mg where
  ct : CtT K mg CC fCI
  set_ : mg "set" = none
  srt : mg "sorted" = none
  most : ∃ t, mg "MOST" = some (.int 24 t)
  enum : mg "enumerate" = none
def spWUX (K : PySem.W.Frag) (CC : Addr) (cs : Nat → Addr) : Sp := fun vs H Q E => ∃ (c n : Addr) (p : Pl) (xs : List V) (as : List Arg), vs = [.ref c, .ref n] ∧ CtIn K CC H c (ctP p) ∧ SqT K H n xs ∧ Paired (AV K H) xs as ∧ xs.length ≤ 1000 ∧ PlWf p ∧ EdRes K CC cs E H Q (edP p (.addU as))
section
variable {P : Program} {w : World} {K : PySem.W.Frag} {mg : Str → Option Value} {base : Heap} {CC fCI CB : Addr} {cs fs : Nat → Addr} {fds : Nat → FuncData}
theorem ok_wuX {f fN : Addr} {fd fdN fdCI : FuncData} (F : Fun K "with_unknowns" "with_unknowns" sWU f fd) (T : TxtE K mg CC fCI) (TE : ErrA K mg CB cs) (TG : ErrsG P w K mg base cs fs fds)
    (GN : FnOk P w K mg base CX0 1 fN fdN ["thing"] (spIsName K)) (mN : mg "is_name" = some (.ref fN)) (kN : PySem.W.keepIn K (.ref fN) = true) (bN : Binds K fdN ["thing"] [])
    (GC : FnOk P w K mg base CX0 1 fCI fdCI ["self", "columns", "rows", "constants"] (spCtInit CC)) (bC : Binds K fdCI ["self", "columns", "rows", "constants"] []) :
    FnOk P w K mg base (L2N.CX P w) 6 f fd ["contents", "names"] (spWUX K CC cs) := by
  obtain ⟨tm, mM⟩ := T.most
  have e0 := TG.c 0 (.inl (by decide))
  have e1 := TG.c 1 (.inl (by decide))
  have e5 := TG.c 5 (.inl (by decide))
  refine F.okN scWU (fun vs H Q E h => ?_) (fun cdv A outer s H vs Q E hr h => ?_)
  · obtain ⟨c, n, p, xs, as, rfl, _⟩ := h
    rfl
  · obtain ⟨c, n, p, xs, as, rfl, hc, hn, hav, hl, hw, hres⟩ := h
    have hr1 : Room 1 _ := hr.mono (by decide)
    have hr2 : Room 2 _ := hr.mono (by decide)
    refine ⟨_, pss_cons (ps_for (passes_of rfl) rfl (pi_tup (pv 1)) (pg_name (i := 2) scWU.nd rfl (.inl rfl))
        (pss_one (ps_if (pt_not (pt_val (pe_call GN hr1 rfl mN kN bN .nil pass0 (pa_cons (pv 2) pa_nil)))) (pss_one (L2N.ps_raise rfl (L2N.takes_of rfl rfl rfl rfl) (pmk_oexN e0.o e0.i e0.t (TG.G 0 (.inl (by decide))) hr (TG.b 0 (.inl (by decide))) .nil pass0 rfl TE.g0 (pa_cons (pv 2) pa_nil)))) pss_nil)))
      (pss_cons (ps_set (i := 3) scWU.nd rfl (.inl rfl) (pe_callTy (cr_setTx rfl) (by rfl) T.set_ (by decide +kernel) (pa_cons (pe_fld (pv 0) rfl) pa_nil)))
      (pss_cons (ps_for (passes_of rfl) rfl (pi_tup (pv 1)) (pg_name (i := 2) scWU.nd rfl (.inl rfl))
        (pss_cons (ps_if (pt_cmpR op_inTx (pv 2) (pv 3) (by rfl)) (pss_one (L2N.ps_raise rfl (L2N.takes_of rfl rfl rfl rfl) (pmk_oexN e1.o e1.i e1.t (TG.G 1 (.inl (by decide))) hr (TG.b 1 (.inl (by decide))) .nil pass0 rfl TE.g1 (pa_cons (pe_tup (pa_cons pe_str (pa_cons (pv 2) pa_nil))) pa_nil)))) pss_nil)
        (pss_one (ps_expr (pe_addTx (pv 3) (pa_cons (pv 2) pa_nil))))))
      (pss_cons (ps_if (pt_cmpR op_gt (pe_callB call_lenTx (by rfl) T.len PySem.boot_len (pa_cons (pv 3) pa_nil)) (pe_glob (v := .int 24) (by rfl) mM ⟨_, rfl⟩) (nomark _)) (pss_one (L2N.ps_raise rfl (L2N.takes_of rfl rfl rfl rfl) (pmk_oexN e5.o e5.i e5.t (TG.G 5 (.inl (by decide))) hr (TG.b 5 (.inl (by decide))) .nil pass0 rfl TE.g5 (pa_cons (pe_glob (v := .int 24) (by rfl) mM ⟨_, rfl⟩) pa_nil)))) pss_nil)
      (pss_one (ps_ret (pe_make T.ct.mkC GC hr2 rfl T.ct.g bC .nil pass0 (pa_cons (pe_callTy call_tuple_of (by rfl) T.tup (by decide +kernel) (pa_cons (pe_callB (cr_sortTx rfl) (by rfl) T.srt (by decide +kernel) (pa_cons (pv 3) pa_nil)) pa_nil)) (pa_cons (pe_fld (pv 0) rfl) (pa_cons (pe_fld (pv 0) rfl) pa_nil))))))))), ?_⟩
    refine ⟨_, rfl, n, rfl, ⟨xs, hn⟩, ?_⟩
    refine for_tup (xs := xs) (fun i σ H' => (∃ z, σ = [some (.ref c), some (.ref n), z, none]) ∧ Same H H' ∧ ∀ j x, j < i → as[j]? = some x → x.ok = true) ⟨⟨_, rfl⟩, Same.refl H, fun _ _ h => absurd h (by omega)⟩ (fun i σ H' _ p => SqT.keep hn p.2.1) ?_ ?_
    · rintro i x σ H1 hx ⟨⟨z, rfl⟩, sm, hp⟩
      obtain ⟨a, ha, fx⟩ := pairG hav hx
      have fx1 := fx.keep sm
      refine ⟨x, rfl, x, a.d, rfl, fx1.flat, fx1.len, fun H2 sm2 => ⟨_, rfl, ?_⟩⟩
      rw [fx.name]
      cases hnx : a.ok with
      | true =>
        refine iteF ⟨⟨_, rfl⟩, sm.trans sm2, fun j y hj hy => ?_⟩
        by_cases e : j = i
        · subst e
          rw [ha] at hy
          cases hy
          exact hnx
        · exact hp j y (by omega) hy
      | false =>
        refine iteT ?_
        have hb := badA_at hp ha hnx
        replace hres : EdRes K CC cs E H Q (newU p as) := hres
        unfold newU at hres
        rw [hb] at hres
        exact ⟨_, rfl, raise_read2 e0 (.fl ((fx1.keep sm2).flat)) (Thrown2.later hres (sm.trans sm2))⟩
    · rintro σ H1 ⟨⟨z, rfl⟩, sm, hp⟩
      have hb : badA as = none := badA_all fun x hx => by
        obtain ⟨j, hj⟩ := List.mem_iff_getElem?.mp hx
        exact hp j x (by rw [hav.length]; exact (List.getElem?_eq_some_iff.mp hj).1) hj
      obtain ⟨eas, hok⟩ := badA_none hb
      replace hres : EdRes K CC cs E H Q (newU p as) := hres
      unfold newU at hres
      rw [hb] at hres
      dsimp only at hres
      generalize nmS as = ys at eas hok hres
      subst eas
      have exs := avs_txt hav
      subst exs
      obtain ⟨dx, ac, ar, ak, rs, hC⟩ := hc.keep sm
      refine ⟨_, rfl, c, CC, dx, _, _, rfl, hC.i, T.ct.cl, T.ct.n1, ctF_c _ _ _, ac, (ctP p).cols, rfl, hC.c, by show (srt p.us).length + 1 < 4096; rw [srt_len]; have := hw.lu; omega, fun a ha => ?_⟩
      have sm1 : Same H1 (upd H1 a (TxO w a (onceTx (ctP p).cols))) := same_new ha
      have ndc : (ctP p).cols.Nodup := (srt_perm p.us).nodup_iff.mpr hw.u
      refine ⟨_, rfl, n, rfl, ⟨_, SqT.keep (SqT.keep hn sm) sm1⟩, ?_⟩
      refine for_tup (xs := ys.map V.str) (fun i σ H' => (∃ z, σ = [some (.ref c), some (.ref n), z, some (.ref a)]) ∧ Same H1 H' ∧ (p.us ++ ys.take i).Nodup ∧ dupT p.us ys = dupT (p.us ++ ys.take i) (ys.drop i) ∧ ∃ us, us.Perm (p.us ++ ys.take i) ∧ H' a = some (TxO w a us)) ⟨⟨_, rfl⟩, sm1, by rw [List.take_zero, List.append_nil]; exact hw.u, by rw [List.take_zero, List.append_nil, List.drop_zero], _, by rw [List.take_zero, List.append_nil]; exact (onceTx_perm ndc).trans (srt_perm p.us), upd_same⟩ (fun i σ H' _ p => SqT.keep (SqT.keep hn sm) p.2.1) ?_ ?_
      · rintro i x σ H2 hx ⟨⟨z, rfl⟩, sm2, nd2, hd, us, pu, hu⟩
        rw [List.getElem?_map] at hx
        obtain ⟨y, hy, rfl⟩ := Option.map_eq_some_iff.mp hx
        rw [dupT_at hy] at hd
        refine ⟨_, rfl, _, rfl, y, a, us, rfl, rfl, hu, _, rfl, ?_⟩
        by_cases hm : y ∈ p.us ++ ys.take i
        · rw [show (if false = true then !decide (y ∈ us) else decide (y ∈ us)) = true from by rw [if_neg Bool.false_ne_true, decide_eq_true (pu.mem_iff.mpr hm)]]
          rw [if_pos hm] at hd
          rw [hd] at hres
          refine iteT ⟨_, rfl, by show 2 ≤ sizeLine; decide, fun q hq => ?_⟩
          have sm3 : Same H2 (upd H2 q (.tup [.str kUn, .str y])) := same_new hq
          exact raise_read2 e1 (d := itemD kUn (.nm y)) (fl_two (SqT.of upd_same)) (Thrown2.later hres ((sm.trans sm2).trans sm3))
        · have hno : y ∉ us := fun z => hm (pu.mem_iff.mp z)
          rw [show (if false = true then !decide (y ∈ us) else decide (y ∈ us)) = false from by rw [if_neg Bool.false_ne_true, decide_eq_false hno]]
          rw [if_neg hm, List.append_assoc, ← take_snoc hy] at hd
          refine iteF ⟨_, rfl, ⟨a, us, rfl, hu⟩, _, rfl, a, us, y, rfl, rfl, hu, ?_, ?_⟩
          · have h1 := pu.length_eq
            rw [List.length_append, List.length_take] at h1
            rw [List.length_map] at hl
            have := hw.lu
            show _ < 4096
            omega
          · have nd3 : (p.us ++ ys.take (i + 1)).Nodup := by
              rw [take_snoc hy, ← List.append_assoc]
              exact List.nodup_append.mpr ⟨nd2, List.nodup_cons.mpr ⟨List.not_mem_nil, List.nodup_nil⟩, fun u hu v hv => by rw [List.mem_singleton.mp hv]; exact fun z => hm (z ▸ hu)⟩
            refine ⟨⟨_, rfl⟩, fun b o e => ?_, nd3, hd, y :: us, ?_, ?_⟩
            · by_cases hb : b = a
              · subst hb
                rw [ha] at e
                cases e
              · rw [upd_ne hb]
                exact sm2 _ _ e
            · rw [take_snoc hy, ← List.append_assoc]
              exact (pu.cons y).trans (List.perm_append_comm (l₁ := [y]))
            · rw [addTx_new hno]
              exact upd_same
      · rintro σ H2 ⟨⟨z, rfl⟩, sm2, nd2, hd, us, pu, hu⟩
        have el : (ys.map V.str).length = ys.length := List.length_map _
        rw [el, List.take_length] at pu nd2
        rw [el, List.drop_length] at hd
        have hd : dupT p.us ys = none := hd
        rw [hd] at hres
        dsimp only at hres
        have lu : us.length = p.us.length + ys.length := by rw [pu.length_eq, List.length_append]
        refine ⟨_, rfl, a, us, rfl, hu, _, _, rfl, rfl, _, rfl, ?_⟩
        by_cases hgt : 24 < p.us.length + ys.length
        · rw [if_pos hgt] at hres
          rw [decide_eq_true (show ((24 : Int) < (us.length : Int)) by omega)]
          exact iteT (raise_read2 e5 (d := .int 24) (.fl (.atom (v := .int 24) rfl)) (Thrown2.later hres (sm.trans sm2)))
        rw [if_neg hgt] at hres
        rw [decide_eq_false (show ¬ ((24 : Int) < (us.length : Int)) by omega)]
        refine iteF ?_
        refine ⟨_, rfl, a, us, rfl, hu, by omega, fun zs p' hp1 hp2 hp3 => ?_⟩
        have sm3 : Same H2 (upd H2 p' (.lst (zs.map V.str))) := same_new hp3
        refine ⟨p', _, rfl, .inl ⟨SqL.of upd_same, fun t ht => ?_⟩⟩
        have sm4 := sm3.trans (same_new (o := .tup (zs.map V.str)) ht)
        have hC4 := (hC.keep sm2).keep sm4
        have ez : zs = srt (p.us ++ ys) := srt_of (hp1.trans pu) hp2
        refine ⟨_, rfl, c, CC, dx, _, _, rfl, hC4.i, T.ct.cl, T.ct.n2, ctF_r _ _ _, _, rfl, c, CC, dx, _, _, rfl, hC4.i, T.ct.cl, T.ct.n3, ctF_k _ _ _, ?_⟩
        refine mk_ct fun b dy H5 sm5 hb => hres b H5 ((sm.trans sm2).trans (sm4.trans sm5)) ⟨dy, t, ar, ak, rs, hb, ?_, (hC4.keep sm5).r, (hC4.keep sm5).p, (hC4.keep sm5).k⟩
        show SqT K H5 t ((srt (p.us ++ ys)).map V.str)
        rw [← ez]
        exact SqT.of (sm5 _ _ upd_same)
end
end Bo
set_option Elab.async false
set_option linter.all false
set_option maxRecDepth 100000
set_option maxHeartbeats 4000000
namespace Bo
open PySem PySem.Spec PySem.Calls PyProof.Rows L2
theorem txt_eq_dct (z : Str) (u : Tok) (a : Addr) (dd : Option Addr) (es : Array DictEntry) (ep : Nat) (sl : Array (Option Value)) :
    Meets (Builtin.«str.__eq__» ⟨[.str z u, .ref a], []⟩) (fun _ R s => s.heap.get? a = some ⟨.type "dict", dd, .dict es ep, sl⟩ ∧ R (.ok (.ret .notImplemented)) s) :=
  .of_wp fun prog w A R s h => by
    obtain ⟨hp, g, d, tk, os⟩ := s
    obtain ⟨hl, h⟩ := h
    wp_walk using wpAny_loadPart' hl, wpAny_load hl
    exact ⟨_, rfl, h⟩
theorem rcAt_txt_dct {A : Around} {s : Shared} {P : Program} {w : World} {K : Type} [DecidableEq K] {knd : KeyKind P w K} {a : Addr} {ka : List (K × Value)} (z : Str) (u : Tok) (da : s.heap.DictOf knd a ka) (hu : A.units < cLine) : SeqAt.RcAt A s (.str z u) (.ref a) false := fun prog w' E Q h => by
  obtain ⟨⟨cls, dd, data, sl⟩, es, ep, ho, hx, hd, _⟩ := id da
  have hc := hx.1
  dsimp only at hc hd
  subst hc hd
  refine SeqAt.rc_eq_decline_or (k := false) (typeIs_str s z u) da.typeIs (by decide) PySem.F.sub_dict_str PySem.F.slot_str_eq PySem.F.slot_dict_eq_refl (fun Q' hq => ?_) (fun Q' hq => ?_) (fun Q' hq => wpAny_of_eq (rfl : isSame (.str z u) (.ref a) = pure false) hq) (.inr hu) h
  · exact call_meets PySem.F.slot_str_eq (typeIs_str s z u) PySem.F.entry_str_eq (PySem.F.args_str_eq_2 _ _) (txt_eq_dct z u a dd es ep sl) ⟨ho, hq⟩
  · refine wpAny_call_entry PySem.F.slot_dict_eq_refl da.typeIs PySem.F.entry_dict_eq ?_ (PySem.F.args_dict_eq_2 _ _)
    show wpAny _ _ (Builtin.Dict.dictSlotArgs "__eq__" ⟨[.ref a, .str z u], []⟩ >>= _) _ _ s
    refine wpAny_bind ?_
    unfold Builtin.Dict.dictSlotArgs
    refine wpAny_bind (wpAny_notOrdered_dict da.typeIs ?_)
    show wpAny _ _ (pure (Value.ref a, Value.str z u)) _ _ s
    refine wpAny_pure (wpAny_bind (wpAny_isInstance (T := "str") (typeIs_str s z u) PySem.F.sub_str_dict ?_))
    simp only [Bool.not_false, if_true]
    exact wpAny_bind (wpAny_rule (wpAny_bind (wpAny_pure (wpAny_pure ⟨_, rfl, hq⟩))))
theorem eqAt_txt_dct {A : Around} {s : Shared} {P : Program} {w : World} {K : Type} [DecidableEq K] {knd : KeyKind P w K} {a : Addr} {ka : List (K × Value)} (z : Str) (u : Tok) (da : s.heap.DictOf knd a ka) (hu : A.units < cLine) : SeqAt.EqAt A s (.str z u) (.ref a) false := fun prog w' E Q h => by
  unfold eqBool
  refine wpAny_holding ?_
  refine wpAny_ite_split (fun hab => absurd (eq_of_beq hab) nofun) (fun _ => ?_)
  exact wpAny_bind (rcAt_txt_dct z u da hu prog w' E _ (wpAny_truthy_bool h))
theorem vals_txt : ∀ {ys : List Str} {us : List Value}, Vals (ys.map V.str) us → ∀ u ∈ us, ∃ z t, u = .str z t
  | [], _, h, u, hu => by
    cases h
    cases hu
  | y :: ys, _, h, u, hu => by
    cases h with
    | cons r t =>
      rcases List.mem_cons.mp hu with e | e
      · obtain ⟨tk, er⟩ := r
        exact ⟨y, tk, by rw [e, er]⟩
      · exact vals_txt t u e
theorem inV_atom {v : V} (h : atomV v = true) (n : ∀ y, v ≠ .str y) : ∀ ys : List Str, inV v (ys.map V.str) = false
  | [] => rfl
  | y :: ys => by
    show (eqV (.str y) v || inV v (ys.map V.str)) = false
    rw [inV_atom h n ys, Bool.or_false]
    cases v with
    | str z => exact absurd rfl (n z)
    | non => rfl
    | bl b => rfl
    | int i => rfl
    | _ => cases h
theorem atom_flat {v : V} (h : atomV v = true) : flatV v = true := by
  cases v <;> first | rfl | cases h
section
variable {X : Cx}
/-- x in texts -/
def rInA (K : PySem.W.Frag) (neg : Bool) : R2 := fun x y H Q => ∃ (p : Addr) (ys : List Str) (a : Arg), y = .ref p ∧ (SqL K H p (ys.map V.str) ∨ SqT K H p (ys.map V.str)) ∧ AV K H x a ∧ Q (.bl (if neg then !a.inT ys else a.inT ys)) H
theorem eqs_false (hu : X.A.units + 64 < cLine) {pins : List (Addr × Obj)} {σ : L2.St} {H : Hp} {s : Shared} {v : V} {d : PyData} {u : Value} (I : L2.Inv X pins σ H s) (f : Flat X.K H v d) (na : atomV v = false) (r : RelV v u) {ys : List Str} {its : List Value} (rv : Vals (ys.map V.str) its) : ∀ y ∈ its, SeqAt.EqAt X.A.in1 s y u false := by
  intro y hy
  obtain ⟨z, t, rfl⟩ := vals_txt rv y hy
  have hu1 : X.A.in1.units < cLine := by
    have : X.A.in1.units ≤ X.A.units + 64 := by
      show X.A.units + _ ≤ _
      omega
    omega
  cases f with
  | atom h => rw [h] at na; cases na
  | tup h _ _ =>
    cases r
    obtain ⟨its2, _, ⟨o, ho, hc, n, hd⟩, _⟩ := I.tuple h
    exact SeqAt.EqAt.str_tuple z t ⟨o, ho, hc, n, hd⟩ hu1
  | lst h _ _ =>
    cases r
    obtain ⟨its2, _, hl, _⟩ := I.list (SqL.of h)
    exact SeqAt.EqAt.str_list z t hl.isList hu1
  | dct h _ _ _ =>
    cases r
    obtain ⟨_, _, vs, _, dd⟩ := dk_of I.hok h
    exact eqAt_txt_dct z t dd hu1
theorem op_inA (hu : X.A.units + 64 < cLine) : OpR X (compareOp .In) (rInA X.K false) := by
  intro pins s σ H x y v u Q I rx ry h
  obtain ⟨p, ys, a, rfl, hq, hav, q⟩ := h
  have go : atomV x = true → (inV x (ys.map V.str) = a.inT ys) → wpAny (model X.prog X.w) X.A (compareOp .In v u) (EP X pins σ Q) X.xe s := fun ha e => by
    refine op_in_seq pins s σ H x (.ref p) v u Q I rx ry ⟨p, _, rfl, hq, atom_flat ha, txts_flatV ys, ?_⟩
    rw [e]
    exact q
  cases hav with
  | nm l => exact go rfl inV_txt
  | od f n =>
    cases ha : atomV x with
    | true => exact go ha (inV_atom ha n ys)
    | false =>
      cases ry
      rcases hq with hq | hq
      · obtain ⟨its, r, pl, hz⟩ := I.list hq
        refine SeqAt.in_listAt (fun _ => false) pl.isList (fun w hw => eqs_false hu I f ha rx r w (by simpa using hw)) ⟨.bl _, H, I, rfl, ?_⟩
        rw [show its.toArray.any (fun _ => false) = false by simp]
        exact q
      · obtain ⟨its, r, pl, hz⟩ := I.tuple hq
        refine SeqAt.in_tupleAt (fun _ => false) pl (fun w hw => eqs_false hu I f ha rx r w (by simpa using hw)) ⟨.bl _, H, I, rfl, ?_⟩
        rw [show its.toArray.any (fun _ => false) = false by simp]
        exact q
theorem op_notInA (hu : X.A.units + 64 < cLine) : OpR X (compareOp .NotIn) (rInA X.K true) := by
  intro pins s σ H x y v u Q I rx ry h
  obtain ⟨p, ys, a, rfl, hq, hav, q⟩ := h
  have go : atomV x = true → (inV x (ys.map V.str) = a.inT ys) → wpAny (model X.prog X.w) X.A (compareOp .NotIn v u) (EP X pins σ Q) X.xe s := fun ha e => by
    refine op_notIn_seq pins s σ H x (.ref p) v u Q I rx ry ⟨p, _, rfl, hq, atom_flat ha, txts_flatV ys, ?_⟩
    rw [e]
    exact q
  cases hav with
  | nm l => exact go rfl inV_txt
  | od f n =>
    cases ha : atomV x with
    | true => exact go ha (inV_atom ha n ys)
    | false =>
      cases ry
      rcases hq with hq | hq
      · obtain ⟨its, r, pl, hz⟩ := I.list hq
        refine SeqAt.notIn_listAt (fun _ => false) pl.isList (fun w hw => eqs_false hu I f ha rx r w (by simpa using hw)) ⟨.bl _, H, I, rfl, ?_⟩
        rw [show its.toArray.any (fun _ => false) = false by simp]
        exact q
      · obtain ⟨its, r, pl, hz⟩ := I.tuple hq
        refine SeqAt.notIn_tupleAt (fun _ => false) pl (fun w hw => eqs_false hu I f ha rx r w (by simpa using hw)) ⟨.bl _, H, I, rfl, ?_⟩
        rw [show its.toArray.any (fun _ => false) = false by simp]
        exact q
end
end Bo
set_option Elab.async false
set_option linter.all false
set_option maxRecDepth 100000
set_option maxHeartbeats 8000000
namespace Bo
open PySem L2
abbrev sCEntry : Stmt := top 46
/-- what a check does -/
def ChkRes (K : PySem.W.Frag) (cs : Nat → Addr) (E : XK) (H : Hp) (Q : VK) : Option Er → Prop
  | some e => Thrown2 K E H (cs e.1) (erFld e.1) e.2
  | none => ∀ H', Same H H' → Q .non H'
def chkE (p : Pl) (x : Arg) : Option Er := if x.inT p.keys = true then none else some (2, itemD kEq x)
def chkEnds (p : Pl) (e u : Arg) : Option Er := match chkE p e with
  | some er => some er
  | none => chkU p.us [u]
theorem inT_perm {k1 k2 : List Str} (h : ∀ z, z ∈ k1 ↔ z ∈ k2) (x : Arg) : x.inT k1 = x.inT k2 := by
  cases x with
  | nm y =>
    show decide _ = decide _
    by_cases e : y ∈ k1
    · rw [decide_eq_true e, decide_eq_true ((h y).mp e)]
    · rw [decide_eq_false e, decide_eq_false fun z => e ((h y).mpr z)]
  | od d => rfl
theorem lackA_perm {k1 k2 : List Str} (h : ∀ z, z ∈ k1 ↔ z ∈ k2) (xs : List Arg) : lackA k1 xs = lackA k2 xs := by
  unfold lackA
  congr 1
  exact funext fun x => by rw [inT_perm h]
theorem chkU_srt (p : Pl) (xs : List Arg) : chkU (srt p.us) xs = chkU p.us xs := by
  unfold chkU
  rw [lackA_perm (k1 := srt p.us) (k2 := p.us) fun z => srt_mem]
theorem fl_item {K : PySem.W.Frag} {H : Hp} {q : Addr} {k : Str} {v : V} {x : Arg} (h : SqT K H q [.str k, v]) (hv : AV K H v x) : Fl2 K H (.ref q) (itemD k x) := .pr h (.atom (v := .str k) rfl) hv.flat
def spCEX (K : PySem.W.Frag) (CC : Addr) (cs : Nat → Addr) : Sp := fun vs H Q E => ∃ (c : Addr) (p : Pl) (v : V) (x : Arg), vs = [.ref c, v] ∧ CtIn K CC H c (ctP p) ∧ AV K H v x ∧ ChkRes K cs E H Q (chkE p x)
def spCUX (K : PySem.W.Frag) (cs : Nat → Addr) : Sp := fun vs H Q E => ∃ (k u : Addr) (known : List Str) (xs : List V) (as : List Arg), vs = [.ref k, .ref u] ∧ SqT K H k (known.map V.str) ∧ H u = some (.lst xs) ∧ Paired (AV K H) xs as ∧ ChkRes K cs E H Q (chkU known as)
def spCEndsX (K : PySem.W.Frag) (CC : Addr) (cs : Nat → Addr) : Sp := fun vs H Q E => ∃ (c : Addr) (p : Pl) (v w : V) (e u : Arg), vs = [.ref c, v, w] ∧ CtIn K CC H c (ctP p) ∧ AV K H v e ∧ AV K H w u ∧ ChkRes K cs E H Q (chkEnds p e u)
section
variable {P : Program} {w : World} {K : PySem.W.Frag} {mg : Str → Option Value} {base : Heap} {CC fCI CB : Addr} {cs fs : Nat → Addr} {fds : Nat → FuncData}
theorem ok_ceX {f : Addr} {fd : FuncData} (F : Fun K "check_equation" "check_equation" sCE f fd) (T : TxtE K mg CC fCI) (TE : ErrA K mg CB cs) (TG : ErrsG P w K mg base cs fs fds) : FnOk P w K mg base (L2N.CX P w) 6 f fd ["contents", "equation"] (spCEX K CC cs) := by
  have e2 := TG.c 2 (.inl (by decide))
  refine F.okN scCE (fun vs H Q E h => ?_) (fun cdv A outer s H vs Q E hr h => ?_)
  · obtain ⟨c, p, v, x, rfl, _⟩ := h
    rfl
  · obtain ⟨c, p, v, x, rfl, ⟨d1, ac, ar, ak, rs, C⟩, hv, hres⟩ := h
    have hu : (A.deeper (PyProof.Rows.envOfC "check_equation" (defScope sCE) s.heap.objs.size f cdv)).units + 64 < cLine := by have := hr.un; omega
    refine ⟨_, pss_one (ps_if (pt_cmpR (op_notInA hu) (pv 1) (pe_callTy (call_listD rfl) (by rfl) T.lst (by decide +kernel) (pa_cons (pe_fld (pv 0) rfl) pa_nil)) (by rfl)) (pss_one (L2N.ps_raise rfl (L2N.takes_of rfl rfl rfl rfl) (pmk_oexN e2.o e2.i e2.t (TG.G 2 (.inl (by decide))) hr (TG.b 2 (.inl (by decide))) .nil pass0 rfl TE.g2 (pa_cons (pe_tup (pa_cons pe_str (pa_cons (pv 1) pa_nil))) pa_nil)))) pss_nil), ?_⟩
    have hks : rs.map (·.1) = (ctP p).rows.map (·.1) := pair_keys (fun p q z => z.1) C.p
    have ek : (refK rs).map (fun kv => kV kv.1) = (rs.map (·.1)).map V.str := by
      unfold refK
      rw [List.map_map, List.map_map]
      rfl
    refine ⟨_, rfl, _, rfl, c, CC, d1, _, _, rfl, C.i, T.ct.cl, T.ct.n2, ctF_r _ _ _, ar, _, rfl, C.r.rd, fun q hq => ?_⟩
    rw [ek, hks, ctP_keys]
    have sm : Same H (upd H q (.lst (p.keys.map V.str))) := same_new hq
    refine ⟨q, p.keys, x, rfl, .inl (SqL.of upd_same), hv.keep sm, _, rfl, ?_⟩
    generalize upd H q (.lst (p.keys.map V.str)) = H1 at sm ⊢
    unfold chkE at hres
    cases hx : x.inT p.keys with
    | true =>
      rw [hx, if_pos rfl] at hres
      exact iteF (hres _ sm)
    | false =>
      rw [hx, if_neg Bool.false_ne_true] at hres
      refine iteT ⟨_, rfl, by show 2 ≤ sizeLine; decide, fun t ht => ?_⟩
      have sm2 : Same H1 (upd H1 t (.tup [.str kEq, v])) := same_new ht
      exact raise_read2 e2 (fl_item (SqT.of upd_same) ((hv.keep sm).keep sm2)) (Thrown2.later hres (sm.trans sm2))
theorem ok_cuX {f : Addr} {fd : FuncData} (F : Fun K "check_unknowns" "check_unknowns" sCU f fd) (T : TxtE K mg CC fCI) (TE : ErrA K mg CB cs) (TG : ErrsG P w K mg base cs fs fds) : FnOk P w K mg base (L2N.CX P w) 6 f fd ["known", "unknowns"] (spCUX K cs) := by
  have e1 := TG.c 1 (.inl (by decide))
  have e2 := TG.c 2 (.inl (by decide))
  refine F.okN scCU (fun vs H Q E h => ?_) (fun cdv A outer s H vs Q E hr h => ?_)
  · obtain ⟨k, u, known, xs, as, rfl, _⟩ := h
    rfl
  · obtain ⟨kk, u, known, xs, as, rfl, hk, hxs, hav, hres⟩ := h
    have hu : (A.deeper (PyProof.Rows.envOfC "check_unknowns" (defScope sCU) s.heap.objs.size f cdv)).units + 64 < cLine := by have := hr.un; omega
    refine ⟨_, pss_cons (ps_for (passes_of rfl) rfl (pi_list (pv 1)) (pg_name (i := 2) scCU.nd rfl (.inl rfl)) (pss_one (ps_if (pt_cmpR (op_notInA hu) (pv 2) (pv 0) (by rfl)) (pss_one (L2N.ps_raise rfl (L2N.takes_of rfl rfl rfl rfl) (pmk_oexN e2.o e2.i e2.t (TG.G 2 (.inl (by decide))) hr (TG.b 2 (.inl (by decide))) .nil pass0 rfl TE.g2 (pa_cons (pe_tup (pa_cons pe_str (pa_cons (pv 2) pa_nil))) pa_nil)))) pss_nil)))
      (pss_one (ps_for (passes_of rfl) rfl (pi_enum (by rfl) T.enum (pa_cons (pv 1) pa_nil)) (pg_tup (by rfl) (pgs_cons (pg_name (i := 3) scCU.nd rfl (.inl rfl)) (pgs_cons (pg_name (i := 2) scCU.nd rfl (.inl rfl)) pgs_nil)))
        (pss_one (ps_if (pt_cmpR (op_inA hu) (pv 2) (pe_slice sl_list (pv 1) po_none (po_some (pv 3))) (by rfl)) (pss_one (L2N.ps_raise rfl (L2N.takes_of rfl rfl rfl rfl) (pmk_oexN e1.o e1.i e1.t (TG.G 1 (.inl (by decide))) hr (TG.b 1 (.inl (by decide))) .nil pass0 rfl TE.g1 (pa_cons (pe_tup (pa_cons pe_str (pa_cons (pv 2) pa_nil))) pa_nil)))) pss_nil)))), ?_⟩
    have hlen := hav.length
    refine ⟨_, rfl, u, rfl, ⟨_, SqL.of hxs⟩, ?_⟩
    refine for_list (xs := xs) (fun i σ H' => (∃ z, σ = [some (.ref kk), some (.ref u), z, none]) ∧ H' = H ∧ ∀ j x, j < i → as[j]? = some x → x.inT known = true) ⟨⟨_, rfl⟩, rfl, fun _ _ h => absurd h (by omega)⟩ (fun i σ H' _ p => by rw [p.2.1]; exact SqL.of hxs) ?_ ?_
    · rintro i v σ H' hv ⟨⟨z, rfl⟩, rfl, hp⟩
      obtain ⟨a, ha, fa⟩ := pairG hav hv
      refine ⟨_, rfl, _, rfl, kk, known, a, rfl, .inr hk, fa, _, rfl, ?_⟩
      cases hx : a.inT known with
      | true =>
        refine iteF ⟨⟨_, rfl⟩, rfl, fun j y hj hy => ?_⟩
        by_cases e : j = i
        · subst e
          rw [ha] at hy
          cases hy
          exact hx
        · exact hp j y (by omega) hy
      | false =>
        have hl := lackA_at hp ha hx
        unfold chkU at hres
        rw [hl] at hres
        refine iteT ⟨_, rfl, by show 2 ≤ sizeLine; decide, fun t ht => ?_⟩
        have sm2 : Same H' (upd H' t (.tup [.str kUn, v])) := same_new ht
        exact raise_read2 e2 (fl_item (SqT.of upd_same) (fa.keep sm2)) (Thrown2.later hres sm2)
    rintro σ H' ⟨⟨z, rfl⟩, rfl, hp⟩
    have hb : lackA known as = none := lackA_all fun x hx => by
      obtain ⟨j, hj⟩ := List.mem_iff_getElem?.mp hx
      exact hp j x (by rw [hlen]; exact (List.getElem?_eq_some_iff.mp hj).1) hj
    obtain ⟨eas, hin⟩ := lackA_none hb
    unfold chkU at hres
    rw [hb] at hres
    dsimp only at hres
    generalize nmS as = ys at eas hin hres
    subst eas
    have exs := avs_txt hav
    subst exs
    have hly : ∀ {i : Nat} {y : Str}, ys[i]? = some y → y.length ≤ 1000 := fun {i y} h => by
      obtain ⟨b, hb, q⟩ := pairG hav (i := i) (a := V.str y) (by rw [List.getElem?_map, h]; rfl)
      exact q.len y rfl
    refine ⟨_, rfl, u, ys.map V.str, rfl, SqL.of hxs, ?_⟩
    refine for_it (walk_enum (a := u) (xs := ys.map V.str)) (fun i σ H'' => (∃ z2 z3, σ = [some (.ref kk), some (.ref u), z2, z3]) ∧ Same H' H'' ∧ dupT [] ys = dupT (ys.take i) (ys.drop i)) ⟨⟨_, _, rfl⟩, Same.refl H', rfl⟩ (fun i σ H'' _ p => SqL.of (p.2.1 _ _ hxs)) ?_ ?_
    · rintro i v σ H1 H2 hi ⟨⟨z2, z3, rfl⟩, s1, hd⟩ y
      obtain ⟨Tq, a, b, rfl, hT, rfl, ea, eb⟩ := y
      cases ea
      have eb : (ys.map V.str)[i]? = some b := eb
      rw [List.getElem?_map] at eb
      obtain ⟨y, hy, rfl⟩ := Option.map_eq_some_iff.mp eb
      rw [dupT_at hy] at hd
      have s2 : Same H1 (upd H1 Tq (.tup [V.int (i : Nat), V.str y])) := same_new hT
      refine ⟨Tq, _, rfl, SqT.of upd_same, rfl, _, _, rfl, _, _, rfl, rfl, ?_⟩
      refine ⟨_, rfl, _, rfl, _, rfl, _, rfl, u, _, rfl, SqL.of (s2 _ _ (s1 _ _ hxs)), fun q5 hq5 => ?_⟩
      have hi' : i ≤ ys.length := Nat.le_of_lt (List.getElem?_eq_some_iff.mp hy).1
      have ec : cutV (ys.map V.str) none (some (i : Int)) = (ys.take i).map V.str := by
        unfold cutV
        rw [HT.sIx_none, HT.sIx_nat, List.length_map, Nat.min_eq_left hi', Nat.sub_zero, List.drop_zero, List.map_take]
      rw [ec]
      have s3 := (s1.trans s2).trans (same_new (o := .lst ((ys.take i).map V.str)) hq5)
      refine ⟨q5, ys.take i, .nm y, rfl, .inl (SqL.of upd_same), .nm (hly hy), _, rfl, ?_⟩
      generalize upd (upd H1 Tq (.tup [V.int (i : Nat), V.str y])) q5 (.lst ((ys.take i).map V.str)) = H5 at s3 ⊢
      by_cases hm : y ∈ ys.take i
      · rw [if_pos hm] at hd
        rw [hd] at hres
        rw [show (Arg.nm y).inT (ys.take i) = true from decide_eq_true hm]
        refine iteT ⟨_, rfl, by show 2 ≤ sizeLine; decide, fun t ht => ?_⟩
        have s4 : Same H5 (upd H5 t (.tup [.str kUn, .str y])) := same_new ht
        exact raise_read2 e1 (d := itemD kUn (.nm y)) (fl_two (SqT.of upd_same)) (Thrown2.later hres (s3.trans s4))
      · rw [if_neg hm, ← take_snoc hy] at hd
        rw [show (Arg.nm y).inT (ys.take i) = false from decide_eq_false hm]
        exact iteF ⟨⟨_, _, rfl⟩, s3, hd⟩
    · rintro σ H2 ⟨⟨z2, z3, rfl⟩, s1, hd⟩
      rw [List.length_map, List.take_length, List.drop_length] at hd
      have hd : dupT [] ys = none := hd
      rw [hd] at hres
      exact hres H2 s1
theorem ok_cendsX {f fE fU : Addr} {fd fdE fdU : FuncData} (F : Fun K "check_ends" "check_ends" sCEnds f fd) (T : TxtE K mg CC fCI)
    (GE : FnOk P w K mg base (L2N.CX P w) 6 fE fdE ["contents", "equation"] (spCEX K CC cs)) (mE : mg "check_equation" = some (.ref fE)) (kE : PySem.W.keepIn K (.ref fE) = true) (bE : Binds K fdE ["contents", "equation"] [])
    (GU : FnOk P w K mg base (L2N.CX P w) 6 fU fdU ["known", "unknowns"] (spCUX K cs)) (mU : mg "check_unknowns" = some (.ref fU)) (kU : PySem.W.keepIn K (.ref fU) = true) (bU : Binds K fdU ["known", "unknowns"] []) :
    FnOk P w K mg base (L2N.CX P w) 7 f fd ["contents", "equation", "unknown"] (spCEndsX K CC cs) := by
  refine F.okN scCEn (fun vs H Q E h => ?_) (fun cdv A outer s H vs Q E hr h => ?_)
  · obtain ⟨c, p, v, w, e, u, rfl, _⟩ := h
    rfl
  · obtain ⟨c, p, v, w, e, u, rfl, hC, hv, hw, hres⟩ := h
    refine ⟨_, pss_cons (ps_expr (pe_call GE hr rfl mE kE bE .nil (L2N.passes_call (L2N.takes_of rfl rfl rfl rfl) (fun _ _ _ _ h => h)) (pa_cons (pv 0) (pa_cons (pv 1) pa_nil))))
      (pss_one (ps_expr (pe_call GU hr rfl mU kU bU .nil (L2N.passes_call (L2N.takes_of rfl rfl rfl rfl) (fun _ _ _ _ h => h)) (pa_cons (pe_fld (pv 0) rfl) (pa_cons (pe_lst (pa_cons (pv 2) pa_nil)) pa_nil))))), ?_⟩
    refine ⟨_, rfl, _, rfl, c, p, v, e, rfl, hC, hv, ?_⟩
    unfold chkEnds at hres
    cases h1 : chkE p e with
    | some er =>
      rw [h1] at hres
      exact hres
    | none =>
      rw [h1] at hres
      intro H1 s1
      obtain ⟨d1, ac, ar, ak, rs, C⟩ := hC.keep s1
      refine ⟨_, rfl, c, CC, d1, _, _, rfl, C.i, T.ct.cl, T.ct.n1, ctF_c _ _ _, _, rfl, by show 1 ≤ sizeLine; decide, fun l hl => ?_⟩
      have s2 : Same H1 (upd H1 l (.lst [w])) := same_new hl
      refine ⟨ac, l, srt p.us, [w], [u], rfl, SqT.keep C.c s2, upd_same, .cons ((hw.keep s1).keep s2) .nil, ?_⟩
      rw [chkU_srt]
      cases h2 : chkU p.us [u] with
      | some er =>
        rw [h2] at hres
        exact Thrown2.later hres (s1.trans s2)
      | none =>
        rw [h2] at hres
        exact fun H2 s3 => hres H2 ((s1.trans s2).trans s3)
end
end Bo
set_option Elab.async false
set_option linter.all false
set_option maxRecDepth 100000
set_option maxHeartbeats 8000000
namespace Bo
open PySem L2
/-- the pairs that with_equation makes -/
inductive TermV (K : PySem.W.Frag) (H : Hp) : V → Arg → Prop where
  | mk {q : Addr} {v : V} {a : Arg} (h : SqT K H q [v, .int 1]) (x : AV K H v a) : TermV K H (.ref q) a
theorem TermV.keep {K : PySem.W.Frag} {H H' : Hp} {v : V} {a : Arg} (h : TermV K H v a) (k : Same H H') : TermV K H' v a := by
  cases h with
  | mk h x => exact .mk (SqT.keep h k) (x.keep k)
def spWTX (K : PySem.W.Frag) (CC : Addr) (cs : Nat → Addr) : Sp := fun vs H Q E => ∃ (c l : Addr) (p : Pl) (v : V) (x : Arg) (ts : List V) (as : List Arg), vs = [.ref c, v, .int 0, .ref l] ∧ CtIn K CC H c (ctP p) ∧ H l = some (.lst ts) ∧ Paired (TermV K H) ts as ∧ ts.length ≤ 1000 ∧ AV K H v x ∧ PlWf p ∧ EdRes K CC cs E H Q (newE p x as)
def spWEX (K : PySem.W.Frag) (CC : Addr) (cs : Nat → Addr) : Sp := fun vs H Q E => ∃ (c n : Addr) (p : Pl) (v : V) (x : Arg) (xs : List V) (as : List Arg), vs = [.ref c, v, .ref n] ∧ CtIn K CC H c (ctP p) ∧ SqT K H n xs ∧ Paired (AV K H) xs as ∧ xs.length ≤ 1000 ∧ AV K H v x ∧ PlWf p ∧ EdRes K CC cs E H Q (newE p x as)
theorem paired_trans {α β γ : Type} {R : α → β → Prop} {S : β → γ → Prop} : ∀ {l : List α} {m : List β} {n : List γ}, Paired R l m → Paired S m n → Paired (fun a c => ∃ b, R a b ∧ S b c) l n
  | _, _, _, .nil, h => by cases h; exact .nil
  | _, _, _, .cons r t, h => by
    cases h with
    | cons s u => exact .cons ⟨_, r, s⟩ (paired_trans t u)
section
variable {P : Program} {w : World} {K : PySem.W.Frag} {mg : Str → Option Value} {base : Heap} {CC fCI CB : Addr} {cs fs : Nat → Addr} {fds : Nat → FuncData}
theorem ok_wtX {f fN fU fR : Addr} {fd fdN fdCI fdU fdR : FuncData} (F : Fun K "with_terms" "with_terms" sWT f fd) (T : TxtE K mg CC fCI) (TE : ErrA K mg CB cs) (TG : ErrsG P w K mg base cs fs fds)
    (GN : FnOk P w K mg base CX0 1 fN fdN ["thing"] (spIsName K)) (mN : mg "is_name" = some (.ref fN)) (kN : PySem.W.keepIn K (.ref fN) = true) (bN : Binds K fdN ["thing"] [])
    (GU : FnOk P w K mg base (L2N.CX P w) 6 fU fdU ["known", "unknowns"] (spCUX K cs)) (mU : mg "check_unknowns" = some (.ref fU)) (kU : PySem.W.keepIn K (.ref fU) = true) (bU : Binds K fdU ["known", "unknowns"] [])
    (GR : FnOk P w K mg base CX0 1 fR fdR ["table", "key", "thing"] spReplaced) (mR : mg "replaced" = some (.ref fR)) (kR : PySem.W.keepIn K (.ref fR) = true) (bR : Binds K fdR ["table", "key", "thing"] [])
    (GC : FnOk P w K mg base CX0 1 fCI fdCI ["self", "columns", "rows", "constants"] (spCtInit CC)) (bC : Binds K fdCI ["self", "columns", "rows", "constants"] []) :
    FnOk P w K mg base (L2N.CX P w) 7 f fd ["contents", "name", "constant", "terms"] (spWTX K CC cs) := by
  obtain ⟨tm, mM⟩ := T.most
  have e0 := TG.c 0 (.inl (by decide))
  have e1 := TG.c 1 (.inl (by decide))
  have e5 := TG.c 5 (.inl (by decide))
  refine F.okN scWT (fun vs H Q E h => ?_) (fun cdv A outer s H vs Q E hr h => ?_)
  · obtain ⟨c, l, p, v, x, ts, as, rfl, _⟩ := h
    rfl
  · obtain ⟨c, l, p, v, x, ts, as, rfl, hc, hl, hts, hlen, hv, hw, hres⟩ := h
    have hr1 : Room 1 _ := hr.mono (by decide)
    have hr2 : Room 2 _ := hr.mono (by decide)
    have hr4 : Room 5 _ := hr.mono (by decide)
    have hu := hu_of hr
    refine ⟨_, pss_cons (ps_if (pt_not (pt_val (pe_call GN hr1 rfl mN kN bN .nil pass0 (pa_cons (pv 1) pa_nil)))) (pss_one (L2N.ps_raise rfl (L2N.takes_of rfl rfl rfl rfl) (pmk_oexN e0.o e0.i e0.t (TG.G 0 (.inl (by decide))) hr4 (TG.b 0 (.inl (by decide))) .nil pass0 rfl TE.g0 (pa_cons (pv 1) pa_nil)))) pss_nil)
      (pss_cons (ps_if (pt_cmp (pc_din hu (pv 1) (pe_fld (pv 0) rfl))) (pss_one (L2N.ps_raise rfl (L2N.takes_of rfl rfl rfl rfl) (pmk_oexN e1.o e1.i e1.t (TG.G 1 (.inl (by decide))) hr4 (TG.b 1 (.inl (by decide))) .nil pass0 rfl TE.g1 (pa_cons (pe_tup (pa_cons pe_str (pa_cons (pv 1) pa_nil))) pa_nil)))) pss_nil)
      (pss_cons (ps_if (pt_cmpR op_ge (pe_callB call_lenR (by rfl) T.len PySem.boot_len (pa_cons (pe_fld (pv 0) rfl) pa_nil)) (pe_glob (v := .int 24) (by rfl) mM ⟨_, rfl⟩) (nomark _)) (pss_one (L2N.ps_raise rfl (L2N.takes_of rfl rfl rfl rfl) (pmk_oexN e5.o e5.i e5.t (TG.G 5 (.inl (by decide))) hr4 (TG.b 5 (.inl (by decide))) .nil pass0 rfl TE.g5 (pa_cons (pe_glob (v := .int 24) (by rfl) mM ⟨_, rfl⟩) pa_nil)))) pss_nil)
      (pss_cons (ps_expr (pe_call GU hr rfl mU kU bU .nil (L2N.passes_call (L2N.takes_of rfl rfl rfl rfl) (fun _ _ _ _ h => h)) (pa_cons (pe_fld (pv 0) rfl) (pa_cons
          (pe_lc (own := [("unknown", 5), ("number", 6)]) (g := gTup K 2 (gCons (gName 5) (gCons (gName 6) gNil))) (tt := tYes) rfl scWT.nd (pi_list (pv 3)) (blkOk_by (N := ["contents", "name", "constant", "terms", "rows", "unknown", "number"]) (sc := defScope sWT) (by decide +kernel))
            (fun _ _ _ _ _ => pg_tup (by rfl) (pgs_cons (pg_name (i := 5) scWT.nd rfl (Or.inl rfl)) (pgs_cons (pg_name (i := 6) scWT.nd rfl (Or.inl rfl)) pgs_nil))) (fun _ _ _ _ _ => pts_nil) (fun _ _ _ _ _ => pv 5)) pa_nil))))
      (pss_cons (ps_set (i := 4) scWT.nd rfl (.inl rfl) (pe_fz (pe_call GR hr1 rfl mR kR bR .nil pass0 (pa_cons (pe_fld (pv 0) rfl) (pa_cons (pv 1) (pa_cons (pe_fz
          (pe_dc (own := [("unknown", 5), ("number", 6)]) (g := gTup K 2 (gCons (gName 5) (gCons (gName 6) gNil))) (tt := tYes) rfl scWT.nd (pi_list (pv 3)) (blkOk_by (N := ["contents", "name", "constant", "terms", "rows", "unknown", "number"]) (sc := defScope sWT) (by decide +kernel))
            (fun _ _ _ _ _ => pg_tup (by rfl) (pgs_cons (pg_name (i := 5) scWT.nd rfl (Or.inl rfl)) (pgs_cons (pg_name (i := 6) scWT.nd rfl (Or.inl rfl)) pgs_nil))) (fun _ _ _ _ _ => pts_nil) (fun _ _ _ _ _ => pv 5) (fun _ _ _ _ _ => pv 6))) pa_nil))))))
      (pss_one (ps_ret (pe_make T.ct.mkC GC hr2 rfl T.ct.g bC .nil pass0 (pa_cons (pe_fld (pv 0) rfl) (pa_cons (pv 4) (pa_cons (pe_fz (pe_call GR hr1 rfl mR kR bR .nil pass0 (pa_cons (pe_fld (pv 0) rfl) (pa_cons (pv 1) (pa_cons (pv 2) pa_nil))))) pa_nil)))))))))), ?_⟩
    refine ⟨v, rfl, v, x.d, rfl, hv.flat, hv.len, fun H1 sm => ⟨_, rfl, ?_⟩⟩
    rw [hv.name]
    unfold newE at hres
    cases x with
    | od d =>
      exact iteT ⟨_, rfl, raise_read2 e0 (.fl ((hv.keep sm).flat)) (Thrown2.later hres sm)⟩
    | nm y =>
    have hvy : v = .str y := by cases hv; rfl
    subst hvy
    dsimp only at hres
    show (if (!nameOk y) = true then _ else _)
    cases hok : nameOk y with
    | false =>
      rw [if_pos hok] at hres
      exact iteT ⟨_, rfl, raise_read2 e0 (.fl ((hv.keep sm).flat)) (Thrown2.later hres sm)⟩
    | true =>
    rw [if_neg (by rw [hok]; exact Bool.noConfusion)] at hres
    refine iteF ?_
    obtain ⟨dx, ac, ar, ak, rs, hC⟩ := hc.keep sm
    have hks : rs.map (·.1) = p.keys := (pair_keys (fun p q z => z.1) hC.p).trans (ctP_keys p)
    have hlr : rs.length = p.rows.length := by
      have e := congrArg List.length hks
      unfold Pl.keys at e
      rw [List.length_map, List.length_map] at e
      exact e
    refine ⟨_, rfl, _, rfl, c, CC, dx, _, _, rfl, hC.i, T.ct.cl, T.ct.n2, ctF_r _ _ _, ar, _, rfl, .inl ⟨_, Sum.inr y, hC.r.rd, rfl, rfl⟩, _, rfl, ?_⟩
    by_cases hyk : y ∈ p.keys
    · rw [if_pos hyk] at hres
      obtain ⟨d0, hd0, _⟩ := refK_in (rs := rs) (y := y) (by rw [hks]; exact hyk)
      rw [hd0]
      refine iteT ⟨_, rfl, by show 2 ≤ sizeLine; decide, fun q hq => ?_⟩
      have sm3 : Same H1 (upd H1 q (.tup [.str kEq, .str y])) := same_new hq
      exact raise_read2 e1 (d := itemD kEq (.nm y)) (fl_two (SqT.of upd_same)) (Thrown2.later hres (sm.trans sm3))
    rw [if_neg hyk] at hres
    rw [refK_out (by rw [hks]; exact hyk)]
    refine iteF ⟨_, rfl, c, CC, dx, _, _, rfl, hC.i, T.ct.cl, T.ct.n2, ctF_r _ _ _, ar, _, rfl, hC.r.rd, _, _, rfl, rfl, _, rfl, ?_⟩
    have hrl : (refK rs).length = p.rows.length := by unfold refK; rw [List.length_map, hlr]
    by_cases hbig : 24 ≤ p.rows.length
    · rw [if_pos hbig] at hres
      rw [decide_eq_true (show ((24 : Int) ≤ ((refK rs).length : Int)) by rw [hrl]; omega)]
      exact iteT (raise_read2 e5 (d := .int 24) (.fl (.atom (v := .int 24) rfl)) (Thrown2.later hres sm))
    rw [if_neg hbig] at hres
    rw [decide_eq_false (show ¬ ((24 : Int) ≤ ((refK rs).length : Int)) by rw [hrl]; omega)]
    refine iteF ⟨_, rfl, c, CC, dx, _, _, rfl, hC.i, T.ct.cl, T.ct.n1, ctF_c _ _ _, _, rfl, l, rfl, ⟨ts, SqL.of (sm _ _ hl)⟩, fun D hD => ?_⟩
    have smD : Same H1 (upd H1 D (.lst [])) := same_new hD
    have hlen2 := hts.length
    refine lc_list (xs := ts) (fun i H' => ∃ us : List V, H' = upd H1 D (.lst us) ∧ Paired (AV K H1) us (as.take i)) ⟨[], rfl, .nil⟩ ?_ ?_ ?_
    · rintro i H' _ ⟨us, rfl, _⟩
      exact SqL.of ((same_new hD) _ _ (sm _ _ hl))
    · rintro i t H' ht ⟨us, rfl, hp⟩
      obtain ⟨a, ha, ta⟩ := pairG hts ht
      have kD : Same H1 (upd H1 D (.lst us)) := same_new hD
      have lu : us.length ≤ i := by
        have := hp.length
        rw [this, List.length_take]
        exact Nat.min_le_left _ _
      have li : i < ts.length := (List.getElem?_eq_some_iff.mp ht).1
      cases ta.keep sm with
      | mk hq hx =>
        rename_i q v
        refine ⟨q, _, rfl, SqT.keep hq kD, rfl, _, _, rfl, _, _, rfl, rfl, rfl, _, rfl, us, upd_same, by rw [sizeLine_eq]; omega, us ++ [v], upd_upd, ?_⟩
        rw [take_snoc ha]
        exact hp.snoc hx
    rintro H' ⟨us, rfl, hp⟩
    have kD : Same H1 (upd H1 D (.lst us)) := same_new hD
    rw [hlen2, List.take_length] at hp
    have hC1 := hC.keep kD
    refine ⟨ac, D, srt p.us, us, as, rfl, hC1.c, upd_same, avs_keep hp kD, ?_⟩
    rw [chkU_srt]
    cases hu : chkU p.us as with
    | some er =>
      rw [hu] at hres
      exact Thrown2.later hres (sm.trans kD)
    | none =>
    rw [hu] at hres
    dsimp only at hres
    have hlk : lackA p.us as = none := by
      unfold chkU at hu
      cases z : lackA p.us as with
      | none => rfl
      | some u => rw [z] at hu; cases hu
    have hdp : dupT [] (nmS as) = none := by
      unfold chkU at hu
      rw [hlk] at hu
      exact Option.map_eq_none_iff.mp hu
    obtain ⟨eas, hin⟩ := lackA_none hlk
    have hnd := dupT_none List.nodup_nil hdp
    rw [List.nil_append] at hnd
    generalize nmS as = ys at eas hin hres hnd
    subst eas
    generalize upd H1 D (.lst us) = H2 at kD hC1
    intro H3 s3
    have hC3 := hC1.keep s3
    have s13 := kD.trans s3
    have hl3 := s13 _ _ (sm _ _ hl)
    have hts3 := Paired.mapP hts fun _ _ z => z.keep (sm.trans s13)
    refine ⟨_, rfl, c, CC, dx, _, _, rfl, hC3.i, T.ct.cl, T.ct.n2, ctF_r _ _ _, _, rfl, _, rfl, l, rfl, ⟨ts, SqL.of hl3⟩, fun D2 hD2 => ?_⟩
    refine dc_go (walk_list (K := K) (a := l) (xs := ts)) (fun i H' => H' = upd H3 D2 (.dK (intK ((ys.take i).map fun y => (y, 1))))) rfl ?_ ?_ ?_
    · rintro i H' _ rfl
      exact SqL.of ((same_new hD2) _ _ hl3)
    · intro i t H4 H5 hi e y0
      subst e
      obtain ⟨eH, ht⟩ := y0
      subst eH
      obtain ⟨a, ha, ta⟩ := pairG hts3 ht
      rw [List.getElem?_map] at ha
      obtain ⟨z, hz, rfl⟩ := Option.map_eq_some_iff.mp ha
      cases ta.keep (same_new (o := .dK (intK ((ys.take i).map fun y => (y, 1)))) hD2) with
      | mk hq hx =>
        rename_i q v
        cases hx
        have li : i < ys.length := (List.getElem?_eq_some_iff.mp hz).1
        have ly : ys.length = ts.length := by rw [hlen2, List.length_map]
        have hzn : z ∉ ys.take i := fun m => by
          obtain ⟨j, hj⟩ := List.mem_iff_getElem?.mp m
          rw [List.getElem?_take] at hj
          split at hj
          · rename_i lt
            exact absurd ((List.getElem?_inj (by omega) hnd).mp (hj.trans hz.symm)) (by omega)
          · cases hj
        refine ⟨q, _, rfl, hq, rfl, _, _, rfl, _, _, rfl, rfl, rfl, _, rfl, _, rfl, intK ((ys.take i).map fun y => (y, 1)), Sum.inr z, rfl, upd_same, ?_, ?_⟩
        · rw [intK_len, List.length_map, List.length_take, sizeLine_eq]
          omega
        · rw [upd_upd, putK_new _ (intK_out (by rw [List.map_map]; show z ∉ (ys.take i).map id; rw [List.map_id]; exact hzn)), take_snoc hz, List.map_append]
          congr 2
          unfold intK
          rw [List.map_append]
          rfl
    · intro H' e
      subst e
      have eys : (ys.map Arg.nm).length = ys.length := List.length_map _
      rw [hlen2, eys, List.take_length]
      refine ⟨D2, _, rfl, upd_same, True.intro, fun od => ?_⟩
      rw [upd_upd]
      have smF : Same H3 (upd H3 D2 (.frz od (.dK (intK (ys.map fun y => (y, 1)))))) := same_new hD2
      have hF : Fz (upd H3 D2 (.frz od (.dK (intK (ys.map fun y => (y, 1)))))) D2 (.dK (intK (ys.map fun y => (y, 1)))) := ⟨od, upd_same⟩
      generalize upd H3 D2 (.frz od (.dK (intK (ys.map fun y => (y, 1))))) = H4 at smF hF ⊢
      have hC4 := hC3.keep smF
      refine ⟨ar, refK rs, Sum.inr y, .ref D2, rfl, hC4.r.rd, by rw [hrl, sizeLine_eq]; omega, fun p1 hp1 => ⟨p1, _, rfl, upd_same, True.intro, fun od2 => ?_⟩⟩
      rw [upd_upd, putK_new _ (refK_out (by rw [hks]; exact hyk))]
      have smP := same_new (o := .frz od2 (.dK (refK rs ++ [((Sum.inr y : Key), V.ref D2)]))) hp1
      have hP : Fz (upd H4 p1 (.frz od2 (.dK (refK rs ++ [((Sum.inr y : Key), V.ref D2)])))) p1 (.dK (refK rs ++ [((Sum.inr y : Key), V.ref D2)])) := ⟨od2, upd_same⟩
      generalize upd H4 p1 (.frz od2 (.dK (refK rs ++ [((Sum.inr y : Key), V.ref D2)]))) = H5 at smP hP ⊢
      have hC5 := hC4.keep smP
      have hkl : (intK (ctP p).cons).length = p.rows.length := by unfold intK ctP; rw [List.length_map, List.length_map]
      have hkn : y ∉ (ctP p).cons.map (·.1) := by rw [ctP_cons]; exact hyk
      refine ⟨_, rfl, c, CC, dx, _, _, rfl, hC5.i, T.ct.cl, T.ct.n1, ctF_c _ _ _, _, rfl, _, rfl, c, CC, dx, _, _, rfl, hC5.i, T.ct.cl, T.ct.n3, ctF_k _ _ _, _, rfl, _, rfl, ?_⟩
      refine ⟨ak, intK (ctP p).cons, Sum.inr y, .int 0, rfl, hC5.k.rd, by rw [hkl, sizeLine_eq]; omega, fun p2 hp2 => ⟨p2, _, rfl, upd_same, True.intro, fun od3 => ?_⟩⟩
      rw [upd_upd, putK_new _ (intK_out hkn)]
      have smQ := same_new (o := .frz od3 (.dK (intK (ctP p).cons ++ [((Sum.inr y : Key), V.int 0)]))) hp2
      have hQ : Fz (upd H5 p2 (.frz od3 (.dK (intK (ctP p).cons ++ [((Sum.inr y : Key), V.int 0)])))) p2 (.dK (intK (ctP p).cons ++ [((Sum.inr y : Key), V.int 0)])) := ⟨od3, upd_same⟩
      generalize upd H5 p2 (.frz od3 (.dK (intK (ctP p).cons ++ [((Sum.inr y : Key), V.int 0)]))) = H6 at smQ hQ ⊢
      have hC6 := hC5.keep smQ
      refine mk_ct fun b dy H7 sm7 hb => hres b H7 (((((sm.trans s13).trans smF).trans smP).trans smQ).trans sm7) ⟨dy, ac, p1, p2, rs ++ [(y, D2)], hb, (hC6.keep sm7).c, ?_, ?_, ?_⟩
      · have := (hP.keep smQ).keep sm7
        unfold refK at this ⊢
        rw [List.map_append]
        exact this
      · have h1 := (hC6.keep sm7).p
        have h2 := ((hF.keep smP).keep smQ).keep sm7
        have e : (ctP { rows := p.rows ++ [(y, ys)], us := p.us }).rows = (ctP p).rows ++ [(y, ys.map fun y => (y, (1 : Int)))] := by
          unfold ctP
          rw [List.map_append]
          rfl
        rw [e]
        exact pair_snoc h1 ⟨rfl, h2⟩
      · have := hQ.keep sm7
        have e : (ctP { rows := p.rows ++ [(y, ys)], us := p.us }).cons = (ctP p).cons ++ [(y, 0)] := by
          show List.map _ (p.rows ++ [(y, ys)]) = _
          rw [List.map_append]
          rfl
        rw [e]
        unfold intK at this ⊢
        rw [List.map_append]
        exact this
theorem ok_weX {f fT : Addr} {fd fdT : FuncData} (F : Fun K "with_equation" "with_equation" sWE f fd) (GT : FnOk P w K mg base (L2N.CX P w) 7 fT fdT ["contents", "name", "constant", "terms"] (spWTX K CC cs)) (mT : mg "with_terms" = some (.ref fT)) (kT : PySem.W.keepIn K (.ref fT) = true) (bT : Binds K fdT ["contents", "name", "constant", "terms"] []) :
    FnOk P w K mg base (L2N.CX P w) 8 f fd ["contents", "name", "unknowns"] (spWEX K CC cs) := by
  refine F.okN scWE (fun vs H Q E h => ?_) (fun cdv A outer s H vs Q E hr h => ?_)
  · obtain ⟨c, n, p, v, x, xs, as, rfl, _⟩ := h
    rfl
  · obtain ⟨c, n, p, v, x, xs, as, rfl, hc, hn, hav, hlen, hv, hw, hres⟩ := h
    refine ⟨_, pss_one (ps_ret (pe_call GT hr rfl mT kT bT .nil (L2N.passes_call (L2N.takes_of rfl rfl rfl rfl) (fun _ _ _ _ h => h)) (pa_cons (pv 0) (pa_cons (pv 1) (pa_cons pe_int (pa_cons
          (pe_lc (own := [("unknown", 3)]) (g := gName 3) (tt := tYes) rfl scWE.nd (pi_tup (pv 2)) (blkOk_by (N := ["contents", "name", "unknowns", "unknown"]) (sc := defScope sWE) (by decide +kernel)) (fun _ _ _ _ _ => pg_name (i := 3) scWE.nd rfl (Or.inl rfl)) (fun _ _ _ _ _ => pts_nil)
            (fun _ _ _ _ _ => pe_tup (pa_cons (pv 3) (pa_cons pe_int pa_nil)))) pa_nil)))))), ?_⟩
    refine ⟨_, rfl, _, rfl, _, rfl, n, rfl, ⟨xs, hn⟩, fun D hD => ?_⟩
    have smD : Same H (upd H D (.lst [])) := same_new hD
    refine lc_tup (xs := xs) (fun i H' => Same H H' ∧ ∃ us : List V, H' D = some (.lst us) ∧ Paired (fun u v => ∃ q, u = V.ref q ∧ H' q = some (.tup [v, .int 1])) us (xs.take i)) ⟨smD, [], upd_same, .nil⟩ (fun i H' _ e => SqT.keep hn e.1) ?_ ?_
    · rintro i x1 H' hx ⟨sm, us, hD', hp⟩
      have li : i < xs.length := (List.getElem?_eq_some_iff.mp hx).1
      have lu : us.length ≤ i := by rw [hp.length, List.length_take]; exact Nat.min_le_left _ _
      refine ⟨rfl, _, rfl, by show 2 ≤ sizeLine; decide, fun q hq => ?_⟩
      have qD : D ≠ q := fun z => by rw [z, hq] at hD'; cases hD'
      have s2 : Same H' (upd H' q (.tup [x1, .int 1])) := same_new hq
      refine ⟨us, s2 _ _ hD', by rw [sizeLine_eq]; omega, fun b o e => ?_, us ++ [.ref q], upd_same, ?_⟩
      · rw [upd_ne (ne_of_none e hD)]
        exact s2 _ _ (sm _ _ e)
      · rw [take_snoc hx]
        refine Paired.snoc (Paired.mapP hp fun u v ⟨q1, e1, e2⟩ => ⟨q1, e1, ?_⟩) ⟨q, rfl, ?_⟩
        · rw [upd_ne (fun z => by rw [z, hD'] at e2; cases e2)]
          exact s2 _ _ e2
        · rw [upd_ne qD.symm]
          exact upd_same
    · rintro H' ⟨sm, us, hD', hp⟩
      rw [List.take_length] at hp
      refine ⟨c, D, p, v, x, us, as, rfl, hc.keep sm, hD', ?_, ?_, hv.keep sm, hw, hres.later sm⟩
      · exact Paired.mapP (paired_trans hp hav) fun u a ⟨v, ⟨q, e, hq⟩, h⟩ => by rw [e]; exact .mk (SqT.of hq) (h.keep sm)
      · rw [hp.length]; exact hlen
end
end Bo
set_option Elab.async false
set_option linter.all false
set_option maxRecDepth 100000
set_option maxHeartbeats 8000000
namespace Bo
open PySem L2
abbrev sWoEn : Stmt := top 38
theorem chkN_ok {p : Pl} {e u : Arg} (h : chkEnds p e u = none) : ∃ y x, e = .nm y ∧ u = .nm x ∧ y ∈ p.keys ∧ x ∈ p.us ∧ chkN p e u = .ok (y, x) := by
  unfold chkEnds chkE at h
  cases e with
  | od d => cases h
  | nm y =>
    by_cases hy : y ∈ p.keys
    · rw [show Arg.inT p.keys (.nm y) = true from decide_eq_true hy, if_pos rfl] at h
      unfold chkU lackA at h
      cases u with
      | od d => cases h
      | nm x =>
        by_cases hx : x ∈ p.us
        · exact ⟨y, x, rfl, rfl, hy, hx, by unfold chkN; dsimp only; rw [if_pos hy, if_pos hx]⟩
        · rw [List.find?_cons, show Arg.inT p.us (.nm x) = false from decide_eq_false hx] at h
          cases h
    · rw [show Arg.inT p.keys (.nm y) = false from decide_eq_false hy, if_neg Bool.false_ne_true] at h
      cases h
theorem chkN_err {p : Pl} {e u : Arg} {er : Er} (h : chkEnds p e u = some er) : chkN p e u = .error er := by
  unfold chkEnds chkE at h
  cases e with
  | od d =>
    cases h
    rfl
  | nm y =>
    by_cases hy : y ∈ p.keys
    · rw [show Arg.inT p.keys (.nm y) = true from decide_eq_true hy, if_pos rfl] at h
      unfold chkU lackA at h
      unfold chkN
      cases u with
      | od d =>
        cases h
        dsimp only
        rw [if_pos hy]
      | nm x =>
        dsimp only
        rw [if_pos hy]
        by_cases hx : x ∈ p.us
        · rw [List.find?_cons, show Arg.inT p.us (.nm x) = true from decide_eq_true hx] at h
          cases h
        · rw [List.find?_cons, show Arg.inT p.us (.nm x) = false from decide_eq_false hx] at h
          rw [if_neg hx]
          cases h
          rfl
    · rw [show Arg.inT p.keys (.nm y) = false from decide_eq_false hy, if_neg Bool.false_ne_true] at h
      unfold chkN
      cases h
      cases u <;> (dsimp only; rw [if_neg hy])
/-- an entry, checked -/
def chkEn (p : Pl) (e u : Arg) : Option Er := match chkN p e u with
  | .error er => some er
  | .ok (y, x) => if x ∈ rowOf p.rows y then none else some (4, .tuple [.str y, .str x])
def spCEnX (K : PySem.W.Frag) (CC : Addr) (cs : Nat → Addr) : Sp := fun vs H Q E => ∃ (c : Addr) (p : Pl) (v w : V) (e u : Arg), vs = [.ref c, v, w] ∧ CtIn K CC H c (ctP p) ∧ PlWf p ∧ AV K H v e ∧ AV K H w u ∧ ChkRes K cs E H Q (chkEn p e u)
/-- the row of an equation, in the heap -/
theorem row_at {K : PySem.W.Frag} {CC : Addr} {H : Hp} {c d1 ac ar ak : Addr} {p : Pl} {rs : List (Str × Addr)} {y : Str} (hw : PlWf p) (C : CtAt K CC H c (ctP p) d1 ac ar ak rs) (hy : y ∈ p.keys) : rs.map (·.1) = p.keys ∧ rs.length = p.rows.length ∧
    ∃ d, valV (refK rs) (Sum.inr y) = some (.ref d) ∧ Fz H d (.dK (intK ((rowOf p.rows y).map fun x => (x, (1 : Int))))) ∧ (rowOf p.rows y).length ≤ 24 := by
  have hks : rs.map (·.1) = p.keys := (pair_keys (fun p q z => z.1) C.p).trans (ctP_keys p)
  have hlr : rs.length = p.rows.length := by
    have e := congrArg List.length hks
    unfold Pl.keys at e
    rw [List.length_map, List.length_map] at e
    exact e
  refine ⟨hks, hlr, ?_⟩
  obtain ⟨d, hv, hm⟩ := refK_in (rs := rs) (y := y) (by rw [hks]; exact hy)
  obtain ⟨j, hj⟩ := List.mem_iff_getElem?.mp hm
  obtain ⟨⟨y', r'⟩, hrow, hrn, hd⟩ := pair_at C.p hj
  cases (show y' = y from hrn)
  have hr := hw.rowOf hy
  have hnd : ((ctP p).rows.map (·.1)).Nodup := by rw [ctP_keys]; exact hw.k
  have hin : (y, (rowOf p.rows y).map fun x => (x, (1 : Int))) ∈ (ctP p).rows := List.mem_map.mpr ⟨_, hr, rfl⟩
  have e := one_row hnd (List.mem_of_getElem? hrow) hin
  refine ⟨d, hv, ?_, hw.row hr⟩
  rw [← e]
  exact hd
theorem one_keys (l : List Str) : (l.map fun x => (x, (1 : Int))).map (·.1) = l := by
  rw [List.map_map]
  exact List.map_id l
theorem one_in {x : Str} : ∀ {l : List Str}, x ∈ l → valV (intK (l.map fun x => (x, (1 : Int)))) (Sum.inr x) = some (.int 1)
  | y :: l, h => by
    by_cases e : y = x
    · exact valV_pos (p := (Sum.inr y, V.int 1)) (congrArg Sum.inr e)
    · exact (valV_neg (p := (Sum.inr y, V.int 1)) (fun z => e (Sum.inr.inj z))).trans (one_in ((List.mem_cons.mp h).resolve_left (Ne.symm e)))
section
variable {P : Program} {w : World} {K : PySem.W.Frag} {mg : Str → Option Value} {base : Heap} {CC fCI CB : Addr} {cs fs : Nat → Addr} {fds : Nat → FuncData}
theorem scCEy : FnScope ["contents", "equation", "unknown"] ["contents", "equation", "unknown"] (defScope sCEntry) := ⟨rfl, rfl, rfl, by decide +kernel, rfl, by decide +kernel, by decide +kernel⟩
theorem ok_cenX {f fE : Addr} {fd fdE : FuncData} (F : Fun K "check_entry" "check_entry" sCEntry f fd) (T : TxtE K mg CC fCI) (TE : ErrA K mg CB cs) (TG : ErrsG P w K mg base cs fs fds)
    (GE : FnOk P w K mg base (L2N.CX P w) 7 fE fdE ["contents", "equation", "unknown"] (spCEndsX K CC cs)) (mE : mg "check_ends" = some (.ref fE)) (kE : PySem.W.keepIn K (.ref fE) = true) (bE : Binds K fdE ["contents", "equation", "unknown"] []) :
    FnOk P w K mg base (L2N.CX P w) 8 f fd ["contents", "equation", "unknown"] (spCEnX K CC cs) := by
  have e4 := TG.c 4 (.inl (by decide))
  refine F.okN scCEy (fun vs H Q E h => ?_) (fun cdv A outer s H vs Q E hr h => ?_)
  · obtain ⟨c, p, v, w, e, u, rfl, _⟩ := h
    rfl
  · obtain ⟨c, p, v, w, e, u, rfl, hC, hwf, hv, hw, hres⟩ := h
    have hr4 : Room 5 _ := hr.mono (by decide)
    have hu := hu_of hr
    refine ⟨_, pss_cons (ps_expr (pe_call GE hr rfl mE kE bE .nil (L2N.passes_call (L2N.takes_of rfl rfl rfl rfl) (fun _ _ _ _ h => h)) (pa_cons (pv 0) (pa_cons (pv 1) (pa_cons (pv 2) pa_nil)))))
      (pss_one (ps_if (pt_cmp (pc_dnotin hu (pv 2) (pe_dget hu (pe_fld (pv 0) rfl) (pv 1) (fun _ _ => rfl)))) (pss_one (L2N.ps_raise rfl (L2N.takes_of rfl rfl rfl rfl) (pmk_oexN e4.o e4.i e4.t (TG.G 4 (.inl (by decide))) hr4 (TG.b 4 (.inl (by decide))) .nil pass0 rfl TE.g4 (pa_cons (pe_tup (pa_cons (pv 1) (pa_cons (pv 2) pa_nil))) pa_nil)))) pss_nil)), ?_⟩
    refine ⟨_, rfl, _, rfl, _, rfl, c, p, v, w, e, u, rfl, hC, hv, hw, ?_⟩
    unfold chkEn at hres
    cases h1 : chkEnds p e u with
    | some er =>
      rw [chkN_err h1] at hres
      exact hres
    | none =>
      obtain ⟨y, x, rfl, rfl, hy, hx, e2⟩ := chkN_ok h1
      rw [e2] at hres
      dsimp only at hres
      intro H1 s1
      have hv' : v = .str y := by cases hv; rfl
      have hw' : w = .str x := by cases hw; rfl
      subst hv' hw'
      obtain ⟨d1, ac, ar, ak, rs, C⟩ := hC.keep s1
      obtain ⟨hks, hlr, d, hvd, hd, hlen⟩ := row_at hwf C hy
      refine ⟨_, rfl, _, rfl, c, CC, d1, _, _, rfl, C.i, T.ct.cl, T.ct.n2, ctF_r _ _ _, _, rfl, ar, _, rfl, .inl ⟨_, Sum.inr y, C.r.rd, rfl, hvd.symm⟩, d, _, rfl, .inl ⟨_, Sum.inr x, hd.rd, rfl, rfl⟩, _, rfl, ?_⟩
      by_cases hxr : x ∈ rowOf p.rows y
      · rw [if_pos hxr] at hres
        rw [one_in hxr]
        exact iteF (hres _ s1)
      · rw [if_neg hxr] at hres
        rw [intK_out (by rw [one_keys]; exact hxr)]
        refine iteT ⟨_, rfl, _, rfl, by show 2 ≤ sizeLine; decide, fun q hq => ?_⟩
        have s3 : Same H1 (upd H1 q (.tup [.str y, .str x])) := same_new hq
        exact raise_read2 e4 (d := .tuple [.str y, .str x]) (fl_two (SqT.of upd_same)) (Thrown2.later hres (s1.trans s3))
end
end Bo
set_option Elab.async false
set_option linter.all false
set_option maxRecDepth 100000
set_option maxHeartbeats 8000000
namespace Bo
open PySem L2
theorem set_map {α β : Type} (f : α → β) (y : Str) (r : α) : ∀ l : List (Str × α), (setRow l y r).map (fun q => (q.1, f q.2)) = setRow (l.map fun q => (q.1, f q.2)) y (f r)
  | [] => rfl
  | q :: l => by
    unfold setRow
    rw [List.map_cons, List.map_cons, List.map_cons, List.map_cons]
    refine congr (congrArg _ ?_) (set_map f y r l)
    show ((if q.1 = y then (q.1, r) else q).1, f (if q.1 = y then (q.1, r) else q).2) = if q.1 = y then (q.1, f r) else (q.1, f q.2)
    by_cases e : q.1 = y
    · rw [if_pos e, if_pos e]
    · rw [if_neg e, if_neg e]
/-- another row -/
theorem ctP_set (p : Pl) (y : Str) (r : List Str) : ctP { p with rows := setRow p.rows y r } = { ctP p with rows := setRow (ctP p).rows y (r.map fun x => (x, 1)) } := by
  unfold ctP
  congr 1
  · exact set_map (fun r : List Str => r.map fun x => (x, (1 : Int))) y r p.rows
  · have e := setRow_keys p.rows y r
    have := congrArg (List.map fun k => (k, (0 : Int))) e
    rw [List.map_map, List.map_map] at this
    exact this
theorem one_snoc (l : List Str) (x : Str) : (l.map fun x => (x, (1 : Int))) ++ [(x, 1)] = (l ++ [x]).map fun x => (x, 1) := by rw [List.map_append]; rfl
theorem one_drop (x : Str) : ∀ l : List Str, dropRow (l.map fun x => (x, (1 : Int))) x = (l.filter fun z => !decide (z = x)).map fun x => (x, 1)
  | [] => rfl
  | z :: l => by
    have ih := one_drop x l
    unfold dropRow at ih ⊢
    rw [List.map_cons, List.filter_cons, List.filter_cons, ih]
    show (if (!decide (z = x)) = true then _ else _) = _
    split <;> rfl
def spEnX (K : PySem.W.Frag) (CC : Addr) (cs : Nat → Addr) (add : Bool) : Sp := fun vs H Q E => ∃ (c : Addr) (p : Pl) (v w : V) (e u : Arg), vs = [.ref c, v, w] ∧ CtIn K CC H c (ctP p) ∧ PlWf p ∧ AV K H v e ∧ AV K H w u ∧ EdRes K CC cs E H Q (edP p (if add then .addN e u else .rmN e u))
section
variable {P : Program} {w : World} {K : PySem.W.Frag} {mg : Str → Option Value} {base : Heap} {CC fCI CB : Addr} {cs fs : Nat → Addr} {fds : Nat → FuncData}
theorem ok_wenX {f fE fR : Addr} {fd fdE fdR fdCI : FuncData} (F : Fun K "with_entry" "with_entry" sWEn f fd) (T : TxtE K mg CC fCI) (TE : ErrA K mg CB cs) (TG : ErrsG P w K mg base cs fs fds)
    (GE : FnOk P w K mg base (L2N.CX P w) 7 fE fdE ["contents", "equation", "unknown"] (spCEndsX K CC cs)) (mE : mg "check_ends" = some (.ref fE)) (kE : PySem.W.keepIn K (.ref fE) = true) (bE : Binds K fdE ["contents", "equation", "unknown"] [])
    (GR : FnOk P w K mg base CX0 1 fR fdR ["table", "key", "thing"] spReplaced) (mR : mg "replaced" = some (.ref fR)) (kR : PySem.W.keepIn K (.ref fR) = true) (bR : Binds K fdR ["table", "key", "thing"] [])
    (GC : FnOk P w K mg base CX0 1 fCI fdCI ["self", "columns", "rows", "constants"] (spCtInit CC)) (bC : Binds K fdCI ["self", "columns", "rows", "constants"] []) :
    FnOk P w K mg base (L2N.CX P w) 8 f fd ["contents", "equation", "unknown"] (spEnX K CC cs true) := by
  have e3 := TG.c 3 (.inl (by decide))
  refine F.okN scWEn (fun vs H Q E h => ?_) (fun cdv A outer s H vs Q E hr h => ?_)
  · obtain ⟨c, p, v, w, e, u, rfl, _⟩ := h
    rfl
  · obtain ⟨c, p, v, w, e, u, rfl, hC, hwf, hv, hw, hres⟩ := h
    have hr1 : Room 1 _ := hr.mono (by decide)
    have hr2 : Room 2 _ := hr.mono (by decide)
    have hr4 : Room 5 _ := hr.mono (by decide)
    have hu := hu_of hr
    refine ⟨_, pss_cons (ps_expr (pe_call GE hr rfl mE kE bE .nil (L2N.passes_call (L2N.takes_of rfl rfl rfl rfl) (fun _ _ _ _ h => h)) (pa_cons (pv 0) (pa_cons (pv 1) (pa_cons (pv 2) pa_nil)))))
      (pss_cons (ps_if (pt_cmp (pc_din hu (pv 2) (pe_dget hu (pe_fld (pv 0) rfl) (pv 1) (fun _ _ => rfl)))) (pss_one (L2N.ps_raise rfl (L2N.takes_of rfl rfl rfl rfl) (pmk_oexN e3.o e3.i e3.t (TG.G 3 (.inl (by decide))) hr4 (TG.b 3 (.inl (by decide))) .nil pass0 rfl TE.g3 (pa_cons (pe_tup (pa_cons (pv 1) (pa_cons (pv 2) pa_nil))) pa_nil)))) pss_nil)
      (pss_cons (ps_set (i := 3) scWEn.nd rfl (.inl rfl) (pe_fz (pe_call GR hr1 rfl mR kR bR .nil pass0 (pa_cons (pe_dget hu (pe_fld (pv 0) rfl) (pv 1) (fun _ _ => rfl)) (pa_cons (pv 2) (pa_cons pe_int pa_nil))))))
      (pss_one (ps_ret (pe_make T.ct.mkC GC hr2 rfl T.ct.g bC .nil pass0 (pa_cons (pe_fld (pv 0) rfl) (pa_cons (pe_fz (pe_call GR hr1 rfl mR kR bR .nil pass0 (pa_cons (pe_fld (pv 0) rfl) (pa_cons (pv 1) (pa_cons (pv 3) pa_nil))))) (pa_cons (pe_fld (pv 0) rfl) pa_nil)))))))), ?_⟩
    refine ⟨_, rfl, _, rfl, _, rfl, c, p, v, w, e, u, rfl, hC, hv, hw, ?_⟩
    rw [if_pos rfl] at hres
    unfold edP at hres
    cases h1 : chkEnds p e u with
    | some er =>
      dsimp only at hres
      rw [chkN_err h1] at hres
      exact hres
    | none =>
      obtain ⟨y, x, rfl, rfl, hy, hx, e2⟩ := chkN_ok h1
      dsimp only at hres
      rw [e2] at hres
      dsimp only at hres
      intro H1 s1
      have hv' : v = .str y := by cases hv; rfl
      have hw' : w = .str x := by cases hw; rfl
      subst hv' hw'
      obtain ⟨d1, ac, ar, ak, rs, C⟩ := hC.keep s1
      obtain ⟨hks, hlr, d, hvd, hd, hlen⟩ := row_at hwf C hy
      refine ⟨_, rfl, _, rfl, c, CC, d1, _, _, rfl, C.i, T.ct.cl, T.ct.n2, ctF_r _ _ _, _, rfl, ar, _, rfl, .inl ⟨_, Sum.inr y, C.r.rd, rfl, hvd.symm⟩, d, _, rfl, .inl ⟨_, Sum.inr x, hd.rd, rfl, rfl⟩, _, rfl, ?_⟩
      by_cases hxr : x ∈ rowOf p.rows y
      · rw [if_pos hxr] at hres
        rw [one_in hxr]
        refine iteT ⟨_, rfl, _, rfl, by show 2 ≤ sizeLine; decide, fun q hq => ?_⟩
        have s3 : Same H1 (upd H1 q (.tup [.str y, .str x])) := same_new hq
        exact raise_read2 e3 (d := .tuple [.str y, .str x]) (fl_two (SqT.of upd_same)) (Thrown2.later hres (s1.trans s3))
      rw [if_neg hxr] at hres
      have hout : x ∉ ((rowOf p.rows y).map fun x => (x, (1 : Int))).map (·.1) := by rw [one_keys]; exact hxr
      rw [intK_out hout]
      refine iteF ⟨_, rfl, c, CC, d1, _, _, rfl, C.i, T.ct.cl, T.ct.n2, ctF_r _ _ _, _, rfl, ar, _, rfl, .inl ⟨_, Sum.inr y, C.r.rd, rfl, hvd.symm⟩, _, rfl, ?_⟩
      refine ⟨d, _, Sum.inr x, .int 1, rfl, hd.rd, by rw [intK_len, List.length_map, sizeLine_eq]; omega, fun q hq => ⟨q, _, rfl, upd_same, True.intro, fun od => ?_⟩⟩
      rw [upd_upd, putK_new _ (intK_out hout)]
      have e1 : intK ((rowOf p.rows y).map fun x => (x, (1 : Int))) ++ [((Sum.inr x : Key), V.int 1)] = intK ((rowOf p.rows y ++ [x]).map fun x => (x, (1 : Int))) := by
        rw [← one_snoc]
        unfold intK
        rw [List.map_append]
        rfl
      rw [e1]
      generalize rowOf p.rows y ++ [x] = r' at hres ⊢
      have k1 : Same H1 (upd H1 q (.frz od (.dK (intK (r'.map fun x => (x, (1 : Int))))))) := same_new hq
      have hp1 : Fz (upd H1 q (.frz od (.dK (intK (r'.map fun x => (x, (1 : Int))))))) q (.dK (intK (r'.map fun x => (x, (1 : Int))))) := ⟨od, upd_same⟩
      generalize upd H1 q (.frz od (.dK (intK (r'.map fun x => (x, (1 : Int)))))) = H2 at k1 hp1 ⊢
      have C2 := C.keep k1
      refine ⟨_, rfl, c, CC, d1, _, _, rfl, C2.i, T.ct.cl, T.ct.n1, ctF_c _ _ _, _, rfl, c, CC, d1, _, _, rfl, C2.i, T.ct.cl, T.ct.n2, ctF_r _ _ _, _, rfl, _, rfl, ?_⟩
      have := hwf.lk
      refine ⟨ar, refK rs, Sum.inr y, .ref q, rfl, C2.r.rd, by rw [refK_len, hlr, sizeLine_eq]; omega, fun p2 hp2 => ⟨p2, _, rfl, upd_same, True.intro, fun od2 => ?_⟩⟩
      rw [upd_upd, refK_put (by rw [hks]; exact hy)]
      have k2 : Same H2 (upd H2 p2 (.frz od2 (.dK (refK (setRow rs y q))))) := same_new hp2
      have hp3 : Fz (upd H2 p2 (.frz od2 (.dK (refK (setRow rs y q))))) p2 (.dK (refK (setRow rs y q))) := ⟨od2, upd_same⟩
      generalize upd H2 p2 (.frz od2 (.dK (refK (setRow rs y q)))) = H3 at k2 hp3 ⊢
      have C3 := C2.keep k2
      refine ⟨_, rfl, c, CC, d1, _, _, rfl, C3.i, T.ct.cl, T.ct.n3, ctF_k _ _ _, ?_⟩
      refine mk_ct fun b dy H4 s4 hb => hres b H4 (((s1.trans k1).trans k2).trans s4) ?_
      rw [ctP_set]
      exact ⟨dy, ac, p2, ak, setRow rs y q, hb, (C3.keep s4).c, hp3.keep s4, pair_set (fun p q z => z.1) (fun z e => ⟨rfl, (hp1.keep k2).keep s4⟩) (C3.keep s4).p, (C3.keep s4).k⟩
theorem scWoEn : FnScope ["contents", "equation", "unknown", "row"] ["contents", "equation", "unknown"] (defScope sWoEn) := ⟨rfl, rfl, rfl, by decide +kernel, rfl, by decide +kernel, by decide +kernel⟩
theorem ok_woenX {f fE fR fM : Addr} {fd fdE fdR fdCI fdM : FuncData} (F : Fun K "without_entry" "without_entry" sWoEn f fd) (T : TxtE K mg CC fCI)
    (GE : FnOk P w K mg base (L2N.CX P w) 8 fE fdE ["contents", "equation", "unknown"] (spCEnX K CC cs)) (mE : mg "check_entry" = some (.ref fE)) (kE : PySem.W.keepIn K (.ref fE) = true) (bE : Binds K fdE ["contents", "equation", "unknown"] [])
    (GR : FnOk P w K mg base CX0 1 fR fdR ["table", "key", "thing"] spReplaced) (mR : mg "replaced" = some (.ref fR)) (kR : PySem.W.keepIn K (.ref fR) = true) (bR : Binds K fdR ["table", "key", "thing"] [])
    (GM : FnOk P w K mg base CX0 1 fM fdM ["table", "key"] spRemoved) (mM : mg "removed" = some (.ref fM)) (kM : PySem.W.keepIn K (.ref fM) = true) (bM : Binds K fdM ["table", "key"] [])
    (GC : FnOk P w K mg base CX0 1 fCI fdCI ["self", "columns", "rows", "constants"] (spCtInit CC)) (bC : Binds K fdCI ["self", "columns", "rows", "constants"] []) :
    FnOk P w K mg base (L2N.CX P w) 9 f fd ["contents", "equation", "unknown"] (spEnX K CC cs false) := by
  refine F.okN scWoEn (fun vs H Q E h => ?_) (fun cdv A outer s H vs Q E hr h => ?_)
  · obtain ⟨c, p, v, w, e, u, rfl, _⟩ := h
    rfl
  · obtain ⟨c, p, v, w, e, u, rfl, hC, hwf, hv, hw, hres⟩ := h
    have hr1 : Room 1 _ := hr.mono (by decide)
    have hr2 : Room 2 _ := hr.mono (by decide)
    have hu := hu_of hr
    refine ⟨_, pss_cons (ps_expr (pe_call GE hr rfl mE kE bE .nil (L2N.passes_call (L2N.takes_of rfl rfl rfl rfl) (fun _ _ _ _ h => h)) (pa_cons (pv 0) (pa_cons (pv 1) (pa_cons (pv 2) pa_nil)))))
      (pss_cons (ps_set (i := 3) scWoEn.nd rfl (.inl rfl) (pe_fz (pe_call GM hr1 rfl mM kM bM .nil pass0 (pa_cons (pe_dget hu (pe_fld (pv 0) rfl) (pv 1) (fun _ _ => rfl)) (pa_cons (pv 2) pa_nil)))))
      (pss_one (ps_ret (pe_make T.ct.mkC GC hr2 rfl T.ct.g bC .nil pass0 (pa_cons (pe_fld (pv 0) rfl) (pa_cons (pe_fz (pe_call GR hr1 rfl mR kR bR .nil pass0 (pa_cons (pe_fld (pv 0) rfl) (pa_cons (pv 1) (pa_cons (pv 3) pa_nil))))) (pa_cons (pe_fld (pv 0) rfl) pa_nil))))))), ?_⟩
    refine ⟨_, rfl, _, rfl, _, rfl, c, p, v, w, e, u, rfl, hC, hwf, hv, hw, ?_⟩
    rw [if_neg Bool.false_ne_true] at hres
    unfold edP at hres
    dsimp only at hres
    unfold chkEn
    cases h1 : chkEnds p e u with
    | some er =>
      rw [chkN_err h1] at hres ⊢
      exact hres
    | none =>
      obtain ⟨y, x, rfl, rfl, hy, hx, e2⟩ := chkN_ok h1
      rw [e2] at hres ⊢
      dsimp only at hres ⊢
      by_cases hxr : x ∈ rowOf p.rows y
      case neg =>
        rw [if_neg hxr] at hres ⊢
        exact hres
      rw [if_pos hxr] at hres ⊢
      intro H1 s1
      have hv' : v = .str y := by cases hv; rfl
      have hw' : w = .str x := by cases hw; rfl
      subst hv' hw'
      obtain ⟨d1, ac, ar, ak, rs, C⟩ := hC.keep s1
      obtain ⟨hks, hlr, d, hvd, hd, hlen⟩ := row_at hwf C hy
      have hnr := (hwf.r _ (hwf.rowOf hy)).1
      refine ⟨_, rfl, c, CC, d1, _, _, rfl, C.i, T.ct.cl, T.ct.n2, ctF_r _ _ _, _, rfl, ar, _, rfl, .inl ⟨_, Sum.inr y, C.r.rd, rfl, hvd.symm⟩, _, rfl, ?_⟩
      refine ⟨d, _, rowOf p.rows y, x, rfl, hd, ?_, hnr, by rw [intK_len, List.length_map]; omega, fun q hq => ⟨q, _, rfl, upd_same, True.intro, fun od => ?_⟩⟩
      · unfold intK
        rw [List.map_map, List.map_map]
        rfl
      have e1 : ((intK ((rowOf p.rows y).map fun x => (x, (1 : Int)))).filter fun q => !decide (q.1 = Sum.inr x)) = intK (((rowOf p.rows y).filter fun z => !decide (z = x)).map fun x => (x, (1 : Int))) := by
        rw [← one_drop]
        exact drop_map V.int _
      rw [upd_upd, e1]
      generalize ((rowOf p.rows y).filter fun z => !decide (z = x)) = r' at hres ⊢
      have k1 : Same H1 (upd H1 q (.frz od (.dK (intK (r'.map fun x => (x, (1 : Int))))))) := same_new hq
      have hp1 : Fz (upd H1 q (.frz od (.dK (intK (r'.map fun x => (x, (1 : Int))))))) q (.dK (intK (r'.map fun x => (x, (1 : Int))))) := ⟨od, upd_same⟩
      generalize upd H1 q (.frz od (.dK (intK (r'.map fun x => (x, (1 : Int)))))) = H2 at k1 hp1 ⊢
      have C2 := C.keep k1
      refine ⟨_, rfl, c, CC, d1, _, _, rfl, C2.i, T.ct.cl, T.ct.n1, ctF_c _ _ _, _, rfl, c, CC, d1, _, _, rfl, C2.i, T.ct.cl, T.ct.n2, ctF_r _ _ _, _, rfl, _, rfl, ?_⟩
      have := hwf.lk
      refine ⟨ar, refK rs, Sum.inr y, .ref q, rfl, C2.r.rd, by rw [refK_len, hlr, sizeLine_eq]; omega, fun p2 hp2 => ⟨p2, _, rfl, upd_same, True.intro, fun od2 => ?_⟩⟩
      rw [upd_upd, refK_put (by rw [hks]; exact hy)]
      have k2 : Same H2 (upd H2 p2 (.frz od2 (.dK (refK (setRow rs y q))))) := same_new hp2
      have hp3 : Fz (upd H2 p2 (.frz od2 (.dK (refK (setRow rs y q))))) p2 (.dK (refK (setRow rs y q))) := ⟨od2, upd_same⟩
      generalize upd H2 p2 (.frz od2 (.dK (refK (setRow rs y q)))) = H3 at k2 hp3 ⊢
      have C3 := C2.keep k2
      refine ⟨_, rfl, c, CC, d1, _, _, rfl, C3.i, T.ct.cl, T.ct.n3, ctF_k _ _ _, ?_⟩
      refine mk_ct fun b dy H4 s4 hb => hres b H4 (((s1.trans k1).trans k2).trans s4) ?_
      rw [ctP_set]
      exact ⟨dy, ac, p2, ak, setRow rs y q, hb, (C3.keep s4).c, hp3.keep s4, pair_set (fun p q z => z.1) (fun z e => ⟨rfl, (hp1.keep k2).keep s4⟩) (C3.keep s4).p, (C3.keep s4).k⟩
end
end Bo
set_option Elab.async false
set_option linter.all false
set_option maxRecDepth 100000
set_option maxHeartbeats 4000000
namespace Bo
open PySem PySem.Spec PyProof.Rows L2
theorem sw_trueD {kx vx : Expr} {gs : List Comprehension} {scope : Scope} {pos py : Pos} {y : Str} {l : Nat} {env : Env} (hk : env.scope.kind = .function) (hy : env.scope.names.lookup y = some .local) (hl : (py.line == pos.line) = true)
    (ha : (scope.names.any fun (n, k) => n == y && (k == .local || k == .cell)) = false) : swapsWith (.DictComp kx vx gs scope pos) (some (.Name y py)) l env = pure true := by
  have ky : env.kindOf y = some .local := hy
  have hb : env.blockKind = .function := by unfold Env.blockKind; rw [hk]; rfl
  unfold swapsWith
  simp only [hb, ky, ha, Expr.pos, hl]
  rfl
theorem ps_setDcFz {X : Cx} {i : Nat} {y : Str} {py : Pos} {kx vx tg iter : Expr} {ifs : List Expr} {scope : Scope} {own : List (Str × Nat)} {pos spos : Pos} {wi : TI} {g : TG} {tt : TT} {tk tv : TE} (hc : X.calm = true) (hN : X.N.Nodup) (hy : X.N[i]? = some y) (hyl : X.env.scope.names.lookup y = some .local)
    (hsw : swapsWith (.DictComp kx vx [⟨tg, iter, ifs, 0⟩] scope pos) (some (.Name y py)) spos.line X.env = pure true) (hi : PI X tg iter wi) (ok : BlkOk X.N X.env.scope scope own)
    (hg : ∀ (s : Shared) (H : Hp) (C : Addr) (cl : List (Str × Addr)) (fp : List Addr), PG (X.blk s H scope (compEnvC scope cl C X.env) fp) tg g) (ht : ∀ (s : Shared) (H : Hp) (C : Addr) (cl : List (Str × Addr)) (fp : List Addr), PTs (X.blk s H scope (compEnvC scope cl C X.env) fp) ifs tt)
    (hkx : ∀ (s : Shared) (H : Hp) (C : Addr) (cl : List (Str × Addr)) (fp : List Addr), PE (X.blk s H scope (compEnvC scope cl C X.env) fp) kx tk)
    (he : ∀ (s : Shared) (H : Hp) (C : Addr) (cl : List (Str × Addr)) (fp : List Addr), PE (X.blk s H scope (compEnvC scope cl C X.env) fp) vx tv) (hs : ∀ x, foldedSetIterable iter X.env x = pure x := by intro _; rfl) :
    PS X (.Assign [.Name y py] (.DictComp kx vx [⟨tg, iter, ifs, 0⟩] scope pos) spos) (tAsg (tFz (tDc wi g tt tk tv (own.map (·.2)))) (gName i)) := by
  refine ⟨fun pins s σ H D I h => ?_⟩
  rw [exec_Assign_Name_used _ _ _ _ hsw]
  refine wpAny_bind (wpAny_standAt (wpAny_bind ?_))
  show wpAny _ X.A (do let _ ← comprehension (.DictComp kx vx [⟨tg, iter, ifs, 0⟩] scope pos) scope X.env (firstIterPos [⟨tg, iter, ifs, 0⟩] pos) newDict false (eval iter X.env) (some (assign (.Name y py) X.env))) _ _ s
  have h : tDc wi g tt tk tv (own.map (·.2)) σ H (fun x H1 => ∃ d u, x = .ref d ∧ H1 d = some u ∧ Mut (some u) ∧ ∀ od, gName i x σ (upd H1 d (.frz od u)) D.nx) := h
  refine wpAny_bind (thn (dc_core (Qf := fun _ s' => SP X pins D .next s') hc hN I hi ok hg ht hkx he hs h fun L C s' m H' I' q hn f => ?_) fun _ s' hq => wpAny_pure (wpAny_pure hq))
  show wpAny _ _ (assign (.Name y py) X.env (.ref L)) _ _ _
  refine wpAny_assign_Name (store_ok2 (v := V.ref L) I' hN hy (.inl hyl) rfl (fun s2 I2 ⟨a, sb, ha⟩ => ?_) (.inr hyl))
  obtain ⟨f0, f1, f2, f3, f4, f5⟩ := f
  have haC : C ≠ a := by
    rcases ha with z | z
    · rw [z]; exact f1
    · exact fun e => f4 y a z e.symm
  refine ⟨m, hn.sameBut sb haC, fun h3 sb3 => ?_⟩
  obtain ⟨d, u, e, hd, mu, q⟩ := q
  obtain ⟨od, I3⟩ := (I2.turned (t' := s2.toks) (fun b o hb e => (sb3.2 b hb).trans e) f0 f1 f3 f4 f5).lock hd mu
  exact ⟨_, _, I3, q od⟩
end Bo
set_option Elab.async false
set_option linter.all false
set_option maxRecDepth 100000
set_option maxHeartbeats 8000000
namespace Bo
open PySem L2
abbrev sWoU : Stmt := top 40
theorem srt_filter (f : Str → Bool) (xs : List Str) : srt (xs.filter f) = (srt xs).filter f := sort_one (srt_pair _) ((srt_pair xs).filter _) ((srt_perm _).trans ((srt_perm xs).symm.filter f))
theorem ctP_dropE (p : Pl) (y : Str) : ctP { p with rows := dropRow p.rows y } = { ctP p with rows := dropRow (ctP p).rows y, cons := dropRow (ctP p).cons y } := by
  unfold ctP dropRow
  congr 1 <;> (rw [List.filter_map]; rfl)
theorem ctP_dropU (p : Pl) (x : Str) : ctP { rows := p.rows.map fun r => (r.1, r.2.filter fun z => !decide (z = x)), us := p.us.filter fun z => !decide (z = x) } = { cols := (ctP p).cols.filter fun z => !decide (z = x), rows := (ctP p).rows.map fun r => (r.1, dropRow r.2 x), cons := (ctP p).cons } := by
  unfold ctP
  congr 1
  · exact srt_filter _ _
  · rw [List.map_map, List.map_map]
    refine List.map_congr_left fun r _ => ?_
    show (r.1, _) = (r.1, _)
    congr 1
    exact (one_drop x r.2).symm
  · rw [List.map_map]
    rfl
theorem chkU_one {p : Pl} {u : Arg} : chkU p.us [u] = if u.inT p.us = true then none else some (2, itemD kUn u) := by
  unfold chkU lackA
  rw [List.find?_cons]
  cases h : u.inT p.us with
  | true =>
    rw [if_pos rfl]
    cases u with
    | nm x => rfl
    | od d => cases h
  | false =>
    rw [if_neg Bool.false_ne_true]
    rfl
theorem paired_mapl {α β γ : Type} {F : γ → β → Prop} {g : α → γ} : ∀ {l : List α} {m : List β}, Paired (fun a b => F (g a) b) l m → Paired F (l.map g) m
  | _, _, .nil => .nil
  | _, _, .cons h t => .cons h (paired_mapl t)
def spRmEX (K : PySem.W.Frag) (CC : Addr) (cs : Nat → Addr) : Sp := fun vs H Q E => ∃ (c : Addr) (p : Pl) (v : V) (e : Arg), vs = [.ref c, v] ∧ CtIn K CC H c (ctP p) ∧ PlWf p ∧ AV K H v e ∧ EdRes K CC cs E H Q (edP p (.rmE e))
def spRmUX (K : PySem.W.Frag) (CC : Addr) (cs : Nat → Addr) : Sp := fun vs H Q E => ∃ (c : Addr) (p : Pl) (v : V) (e : Arg), vs = [.ref c, v] ∧ CtIn K CC H c (ctP p) ∧ PlWf p ∧ AV K H v e ∧ EdRes K CC cs E H Q (edP p (.rmU e))
section
variable {P : Program} {w : World} {K : PySem.W.Frag} {mg : Str → Option Value} {base : Heap} {CC fCI CB : Addr} {cs fs : Nat → Addr} {fds : Nat → FuncData}
theorem ok_woeX {f fN fR : Addr} {fd fdN fdCI fdR : FuncData} (F : Fun K "without_equation" "without_equation" sWoE f fd) (T : TxtE K mg CC fCI)
    (GN : FnOk P w K mg base (L2N.CX P w) 6 fN fdN ["contents", "equation"] (spCEX K CC cs)) (mN : mg "check_equation" = some (.ref fN)) (kN : PySem.W.keepIn K (.ref fN) = true) (bN : Binds K fdN ["contents", "equation"] [])
    (GR : FnOk P w K mg base CX0 1 fR fdR ["table", "key"] spRemoved) (mR : mg "removed" = some (.ref fR)) (kR : PySem.W.keepIn K (.ref fR) = true) (bR : Binds K fdR ["table", "key"] [])
    (GC : FnOk P w K mg base CX0 1 fCI fdCI ["self", "columns", "rows", "constants"] (spCtInit CC)) (bC : Binds K fdCI ["self", "columns", "rows", "constants"] []) :
    FnOk P w K mg base (L2N.CX P w) 7 f fd ["contents", "name"] (spRmEX K CC cs) := by
  refine F.okN scWo (fun vs H Q E h => ?_) (fun cdv A outer s H vs Q E hr h => ?_)
  · obtain ⟨c, p, v, e, rfl, _⟩ := h
    rfl
  · obtain ⟨c, p, v, e, rfl, hC, hwf, hv, hres⟩ := h
    have hr1 : Room 1 _ := hr.mono (by decide)
    have hr2 : Room 2 _ := hr.mono (by decide)
    refine ⟨_, pss_cons (ps_expr (pe_call GN hr rfl mN kN bN .nil (L2N.passes_call (L2N.takes_of rfl rfl rfl rfl) (fun _ _ _ _ h => h)) (pa_cons (pv 0) (pa_cons (pv 1) pa_nil))))
      (pss_one (ps_ret (pe_make T.ct.mkC GC hr2 rfl T.ct.g bC .nil pass0 (pa_cons (pe_fld (pv 0) rfl) (pa_cons (pe_fz (pe_call GR hr1 rfl mR kR bR .nil pass0 (pa_cons (pe_fld (pv 0) rfl) (pa_cons (pv 1) pa_nil)))) (pa_cons (pe_fz (pe_call GR hr1 rfl mR kR bR .nil pass0 (pa_cons (pe_fld (pv 0) rfl) (pa_cons (pv 1) pa_nil)))) pa_nil)))))), ?_⟩
    refine ⟨_, rfl, _, rfl, c, p, v, e, rfl, hC, hv, ?_⟩
    unfold edP at hres
    dsimp only at hres
    unfold chkE
    cases e with
    | od d => exact hres
    | nm y =>
    have hv' : v = .str y := by cases hv; rfl
    subst hv'
    dsimp only at hres
    by_cases hy : y ∈ p.keys
    case neg =>
      rw [if_neg hy] at hres
      rw [if_neg (by rw [show Arg.inT p.keys (.nm y) = false from decide_eq_false hy]; exact Bool.false_ne_true)]
      exact hres
    rw [if_pos hy] at hres
    rw [if_pos (show Arg.inT p.keys (.nm y) = true from decide_eq_true hy)]
    intro H1 s1
    obtain ⟨d1, ac, ar, ak, rs, C⟩ := hC.keep s1
    obtain ⟨hks, hlr, _⟩ := row_at hwf C hy
    have := hwf.lk
    have ik : (intK (ctP p).cons).map (·.1) = p.keys.map Sum.inr := by
      rw [← ctP_cons]
      unfold intK
      rw [List.map_map, List.map_map]
      rfl
    have hkl : (intK (ctP p).cons).length = p.rows.length := by unfold intK ctP; rw [List.length_map, List.length_map]
    refine ⟨_, rfl, c, CC, d1, _, _, rfl, C.i, T.ct.cl, T.ct.n1, ctF_c _ _ _, _, rfl, c, CC, d1, _, _, rfl, C.i, T.ct.cl, T.ct.n2, ctF_r _ _ _, _, rfl, ?_⟩
    refine ⟨ar, refK rs, rs.map (·.1), y, rfl, C.r, refK_keys rs, by rw [hks]; exact hwf.k, by rw [refK_len, hlr]; omega, fun p1 hp => ⟨p1, _, rfl, upd_same, True.intro, fun od => ?_⟩⟩
    have e1 : ((refK rs).filter fun q => !decide (q.1 = Sum.inr y)) = refK (dropRow rs y) := drop_map V.ref rs
    rw [upd_upd, e1]
    have k1 : Same H1 (upd H1 p1 (.frz od (.dK (refK (dropRow rs y))))) := same_new hp
    have hp1 : Fz (upd H1 p1 (.frz od (.dK (refK (dropRow rs y))))) p1 (.dK (refK (dropRow rs y))) := ⟨od, upd_same⟩
    generalize upd H1 p1 (.frz od (.dK (refK (dropRow rs y)))) = H2 at k1 hp1 ⊢
    have C2 := C.keep k1
    refine ⟨_, rfl, c, CC, d1, _, _, rfl, C2.i, T.ct.cl, T.ct.n3, ctF_k _ _ _, _, rfl, ?_⟩
    refine ⟨ak, intK (ctP p).cons, p.keys, y, rfl, C2.k, ik, hwf.k, by rw [hkl]; omega, fun p2 hp2 => ⟨p2, _, rfl, upd_same, True.intro, fun od2 => ?_⟩⟩
    have e2 : ((intK (ctP p).cons).filter fun q => !decide (q.1 = Sum.inr y)) = intK (dropRow (ctP p).cons y) := drop_map V.int (ctP p).cons
    rw [upd_upd, e2]
    have k2 : Same H2 (upd H2 p2 (.frz od2 (.dK (intK (dropRow (ctP p).cons y))))) := same_new hp2
    have hp3 : Fz (upd H2 p2 (.frz od2 (.dK (intK (dropRow (ctP p).cons y))))) p2 (.dK (intK (dropRow (ctP p).cons y))) := ⟨od2, upd_same⟩
    generalize upd H2 p2 (.frz od2 (.dK (intK (dropRow (ctP p).cons y)))) = H3 at k2 hp3 ⊢
    have C3 := C2.keep k2
    refine mk_ct fun b dy H4 s4 hb => hres b H4 (((s1.trans k1).trans k2).trans s4) ?_
    rw [ctP_dropE]
    exact ⟨dy, ac, p1, p2, dropRow rs y, hb, (C3.keep s4).c, (hp1.keep k2).keep s4, pair_drop (fun p q z => z.1) (C3.keep s4).p, hp3.keep s4⟩
theorem scWoU : FnScope ["contents", "name", "columns", "rows", "column", "equation"] ["contents", "name"] (defScope sWoU) := ⟨rfl, rfl, rfl, by decide +kernel, rfl, by decide +kernel, by decide +kernel⟩
theorem ok_wouX {f fN fR : Addr} {fd fdN fdCI fdR : FuncData} (F : Fun K "without_unknown" "without_unknown" sWoU f fd) (T : TxtE K mg CC fCI)
    (GU : FnOk P w K mg base (L2N.CX P w) 6 fN fdN ["known", "unknowns"] (spCUX K cs)) (mU : mg "check_unknowns" = some (.ref fN)) (kU : PySem.W.keepIn K (.ref fN) = true) (bU : Binds K fdN ["known", "unknowns"] [])
    (GR : FnOk P w K mg base CX0 1 fR fdR ["table", "key"] spRemoved) (mR : mg "removed" = some (.ref fR)) (kR : PySem.W.keepIn K (.ref fR) = true) (bR : Binds K fdR ["table", "key"] [])
    (GC : FnOk P w K mg base CX0 1 fCI fdCI ["self", "columns", "rows", "constants"] (spCtInit CC)) (bC : Binds K fdCI ["self", "columns", "rows", "constants"] []) :
    FnOk P w K mg base (L2N.CX P w) 7 f fd ["contents", "name"] (spRmUX K CC cs) := by
  refine F.okN scWoU (fun vs H Q E h => ?_) (fun cdv A outer s H vs Q E hr h => ?_)
  · obtain ⟨c, p, v, e, rfl, _⟩ := h
    rfl
  · obtain ⟨c, p, v, e, rfl, hC, hwf, hv, hres⟩ := h
    have hr1 : Room 1 _ := hr.mono (by decide)
    have hr2 : Room 2 _ := hr.mono (by decide)
    have hu := hu_of hr
    refine ⟨_, pss_cons (ps_expr (pe_call GU hr rfl mU kU bU .nil (L2N.passes_call (L2N.takes_of rfl rfl rfl rfl) (fun _ _ _ _ h => h)) (pa_cons (pe_fld (pv 0) rfl) (pa_cons (pe_lst (pa_cons (pv 1) pa_nil)) pa_nil))))
      (pss_cons (ps_set (i := 2) scWoU.nd rfl (.inl rfl) (pe_callTy call_tuple_of (by rfl) T.tup (by decide +kernel) (pa_cons
        (pe_lc (own := [("column", 4)]) (g := gName 4) rfl scWoU.nd (pi_tup (pe_fld (pv 0) rfl)) (blkOk_by (N := ["contents", "name", "columns", "rows", "column", "equation"]) (sc := defScope sWoU) (by decide +kernel)) (fun _ _ _ _ _ => pg_name (i := 4) scWoU.nd rfl (Or.inl rfl)) (fun _ _ _ _ _ => pts_one (pt_cmpR op_ne (pv 4) (pv 1) (nomark _)))
            (fun _ _ _ _ _ => pv 4)) pa_nil)))
      (pss_cons (ps_setDcFz (i := 3) (own := [("equation", 5)]) (g := gName 5) (tt := tYes) (tv := tFz (tCall spRemoved [] E0 (tCons (tDGet (tFld K (tVar 0) "rows") (tVar 5)) (tCons (tVar 1) tNil)))) rfl scWoU.nd rfl rfl (sw_trueD rfl rfl rfl (by decide +kernel)) (pi_keys (pe_fld (pv 0) rfl)) (blkOk_by (N := ["contents", "name", "columns", "rows", "column", "equation"]) (sc := defScope sWoU) (by decide +kernel)) (fun _ _ _ _ _ => pg_name (i := 5) scWoU.nd rfl (Or.inl rfl))
          (fun _ _ _ _ _ => pts_nil) (fun _ _ _ _ _ => pv 5) (fun _ _ _ _ _ => pe_fz (pe_call GR hr1 rfl mR kR bR .nil pass0 (pa_cons (pe_dget hu (pe_fld (pv 0) rfl) (pv 5) (fun _ _ => rfl)) (pa_cons (pv 1) pa_nil)))))
      (pss_one (ps_ret (pe_make T.ct.mkC GC hr2 rfl T.ct.g bC .nil pass0 (pa_cons (pv 2) (pa_cons (pv 3) (pa_cons (pe_fld (pv 0) rfl) pa_nil)))))))), ?_⟩
    obtain ⟨d0, ac, ar, ak, rs, C⟩ := hC
    refine ⟨_, rfl, c, CC, d0, _, _, rfl, C.i, T.ct.cl, T.ct.n1, ctF_c _ _ _, _, rfl, by show 1 ≤ sizeLine; decide, fun l hl => ?_⟩
    have sl : Same H (upd H l (.lst [v])) := same_new hl
    refine ⟨ac, l, srt p.us, [v], [e], rfl, SqT.keep C.c sl, upd_same, .cons (hv.keep sl) .nil, ?_⟩
    rw [chkU_srt, chkU_one]
    unfold edP at hres
    dsimp only at hres
    cases e with
    | od d => exact Thrown2.later hres sl
    | nm x =>
    have hv' : v = .str x := by cases hv; rfl
    subst hv'
    dsimp only at hres
    by_cases hx : x ∈ p.us
    case neg =>
      rw [if_neg hx] at hres
      rw [if_neg (by rw [show Arg.inT p.us (.nm x) = false from decide_eq_false hx]; exact Bool.false_ne_true)]
      exact Thrown2.later hres sl
    rw [if_pos hx] at hres
    rw [if_pos (show Arg.inT p.us (.nm x) = true from decide_eq_true hx)]
    intro H1 s1
    replace s1 := sl.trans s1
    have C1 := C.keep s1
    refine ⟨_, rfl, c, CC, d0, _, _, rfl, C1.i, T.ct.cl, T.ct.n1, ctF_c _ _ _, ac, rfl, ⟨_, C1.c⟩, fun D hD => ?_⟩
    have kD : ∀ us : List V, Same H1 (upd H1 D (.lst us)) := fun us => same_new hD
    have lu := srt_len p.us
    have := hwf.lu
    refine lc_tup (xs := (srt p.us).map V.str) (fun i H' => H' = upd H1 D (.lst ((((srt p.us).take i).filter fun z => !decide (z = x)).map V.str))) rfl (fun i H' _ e => by rw [e]; exact SqT.keep C1.c (kD _)) ?_ ?_
    · rintro i u H' hu rfl
      rw [List.getElem?_map] at hu
      obtain ⟨z, hz, rfl⟩ := Option.map_eq_some_iff.mp hu
      have li := (List.getElem?_eq_some_iff.mp hz).1
      refine ⟨rfl, _, rfl, _, rfl, rfl, _, rfl, ?_⟩
      have ez : (!decide (V.str z = V.str x)) = (!decide (z = x)) := by
        by_cases c : z = x
        · rw [c, decide_eq_true rfl, decide_eq_true rfl]
        · rw [decide_eq_false (fun e => c (V.str.inj e)), decide_eq_false c]
      show (if (!decide (V.str z = V.str x)) = true then _ else _)
      rw [ez]
      refine ite2 (fun c => ?_) (fun c => ?_)
      · refine ⟨_, rfl, _, upd_same, ?_, ?_⟩
        · have l1 := List.length_filter_le (fun z : Str => !decide (z = x)) ((srt p.us).take i)
          rw [List.length_take] at l1
          rw [List.length_map, sizeLine_eq]
          omega
        · rw [upd_upd, take_snoc hz, List.filter_append, List.filter_cons, if_pos c, List.map_append]
          rfl
      · rw [take_snoc hz, List.filter_append, List.filter_cons, if_neg c, List.filter_nil, List.append_nil]
    rintro H' rfl
    rw [List.length_map, List.take_length]
    have sD := kD (((srt p.us).filter fun z => !decide (z = x)).map V.str)
    refine ⟨D, _, rfl, .inl ⟨SqL.of upd_same, fun t ht => ?_⟩⟩
    have sm2 := sD.trans (same_new (o := .tup (((srt p.us).filter fun z => !decide (z = x)).map V.str)) ht)
    have hT : (upd (upd H1 D (.lst (((srt p.us).filter fun z => !decide (z = x)).map V.str))) t (.tup (((srt p.us).filter fun z => !decide (z = x)).map V.str))) t = some (.tup (((srt p.us).filter fun z => !decide (z = x)).map V.str)) := upd_same
    generalize upd (upd H1 D (.lst (((srt p.us).filter fun z => !decide (z = x)).map V.str))) t (.tup (((srt p.us).filter fun z => !decide (z = x)).map V.str)) = H2 at sm2 hT ⊢
    have C2 := C1.keep sm2
    obtain ⟨ro, hro⟩ := C2.r
    have hks : rs.map (·.1) = p.keys := (pair_keys (fun p q z => z.1) C2.p).trans (ctP_keys p)
    have hlr : rs.length = p.rows.length := by
      have e := congrArg List.length hks
      unfold Pl.keys at e
      rw [List.length_map, List.length_map] at e
      exact e
    have ndk : ((refK rs).map (·.1)).Nodup := by
      rw [refK_keys, hks]
      exact List.pairwise_map.mpr (hwf.k.imp fun ne e => ne (Sum.inr.inj e))
    have := hwf.lk
    refine ⟨_, rfl, c, CC, d0, _, _, rfl, C2.i, T.ct.cl, T.ct.n2, ctF_r _ _ _, ar, ro, rfl, .inl ⟨refK rs, hro, fun D2 hD2 => ?_⟩⟩
    refine dc_go (walk_keys (kvs := refK rs)) (fun i H' => Same H2 H' ∧ ∃ ds : List (Str × Addr), H' D2 = some (.dK (refK ds)) ∧ Paired (fun (row : Str × List (Str × Int)) (d : Str × Addr) => row.1 = d.1 ∧ Fz H' d.2 (.dK (intK (dropRow row.2 x)))) ((ctP p).rows.take i) ds) ⟨same_new hD2, [], upd_same, .nil⟩ (fun i H' _ e => e.1 _ _ hro) ?_ ?_
    · rintro i u H3 H' hi ⟨s3, ds, hds, pds⟩ y0
      obtain ⟨eH, kk, v, hkv, rfl⟩ := y0
      subst eH
      obtain ⟨z, dz, hzi, rfl, rfl⟩ : ∃ z dz, rs[i]? = some (z, dz) ∧ kk = Sum.inr z ∧ v = V.ref dz := by
        unfold refK at hkv
        rw [List.getElem?_map] at hkv
        obtain ⟨zd, h1, h2⟩ := Option.map_eq_some_iff.mp hkv
        exact ⟨zd.1, zd.2, h1, (congrArg Prod.fst h2).symm, (congrArg Prod.snd h2).symm⟩
      have C3 := C2.keep s3
      obtain ⟨r0, hr0, hd⟩ : ∃ r0, p.rows[i]? = some (z, r0) ∧ Fz H' dz (.dK (intK (r0.map fun x => (x, (1 : Int))))) := by
        obtain ⟨⟨y', r⟩, hrow, hrn, hd⟩ := pair_at C3.p hzi
        unfold ctP at hrow
        rw [List.getElem?_map] at hrow
        obtain ⟨⟨y2, r0⟩, h1, h2⟩ := Option.map_eq_some_iff.mp hrow
        have e1 : y2 = y' := congrArg Prod.fst h2
        have e2 : r0.map _ = r := congrArg Prod.snd h2
        have e3 : y' = z := hrn
        subst e1 e2 e3
        exact ⟨r0, h1, hd⟩
      have hrm : (z, r0) ∈ p.rows := List.mem_of_getElem? hr0
      have hnr : r0.Nodup := (hwf.r _ hrm).1
      have hlr0 : r0.length ≤ 24 := hwf.row hrm
      have hvz : valV (refK rs) (Sum.inr z) = some (V.ref dz) := valV_at ndk hkv
      refine ⟨rfl, _, rfl, _, rfl, c, CC, d0, _, _, rfl, C3.i, T.ct.cl, T.ct.n2, ctF_r _ _ _, _, rfl, ar, _, rfl, .inl ⟨_, Sum.inr z, C3.r.rd, rfl, hvz.symm⟩, _, rfl, ?_⟩
      refine ⟨dz, _, r0, x, rfl, hd, ?_, hnr, by rw [intK_len, List.length_map]; omega, fun q hq => ⟨q, _, rfl, upd_same, True.intro, fun od => ?_⟩⟩
      · unfold intK
        rw [List.map_map, List.map_map]
        rfl
      have e1 : ((intK (r0.map fun x => (x, (1 : Int)))).filter fun q => !decide (q.1 = Sum.inr x)) = intK (dropRow (r0.map fun x => (x, (1 : Int))) x) := drop_map V.int _
      rw [upd_upd, e1]
      have k1 : Same H' (upd H' q (.frz od (.dK (intK (dropRow (r0.map fun x => (x, (1 : Int))) x))))) := same_new hq
      have hp1 : Fz (upd H' q (.frz od (.dK (intK (dropRow (r0.map fun x => (x, (1 : Int))) x))))) q (.dK (intK (dropRow (r0.map fun x => (x, (1 : Int))) x))) := ⟨od, upd_same⟩
      generalize upd H' q (.frz od (.dK (intK (dropRow (r0.map fun x => (x, (1 : Int))) x)))) = H4 at k1 hp1 ⊢
      have hds4 := k1 _ _ hds
      have pds4 := Paired.mapP pds fun row d h => (⟨h.1, h.2.keep k1⟩ : row.1 = d.1 ∧ Fz H4 d.2 (.dK (intK (dropRow row.2 x))))
      have li : i < p.rows.length := (List.getElem?_eq_some_iff.mp hr0).1
      have lds : ds.length ≤ i := by
        rw [← pds.length, List.length_take]
        exact Nat.min_le_left _ _
      have hcr : (ctP p).rows[i]? = some (z, r0.map fun x => (x, (1 : Int))) := by
        unfold ctP
        rw [List.getElem?_map, hr0]
        rfl
      have kds : ds.map (·.1) = ((ctP p).rows.take i).map (·.1) := pair_keys (fun p q h => h.1) pds
      have hzo : z ∉ ds.map (·.1) := by
        rw [kds, List.map_take, ctP_keys]
        intro m
        obtain ⟨j, hj⟩ := List.mem_iff_getElem?.mp m
        rw [List.getElem?_take] at hj
        split at hj
        · rename_i lt
          have hzk : p.keys[i]? = some z := by unfold Pl.keys; rw [List.getElem?_map, hr0]; rfl
          have := (List.getElem?_eq_some_iff.mp hj).1
          exact absurd ((List.getElem?_inj this hwf.k).mp (hj.trans hzk.symm)) (by omega)
        · cases hj
      have fzk : ∀ {o : HO} {d u}, Fz H4 d u → Fz (upd H4 D2 o) d u := fun {o d u} ⟨o1, e⟩ => ⟨o1, by
        rw [upd_ne fun z => by rw [z, hds4] at e; cases e]
        exact e⟩
      refine ⟨refK ds, Sum.inr z, rfl, hds4, by rw [refK_len, sizeLine_eq]; omega, fun b o e => ?_, ds ++ [(z, q)], ?_, ?_⟩
      · rw [upd_ne (ne_of_none e hD2)]
        exact k1 _ _ (s3 _ _ e)
      · rw [upd_same, putK_new _ (refK_out hzo)]
        unfold refK
        rw [List.map_append]
        rfl
      · rw [take_snoc hcr]
        exact (Paired.mapP pds4 fun row d h => (⟨h.1, fzk h.2⟩ : row.1 = d.1 ∧ Fz _ d.2 (.dK (intK (dropRow row.2 x))))).snoc ⟨rfl, fzk hp1⟩
    · rintro H' ⟨s3, ds, hds, pds⟩
      have e0 : (refK rs).length = (ctP p).rows.length := by
        unfold ctP
        rw [refK_len, hlr, List.length_map]
      rw [e0, List.take_length] at pds
      refine ⟨D2, _, rfl, hds, True.intro, fun od => ?_⟩
      have kk : ∀ b o, H' b = some o → b ≠ D2 → upd H' D2 (.frz od (.dK (refK ds))) b = some o := fun b o e n => by
        rw [upd_ne n]
        exact e
      have s4 : Same H2 (upd H' D2 (.frz od (.dK (refK ds)))) := fun b o e => kk _ _ (s3 _ _ e) (ne_of_none e hD2)
      have hF : Fz (upd H' D2 (.frz od (.dK (refK ds)))) D2 (.dK (refK ds)) := ⟨od, upd_same⟩
      have pds4 := Paired.mapP pds fun row d h => (⟨h.1, let ⟨o1, e⟩ := h.2; ⟨o1, kk _ _ e fun z => by rw [z, hds] at e; cases e⟩⟩ : row.1 = d.1 ∧ Fz (upd H' D2 (.frz od (.dK (refK ds)))) d.2 (.dK (intK (dropRow row.2 x))))
      generalize upd H' D2 (.frz od (.dK (refK ds))) = H5 at s4 hF pds4 ⊢
      have C5 := C2.keep s4
      refine ⟨_, rfl, _, rfl, _, rfl, c, CC, d0, _, _, rfl, C5.i, T.ct.cl, T.ct.n3, ctF_k _ _ _, ?_⟩
      refine mk_ct fun b dy H6 s6 hb => hres b H6 ((s1.trans (sm2.trans s4)).trans s6) ?_
      rw [ctP_dropU]
      refine ⟨dy, t, D2, ak, ds, hb, SqT.of (s6 _ _ (s4 _ _ hT)), hF.keep s6, paired_mapl (Paired.mapP pds4 fun row d h => ⟨h.1, h.2.keep s6⟩), (C5.keep s6).k⟩
end
end Bo
set_option Elab.async false
set_option linter.all false
set_option maxRecDepth 100000
set_option maxHeartbeats 8000000
namespace Bo
open PySem L2
/-- at s stands a System; bs: what its open transactions began with, hs: what its changes began with -/
structure SgAt (CS : Addr) (H : Hp) (s dx c b h : Addr) (bs hs : List V) : Prop where
  i : H s = some (.ins CS dx (syF c b h))
  b : H b = some (.lst bs)
  h : H h = some (.lst hs)
/-- all that a Contents consists of stays -/
structure Calm (CC : Addr) (H H' : Hp) : Prop where
  i : ∀ a d ac ar ak, H a = some (.ins CC d (ctF ac ar ak)) → H' a = some (.ins CC d (ctF ac ar ak))
  t : ∀ a xs, H a = some (.tup xs) → H' a = some (.tup xs)
  f : ∀ a o u, H a = some (.frz o u) → H' a = some (.frz o u)
theorem Calm.of {CC : Addr} {H H' : Hp} (k : Same H H') : Calm CC H H' := ⟨fun _ _ _ _ _ e => k _ _ e, fun _ _ e => k _ _ e, fun _ _ _ e => k _ _ e⟩
theorem Calm.but {CC t : Addr} {H H' : Hp} {kvs : List (Key × V)} (ht : H t = some (.dK kvs)) (k : But t H H') : Calm CC H H' :=
  ⟨fun _ _ _ _ _ e => k _ _ e (ne_of e ht (by intro z; cases z)), fun _ _ e => k _ _ e (ne_of e ht (by intro z; cases z)), fun _ _ _ e => k _ _ e (ne_of e ht (by intro z; cases z))⟩
theorem ct_ne_sy {CC CS : Addr} {H : Hp} {a s d dx ac ar ak c b h : Addr} (e : H a = some (.ins CC d (ctF ac ar ak))) (q : H s = some (.ins CS dx (syF c b h))) : a ≠ s := fun z => by
  rw [z, q] at e
  injection e with e
  injection e with _ _ e
  have l1 := ctF_c ac ar ak
  rw [← e, syF_no _ _ _ (by decide +kernel) (by decide +kernel) (by decide +kernel)] at l1
  cases l1
theorem Calm.off {CC CS : Addr} {H H' : Hp} {s dx c b h : Addr} {bs hs : List V} (Y : SgAt CS H s dx c b h bs hs) (o : Off [s, b, h] H H') : Calm CC H H' := by
  have no : ∀ q, q ≠ s → q ≠ b → q ≠ h → q ∉ [s, b, h] := fun q n1 n2 n3 z => by
    rcases List.mem_cons.mp z with z | z
    · exact n1 z
    · rcases List.mem_cons.mp z with z | z
      · exact n2 z
      · exact n3 (List.mem_singleton.mp z)
  exact ⟨fun a d ac ar ak e => o _ _ e (no _ (ct_ne_sy e Y.i) (ne_of e Y.b (by intro z; cases z)) (ne_of e Y.h (by intro z; cases z))),
    fun a xs e => o _ _ e (no _ (ne_of e Y.i (by intro z; cases z)) (ne_of e Y.b (by intro z; cases z)) (ne_of e Y.h (by intro z; cases z))),
    fun a ob u e => o _ _ e (no _ (ne_of e Y.i (by intro z; cases z)) (ne_of e Y.b (by intro z; cases z)) (ne_of e Y.h (by intro z; cases z)))⟩
theorem SqT.calm {K : PySem.W.Frag} {CC : Addr} {H H' : Hp} {a : Addr} {xs : List V} (h : SqT K H a xs) (k : Calm CC H H') : SqT K H' a xs := by
  rcases h with (e | ⟨o, e⟩) | e
  · exact .inl (.inl (k.t _ _ e))
  · exact .inl (.inr ⟨o, k.f _ _ _ e⟩)
  · exact .inr e
theorem Fz.calm {CC : Addr} {H H' : Hp} {a : Addr} {u : HO} (h : Fz H a u) (k : Calm CC H H') : Fz H' a u := let ⟨o, e⟩ := h; ⟨o, k.f _ _ _ e⟩
theorem CtIn.calm {K : PySem.W.Frag} {CC : Addr} {H H' : Hp} {a : Addr} {S : Ct} (h : CtIn K CC H a S) (k : Calm CC H H') : CtIn K CC H' a S :=
  let ⟨dx, ac, ar, ak, rs, C⟩ := h
  ⟨dx, ac, ar, ak, rs, ⟨k.i _ _ _ _ _ C.i, SqT.calm C.c k, C.r.calm k, Paired.mapP C.p fun p q z => ⟨z.1, z.2.calm k⟩, C.k.calm k⟩⟩
def CtV (K : PySem.W.Frag) (CC : Addr) (H : Hp) (S : Ct) (v : V) : Prop := ∃ a, v = .ref a ∧ CtIn K CC H a S
theorem ctV_calm {K : PySem.W.Frag} {CC : Addr} {H H' : Hp} {Bs : List Ct} {bs : List V} (p : Paired (CtV K CC H) Bs bs) (k : Calm CC H H') : Paired (CtV K CC H') Bs bs := Paired.mapP p fun _ _ ⟨a, e, z⟩ => ⟨a, e, z.calm k⟩
/-- a System stands at s; H0 is as it was, and knows nothing of it -/
def SyG (K : PySem.W.Frag) (CC CS : Addr) (H0 H : Hp) (s : Addr) (S : Ct) (Bs Hs : List Ct) : Prop := ∃ dx c b h bs hs, SgAt CS H s dx c b h bs hs ∧ CtIn K CC H c S ∧ Paired (CtV K CC H) Bs bs ∧ Paired (CtV K CC H) Hs hs ∧ h ≠ b ∧ H0 s = none ∧ H0 b = none ∧ H0 h = none ∧ Same H0 H
theorem SyG.same {K : PySem.W.Frag} {CC CS : Addr} {H0 H : Hp} {s : Addr} {S : Ct} {Bs Hs : List Ct} (h : SyG K CC CS H0 H s S Bs Hs) : Same H0 H := let ⟨_, _, _, _, _, _, _, _, _, _, _, _, _, _, e⟩ := h; e
theorem SyG.keep {K : PySem.W.Frag} {CC CS : Addr} {H0 H H' : Hp} {s : Addr} {S : Ct} {Bs Hs : List Ct} (h : SyG K CC CS H0 H s S Bs Hs) (k : Same H H') : SyG K CC CS H0 H' s S Bs Hs :=
  let ⟨dx, c, b, h, bs, hs, Y, C, p1, p2, e1, e2, e3, e4, e5⟩ := h
  ⟨dx, c, b, h, bs, hs, ⟨k _ _ Y.i, k _ _ Y.b, k _ _ Y.h⟩, C.keep k, ctV_calm p1 (.of k), ctV_calm p2 (.of k), e1, e2, e3, e4, e5.trans k⟩
/-- a smaller ground -/
theorem SyG.under {K : PySem.W.Frag} {CC CS : Addr} {G H0 H : Hp} {s : Addr} {S : Ct} {Bs Hs : List Ct} (h : SyG K CC CS H0 H s S Bs Hs) (k : Same G H0) : SyG K CC CS G H s S Bs Hs := by
  obtain ⟨dx, c, b, h, bs, hs, Y, C, p1, p2, e1, e2, e3, e4, e5⟩ := h
  have no : ∀ q, H0 q = none → G q = none := fun q e => by
    cases z : G q with
    | none => rfl
    | some o => rw [k _ _ z] at e; cases e
  exact ⟨dx, c, b, h, bs, hs, Y, C, p1, p2, e1, no _ e2, no _ e3, no _ e4, k.trans e5⟩
/-- a dict that the ground doesn't know is changed -/
theorem SyG.but {K : PySem.W.Frag} {CC CS : Addr} {H0 H H' : Hp} {s t : Addr} {S : Ct} {Bs Hs : List Ct} {kvs : List (Key × V)} (h : SyG K CC CS H0 H s S Bs Hs) (ht : H t = some (.dK kvs)) (h0 : H0 t = none) (k : But t H H') : SyG K CC CS H0 H' s S Bs Hs := by
  obtain ⟨dx, c, b, h, bs, hs, Y, C, p1, p2, e1, e2, e3, e4, e5⟩ := h
  have cm : Calm CC H H' := .but ht k
  exact ⟨dx, c, b, h, bs, hs, ⟨k _ _ Y.i (ne_of Y.i ht (by intro z; cases z)), k _ _ Y.b (ne_of Y.b ht (by intro z; cases z)), k _ _ Y.h (ne_of Y.h ht (by intro z; cases z))⟩, C.calm cm, ctV_calm p1 cm, ctV_calm p2 cm, e1, e2, e3, e4,
    fun q o e => k _ _ (e5 _ _ e) fun z => by rw [z, h0] at e; cases e⟩
/-- all but the things at s, b, h -/
def hide3 (s b h : Addr) (H : Hp) : Hp := fun q => if q = s ∨ q = b ∨ q = h then none else H q
/-- told anew from the heap at which it stands -/
theorem SyG.anew {K : PySem.W.Frag} {CC CS : Addr} {H0 H : Hp} {s : Addr} {S : Ct} {Bs Hs : List Ct} (Y : SyG K CC CS H0 H s S Bs Hs) :
    ∃ B, SyG K CC CS B H s S Bs Hs ∧ Same B H ∧ Same H0 B ∧ ∀ q o, H q = some o → (∀ C d f, o ≠ .ins C d f) → (∀ xs, o ≠ .lst xs) → B q = some o := by
  obtain ⟨dx, c, b, h, bs, hs, Y, C, p1, p2, e1, e2, e3, e4, e5⟩ := Y
  have sm : Same (hide3 s b h H) H := fun q o z => by
    unfold hide3 at z
    split at z
    · cases z
    · exact z
  refine ⟨hide3 s b h H, ⟨dx, c, b, h, bs, hs, Y, C, p1, p2, e1, if_pos (.inl rfl), if_pos (.inr (.inl rfl)), if_pos (.inr (.inr rfl)), sm⟩, sm, fun q o z => ?_, fun q o z n1 n2 => ?_⟩
  · refine (if_neg fun y => ?_).trans (e5 _ _ z)
    rcases y with y | y | y
    · rw [y, e2] at z; cases z
    · rw [y, e3] at z; cases z
    · rw [y, e4] at z; cases z
  · refine (if_neg fun y => ?_).trans z
    rcases y with y | y | y
    · rw [y, Y.i] at z
      exact n1 _ _ _ (Option.some.inj z).symm
    · rw [y, Y.b] at z
      exact n2 _ (Option.some.inj z).symm
    · rw [y, Y.h] at z
      exact n2 _ (Option.some.inj z).symm
/-- .. with what is left of the law's tape behind a call -/
theorem SyG.call {K : PySem.W.Frag} {CC CS : Addr} {H0 H : Hp} {s t c : Addr} {cs : List Int} {p l : Int} {o : HO} {S : Ct} {Bs Hs : List Ct} (Y : SyG K CC CS H0 H s S Bs Hs) (T : Tape H t c cs p l) (hc : H0 c = some o) :
    ∃ B, SyG K CC CS B H s S Bs Hs ∧ Same B H ∧ ∀ H' S' Bs' Hs', SyG K CC CS B H' s S' Bs' Hs' → SyG K CC CS H0 H' s S' Bs' Hs' ∧ Tape H' t c cs p l := by
  obtain ⟨B, Y1, s1, s2, k⟩ := Y.anew
  refine ⟨B, Y1, s1, fun H' S' Bs' Hs' Y' => ⟨Y'.under s2, ?_, ?_, T.n, T.m, T.p0, T.l0⟩⟩
  · exact Y'.same _ _ (k _ _ T.d (fun _ _ _ z => by cases z) fun _ z => by cases z)
  · have e : B c = some (.lst (cs.map V.int)) := by
      have e1 := s2 _ _ hc
      have e2 := s1 _ _ e1
      rw [T.c] at e2
      rw [e1, ← e2]
    exact Y'.same _ _ e
/-- the changes behind one more call -/
def histG (Bs Hs : List Ct) (S : Ct) : List Ct := match Bs with
  | [] => Hs ++ [S]
  | _ => Hs
theorem pair_nil {α β : Type} {F : α → β → Prop} {l : List β} (h : Paired F [] l) : l = [] := by cases h; rfl
theorem pair_len {α β : Type} {F : α → β → Prop} {l : List α} {m : List β} (h : Paired F l m) : l.length = m.length := Paired.length h
/-- the System's own lists and fields are other things -/
theorem SgAt.ne {CS : Addr} {H : Hp} {s dx c b h : Addr} {bs hs : List V} (Y : SgAt CS H s dx c b h bs hs) : s ≠ b ∧ s ≠ h := ⟨ne_of Y.i Y.b (by intro z; cases z), ne_of Y.i Y.h (by intro z; cases z)⟩
/-- behind a step that changes s, b, h alone -/
theorem SyG.step {K : PySem.W.Frag} {CC CS : Addr} {H0 H H' : Hp} {s dx c b h c' : Addr} {bs hs bs' hs' : List V} {S' : Ct} {Bs' Hs' : List Ct} (Y : SgAt CS H s dx c b h bs hs) (o : Off [s, b, h] H H') (hne : h ≠ b) (e2 : H0 s = none) (e3 : H0 b = none) (e4 : H0 h = none) (e5 : Same H0 H)
    (Y' : SgAt CS H' s dx c' b h bs' hs') (C : CtIn K CC H c' S') (p1 : Paired (CtV K CC H) Bs' bs') (p2 : Paired (CtV K CC H) Hs' hs') : SyG K CC CS H0 H' s S' Bs' Hs' := by
  have cm : Calm CC H H' := .off Y o
  refine ⟨dx, c', b, h, bs', hs', Y', C.calm cm, ctV_calm p1 cm, ctV_calm p2 cm, hne, e2, e3, e4, Off.of e5 o fun q hq => ?_⟩
  rcases List.mem_cons.mp hq with z | z
  · rw [z]; exact e2
  · rcases List.mem_cons.mp z with z | z
    · rw [z]; exact e3
    · rw [List.mem_singleton.mp z]; exact e4
def spTakeG (K : PySem.W.Frag) (CC CS : Addr) : Sp := fun vs H Q _ => ∃ (s c' : Addr) (H0 : Hp) (S S' : Ct) (Bs Hs : List Ct), vs = [.ref s, .ref c'] ∧ SyG K CC CS H0 H s S Bs Hs ∧ CtIn K CC H c' S' ∧ Hs.length < 1000000 ∧ ∀ H', SyG K CC CS H0 H' s S' Bs (histG Bs Hs S) → Q .non H'
section
variable {P : Program} {w : World} {K : PySem.W.Frag} {mg : Str → Option Value} {base : Heap} {CC fCI CN fIN CS fSI fTk : Addr}
theorem ok_takeG {f : Addr} {fd : FuncData} (F : Fun K "_take" "System._take" sTake f fd) (T : SysT K mg CS fSI fTk) : FnOk P w K mg base CX0 1 f fd ["self", "contents"] (spTakeG K CC CS) := by
  refine F.ok scTk (fun vs H Q E h => ?_) (fun cdv A outer s H vs Q E hr h => ?_)
  · obtain ⟨s, c', H0, S, S', Bs, Hs, rfl, _⟩ := h
    rfl
  · obtain ⟨s, c', H0, S, S', Bs, Hs, rfl, ⟨dx, c, b, h, bs, hs, Y, C, p1, p2, hne, e2, e3, e4, e5⟩, C', hl, k⟩ := h
    refine ⟨_, pss_cons (ps_if (pt_not (pt_truth (pe_fld (pv 0) rfl) (by intro _; rfl))) (pss_one (ps_expr (pe_bm PySem.F.plainAttrs_list PySem.F.slot_list_append PySem.F.type_list_append mt_append (pe_fld (pv 0) rfl) (pa_cons (pe_fld (pv 0) rfl) pa_nil)))) pss_nil)
      (pss_one (ps_fld (pv 0) (pv 1) rfl)), ?_⟩
    obtain ⟨sb, sh⟩ := Y.ne
    have hlen := pair_len p2
    refine ⟨_, rfl, s, CS, dx, _, _, rfl, Y.i, T.cl, T.n2, syF_b _ _ _, _, .inl ⟨bs, SqL.of Y.b, rfl⟩, ?_⟩
    cases Bs with
    | nil =>
      obtain rfl := pair_nil p1
      refine iteT ?_
      refine ⟨_, rfl, s, CS, dx, _, _, rfl, Y.i, T.cl, T.n3, syF_h _ _ _, .inl ⟨rfl, _, SqL.of Y.h⟩, _, rfl, s, CS, dx, _, _, rfl, Y.i, T.cl, T.n1, syF_c _ _ _, h, hs, _, rfl, rfl, Y.h, by rw [sizeLine_eq]; omega, ?_⟩
      refine ⟨_, rfl, _, rfl, s, CS, dx, _, rfl, (upd_ne sh).trans Y.i, T.cl, T.n1, by rw [syF_len]; decide, ?_⟩
      rw [syF_put]
      refine k _ (SyG.step (bs' := []) (hs' := hs ++ [.ref c]) Y (fun q o e n => ?_) hne e2 e3 e4 e5 ⟨upd_same, ?_, ?_⟩ C' .nil (p2.snoc ⟨c, rfl, C⟩))
      · have n1 : q ≠ s := fun z => n (by rw [z]; exact List.mem_cons_self)
        have n2 : q ≠ h := fun z => n (by rw [z]; simp)
        rw [upd_ne n1, upd_ne n2]
        exact e
      · rw [upd_ne sb.symm, upd_ne hne.symm]
        exact Y.b
      · rw [upd_ne sh.symm, upd_same]
    | cons B Bs =>
      cases p1 with
      | cons q1 t1 =>
        refine iteF ?_
        refine ⟨_, rfl, _, rfl, s, CS, dx, _, rfl, Y.i, T.cl, T.n1, by rw [syF_len]; decide, ?_⟩
        rw [syF_put]
        refine k _ (SyG.step Y (fun q o e n => ?_) hne e2 e3 e4 e5 ⟨upd_same, ?_, ?_⟩ C' (.cons q1 t1) p2)
        · have n1 : q ≠ s := fun z => n (by rw [z]; exact List.mem_cons_self)
          rw [upd_ne n1]
          exact e
        · rw [upd_ne sb.symm]; exact Y.b
        · rw [upd_ne sh.symm]; exact Y.h
end
end Bo
set_option Elab.async false
set_option linter.all false
set_option maxRecDepth 100000
set_option maxHeartbeats 8000000
namespace Bo
open PySem L2
/-- System.__init__ -/
def spSInitG (K : PySem.W.Frag) (CC CS : Addr) : Sp := fun vs H Q _ => ∃ (s dx : Addr), vs = [.ref s] ∧ H s = some (.ins CS dx []) ∧ ∀ (c b h : Addr) (H' : Hp), (∀ q o, H q = some o → q ≠ s → H' q = some o) → h ≠ b → H b = none → H h = none → SgAt CS H' s dx c b h [] [] → CtIn K CC H' c ⟨[], [], []⟩ → Q .non H'
section
variable {P : Program} {w : World} {K : PySem.W.Frag} {mg : Str → Option Value} {base : Heap} {CC fCI CN fIN CS fSI fTk : Addr}
theorem ok_sInitG {f : Addr} {fd fdCI : FuncData} (F : Fun K "__init__" "System.__init__" sSInit f fd) (T : SysT K mg CS fSI fTk) (TC : CtT K mg CC fCI) (GC : FnOk P w K mg base CX0 1 fCI fdCI ["self", "columns", "rows", "constants"] (spCtInit CC)) (bC : Binds K fdCI ["self", "columns", "rows", "constants"] []) :
    FnOk P w K mg base CX0 3 f fd ["self"] (spSInitG K CC CS) := by
  refine F.ok scSI (fun vs H Q E h => ?_) (fun cdv A outer s H vs Q E hr h => ?_)
  · obtain ⟨s, dx, rfl, _⟩ := h
    rfl
  · obtain ⟨s, dx, rfl, hs, k⟩ := h
    refine ⟨_, pss_cons (ps_fld (pv 0) (pe_make TC.mkC GC hr rfl TC.g bC .nil pass0 (pa_cons (pe_tup pa_nil) (pa_cons (pe_fz pe_dnewK) (pa_cons (pe_fz pe_dnewK) pa_nil)))) rfl)
      (pss_cons (ps_fld (pv 0) (pe_lst pa_nil) rfl) (pss_one (ps_fld (pv 0) (pe_lst pa_nil) rfl))), ?_⟩
    refine ⟨by decide, fun t ht d1 hd1 => ⟨d1, _, rfl, upd_same, True.intro, fun od1 => ?_⟩⟩
    rw [upd_upd]
    intro d2 hd2
    refine ⟨d2, _, rfl, upd_same, True.intro, fun od2 => ?_⟩
    rw [upd_upd]
    have s1 : Same H (upd H t (.tup [])) := same_new ht
    have s2 := same_new (o := .frz od1 (.dK [])) hd1
    have s3 := same_new (o := .frz od2 (.dK [])) hd2
    intro x0 dx0 h0 h1 h2
    refine ⟨x0, dx0, t, d1, d2, rfl, upd_same, fun H4 kk hc => ⟨rfl, ?_⟩⟩
    have s4 : Same (upd (upd (upd H t (.tup [])) d1 (.frz od1 (.dK []))) d2 (.frz od2 (.dK []))) H4 := fun b o q => kk b o (by rw [upd_ne (ne_of_none q h0), upd_ne (ne_of_none q h1)]; exact q) (ne_of_none q h0)
    have e0 : H4 s = some (.ins CS dx []) := s4 _ _ (s3 _ _ (s2 _ _ (s1 _ _ hs)))
    refine ⟨_, rfl, s, CS, dx, [], rfl, e0, T.cl, T.n1, by decide, ?_⟩
    have C0 : CtAt K CC H4 x0 ⟨[], [], []⟩ dx0 t d1 d2 [] := ⟨hc, SqT.of (s4 _ _ (s3 _ _ (s2 _ _ upd_same))), ⟨od1, s4 _ _ (s3 _ _ upd_same)⟩, .nil, ⟨od2, s4 _ _ upd_same⟩⟩
    refine ⟨by decide, fun b hb => ⟨_, rfl, s, CS, dx, (putF "_contents" (.ref x0) []), rfl, ?_, T.cl, T.n2, by have := putF_len "_contents" (.ref x0) []; simp only [List.length_nil] at this; omega, ?_⟩⟩
    · have sb : s ≠ b := fun z => by rw [← z, upd_same] at hb; cases hb
      rw [upd_ne sb, upd_same]
    refine ⟨by decide, fun h hh => ⟨_, rfl, s, CS, dx, (putF "_begun" (.ref b) (putF "_contents" (.ref x0) [])), rfl, ?_, T.cl, T.n3, by have := putF_len "_contents" (.ref x0) []; have := putF_len "_begun" (.ref b) (putF "_contents" (.ref x0) []); simp only [List.length_nil] at *; omega, ?_⟩⟩
    · have sh : s ≠ h := fun z => by rw [← z, upd_same] at hh; cases hh
      rw [upd_ne sh, upd_same]
    have sb : b ≠ s := fun z => by rw [z, upd_same] at hb; cases hb
    have sh : h ≠ s := fun z => by rw [z, upd_same] at hh; cases hh
    have bh : h ≠ b := fun z => by rw [z, upd_ne sb, upd_same] at hh; cases hh
    have hbn : H4 b = none := by rw [upd_ne sb] at hb; exact hb
    have hhn : H4 h = none := by rw [upd_ne sh, upd_ne bh, upd_ne sh] at hh; exact hh
    have all : ∀ q o, H4 q = some o → q ≠ s → (upd (upd (upd (upd (upd H4 s (.ins CS dx (putF "_contents" (.ref x0) []))) b (.lst [])) s (.ins CS dx (putF "_begun" (.ref b) (putF "_contents" (.ref x0) [])))) h (.lst [])) s (.ins CS dx (syF x0 b h))) q = some o := fun q o e n => by
      rw [upd_ne n, upd_ne (ne_of_none e hhn), upd_ne n, upd_ne (ne_of_none e hbn), upd_ne n]
      exact e
    have c_s : ∀ q o, H4 q = some o → (∀ fs, o ≠ .ins CS dx fs) → q ≠ s := fun q o e n z => by
      rw [z, e0] at e
      exact n _ (Option.some.inj e).symm
    have free : ∀ q, H4 q = none → H q = none := fun q hq => by
      cases e : H q with
      | none => rfl
      | some o => rw [s4 _ _ (s3 _ _ (s2 _ _ (s1 _ _ e)))] at hq; cases hq
    refine k x0 b h _ (fun q o e n => all q o (s4 _ _ (s3 _ _ (s2 _ _ (s1 _ _ e)))) n) bh (free _ hbn) (free _ hhn) ⟨upd_same, ?_, ?_⟩ ⟨dx0, t, d1, d2, [], ?_, ?_, ?_, .nil, ?_⟩
    · rw [upd_ne sb, upd_ne bh.symm, upd_ne sb, upd_same]
    · rw [upd_ne sh, upd_same]
    · refine all _ _ hc fun z => ?_
      rw [z, e0] at hc
      injection hc with hc
      injection hc with _ _ hc
      have l1 := ctF_c t d1 d2
      rw [← hc] at l1
      cases l1
    · exact SqT.of (all _ _ (s4 _ _ (s3 _ _ (s2 _ _ upd_same))) (c_s _ _ (s4 _ _ (s3 _ _ (s2 _ _ upd_same))) fun _ z => by cases z))
    · exact ⟨od1, all _ _ (s4 _ _ (s3 _ _ upd_same)) (c_s _ _ (s4 _ _ (s3 _ _ upd_same)) fun _ z => by cases z)⟩
    · exact ⟨od2, all _ _ (s4 _ _ upd_same) (c_s _ _ (s4 _ _ upd_same) fun _ z => by cases z)⟩
theorem name_len8 {y : Str} (h : nameOk y = true) : y.length ≤ 8 := by
  unfold nameOk at h
  rw [Bool.and_eq_true, Bool.and_eq_true] at h
  have := of_decide_eq_true h.2.1
  rw [show y.length = y.cps.toList.length from (Array.length_toList (xs := y.cps)).symm]
  exact this
theorem name_len {y : Str} (h : nameOk y = true) : y.length ≤ 1000 := Nat.le_trans (name_len8 h) (by decide)
end
end Bo
set_option Elab.async false
set_option linter.all false
set_option maxRecDepth 100000
set_option maxHeartbeats 8000000
namespace Bo
open PySem L2
abbrev sAEnX : Stmt := inClass sSys 7
abbrev sREn : Stmt := inClass sSys 8
abbrev sREq : Stmt := inClass sSys 9
abbrev sRUn : Stmt := inClass sSys 10
/-- the edit that a method makes of its arguments -/
def mkEd : Nat → List Arg → Option Ed
  | 0, xs => some (.addU xs)
  | 1, x :: us => some (.addE x us)
  | 2, [e, u] => some (.addN e u)
  | 3, [e, u] => some (.rmN e u)
  | 4, [e] => some (.rmE e)
  | 5, [u] => some (.rmU u)
  | _, _ => none
def SyRes (K : PySem.W.Frag) (CC CS : Addr) (cs : Nat → Addr) (E : XK) (H0 : Hp) (s : Addr) (Bs Hs : List Ct) (p : Pl) (H : Hp) (Q : VK) : Except Er Pl → Prop
  | .error e => Thrown2 K E H (cs e.1) (erFld e.1) e.2
  | .ok p' => ∀ H', SyG K CC CS H0 H' s (ctP p') Bs (histG Bs Hs (ctP p)) → Q .non H'
theorem SyRes.later {K : PySem.W.Frag} {CC CS : Addr} {cs : Nat → Addr} {E : XK} {H0 H H1 : Hp} {s : Addr} {Bs Hs : List Ct} {p : Pl} {Q : VK} {r : Except Er Pl} (h : SyRes K CC CS cs E H0 s Bs Hs p H Q r) (k : Same H H1) : SyRes K CC CS cs E H0 s Bs Hs p H1 Q r := by
  cases r with
  | error e => exact Thrown2.later h k
  | ok p' => exact h
def spM (K : PySem.W.Frag) (CC CS : Addr) (cs : Nat → Addr) (j : Nat) : Sp := fun vs H Q E => ∃ (s : Addr) (H0 : Hp) (p : Pl) (Bs Hs : List Ct) (xs : List V) (as : List Arg) (e : Ed), vs = .ref s :: xs ∧ mkEd j as = some e ∧ Paired (AV K H) xs as ∧ xs.length ≤ 1000 ∧ SyG K CC CS H0 H s (ctP p) Bs Hs ∧ Hs.length < 1000000 ∧ PlWf p ∧
  SyRes K CC CS cs E H0 s Bs Hs p H Q (edP p e)
theorem take_res {K : PySem.W.Frag} {CC CS : Addr} {cs : Nat → Addr} {E : XK} {H0 H : Hp} {s : Addr} {Bs Hs : List Ct} {p : Pl} {Q : VK} {r : Except Er Pl} (h : SyRes K CC CS cs E H0 s Bs Hs p H Q r) (Y : SyG K CC CS H0 H s (ctP p) Bs Hs) (hm : Hs.length < 1000000) :
    EdRes K CC cs E H (fun v H1 => spTakeG K CC CS [.ref s, v] H1 Q E) r := by
  cases r with
  | error e => exact h
  | ok p' => exact fun a H1 sm C1 => ⟨s, a, H0, ctP p, ctP p', Bs, Hs, rfl, Y.keep sm, C1, hm, h⟩
def spMt0 (K : PySem.W.Frag) (CC CS : Addr) (cs : Nat → Addr) : Sp := fun vs H Q E => ∃ (s n : Addr) (xs : List V), vs = [.ref s, .ref n] ∧ H n = some (.tup xs) ∧ spM K CC CS cs 0 (.ref s :: xs) H Q E
def spMt1 (K : PySem.W.Frag) (CC CS : Addr) (cs : Nat → Addr) : Sp := fun vs H Q E => ∃ (s n : Addr) (v : V) (xs : List V), vs = [.ref s, v, .ref n] ∧ H n = some (.tup xs) ∧ spM K CC CS cs 1 (.ref s :: v :: xs) H Q E
theorem spM_keep {K : PySem.W.Frag} {CC CS : Addr} {cs : Nat → Addr} {j : Nat} {vs : List V} {H H1 : Hp} {Q : VK} {E : XK} (h : spM K CC CS cs j vs H Q E) (k : Same H H1) : spM K CC CS cs j vs H1 Q E :=
  let ⟨s, H0, p, Bs, Hs, xs, as, e, h1, h2, h3, h4, h5, h6, h7, h8⟩ := h
  ⟨s, H0, p, Bs, Hs, xs, as, e, h1, h2, avs_keep h3 k, h4, h5.keep k, h6, h7, h8.later k⟩
section
variable {P : Program} {w : World} {K : PySem.W.Frag} {mg : Str → Option Value} {base : Heap} {CC fCI CB CS fSI fTk : Addr} {cs fs : Nat → Addr} {fds : Nat → FuncData}
theorem ok_m0 {f fW : Addr} {fd fdW fdTk : FuncData} (F : Fun K "add_unknown" "System.add_unknown" sAU f fd) (T : SysT K mg CS fSI fTk)
    (GT : FnOk P w K mg base CX0 1 fTk fdTk ["self", "contents"] (spTakeG K CC CS)) (bT : Binds K fdTk ["self", "contents"] [])
    (GW : FnOk P w K mg base (L2.CX P w) 6 fW fdW ["contents", "names"] (spWUX K CC cs)) (mW : mg "with_unknowns" = some (.ref fW)) (kW : PySem.W.keepIn K (.ref fW) = true) (bW : Binds K fdW ["contents", "names"] []) :
    FnR P w K mg base (L2.CX P w) 7 f (spM K CC CS cs 0) := by
  obtain ⟨oc, od, kV, doc, pm, an, cdv, ct, osl, rfl, lk, hcd⟩ := F.ex
  have R : FnR P w K mg base (L2.CX P w) 7 f (fun vs H Q E => ∃ ws rest, vs = ws ++ rest ∧ ws.length = (["self"] : List Str).length ∧ rest.length ≤ sizeLine ∧ ∀ p, H p = none → spMt0 K CC CS cs (ws ++ [V.ref p]) (upd H p (.tup rest)) Q E) := by
    refine StX.fn_star lk hcd scAU StX.cxUp (StX.bind_star1 (B := fun vs => bindArgs _ ⟨vs, []⟩) (fun _ => rfl) (fun _ _ _ => rfl)) (fun A outer s H vs Q E hr h => ?_)
    obtain ⟨s, n, xs, rfl, hn, h⟩ := h
    obtain ⟨s', H0, p, Bs, Hs, xs', as, e, e1, e2, hav, hl, Y, hm, hw, hres⟩ := h
    cases e1
    cases e2
    have hr1 : Room 1 _ := hr.mono (by decide)
    refine ⟨_, pss_one (ps_expr (pe_meth (pv 0) T.cl T.tk GT hr1 bT .nil pass0 (pa_cons (pe_call GW hr rfl mW kW bW .nil (passes_call (takes_of rfl rfl rfl rfl) (fun _ _ _ _ h => h)) (pa_cons (pe_fld (pv 0) rfl) (pa_cons (pv 1) pa_nil))) pa_nil))), ?_⟩
    obtain ⟨dx, c, b, h, bs, hs, A0, C, rest⟩ := id Y
    refine ⟨_, rfl, s, dx, _, rfl, A0.i, syF_no _ _ _ (by decide +kernel) (by decide +kernel) (by decide +kernel), _, rfl, s, CS, dx, _, _, rfl, A0.i, T.cl, T.n1, syF_c _ _ _, _, rfl, ?_⟩
    exact ⟨c, n, p, xs, as, rfl, C, SqT.of hn, hav, hl, hw, take_res hres Y hm⟩
  refine R.imp fun vs H Q E h => ?_
  obtain ⟨s, H0, p, Bs, Hs, xs, as, e, rfl, e2, hav, hl, rest⟩ := id h
  exact ⟨[.ref s], xs, rfl, rfl, by rw [sizeLine_eq]; omega, fun p hp => ⟨s, p, xs, rfl, upd_same, spM_keep h (same_new hp)⟩⟩
theorem ok_m1 {f fW : Addr} {fd fdW fdTk : FuncData} (F : Fun K "add_equation" "System.add_equation" sAE f fd) (T : SysT K mg CS fSI fTk)
    (GT : FnOk P w K mg base CX0 1 fTk fdTk ["self", "contents"] (spTakeG K CC CS)) (bT : Binds K fdTk ["self", "contents"] [])
    (GW : FnOk P w K mg base (L2.CX P w) 8 fW fdW ["contents", "name", "unknowns"] (spWEX K CC cs)) (mW : mg "with_equation" = some (.ref fW)) (kW : PySem.W.keepIn K (.ref fW) = true) (bW : Binds K fdW ["contents", "name", "unknowns"] []) :
    FnR P w K mg base (L2.CX P w) 9 f (spM K CC CS cs 1) := by
  obtain ⟨oc, od, kV, doc, pm, an, cdv, ct, osl, rfl, lk, hcd⟩ := F.ex
  have R : FnR P w K mg base (L2.CX P w) 9 f (fun vs H Q E => ∃ ws rest, vs = ws ++ rest ∧ ws.length = (["self", "name"] : List Str).length ∧ rest.length ≤ sizeLine ∧ ∀ p, H p = none → spMt1 K CC CS cs (ws ++ [V.ref p]) (upd H p (.tup rest)) Q E) := by
    refine StX.fn_star lk hcd scAE StX.cxUp (StX.bind_star2 (B := fun vs => bindArgs _ ⟨vs, []⟩) (fun _ _ => rfl) (fun _ _ _ _ => rfl)) (fun A outer s H vs Q E hr h => ?_)
    obtain ⟨s, n, v, xs, rfl, hn, h⟩ := h
    obtain ⟨s', H0, p, Bs, Hs, xs', as, e, e1, e2, hav, hl, Y, hm, hw, hres⟩ := h
    cases e1
    have hr1 : Room 1 _ := hr.mono (by decide)
    refine ⟨_, pss_one (ps_expr (pe_meth (pv 0) T.cl T.tk GT hr1 bT .nil pass0 (pa_cons (pe_call GW hr rfl mW kW bW .nil (passes_call (takes_of rfl rfl rfl rfl) (fun _ _ _ _ h => h)) (pa_cons (pe_fld (pv 0) rfl) (pa_cons (pv 1) (pa_cons (pv 2) pa_nil)))) pa_nil))), ?_⟩
    obtain ⟨dx, c, b, h, bs, hs, A0, C, rest⟩ := id Y
    refine ⟨_, rfl, s, dx, _, rfl, A0.i, syF_no _ _ _ (by decide +kernel) (by decide +kernel) (by decide +kernel), _, rfl, s, CS, dx, _, _, rfl, A0.i, T.cl, T.n1, syF_c _ _ _, _, rfl, _, rfl, ?_⟩
    cases hav with
    | cons hv hav =>
      cases e2
      exact ⟨c, n, p, v, _, xs, _, rfl, C, SqT.of hn, hav, by rw [List.length_cons] at hl; omega, hv, hw, take_res hres Y hm⟩
  refine R.imp fun vs H Q E h => ?_
  obtain ⟨s, H0, p, Bs, Hs, xs, as, e, rfl, e2, hav, hl, rest⟩ := id h
  cases hav with
  | nil => cases e2
  | cons hv hav =>
    rename_i v a xs as
    exact ⟨[.ref s, v], xs, rfl, rfl, by rw [sizeLine_eq]; rw [List.length_cons] at hl; omega, fun p hp => ⟨s, p, v, xs, rfl, upd_same, spM_keep h (same_new hp)⟩⟩
theorem scAEnX : FnScope ["self", "equation", "unknown"] ["self", "equation", "unknown"] (defScope sAEnX) := ⟨rfl, rfl, rfl, by decide +kernel, rfl, by decide +kernel, by decide +kernel⟩
theorem scREn : FnScope ["self", "equation", "unknown"] ["self", "equation", "unknown"] (defScope sREn) := ⟨rfl, rfl, rfl, by decide +kernel, rfl, by decide +kernel, by decide +kernel⟩
theorem scREq : FnScope ["self", "name"] ["self", "name"] (defScope sREq) := ⟨rfl, rfl, rfl, by decide +kernel, rfl, by decide +kernel, by decide +kernel⟩
theorem scRUn : FnScope ["self", "name"] ["self", "name"] (defScope sRUn) := ⟨rfl, rfl, rfl, by decide +kernel, rfl, by decide +kernel, by decide +kernel⟩
theorem spM_two {j : Nat} (hj : j = 2 ∨ j = 3) {vs : List V} {H : Hp} {Q : VK} {E : XK} (h : spM K CC CS cs j vs H Q E) : ∃ (s : Addr) (H0 : Hp) (p : Pl) (Bs Hs : List Ct) (v w : V) (a b : Arg), vs = [.ref s, v, w] ∧ AV K H v a ∧ AV K H w b ∧ SyG K CC CS H0 H s (ctP p) Bs Hs ∧ Hs.length < 1000000 ∧ PlWf p ∧
    SyRes K CC CS cs E H0 s Bs Hs p H Q (edP p (if j = 2 then .addN a b else .rmN a b)) := by
  obtain ⟨s, H0, p, Bs, Hs, xs, as, e, rfl, e2, hav, hl, Y, hm, hw, hres⟩ := h
  rcases hj with rfl | rfl
  all_goals
    cases hav with
    | nil => cases e2
    | cons hv hav => cases hav with
      | nil => cases e2
      | cons hx hav => cases hav with
        | nil =>
          cases e2
          exact ⟨s, H0, p, Bs, Hs, _, _, _, _, rfl, hv, hx, Y, hm, hw, hres⟩
        | cons hy hav => cases e2
theorem spM_one {j : Nat} (hj : j = 4 ∨ j = 5) {vs : List V} {H : Hp} {Q : VK} {E : XK} (h : spM K CC CS cs j vs H Q E) : ∃ (s : Addr) (H0 : Hp) (p : Pl) (Bs Hs : List Ct) (v : V) (a : Arg), vs = [.ref s, v] ∧ AV K H v a ∧ SyG K CC CS H0 H s (ctP p) Bs Hs ∧ Hs.length < 1000000 ∧ PlWf p ∧
    SyRes K CC CS cs E H0 s Bs Hs p H Q (edP p (if j = 4 then .rmE a else .rmU a)) := by
  obtain ⟨s, H0, p, Bs, Hs, xs, as, e, rfl, e2, hav, hl, Y, hm, hw, hres⟩ := h
  rcases hj with rfl | rfl
  all_goals
    cases hav with
    | nil => cases e2
    | cons hv hav => cases hav with
      | nil =>
        cases e2
        exact ⟨s, H0, p, Bs, Hs, _, _, rfl, hv, Y, hm, hw, hres⟩
      | cons hx hav => cases e2
theorem ok_m2 {f fW : Addr} {fd fdW fdTk : FuncData} (F : Fun K "add_entry" "System.add_entry" sAEnX f fd) (T : SysT K mg CS fSI fTk)
    (GT : FnOk P w K mg base CX0 1 fTk fdTk ["self", "contents"] (spTakeG K CC CS)) (bT : Binds K fdTk ["self", "contents"] [])
    (GW : FnOk P w K mg base (L2.CX P w) 8 fW fdW ["contents", "equation", "unknown"] (spEnX K CC cs true)) (mW : mg "with_entry" = some (.ref fW)) (kW : PySem.W.keepIn K (.ref fW) = true) (bW : Binds K fdW ["contents", "equation", "unknown"] []) :
    FnOk P w K mg base (L2.CX P w) 9 f fd ["self", "equation", "unknown"] (spM K CC CS cs 2) := by
  refine F.okX scAEnX (fun vs H Q E h => ?_) (fun cdv A outer s H vs Q E hr h => ?_)
  · obtain ⟨s, H0, p, Bs, Hs, v, w, a, b, rfl, _⟩ := spM_two (.inl rfl) h
    rfl
  · obtain ⟨s, H0, p, Bs, Hs, v, w, a, b, rfl, hv, hx, Y, hm, hw, hres⟩ := spM_two (.inl rfl) h
    have hr1 : Room 1 _ := hr.mono (by decide)
    refine ⟨_, pss_one (ps_expr (pe_meth (pv 0) T.cl T.tk GT hr1 bT .nil pass0 (pa_cons (pe_call GW hr rfl mW kW bW .nil (passes_call (takes_of rfl rfl rfl rfl) (fun _ _ _ _ h => h)) (pa_cons (pe_fld (pv 0) rfl) (pa_cons (pv 1) (pa_cons (pv 2) pa_nil)))) pa_nil))), ?_⟩
    obtain ⟨dx, c, b', h, bs, hs, A0, C, rest⟩ := id Y
    refine ⟨_, rfl, s, dx, _, rfl, A0.i, syF_no _ _ _ (by decide +kernel) (by decide +kernel) (by decide +kernel), _, rfl, s, CS, dx, _, _, rfl, A0.i, T.cl, T.n1, syF_c _ _ _, _, rfl, _, rfl, ?_⟩
    exact ⟨c, p, v, w, a, b, rfl, C, hw, hv, hx, take_res hres Y hm⟩
theorem ok_m3 {f fW : Addr} {fd fdW fdTk : FuncData} (F : Fun K "remove_entry" "System.remove_entry" sREn f fd) (T : SysT K mg CS fSI fTk)
    (GT : FnOk P w K mg base CX0 1 fTk fdTk ["self", "contents"] (spTakeG K CC CS)) (bT : Binds K fdTk ["self", "contents"] [])
    (GW : FnOk P w K mg base (L2.CX P w) 9 fW fdW ["contents", "equation", "unknown"] (spEnX K CC cs false)) (mW : mg "without_entry" = some (.ref fW)) (kW : PySem.W.keepIn K (.ref fW) = true) (bW : Binds K fdW ["contents", "equation", "unknown"] []) :
    FnOk P w K mg base (L2.CX P w) 10 f fd ["self", "equation", "unknown"] (spM K CC CS cs 3) := by
  refine F.okX scREn (fun vs H Q E h => ?_) (fun cdv A outer s H vs Q E hr h => ?_)
  · obtain ⟨s, H0, p, Bs, Hs, v, w, a, b, rfl, _⟩ := spM_two (.inr rfl) h
    rfl
  · obtain ⟨s, H0, p, Bs, Hs, v, w, a, b, rfl, hv, hx, Y, hm, hw, hres⟩ := spM_two (.inr rfl) h
    have hr1 : Room 1 _ := hr.mono (by decide)
    refine ⟨_, pss_one (ps_expr (pe_meth (pv 0) T.cl T.tk GT hr1 bT .nil pass0 (pa_cons (pe_call GW hr rfl mW kW bW .nil (passes_call (takes_of rfl rfl rfl rfl) (fun _ _ _ _ h => h)) (pa_cons (pe_fld (pv 0) rfl) (pa_cons (pv 1) (pa_cons (pv 2) pa_nil)))) pa_nil))), ?_⟩
    obtain ⟨dx, c, b', h, bs, hs, A0, C, rest⟩ := id Y
    refine ⟨_, rfl, s, dx, _, rfl, A0.i, syF_no _ _ _ (by decide +kernel) (by decide +kernel) (by decide +kernel), _, rfl, s, CS, dx, _, _, rfl, A0.i, T.cl, T.n1, syF_c _ _ _, _, rfl, _, rfl, ?_⟩
    exact ⟨c, p, v, w, a, b, rfl, C, hw, hv, hx, take_res hres Y hm⟩
theorem ok_m4 {f fW : Addr} {fd fdW fdTk : FuncData} (F : Fun K "remove_equation" "System.remove_equation" sREq f fd) (T : SysT K mg CS fSI fTk)
    (GT : FnOk P w K mg base CX0 1 fTk fdTk ["self", "contents"] (spTakeG K CC CS)) (bT : Binds K fdTk ["self", "contents"] [])
    (GW : FnOk P w K mg base (L2.CX P w) 7 fW fdW ["contents", "name"] (spRmEX K CC cs)) (mW : mg "without_equation" = some (.ref fW)) (kW : PySem.W.keepIn K (.ref fW) = true) (bW : Binds K fdW ["contents", "name"] []) :
    FnOk P w K mg base (L2.CX P w) 8 f fd ["self", "name"] (spM K CC CS cs 4) := by
  refine F.okX scREq (fun vs H Q E h => ?_) (fun cdv A outer s H vs Q E hr h => ?_)
  · obtain ⟨s, H0, p, Bs, Hs, v, a, rfl, _⟩ := spM_one (.inl rfl) h
    rfl
  · obtain ⟨s, H0, p, Bs, Hs, v, a, rfl, hv, Y, hm, hw, hres⟩ := spM_one (.inl rfl) h
    have hr1 : Room 1 _ := hr.mono (by decide)
    refine ⟨_, pss_one (ps_expr (pe_meth (pv 0) T.cl T.tk GT hr1 bT .nil pass0 (pa_cons (pe_call GW hr rfl mW kW bW .nil (passes_call (takes_of rfl rfl rfl rfl) (fun _ _ _ _ h => h)) (pa_cons (pe_fld (pv 0) rfl) (pa_cons (pv 1) pa_nil))) pa_nil))), ?_⟩
    obtain ⟨dx, c, b', h, bs, hs, A0, C, rest⟩ := id Y
    refine ⟨_, rfl, s, dx, _, rfl, A0.i, syF_no _ _ _ (by decide +kernel) (by decide +kernel) (by decide +kernel), _, rfl, s, CS, dx, _, _, rfl, A0.i, T.cl, T.n1, syF_c _ _ _, _, rfl, ?_⟩
    exact ⟨c, p, v, a, rfl, C, hw, hv, take_res hres Y hm⟩
theorem ok_m5 {f fW : Addr} {fd fdW fdTk : FuncData} (F : Fun K "remove_unknown" "System.remove_unknown" sRUn f fd) (T : SysT K mg CS fSI fTk)
    (GT : FnOk P w K mg base CX0 1 fTk fdTk ["self", "contents"] (spTakeG K CC CS)) (bT : Binds K fdTk ["self", "contents"] [])
    (GW : FnOk P w K mg base (L2.CX P w) 7 fW fdW ["contents", "name"] (spRmUX K CC cs)) (mW : mg "without_unknown" = some (.ref fW)) (kW : PySem.W.keepIn K (.ref fW) = true) (bW : Binds K fdW ["contents", "name"] []) :
    FnOk P w K mg base (L2.CX P w) 8 f fd ["self", "name"] (spM K CC CS cs 5) := by
  refine F.okX scRUn (fun vs H Q E h => ?_) (fun cdv A outer s H vs Q E hr h => ?_)
  · obtain ⟨s, H0, p, Bs, Hs, v, a, rfl, _⟩ := spM_one (.inr rfl) h
    rfl
  · obtain ⟨s, H0, p, Bs, Hs, v, a, rfl, hv, Y, hm, hw, hres⟩ := spM_one (.inr rfl) h
    have hr1 : Room 1 _ := hr.mono (by decide)
    refine ⟨_, pss_one (ps_expr (pe_meth (pv 0) T.cl T.tk GT hr1 bT .nil pass0 (pa_cons (pe_call GW hr rfl mW kW bW .nil (passes_call (takes_of rfl rfl rfl rfl) (fun _ _ _ _ h => h)) (pa_cons (pe_fld (pv 0) rfl) (pa_cons (pv 1) pa_nil))) pa_nil))), ?_⟩
    obtain ⟨dx, c, b', h, bs, hs, A0, C, rest⟩ := id Y
    refine ⟨_, rfl, s, dx, _, rfl, A0.i, syF_no _ _ _ (by decide +kernel) (by decide +kernel) (by decide +kernel), _, rfl, s, CS, dx, _, _, rfl, A0.i, T.cl, T.n1, syF_c _ _ _, _, rfl, ?_⟩
    exact ⟨c, p, v, a, rfl, C, hw, hv, take_res hres Y hm⟩
end
end Bo
set_option Elab.async false
set_option linter.all false
set_option maxRecDepth 100000
set_option maxHeartbeats 8000000
namespace Bo
open PySem L2
abbrev sAC : Stmt := top 54
abbrev sAEd : Stmt := top 52
def wordS : Nat → Str
  | 0 => "add_unknown"
  | 1 => "add_equation"
  | 2 => "add_entry"
  | 3 => "remove_entry"
  | 4 => "remove_equation"
  | _ => "remove_unknown"
def spAC (K : PySem.W.Frag) (CC : Addr) (cs : Nat → Addr) : Sp := fun vs H Q E => ∃ (c g : Addr) (p : Pl) (j : Nat) (xs : List V) (as : List Arg) (e : Ed), vs = [.ref c, .str (wordS j), .ref g] ∧ CtIn K CC H c (ctP p) ∧ PlWf p ∧ SqT K H g xs ∧ mkEd j as = some e ∧ Paired (AV K H) xs as ∧ xs.length ≤ 1000 ∧ EdRes K CC cs E H Q (edP p e)
theorem cut1 (v : V) (xs : List V) : cutV (v :: xs) (some 1) none = xs := by
  unfold cutV
  have e : HT.sIx (v :: xs).length 0 (some 1) = 1 := by
    show min (1 : Int).toNat (xs.length + 1) = 1
    have : (1 : Int).toNat = 1 := rfl
    omega
  rw [e]
  show List.take (xs.length + 1 - 1) xs = xs
  rw [Nat.add_sub_cancel, List.take_length]
theorem cut1_no (v : V) (xs : List V) : ¬ (HT.sIx (v :: xs).length 0 (some 1) = 0 ∧ HT.sIx (v :: xs).length (v :: xs).length none = (v :: xs).length) := fun h => by
  have e : HT.sIx (v :: xs).length 0 (some 1) = 1 := by
    show min (1 : Int).toNat (xs.length + 1) = 1
    have : (1 : Int).toNat = 1 := rfl
    omega
  rw [e] at h
  exact absurd h.1 (by decide)
theorem ed1 {R : V → Arg → Prop} {xs : List V} {as : List Arg} {e : Ed} (h : mkEd 1 as = some e) (p : Paired R xs as) : ∃ v x xs' as', xs = v :: xs' ∧ R v x ∧ Paired R xs' as' ∧ e = .addE x as' := by
  cases p with
  | nil => cases h
  | cons q t => cases h; exact ⟨_, _, _, _, rfl, q, t, rfl⟩
theorem ed2 {R : V → Arg → Prop} {xs : List V} {as : List Arg} {e : Ed} {j : Nat} (hj : j = 2 ∨ j = 3) (h : mkEd j as = some e) (p : Paired R xs as) : ∃ v w a b, xs = [v, w] ∧ R v a ∧ R w b ∧ e = if j = 2 then .addN a b else .rmN a b := by
  rcases hj with rfl | rfl
  all_goals
    cases p with
    | nil => cases h
    | cons q t => cases t with
      | nil => cases h
      | cons r t => cases t with
        | nil => cases h; exact ⟨_, _, _, _, rfl, q, r, rfl⟩
        | cons _ _ => cases h
theorem ed4 {R : V → Arg → Prop} {xs : List V} {as : List Arg} {e : Ed} {j : Nat} (hj : j = 4 ∨ j = 5) (h : mkEd j as = some e) (p : Paired R xs as) : ∃ v a, xs = [v] ∧ R v a ∧ e = if j = 4 then .rmE a else .rmU a := by
  rcases hj with rfl | rfl
  all_goals
    cases p with
    | nil => cases h
    | cons q t => cases t with
      | nil => cases h; exact ⟨_, _, rfl, q, rfl⟩
      | cons _ _ => cases h
section
variable {P : Program} {w : World} {K : PySem.W.Frag} {mg : Str → Option Value} {base : Heap} {CC fCI CB CS fSI fTk : Addr} {cs fs : Nat → Addr} {fds : Nat → FuncData}
theorem scAC : FnScope ["contents", "word", "given"] ["contents", "word", "given"] (defScope sAC) := ⟨rfl, rfl, rfl, by decide +kernel, rfl, by decide +kernel, by decide +kernel⟩
theorem ok_ac {f f0 f1 f2 f3 f4 f5 : Addr} {fd d0 d1 d2 d3 d4 d5 : FuncData} (F : Fun K "after_call" "after_call" sAC f fd) (T : TxtE K mg CC fCI)
    (G0 : FnOk P w K mg base (L2N.CX P w) 6 f0 d0 ["contents", "names"] (spWUX K CC cs)) (m0 : mg "with_unknowns" = some (.ref f0)) (k0 : PySem.W.keepIn K (.ref f0) = true) (b0 : Binds K d0 ["contents", "names"] [])
    (G1 : FnOk P w K mg base (L2N.CX P w) 8 f1 d1 ["contents", "name", "unknowns"] (spWEX K CC cs)) (m1 : mg "with_equation" = some (.ref f1)) (k1 : PySem.W.keepIn K (.ref f1) = true) (b1 : Binds K d1 ["contents", "name", "unknowns"] [])
    (G2 : FnOk P w K mg base (L2N.CX P w) 8 f2 d2 ["contents", "equation", "unknown"] (spEnX K CC cs true)) (m2 : mg "with_entry" = some (.ref f2)) (k2 : PySem.W.keepIn K (.ref f2) = true) (b2 : Binds K d2 ["contents", "equation", "unknown"] [])
    (G3 : FnOk P w K mg base (L2N.CX P w) 9 f3 d3 ["contents", "equation", "unknown"] (spEnX K CC cs false)) (m3 : mg "without_entry" = some (.ref f3)) (k3 : PySem.W.keepIn K (.ref f3) = true) (b3 : Binds K d3 ["contents", "equation", "unknown"] [])
    (G4 : FnOk P w K mg base (L2N.CX P w) 7 f4 d4 ["contents", "name"] (spRmEX K CC cs)) (m4 : mg "without_equation" = some (.ref f4)) (k4 : PySem.W.keepIn K (.ref f4) = true) (b4 : Binds K d4 ["contents", "name"] [])
    (G5 : FnOk P w K mg base (L2N.CX P w) 7 f5 d5 ["contents", "name"] (spRmUX K CC cs)) (m5 : mg "without_unknown" = some (.ref f5)) (k5 : PySem.W.keepIn K (.ref f5) = true) (b5 : Binds K d5 ["contents", "name"] []) :
    FnOk P w K mg base (L2N.CX P w) 10 f fd ["contents", "word", "given"] (spAC K CC cs) := by
  refine F.okN scAC (fun vs H Q E h => ?_) (fun cdv A outer s H vs Q E hr h => ?_)
  · obtain ⟨c, g, p, j, xs, as, e, rfl, _⟩ := h
    rfl
  · obtain ⟨c, g, p, j, xs, as, e, rfl, hC, hwf, hg, hj, hav, hl, hres⟩ := h
    have hr6 : Room 6 _ := hr.mono (by decide)
    have hr7 : Room 7 _ := hr.mono (by decide)
    have hr8 : Room 8 _ := hr.mono (by decide)
    refine ⟨_, pss_cons (ps_if (pt_cmpR op_eq (pv 1) pe_str (nomark _)) (pss_one (ps_ret (pe_call G0 hr6 rfl m0 k0 b0 .nil (L2N.passes_call (L2N.takes_of rfl rfl rfl rfl) (fun _ _ _ _ h => h)) (pa_cons (pv 0) (pa_cons (pv 2) pa_nil))))) pss_nil)
      (pss_cons (ps_if (PW.pt (pw_and (pt_cmpR op_eq (pv 1) pe_str (nomark _)) (pw_and1 (pt_cmpR op_ge (pe_callB call_len_seq (by rfl) T.len PySem.boot_len (pa_cons (pv 2) pa_nil)) pe_int (nomark _)))))
          (pss_one (ps_ret (pe_call G1 hr8 rfl m1 k1 b1 .nil (L2N.passes_call (L2N.takes_of rfl rfl rfl rfl) (fun _ _ _ _ h => h)) (pa_cons (pv 0) (pa_cons (pe_ix ix_tup (pv 2) pe_int (fun _ _ => rfl)) (pa_cons (pe_slice sl_tupA (pv 2) (po_some pe_int) po_none) pa_nil)))))) pss_nil)
      (pss_cons (ps_if (PW.pt (pw_and (pt_cmpR op_eq (pv 1) pe_str (nomark _)) (pw_and1 (pt_cmpR op_eq (pe_callB call_len_seq (by rfl) T.len PySem.boot_len (pa_cons (pv 2) pa_nil)) pe_int (nomark _)))))
          (pss_one (ps_ret (pe_call G2 hr8 rfl m2 k2 b2 .nil (L2N.passes_call (L2N.takes_of rfl rfl rfl rfl) (fun _ _ _ _ h => h)) (pa_cons (pv 0) (pa_cons (pe_ix ix_tup (pv 2) pe_int (fun _ _ => rfl)) (pa_cons (pe_ix ix_tup (pv 2) pe_int (fun _ _ => rfl)) pa_nil)))))) pss_nil)
      (pss_cons (ps_if (PW.pt (pw_and (pt_cmpR op_eq (pv 1) pe_str (nomark _)) (pw_and1 (pt_cmpR op_eq (pe_callB call_len_seq (by rfl) T.len PySem.boot_len (pa_cons (pv 2) pa_nil)) pe_int (nomark _)))))
          (pss_one (ps_ret (pe_call G3 hr rfl m3 k3 b3 .nil (L2N.passes_call (L2N.takes_of rfl rfl rfl rfl) (fun _ _ _ _ h => h)) (pa_cons (pv 0) (pa_cons (pe_ix ix_tup (pv 2) pe_int (fun _ _ => rfl)) (pa_cons (pe_ix ix_tup (pv 2) pe_int (fun _ _ => rfl)) pa_nil)))))) pss_nil)
      (pss_cons (ps_if (PW.pt (pw_and (pt_cmpR op_eq (pv 1) pe_str (nomark _)) (pw_and1 (pt_cmpR op_eq (pe_callB call_len_seq (by rfl) T.len PySem.boot_len (pa_cons (pv 2) pa_nil)) pe_int (nomark _)))))
          (pss_one (ps_ret (pe_call G4 hr7 rfl m4 k4 b4 .nil (L2N.passes_call (L2N.takes_of rfl rfl rfl rfl) (fun _ _ _ _ h => h)) (pa_cons (pv 0) (pa_cons (pe_ix ix_tup (pv 2) pe_int (fun _ _ => rfl)) pa_nil))))) pss_nil)
      (pss_cons (ps_if (PW.pt (pw_and (pt_cmpR op_eq (pv 1) pe_str (nomark _)) (pw_and1 (pt_cmpR op_eq (pe_callB call_len_seq (by rfl) T.len PySem.boot_len (pa_cons (pv 2) pa_nil)) pe_int (nomark _)))))
          (pss_one (ps_ret (pe_call G5 hr7 rfl m5 k5 b5 .nil (L2N.passes_call (L2N.takes_of rfl rfl rfl rfl) (fun _ _ _ _ h => h)) (pa_cons (pv 0) (pa_cons (pe_ix ix_tup (pv 2) pe_int (fun _ _ => rfl)) pa_nil))))) pss_nil)
      (pss_one ps_never)))))), ?_⟩
    match j, hj with
    | 0, hj =>
      cases hj
      refine ⟨_, rfl, rfl, _, rfl, ?_⟩
      rw [decide_eq_true (show V.str (wordS 0) = V.str "add_unknown" from rfl)]
      refine iteT ⟨_, rfl, _, rfl, ?_⟩
      exact ⟨c, g, p, xs, as, rfl, hC, hg, hav, hl, hwf, hres⟩
    | 1, hj =>
      obtain ⟨v, x, xs, as, rfl, hv, hav, rfl⟩ := ed1 hj hav
      refine ⟨_, rfl, rfl, _, rfl, ?_⟩
      rw [decide_eq_false (show ¬ V.str (wordS 1) = V.str "add_unknown" from by decide)]
      refine iteF ?_
      refine ⟨_, rfl, rfl, _, rfl, ?_⟩
      rw [decide_eq_true (show V.str (wordS 1) = V.str "add_equation" from rfl)]
      refine iteT ⟨_, rfl, g, _, rfl, .inr hg, _, _, rfl, rfl, _, rfl, ?_⟩
      rw [decide_eq_true (show (1 : Int) ≤ ((v :: xs).length : Int) from by rw [List.length_cons]; omega)]
      refine iteT ⟨_, rfl, _, rfl, g, _, _, _, rfl, rfl, hg, (atI_nat (j := 0) rfl), _, rfl, _, rfl, g, _, rfl, hg, fun h => absurd h (cut1_no v xs), fun _ q hq => ?_⟩
      rw [cut1]
      have sm : Same H (upd H q (.tup xs)) := same_new hq
      exact ⟨c, q, p, v, x, xs, as, rfl, hC.keep sm, SqT.of upd_same, avs_keep hav sm, by rw [List.length_cons] at hl; omega, hv.keep sm, hwf, hres.later sm⟩
    | 2, hj =>
      obtain ⟨v, w, a, b, rfl, hv, hw, rfl⟩ := ed2 (.inl rfl) hj hav
      refine ⟨_, rfl, rfl, _, rfl, ?_⟩
      rw [decide_eq_false (show ¬ V.str (wordS 2) = V.str "add_unknown" from by decide)]
      refine iteF ?_
      refine ⟨_, rfl, rfl, _, rfl, ?_⟩
      rw [decide_eq_false (show ¬ V.str (wordS 2) = V.str "add_equation" from by decide)]
      refine iteF ?_
      refine ⟨_, rfl, rfl, _, rfl, ?_⟩
      rw [decide_eq_true (show V.str (wordS 2) = V.str "add_entry" from rfl)]
      refine iteT ⟨_, rfl, g, _, rfl, .inr hg, rfl, _, rfl, ?_⟩
      refine iteT ⟨_, rfl, _, rfl, g, _, _, _, rfl, rfl, hg, (atI_nat (j := 0) rfl), _, rfl, g, _, _, _, rfl, rfl, hg, (atI_nat (j := 1) rfl), ?_⟩
      exact ⟨c, p, v, w, a, b, rfl, hC, hwf, hv, hw, hres⟩
    | 3, hj =>
      obtain ⟨v, w, a, b, rfl, hv, hw, rfl⟩ := ed2 (.inr rfl) hj hav
      refine ⟨_, rfl, rfl, _, rfl, ?_⟩
      rw [decide_eq_false (show ¬ V.str (wordS 3) = V.str "add_unknown" from by decide)]
      refine iteF ?_
      refine ⟨_, rfl, rfl, _, rfl, ?_⟩
      rw [decide_eq_false (show ¬ V.str (wordS 3) = V.str "add_equation" from by decide)]
      refine iteF ?_
      refine ⟨_, rfl, rfl, _, rfl, ?_⟩
      rw [decide_eq_false (show ¬ V.str (wordS 3) = V.str "add_entry" from by decide)]
      refine iteF ?_
      refine ⟨_, rfl, rfl, _, rfl, ?_⟩
      rw [decide_eq_true (show V.str (wordS 3) = V.str "remove_entry" from rfl)]
      refine iteT ⟨_, rfl, g, _, rfl, .inr hg, rfl, _, rfl, ?_⟩
      refine iteT ⟨_, rfl, _, rfl, g, _, _, _, rfl, rfl, hg, (atI_nat (j := 0) rfl), _, rfl, g, _, _, _, rfl, rfl, hg, (atI_nat (j := 1) rfl), ?_⟩
      exact ⟨c, p, v, w, a, b, rfl, hC, hwf, hv, hw, hres⟩
    | 4, hj =>
      obtain ⟨v, a, rfl, hv, rfl⟩ := ed4 (.inl rfl) hj hav
      refine ⟨_, rfl, rfl, _, rfl, ?_⟩
      rw [decide_eq_false (show ¬ V.str (wordS 4) = V.str "add_unknown" from by decide)]
      refine iteF ?_
      refine ⟨_, rfl, rfl, _, rfl, ?_⟩
      rw [decide_eq_false (show ¬ V.str (wordS 4) = V.str "add_equation" from by decide)]
      refine iteF ?_
      refine ⟨_, rfl, rfl, _, rfl, ?_⟩
      rw [decide_eq_false (show ¬ V.str (wordS 4) = V.str "add_entry" from by decide)]
      refine iteF ?_
      refine ⟨_, rfl, rfl, _, rfl, ?_⟩
      rw [decide_eq_false (show ¬ V.str (wordS 4) = V.str "remove_entry" from by decide)]
      refine iteF ?_
      refine ⟨_, rfl, rfl, _, rfl, ?_⟩
      rw [decide_eq_true (show V.str (wordS 4) = V.str "remove_equation" from rfl)]
      refine iteT ⟨_, rfl, g, _, rfl, .inr hg, rfl, _, rfl, ?_⟩
      refine iteT ⟨_, rfl, _, rfl, g, _, _, _, rfl, rfl, hg, (atI_nat (j := 0) rfl), ?_⟩
      exact ⟨c, p, v, a, rfl, hC, hwf, hv, hres⟩
    | 5, hj =>
      obtain ⟨v, a, rfl, hv, rfl⟩ := ed4 (.inr rfl) hj hav
      refine ⟨_, rfl, rfl, _, rfl, ?_⟩
      rw [decide_eq_false (show ¬ V.str (wordS 5) = V.str "add_unknown" from by decide)]
      refine iteF ?_
      refine ⟨_, rfl, rfl, _, rfl, ?_⟩
      rw [decide_eq_false (show ¬ V.str (wordS 5) = V.str "add_equation" from by decide)]
      refine iteF ?_
      refine ⟨_, rfl, rfl, _, rfl, ?_⟩
      rw [decide_eq_false (show ¬ V.str (wordS 5) = V.str "add_entry" from by decide)]
      refine iteF ?_
      refine ⟨_, rfl, rfl, _, rfl, ?_⟩
      rw [decide_eq_false (show ¬ V.str (wordS 5) = V.str "remove_entry" from by decide)]
      refine iteF ?_
      refine ⟨_, rfl, rfl, _, rfl, ?_⟩
      rw [decide_eq_false (show ¬ V.str (wordS 5) = V.str "remove_equation" from by decide)]
      refine iteF ?_
      refine ⟨_, rfl, rfl, _, rfl, ?_⟩
      rw [decide_eq_true (show V.str (wordS 5) = V.str "remove_unknown" from rfl)]
      refine iteT ⟨_, rfl, g, _, rfl, .inr hg, rfl, _, rfl, ?_⟩
      refine iteT ⟨_, rfl, _, rfl, g, _, _, _, rfl, rfl, hg, (atI_nat (j := 0) rfl), ?_⟩
      exact ⟨c, p, v, a, rfl, hC, hwf, hv, hres⟩
    | n + 6, hj => cases as <;> cases hj
end
end Bo
set_option Elab.async false
set_option linter.all false
set_option maxRecDepth 100000
set_option maxHeartbeats 8000000
namespace Bo
open PySem L2
theorem pt_none {X : Cx} {e : Expr} : PT X e (fun _ _ _ => False) := ⟨fun _ _ _ _ _ _ h => h.elim⟩
def spAEd (K : PySem.W.Frag) (CC : Addr) (cs : Nat → Addr) : Sp := fun vs H Q E => ∃ (c q : Addr) (n : Int) (p : Pl) (j : Nat) (xs : List V) (as : List Arg) (e : Ed), vs = [.ref c, .ref q, .bl false, .int n] ∧ CtIn K CC H c (ctP p) ∧ PlWf p ∧ SqT K H q (.str (wordS j) :: xs) ∧ mkEd j as = some e ∧ Paired (AV K H) xs as ∧ xs.length ≤ 1000 ∧ EdRes K CC cs E H Q (edP p e)
section
variable {P : Program} {w : World} {K : PySem.W.Frag} {mg : Str → Option Value} {base : Heap} {CC fCI CB CS fSI fTk : Addr} {cs fs : Nat → Addr} {fds : Nat → FuncData}
theorem scAEd : FnScope ["contents", "edit", "linear", "around"] ["contents", "edit", "linear", "around"] (defScope sAEd) := ⟨rfl, rfl, rfl, by decide +kernel, rfl, by decide +kernel, by decide +kernel⟩
theorem ok_aed {f fC : Addr} {fd fdC : FuncData} (F : Fun K "after_edit" "after_edit" sAEd f fd) (T : TxtC mg) (TL : mg "len" = none)
    (GC : FnOk P w K mg base (L2N.CX P w) 10 fC fdC ["contents", "word", "given"] (spAC K CC cs)) (mC : mg "after_call" = some (.ref fC)) (kC : PySem.W.keepIn K (.ref fC) = true) (bC : Binds K fdC ["contents", "word", "given"] []) :
    FnOk P w K mg base (L2N.CX P w) 11 f fd ["contents", "edit", "linear", "around"] (spAEd K CC cs) := by
  refine F.okN scAEd (fun vs H Q E h => ?_) (fun cdv A outer s H vs Q E hr h => ?_)
  · obtain ⟨c, q, n, p, j, xs, as, e, rfl, _⟩ := h
    rfl
  · obtain ⟨c, q, n, p, j, xs, as, e, rfl, hC, hwf, hq, hj, hav, hl, hres⟩ := h
    refine ⟨_, pss_cons (ps_if (PW.pt (pw_or (pt_not (pt_val (pe_callB call_isi (by rfl) T.isi (by decide +kernel) (pa_cons (pv 1) (pa_cons (pe_bltn (v := .ty "tuple") (by rfl) T.tup (by decide +kernel) rfl) pa_nil))))) (pw_or1 (pt_cmpR op_eq (pe_callB call_len_seq (by rfl) TL PySem.boot_len (pa_cons (pv 1) pa_nil)) pe_int (nomark _))))) (pss_one ps_never) pss_nil)
      (pss_cons (ps_if (pt_cmpR op_eq (pe_ix ix_tup (pv 1) pe_int (fun _ _ => rfl)) pe_str (nomark _)) (pss_one ps_never) pss_nil)
      (pss_cons (ps_if (PW.pt (pw_and (pt_val (pv 2)) (pw_and1 pt_none))) (pss_one ps_never) pss_nil)
      (pss_one (ps_ret (pe_call GC hr rfl mC kC bC .nil (L2N.passes_call (L2N.takes_of rfl rfl rfl rfl) (fun _ _ _ _ h => h)) (pa_cons (pv 0) (pa_cons (pe_ix ix_tup (pv 1) pe_int (fun _ _ => rfl)) (pa_cons (pe_slice sl_tupA (pv 1) (po_some pe_int) po_none) pa_nil)))))))), ?_⟩
    refine ⟨_, rfl, _, _, _, _, true, rfl, .ty "tuple", sqT_ty hq, kit_ty (by decide +kernel), _, rfl, ?_⟩
    refine iteF ⟨_, rfl, q, _, rfl, .inr hq, rfl, _, rfl, ?_⟩
    rw [decide_eq_false (show ¬ V.int ((V.str (wordS j) :: xs).length : Int) = V.int 0 from fun e => by injection e with e; rw [List.length_cons] at e; omega)]
    refine iteF ⟨_, rfl, q, _, _, _, rfl, rfl, hq, atI_nat (j := 0) rfl, rfl, _, rfl, ?_⟩
    have hatt : ¬ V.str (wordS j) = V.str "attempt" := fun e => by
      have e := V.str.inj e
      revert e
      match j, hj with
      | 0, _ => decide
      | 1, _ => decide
      | 2, _ => decide
      | 3, _ => decide
      | 4, _ => decide
      | 5, _ => decide
      | n + 6, hj => cases as <;> cases hj
    rw [decide_eq_false hatt]
    refine iteF ⟨_, rfl, _, rfl, iteF ?_⟩
    refine iteF ⟨_, rfl, _, rfl, q, _, _, _, rfl, rfl, hq, atI_nat (j := 0) rfl, _, rfl, _, rfl, q, _, rfl, hq, fun h => absurd h (cut1_no _ xs), fun _ t ht => ?_⟩
    rw [cut1]
    have sm : Same H (upd H t (.tup xs)) := same_new ht
    exact ⟨c, t, p, j, xs, as, e, rfl, hC.keep sm, hwf, SqT.of upd_same, hj, avs_keep hav sm, hl, hres.later sm⟩
end
end Bo
set_option Elab.async false
set_option linter.all false
set_option maxRecDepth 100000
set_option maxHeartbeats 4000000
namespace Bo
open PySem PySem.Spec PyProof.Rows L2
abbrev enO (it : Addr) : Obj := { cls := .type "enumerate", data := .fields #[.none, .bool false, .ref it, PySem.rawInt 0, .none, .none] }
theorem meets_enum1 {v : Value} {o : Obj} {Pr : Heap → Prop} (B : Begins v o Pr) :
    Meets (Builtin.«enumerate.__new__» ⟨[.type "enumerate", v], []⟩) (fun _ R s => Pr s.heap ∧ R (.ok (.ret (.ref (s.heap.push o).objs.size))) { s with heap := (s.heap.push o).push (enO s.heap.objs.size) }) := by
  refine .of_wp fun prog w A R s hyp => ?_
  obtain ⟨h0, g, d, tk, os⟩ := s
  obtain ⟨pr, fin⟩ := hyp
  have sub := sub_enumerate
  have it1 : ∀ {A' : Around} {E Q : Value → Shared → Prop}, Q (.ref h0.objs.size) ⟨h0.push o, g, d, tk, os⟩ → wpAny (model prog w) A' (pyIter v) Q E ⟨h0, g, d, tk, os⟩ := fun q => B.iter prog w _ _ _ _ pr q
  wp_walk using it1
  refine wpAny_stack_any fun st => wpAny_pure ?_
  split
  · rename_i c _ _ _ _ _
    cases (c == Value.type "enumerate") <;> (wp_walk using it1; exact ⟨_, rfl, fin⟩)
  · wp_walk using it1
    exact ⟨_, rfl, fin⟩
theorem call_enumT {prog : Program} {w : World} {A : Around} {E Q : Value → Shared → Prop} {s : Shared} {t : Addr} {its : Array Value} (ht : s.heap.IsTuple t its)
    (fin : ∀ h', IsEnum h' (s.heap.objs.size + 1) s.heap.objs.size 0 .none → h'.IsTupleIter s.heap.objs.size t 0 → (∀ b o, s.heap.get? b = some o → h'.get? b = some o) → Q (.ref (s.heap.objs.size + 1)) { s with heap := h' }) :
    wpAny (model prog w) A (call (.type "enumerate") [.ref t]) Q E s := by
  have B := begins_tuple t its
  refine callType_new F.called_enumerate (by decide) (F.typeCall_enumerate_1 _) (F.newCall_enumerate_1 _) (fun obj => F.args_object_init_2 obj _) F.entry_enumerate_new (meets_enum1 B) ⟨ht, ?_⟩
  have z1 : (s.heap.push { cls := .type "tuple_iterator", data := .fields #[.ref t, .int 0 0] }).objs.size = s.heap.objs.size + 1 := Heap.size_push ..
  have z2 : IsEnum ((s.heap.push { cls := .type "tuple_iterator", data := .fields #[.ref t, .int 0 0] }).push (enO s.heap.objs.size)) (s.heap.objs.size + 1) s.heap.objs.size 0 .none := by
    have q := Heap.get?_push_size (s.heap.push { cls := .type "tuple_iterator", data := .fields #[.ref t, .int 0 0] }) (o := enO s.heap.objs.size) rfl
    rwa [z1] at q
  show _ ∧ _
  rw [z1]
  exact ⟨⟨_, z2, rfl⟩, fin _ z2 ⟨_, Heap.get?_push_of_some _ (Heap.get?_push_size _ rfl), rfl, rfl⟩ fun b o e => Heap.get?_push_of_some _ (Heap.get?_push_of_some _ e)⟩
/-- the tuple at a, each item in a new pair -/
def Iet (K : PySem.W.Frag) (a : Addr) : It :=
  ⟨fun i H => ∃ (xs : List V) (x : V), SqT K H a xs ∧ xs[i]? = some x, fun i H v H' => ∃ t x, v = .ref t ∧ H t = none ∧ H' = upd H t (.tup [.int (i : Nat), x]) ∧ ∀ xs, SqT K H a xs → xs[i]? = some x, fun i H => ∃ xs : List V, SqT K H a xs ∧ xs.length ≤ i⟩
theorem walk_enumT {K : PySem.W.Frag} {a : Addr} {xs : List V} : Walk (Iet K a) xs.length (fun H => SqT K H a xs) (YPair (fun i => some (.int (i : Nat))) (fun i => xs[i]?)) :=
  ⟨fun i _ l q => ⟨xs, xs[i], q, List.getElem?_eq_getElem l⟩, fun _ q => ⟨xs, q, Nat.le_refl _⟩, fun i H v H' _ q ⟨t, x, h1, h2, h3, h4⟩ => ⟨t, .int (i : Nat), x, h1, h2, h3, rfl, h4 xs q⟩⟩
theorem turn_enumT {P : Program} {w : World} {K : PySem.W.Frag} {elts : List Expr} {kk : Nat} {tp : Pos} (a e it : Addr) (na : a ≠ it) :
    Turn P w K (.Tuple elts kk tp) (Iet K a) [e, it] e (fun i h => (∃ old, IsEnum h e it ((i : Nat) : Int) old) ∧ h.IsTupleIter it a i ∧ e ≠ it) where
  mem := List.mem_cons_self
  obj := by
    rintro i h ⟨⟨old, he⟩, ⟨o, ho, hc, hd⟩, _⟩ b hb
    rcases List.mem_cons.mp hb with rfl | hb
    · exact ⟨_, he, fun v q => nomatch q⟩
    · rw [List.mem_singleton.mp hb]
      exact ⟨o, ho, fun v q => by rw [hd] at q; cases q⟩
  keep := by
    rintro i h h' ⟨⟨old, he⟩, hi, ne⟩ k
    exact ⟨⟨old, k e (by simp) _ he⟩, hi.at fun o q => k it (by simp) o q, ne⟩
  item := by
    intro X hP hw hK hc i pins s σ H E I hf st hg
    subst hP hw hK
    obtain ⟨⟨old, he⟩, hit, hne⟩ := st
    obtain ⟨xs, x, hq, hx⟩ := hg
    obtain ⟨its, rv, p, hz⟩ := I.tuple hq
    obtain ⟨u, hu, ru⟩ := rv.get hx
    have ht : s.heap.IsTuple a its.toArray := p
    have hh : X.A.in1.handled = none := I.ok.hd hc
    have le : e < s.heap.objs.size := Heap.lt_size he
    have li : it < s.heap.objs.size := let ⟨_, q, _⟩ := hit; Heap.lt_size q
    have lt : i < its.toArray.size := (Array.getElem?_eq_some_iff.mp (show its.toArray[i]? = some u by simpa using hu)).1
    have hfa : e ∉ [it, a] := fun m => by
      rcases List.mem_cons.mp m with z | z
      · exact hne z
      · have z := List.mem_singleton.mp z
        obtain ⟨o, ho, hc2, _⟩ := ht
        rw [← z, he] at ho
        cases ho
        injection hc2 with q
        exact absurd q (by decide)
    refine wpAny_pyNext_enum_itemD (Draws.tuple hh it a na its.toArray) he ⟨hit, ht⟩ lt hne hfa fun x' h' tk hx' ho st' hT hsz hk => ?_
    have ex : x' = u := by
      have q : its.toArray[i]? = some u := by simpa using hu
      exact Option.some.inj (hx'.symm.trans q)
    subst ex
    refine ⟨_, rfl, wpAny_letOwnedTupleGo_enum (s := { s with heap := h', toks := tk + 1 }) ho fun h'' he' sb => ?_⟩
    have hT2 : h''.get? s.heap.objs.size = some { cls := .type "tuple", data := .seq #[.int i tk, x'] } := (sb.2 _ (Nat.ne_of_gt le)).trans hT
    have I1 : Inv X pins σ (upd H s.heap.objs.size (.tup [.int (i : Nat), x])) { s with heap := h'', toks := tk + 1 } :=
      I.turnedNew (ch := [e, it]) (fun b ob hb q => (sb.2 b (fun z => hb (by simp [z]))).trans (hk b ob (fun z => hb (by simp [z])) (fun z => hb (by simp [z])) q)) hf (Nat.le_refl _)
        ⟨by show 2 ≤ sizeLine; decide, [.int i tk, x'], .cons ⟨_, rfl⟩ (.cons ru .nil), ⟨_, hT2, rfl, _, rfl⟩⟩
    refine ⟨.ref s.heap.objs.size, _, I1, rfl, ⟨_, x, rfl, I.hok.fresh (Nat.le_refl _), rfl, fun ys hy => by rw [I.tuple_inj hy hq]; exact hx⟩, ⟨⟨x', ?_⟩, st'.1.at fun o q => (sb.2 it (Ne.symm hne)).trans q, hne⟩, fun b hb => ?_⟩
    · have e1 : ((i + 1 : Nat) : Int) = (i : Int) + 1 := by omega
      rw [e1]
      exact he'
    · have lb : b < s.heap.objs.size := by
        rcases List.mem_cons.mp hb with rfl | z
        · exact le
        · rw [List.mem_singleton.mp z]
          exact li
      rw [upd_ne (Nat.ne_of_lt lb)]
      exact (hf b hb).1
  done := by
    intro X hP hw hK hc i pins s σ H E I hf st hg
    subst hP hw hK
    obtain ⟨⟨old, he⟩, hit, hne⟩ := st
    obtain ⟨xs, hq, hx⟩ := hg
    obtain ⟨its, rv, p, hz⟩ := I.tuple hq
    have ht : s.heap.IsTuple a its.toArray := p
    have hl := rv.length
    obtain ⟨f0, f1, f2, f3, f4, f5⟩ := hf it (by simp)
    have D : Draws X.prog X.w X.A.in1 it [it, a] i (fun _ _ => True) (fun j h => j = i ∧ h.IsTupleIter it a i ∧ h.IsTuple a its.toArray) := {
      live := fun _ _ st => let ⟨o, ho, _⟩ := st.2.1; ⟨o, ho⟩
      frame := fun _ _ _ st k => ⟨st.1, st.2.1.at fun o e => k it (by simp) o e, st.2.2.at fun o e => k a (by simp) o e⟩
      item := fun j _ _ _ lt st _ => absurd st.1 (Nat.ne_of_lt lt)
      done := fun s Q E st k => wpAny_nextOf_tuple_end (I.ok.hd hc) st.2.1 st.2.2 (by simp; omega) k }
    exact wpAny_pyNext_enum_endD D he ⟨rfl, hit, ht⟩ fun h' eb => ⟨rfl, I.turned (t' := s.toks) (fun b o hb q => eb b o hb q) f0 f1 f3 f4 f5⟩
  self := fun A i s Q E st h => let ⟨⟨_, he⟩, _⟩ := st; wpAny_pyIter_enum he h
def iEnumT (K : PySem.W.Frag) (ta : TA) : TI := fun σ H R => ta σ H fun vs H1 => ∃ a xs, vs = [.ref a] ∧ SqT K H1 a xs ∧ R (Iet K a) H1
theorem pi_enumT {X : Cx} {e : Expr} {ta : TA} {p pos tp : Pos} {elts : List Expr} {kk : Nat} (hg : Gl X "enumerate") (hm : X.mg "enumerate" = none) (ha : PA X [e] ta) (hs : starEach [e] X.env = [(false, eval e X.env)] := by rfl) :
    PI X (.Tuple elts kk tp) (.Call (.Name "enumerate" p) [e] [] pos) (iEnumT X.K ta) := by
  constructor
  intro pins s σ H R I h
  refine Call_ (ld_blt I hg hm boot_enumerate (PyProof.Rows.callWith_type1 (thn (ha.run pos pins s σ H _ I h) ?_) hs rfl))
  rintro us s1 ⟨vs, H1, I1, r1, a, xs, rfl, hq, q⟩
  obtain ⟨u, rfl, ru⟩ := vals1 r1
  cases ru
  obtain ⟨its, rv, tp', hz⟩ := I1.tuple hq
  have ht : s1.heap.IsTuple a its.toArray := tp'
  have al : a < s1.heap.objs.size := let ⟨_, q, _⟩ := ht; Heap.lt_size q
  refine call_enumT ht fun h' he hit hk => wpAny_pyIter_enum he ?_
  have I2 : Inv X pins σ H1 { s1 with heap := h' } := I1.kept (t' := s1.toks) hk
  refine ⟨s1.heap.objs.size + 1, [s1.heap.objs.size + 1, s1.heap.objs.size], _, _, H1, rfl, I2, turn_enumT a (s1.heap.objs.size + 1) s1.heap.objs.size (Nat.ne_of_lt al), ⟨⟨.none, he⟩, hit, Nat.succ_ne_self _⟩, fun b hb => ?_, q⟩
  have le : s1.heap.objs.size ≤ b := by
    rcases List.mem_cons.mp hb with z | z
    · rw [z]
      exact Nat.le_add_right _ _
    · rw [List.mem_singleton.mp z]
      exact Nat.le_refl _
  exact I1.fpOk le (I1.hok.fresh le)
end Bo
set_option Elab.async false
set_option linter.all false
set_option maxRecDepth 100000
set_option maxHeartbeats 8000000
namespace Bo
open PySem PySem.Spec PyProof.Rows L2 L2H
section
variable {P : Program} {w : World} {K : PySem.W.Frag} {mg : Str → Option Value} {base : Heap}
theorem okH {CX : CXT} {x qual : Str} {st : Stmt} {f : Addr} {fd : FuncData} {N ps : List Str} {k : Nat} {sp : Sp} (F : Fun K x qual st f fd) (S : FnScope N ps (defScope st)) (len : ∀ vs H Q E, sp vs H Q E → vs.length = ps.length)
    (hbody : ∀ (cdv : Value) (A : Around) (outer : List Env) (s : Shared) (H : Hp) (vs : List V) (Q : VK) (E : XK) (p : Addr × Obj), Hot1 A p → RoomH k (A.deeper (envOfC qual (defScope st) s.heap.objs.size f cdv)) → sp vs H Q E →
      ∃ t, PSs (cxH CX P w K mg base N qual (defScope st) f cdv A outer s H E p) (defBody st) t ∧ t { nx := fun _ H' => Q .non H', rt := Q } (L2.start N vs) H) : FnH P w K mg base CX (k + 1) f fd ps sp := by
  obtain ⟨oc, od, kV, doc, pm, an, cdv, ct, osl, rfl, lk, hcd⟩ := F.ex
  exact fn_ofH lk hcd S len fun A outer s H vs Q E p hot hr hsp => hbody cdv A outer s H vs Q E p hot hr hsp
theorem ok_atomH {f : Addr} {fd : FuncData} (F : Fun K "copied" "copied" sCopied f fd) (T : TxtC mg) : FnH P w K mg base CX0 1 f fd ["thing"] spAtom := by
  refine okH F scC (fun vs H Q E h => ?_) (fun cdv A outer s H vs Q E p hot hr h => ?_)
  · obtain ⟨v, rfl, _⟩ := h
    rfl
  · obtain ⟨v, rfl, hv, q⟩ := h
    refine ⟨_, pss_cons (ps_if (pt_val (pe_callB call_isi (by rfl) T.isi (by decide +kernel) (pa_cons (pv 0) (pa_cons (pe_bltn (v := .ty "tuple") (by rfl) T.tup (by decide +kernel) rfl) pa_nil)))) (pss_one ps_never) pss_nil)
      (pss_cons (ps_if (pt_val (pe_callB call_isi (by rfl) T.isi (by decide +kernel) (pa_cons (pv 0) (pa_cons (pe_bltn (v := .ty "list") (by rfl) T.lst (by decide +kernel) rfl) pa_nil)))) (pss_one ps_never) pss_nil)
      (pss_cons (ps_if (pt_val (pe_callB call_isi (by rfl) T.isi (by decide +kernel) (pa_cons (pv 0) (pa_cons (pe_bltn (v := .ty "dict") (by rfl) T.dct (by decide +kernel) rfl) pa_nil)))) (pss_one ps_never) pss_nil)
      (pss_one (ps_ret (pv 0))))), ?_⟩
    refine ⟨_, rfl, v, _, _, _, false, rfl, .ty "tuple", atom_ty hv, atom_no hv K (.inl rfl), _, rfl, iteF ?_⟩
    refine ⟨_, rfl, v, _, _, _, false, rfl, .ty "list", atom_ty hv, atom_no hv K (.inr (.inl rfl)), _, rfl, iteF ?_⟩
    refine ⟨_, rfl, v, _, _, _, false, rfl, .ty "dict", atom_ty hv, atom_no hv K (.inr (.inr rfl)), _, rfl, iteF ?_⟩
    exact ⟨_, rfl, q⟩
/-- an error whose field is an atom -/
def spInitA (K : PySem.W.Frag) (f : Str) : Sp := fun vs H Q _ => ∃ (a C : Addr) (v : V), vs = [.ref a, v] ∧ H a = some (exo a C none) ∧ OexC K C ∧ PySem.W.findIn K (.ref C) f = some none ∧ atomV v = true ∧
  ∀ (dx : Addr) (H' : Hp), (∀ b o, H b = some o → b ≠ a → H' b = some o) → H' a = some (exo a C (some dx)) → H' dx = some (exd dx [(f, v)]) → H dx = none → dx ≠ a → Q .non H'
theorem pass0H {X : Cx} {σ : L2.St} {E : XK} : L2.PassesAt CX0 X σ E := fun _ _ _ _ _ _ h => h.elim
theorem ok_er9H {f fC : Addr} {fd fdC : FuncData} (F : Fun K "__init__" "EditFailed.__init__" sEr9 f fd) (G : FnH P w K mg base CX0 1 fC fdC ["thing"] spAtom) (mC : mg "copied" = some (.ref fC)) (kC : PySem.W.keepIn K (.ref fC) = true) (bC : Binds K fdC ["thing"] []) :
    FnH P w K mg base CX0 2 f fd ["self", "index"] (spInitA K "index") := by
  refine okH F scEr9 (fun vs H Q E h => ?_) (fun cdv A outer s H vs Q E p hot hr h => ?_)
  · obtain ⟨a, C, v, rfl, _⟩ := h
    rfl
  · obtain ⟨a, C, v, rfl, ha, T, hno, hat, k⟩ := h
    refine ⟨_, pss_one (ps_ost (pv 0) (pe_callH (E := fun _ _ _ _ => False) G hr ⟨p, hot, List.mem_singleton_self _⟩ rfl mC kC bC (fun σ => pass0H) (pa_cons (pv 1) pa_nil))), ?_⟩
    refine ⟨v, rfl, v, rfl, hat, _, rfl, a, C, rfl, T, hno, .inl ⟨ha, fun dx hdx ne => ?_⟩⟩
    refine k dx _ (fun b o e ba => ?_) upd_same (by rw [upd_ne ne]; exact upd_same) hdx ne
    rw [upd_ne ba, upd_ne (ne_of_none e hdx)]
    exact e
theorem pe_conK {Y : Cx} {K : PySem.W.Frag} {e : Expr} {f : Str} {pos : Pos} {ta : TE} (hK : Y.K = K) (he : PE Y e ta) (hb : attributeBase e f Y.env (eval e Y.env) = eval e Y.env) : PE Y (.Attribute e f pos) (tCon K ta f) := by
  subst hK
  exact pe_con he hb
theorem raise_readI {K : PySem.W.Frag} {E : XK} {H : Hp} {C fI : Addr} {f : Str} {n : Int} (T : ErrC K C fI f) (h : Thrown2 K E H C f (.int n)) :
    [V.int n].length ≤ 1000 ∧ ∀ a, H a = none → spInitA K f (.ref a :: ([V.int n] ++ [])) (upd H a (exo a C none)) (fun v H2 => v = .non ∧ ∃ (d : Addr) (fs : List (Str × V)), H2 a = some (exo a C (some d)) ∧ H2 d = some (exd d fs) ∧ H d = none ∧ E (.ref C) (some d) (upd (del H2 a) d (.xd fs))) (fun _ _ _ => False) := by
  refine ⟨by show 1 ≤ 1000; decide, fun a ha => ⟨a, C, .int n, rfl, upd_same, T.o, T.no, rfl, fun dx H' k e1 e2 e3 e4 => ⟨rfl, dx, _, e1, e2, ?_, h dx (.int n) _ (fun b o e => ?_) upd_same (.fl (.atom (v := .int n) rfl))⟩⟩⟩
  · rw [upd_ne e4] at e3
    exact e3
  · have ba := ne_of_none e ha
    have nd : b ≠ dx := fun z => by
      rw [upd_ne e4, ← z, e] at e3
      cases e3
    rw [upd_ne nd, del_ne ba]
    exact k b o (by rw [upd_ne ba]; exact e) ba
theorem chkU_er {known : List Str} {us : List Arg} {er : Er} (h : chkU known us = some er) : er.1 < 6 := by
  unfold chkU at h
  split at h
  · cases h; show 2 < 6; decide
  · obtain ⟨_, _, rfl⟩ := Option.map_eq_some_iff.mp h
    show 1 < 6
    decide
theorem chkN_er {p : Pl} {e u : Arg} {er : Er} (h : chkN p e u = .error er) : er.1 < 6 := by
  unfold chkN at h
  split at h
  · split at h
    · split at h
      · cases h
      · cases h; show 2 < 6; decide
    · cases h; show 2 < 6; decide
  · split at h
    · cases h; show 2 < 6; decide
    · cases h; show 2 < 6; decide
  · cases h; show 2 < 6; decide
theorem edP_er {p : Pl} {e : Ed} {er : Er} (h : edP p e = .error er) : er.1 < 6 := by
  unfold edP at h
  cases e with
  | addU xs =>
    dsimp only [newU] at h
    split at h
    · cases h; show 0 < 6; decide
    · split at h
      · cases h; show 1 < 6; decide
      · split at h
        · cases h; show 5 < 6; decide
        · cases h
  | addE x us =>
    dsimp only [newE] at h
    split at h
    · cases h; show 0 < 6; decide
    · split at h
      · cases h; show 0 < 6; decide
      · split at h
        · cases h; show 1 < 6; decide
        · split at h
          · cases h; show 5 < 6; decide
          · split at h
            · rename_i q
              cases h
              exact chkU_er q
            · cases h
  | addN e u =>
    dsimp only at h
    split at h
    · rename_i q
      cases h
      exact chkN_er q
    · split at h
      · cases h; show 3 < 6; decide
      · cases h
  | rmN e u =>
    dsimp only at h
    split at h
    · rename_i q
      cases h
      exact chkN_er q
    · split at h
      · cases h
      · cases h; show 4 < 6; decide
  | rmE e =>
    dsimp only at h
    split at h
    · split at h
      · cases h
      · cases h; show 2 < 6; decide
    · cases h; show 2 < 6; decide
  | rmU e =>
    dsimp only at h
    split at h
    · split at h
      · cases h
      · cases h; show 2 < 6; decide
    · cases h; show 2 < 6; decide
def tTryO (tb : WX → TS) (w : Ends → WX) : TS := fun D σ H => tb (w D) D σ H
theorem ps_tryO {X : Cx} {st : Stmt} {tb : WX → TS} {w : Ends → WX} (h : PS X st (fun D σ H => tb (w D) D σ H)) : PS X st (tTryO tb w) := h
abbrev sApply : Stmt := inClass sSys 14
theorem scApply : FnScope ["self", "edits", "contents", "index", "edit"] ([("self" : Str)] ++ [("edits" : Str)]) (defScope sApply) := ⟨rfl, rfl, rfl, by decide +kernel, rfl, by decide +kernel, by decide +kernel⟩
inductive EdV (K : PySem.W.Frag) (H : Hp) : V → Ed → Prop where
  | mk {q : Addr} {j : Nat} {xs : List V} {as : List Arg} {e : Ed} (h : SqT K H q (.str (wordS j) :: xs)) (m : mkEd j as = some e) (p : Paired (AV K H) xs as) (l : xs.length ≤ 1000) : EdV K H (.ref q) e
theorem EdV.keep {K : PySem.W.Frag} {H H' : Hp} {v : V} {e : Ed} (h : EdV K H v e) (k : Same H H') : EdV K H' v e := by
  cases h with
  | mk h m p l => exact .mk (SqT.keep h k) m (avs_keep p k) l
def ApRes (K : PySem.W.Frag) (CC CS : Addr) (cs : Nat → Addr) (E : XK) (H0 : Hp) (s : Addr) (Bs Hs : List Ct) (p : Pl) (H : Hp) (Q : VK) : Except Nat Pl → Prop
  | .error i => Thrown2 K E H (cs 9) "index" (.int i)
  | .ok p' => ∀ H', SyG K CC CS H0 H' s (ctP p') Bs (histG Bs Hs (ctP p)) → Q .non H'
theorem ApRes.later {K : PySem.W.Frag} {CC CS : Addr} {cs : Nat → Addr} {E : XK} {H0 H H1 : Hp} {s : Addr} {Bs Hs : List Ct} {p : Pl} {Q : VK} {r : Except Nat Pl} (h : ApRes K CC CS cs E H0 s Bs Hs p H Q r) (k : Same H H1) : ApRes K CC CS cs E H0 s Bs Hs p H1 Q r := by
  cases r with
  | error e => exact Thrown2.later h k
  | ok p' => exact h
end
end Bo
set_option Elab.async false
set_option linter.all false
set_option maxRecDepth 100000
set_option maxHeartbeats 4000000
namespace Bo
open PySem PySem.Spec PyProof.Rows L2
inductive DueV (K : PySem.W.Frag) (H : Hp) : V → Option Er → Prop where
  | no : DueV K H .non none
  | er {a : Addr} {w : V} {er : Er} (h : SqT K H a [.str (erWord er.1), w]) (f : Fl2 K H w er.2) : DueV K H (.ref a) (some er)
theorem DueV.keep {K : PySem.W.Frag} {H H' : Hp} {v : V} {o : Option Er} (h : DueV K H v o) (k : Same H H') : DueV K H' v o := by
  cases h with
  | no => exact .no
  | er h f => exact .er (SqT.keep h k) (f.keep k)
def dueD : Option Er → PyData
  | none => .none
  | some er => .tuple [.str (erWord er.1), er.2]
/-- the first of a pair is no list and has no dict -/
def FstOk (d : PyData) : Prop := ∀ dx dy, d = .tuple [dx, dy] → (∀ l, dx ≠ .list l) ∧ dx.hasDict = false
structure ErOk (er : Er) : Prop where
  s : er.2.showable = true
  p : er.2.depth ≤ 6
  z : er.2.shown.length ≤ 1100
  f : FstOk er.2
section
variable {X : Cx} {pins : List (Addr × Obj)} {σ : L2.St} {H : Hp} {s : Shared}
theorem flat_plain (I : L2.Inv X pins σ H s) {v : V} {d : PyData} {u : Value} (f : Flat X.K H v d) (r : RelV v u) (n1 : ∀ l, d ≠ .list l) (n2 : d.hasDict = false) : Reads s.heap u d [] := by
  cases f with
  | atom h => exact atom_reads h r
  | tup h x l =>
    cases r
    obtain ⟨its, rv, ⟨o, ho, hc, n, hd⟩, _⟩ := I.tuple h
    exact Reads.tuple ho hc hd (atoms_reads x rv)
  | lst h x l => exact absurd rfl (n1 _)
  | dct h x nd l => cases n2
theorem Fl2.reads (I : L2.Inv X pins σ H s) {v : V} {d : PyData} {u : Value} (f : Fl2 X.K H v d) (fo : FstOk d) (r : RelV v u) : ∃ as, Reads s.heap u d as ∧ (d.hasDict = true → sysModules ∉ as) := by
  cases f with
  | fl h => exact h.reads I r
  | pr h hx hy =>
    obtain ⟨n1, n2⟩ := fo _ _ rfl
    cases r
    obtain ⟨its, rv, ⟨o, ho, hc, n, hd⟩, _⟩ := I.tuple h
    cases rv with
    | cons r1 r2 =>
      cases r2 with
      | cons r2 r3 =>
        cases r3
        have q1 := flat_plain I hx r1 n1 n2
        obtain ⟨bs, q2, g2⟩ := hy.reads I r2
        have ra : ReadsAll s.heap _ _ ([] ++ (bs ++ [])) := ReadsAll.cons q1 (ReadsAll.cons q2 .nil)
        rw [List.nil_append, List.append_nil] at ra
        refine ⟨bs, Reads.tuple ho hc hd ra, fun z => g2 ?_⟩
        rename_i dx dy _ _ _
        have e : PyData.hasDict (.tuple [dx, dy]) = (PyData.hasDict dx || (PyData.hasDict dy || false)) := rfl
        rw [e, n2, Bool.false_or, Bool.or_false] at z
        exact z
theorem DueV.reads (I : L2.Inv X pins σ H s) {v : V} {o : Option Er} {u : Value} (f : DueV X.K H v o) (ok : ∀ er, o = some er → ErOk er) (r : RelV v u) : ∃ as, Reads s.heap u (dueD o) as ∧ ((dueD o).hasDict = true → sysModules ∉ as) := by
  cases f with
  | no =>
    cases r
    exact ⟨[], .none, fun _ => List.not_mem_nil⟩
  | @er a w er h f =>
    cases r
    obtain ⟨its, rv, ⟨o, ho, hc, n, hd⟩, _⟩ := I.tuple h
    cases rv with
    | cons r1 r2 =>
      cases r2 with
      | cons r2 r3 =>
        cases r3
        obtain ⟨t, rfl⟩ := r1
        obtain ⟨bs, q2, g2⟩ := Fl2.reads I f (ok _ rfl).f r2
        have ra : ReadsAll s.heap _ _ ([] ++ (bs ++ [])) := ReadsAll.cons (.str (erWord er.1) t) (ReadsAll.cons q2 .nil)
        rw [List.nil_append, List.append_nil] at ra
        refine ⟨bs, Reads.tuple ho hc hd ra, fun z => g2 ?_⟩
        have e : PyData.hasDict (dueD (some er)) = (false || (PyData.hasDict er.2 || false)) := rfl
        rw [e, Bool.false_or, Bool.or_false] at z
        exact z
end
theorem two_show (a b : PyData) : (PyData.tuple [a, b]).shown = ((Str.ofString "(" ++ ((a.shown ++ (Str.ofString ", ")) ++ b.shown)) ++ Str.ofString ")") := rfl
theorem len_app' (x y : Str) : (x ++ y).length = x.length + y.length := by
  show (x.cps ++ y.cps).size = _
  rw [Array.size_append]
  rfl
theorem two_len (a b : PyData) : (PyData.tuple [a, b]).shown.length = a.shown.length + b.shown.length + 4 := by
  rw [two_show, len_app', len_app', len_app', len_app']
  have a1 : (Str.ofString "(").length = 1 := rfl
  have a2 : (Str.ofString ", ").length = 2 := rfl
  have a3 : (Str.ofString ")").length = 1 := rfl
  omega
theorem word_len (j : Nat) : (PyData.str (erWord j)).shown.length ≤ 11 := by
  unfold erWord
  split <;> decide +kernel
theorem due_ok {o : Option Er} (ok : ∀ er, o = some er → ErOk er) : (dueD o).showable = true ∧ (dueD o).depth ≤ 60 ∧ (dueD o).shown.length ≤ sizeLine := by
  cases o with
  | none => exact ⟨rfl, by decide, by decide⟩
  | some er =>
    have k := ok _ rfl
    refine ⟨?_, ?_, ?_⟩
    · show (true && (er.2.showable && true)) = true
      rw [k.s]
      rfl
    · show max 0 (max er.2.depth 0) + 1 ≤ 60
      have := k.p
      omega
    · show (PyData.tuple [.str (erWord er.1), er.2]).shown.length ≤ sizeLine
      rw [two_len, sizeLine_eq]
      have := k.z
      have := word_len er.1
      omega
/-- repr(what is due) -/
def rReprDue (K : PySem.W.Frag) : List V → Hp → VK → Prop := fun xs H Q => ∃ (x : V) (o : Option Er), xs = [x] ∧ DueV K H x o ∧ (∀ er, o = some er → ErOk er) ∧ Q (.str (dueD o).shown) H
theorem call_reprDue {X : Cx} {k : Nat} (hr : Quiet k X.A) : CallR X (.builtin "repr") (rReprDue X.K) := by
  intro pins s σ H xs us Q I r h
  obtain ⟨x, o, rfl, hd, ok, q⟩ := h
  obtain ⟨u, rfl, ru⟩ := vals1 r
  obtain ⟨hs, hdep, hz⟩ := due_ok ok
  have hun := hr.room.un
  obtain ⟨as, R, hsm⟩ := DueV.reads I hd ok ru
  cases hd with
  | no =>
    cases ru
    exact P.repr_of_none ⟨.str PyData.none.shown, H, I.tok _, ⟨_, rfl⟩, q⟩
  | er h f =>
    cases ru
    refine repr_of_reads' R hs hsm hr.gd (by omega) (fun _ _ e => e) (fun h' u tk hk => ?_) hz
    exact ⟨.str _, H, I.kept (t' := tk) hk, ⟨u, rfl⟩, q⟩
end Bo
set_option Elab.async false
set_option linter.all false
set_option maxRecDepth 100000
set_option maxHeartbeats 4000000
namespace Bo
open PySem L2
def ArgOk : Arg → Prop
  | .nm y => TxtOk y
  | .od d => d.showable = true ∧ d.depth ≤ 5 ∧ d.shown.length ≤ 1000 ∧ FstOk d
theorem chkN_args {p : Pl} {e u : Arg} {q : Str × Str} (h : chkN p e u = .ok q) : e = .nm q.1 ∧ u = .nm q.2 ∧ q.1 ∈ p.keys ∧ q.2 ∈ p.us := by
  unfold chkN at h
  split at h
  · split at h
    · split at h
      · rename_i h1 h2
        cases h
        exact ⟨rfl, rfl, h1, h2⟩
      · cases h
    · cases h
  · split at h <;> cases h
  · cases h
theorem setRow_mem {α : Type} {y : Str} {r : α} {q : Str × α} : ∀ {rows : List (Str × α)}, q ∈ setRow rows y r → q ∈ rows ∨ q = (y, r)
  | p :: rows, h => by
    unfold setRow at h
    rw [List.map_cons] at h
    rcases List.mem_cons.mp h with e | e
    · by_cases z : p.1 = y
      · rw [if_pos z] at e
        exact .inr (by rw [e, z])
      · rw [if_neg z] at e
        exact .inl (by rw [e]; exact List.mem_cons_self)
    · rcases setRow_mem (y := y) (r := r) (rows := rows) e with z | z
      · exact .inl (List.mem_cons_of_mem _ z)
      · exact .inr z
theorem edP_wf (p : Pl) (e : Ed) (w : PlWf p) (q : Pl) (h : edP p e = .ok q) : PlWf q := by
  unfold edP at h
  cases e with
  | addU xs =>
    dsimp only [newU] at h
    split at h
    · cases h
    · rename_i hb
      split at h
      · cases h
      · rename_i hd
        split at h
        · cases h
        · rename_i hl
          cases h
          obtain ⟨_, hn⟩ := badA_none hb
          have nd := dupT_none w.u hd
          exact ⟨w.k, w.nk, nd, fun y hy => (List.mem_append.mp hy).elim (w.nu y) (hn y), fun row hr => ⟨(w.r _ hr).1, fun x hx => List.mem_append_left _ ((w.r _ hr).2 x hx)⟩, w.lk, by show (p.us ++ nmS xs).length ≤ 24; rw [List.length_append]; omega⟩
  | addE x us =>
    dsimp only [newE] at h
    split at h
    · cases h
    · rename_i y0
      split at h
      · cases h
      · rename_i hok
        split at h
        · cases h
        · rename_i hk
          split at h
          · cases h
          · rename_i hl
            split at h
            · cases h
            · rename_i y hu
              cases h
              have hlk : lackA p.us us = none := by
                unfold chkU at hu
                cases z : lackA p.us us with
                | none => rfl
                | some u => rw [z] at hu; cases hu
              have hdp : dupT [] (nmS us) = none := by
                unfold chkU at hu
                rw [hlk] at hu
                exact Option.map_eq_none_iff.mp hu
              obtain ⟨_, hin⟩ := lackA_none hlk
              have hnd := dupT_none List.nodup_nil hdp
              have ek : ({ p with rows := p.rows ++ [(y0, nmS us)] } : Pl).keys = p.keys ++ [y0] := by
                unfold Pl.keys
                rw [List.map_append]
                rfl
              refine ⟨?_, ?_, w.u, w.nu, ?_, ?_, w.lu⟩
              · rw [ek]
                exact List.nodup_append.mpr ⟨w.k, List.nodup_cons.mpr ⟨List.not_mem_nil, List.nodup_nil⟩, fun a ha b hb e => hk (by rw [List.mem_singleton.mp hb] at e; rw [← e]; exact ha)⟩
              · intro z hz
                rw [ek] at hz
                rcases List.mem_append.mp hz with m | m
                · exact w.nk z m
                · rw [List.mem_singleton.mp m]
                  cases hh : nameOk y0 with
                  | true => rfl
                  | false => exact absurd hh hok
              · intro row hr
                rcases List.mem_append.mp hr with m | m
                · exact w.r row m
                · rw [List.mem_singleton.mp m]
                  exact ⟨hnd, hin⟩
              · show (p.rows ++ [_]).length ≤ 24
                rw [List.length_append]
                show p.rows.length + 1 ≤ 24
                omega
  | addN e u =>
    dsimp only at h
    split at h
    · cases h
    · rename_i y x hq
      obtain ⟨_, _, hy, hx⟩ := chkN_args hq
      split at h
      · cases h
      · rename_i hxr
        cases h
        have hrow := w.r _ (w.rowOf hy)
        have ek : ({ p with rows := setRow p.rows y (rowOf p.rows y ++ [x]) } : Pl).keys = p.keys := setRow_keys _ _ _
        refine ⟨by rw [ek]; exact w.k, by rw [ek]; exact w.nk, w.u, w.nu, fun row hr => ?_, by show (setRow _ _ _).length ≤ 24; unfold setRow; rw [List.length_map]; exact w.lk, w.lu⟩
        rcases setRow_mem hr with m | rfl
        · exact w.r row m
        · refine ⟨List.nodup_append.mpr ⟨hrow.1, List.nodup_cons.mpr ⟨List.not_mem_nil, List.nodup_nil⟩, fun a ha b hb e => hxr (by rw [List.mem_singleton.mp hb] at e; rw [← e]; exact ha)⟩, fun z hz => ?_⟩
          rcases List.mem_append.mp hz with m | m
          · exact hrow.2 z m
          · rw [List.mem_singleton.mp m]; exact hx
  | rmN e u =>
    dsimp only at h
    split at h
    · cases h
    · rename_i y x hq
      obtain ⟨_, _, hy, hx⟩ := chkN_args hq
      split at h
      · cases h
        have hrow := w.r _ (w.rowOf hy)
        have ek : ({ p with rows := setRow p.rows y ((rowOf p.rows y).filter fun z => !decide (z = x)) } : Pl).keys = p.keys := setRow_keys _ _ _
        refine ⟨by rw [ek]; exact w.k, by rw [ek]; exact w.nk, w.u, w.nu, fun row hr => ?_, by show (setRow _ _ _).length ≤ 24; unfold setRow; rw [List.length_map]; exact w.lk, w.lu⟩
        rcases setRow_mem hr with m | rfl
        · exact w.r row m
        · exact ⟨hrow.1.filter _, fun z hz => hrow.2 z (List.mem_filter.mp hz).1⟩
      · cases h
  | rmE e =>
    dsimp only at h
    split at h
    · split at h
      · rename_i y hy
        cases h
        have sub : (dropRow p.rows y).Sublist p.rows := List.filter_sublist
        refine ⟨(sub.map _).nodup w.k, fun z hz => w.nk z ((sub.map _).subset hz), w.u, w.nu, fun row hr => w.r row (sub.subset hr), Nat.le_trans sub.length_le w.lk, w.lu⟩
      · cases h
    · cases h
  | rmU e =>
    dsimp only at h
    split at h
    · split at h
      · rename_i x hx
        cases h
        have sub : (p.us.filter fun z => !decide (z = x)).Sublist p.us := List.filter_sublist
        have ek : ({ rows := p.rows.map fun r => (r.1, r.2.filter fun z => !decide (z = x)), us := p.us.filter fun z => !decide (z = x) } : Pl).keys = p.keys := by
          unfold Pl.keys
          rw [List.map_map]
          rfl
        refine ⟨by rw [ek]; exact w.k, by rw [ek]; exact w.nk, sub.nodup w.u, fun z hz => w.nu z (sub.subset hz), fun row hr => ?_, by show (p.rows.map _).length ≤ 24; rw [List.length_map]; exact w.lk, Nat.le_trans sub.length_le w.lu⟩
        obtain ⟨r0, h0, rfl⟩ := List.mem_map.mp hr
        refine ⟨(w.r _ h0).1.filter _, fun z hz => ?_⟩
        have z1 := List.mem_filter.mp hz
        exact List.mem_filter.mpr ⟨(w.r _ h0).2 z z1.1, z1.2⟩
      · cases h
    · cases h
end Bo
set_option Elab.async false
set_option linter.all false
set_option maxRecDepth 100000
set_option maxHeartbeats 4000000
namespace Bo
open PySem PySem.Spec PyProof.Rows L2
/-- an edit, an attempt, or what is no edit -/
inductive ET where
  | ed (e : Ed)
  | att (es : List ET)
  | no
mutual
/-- the plain system after it, n attempts around it -/
def tryP : ET → Nat → Pl → Option Pl
  | .ed e, _, p => match edP p e with
    | .ok q => some q
    | .error _ => none
  | .no, _, _ => none
  | .att es, n, p => if n ≤ 4 then some ((tryL es (n + 1) p).getD p) else none
def tryL : List ET → Nat → Pl → Option Pl
  | [], _, p => some p
  | e :: es, n, p => match tryP e n p with
    | none => none
    | some q => tryL es n q
end
/-- all of them, or the number of the first that fails -/
def appT : List ET → Pl → Nat → Except Nat Pl
  | [], p, _ => .ok p
  | e :: es, p, i => match tryP e 0 p with
    | none => .error i
    | some q => appT es q (i + 1)
mutual
theorem tryP_wf : ∀ (e : ET) (n : Nat) (p q : Pl), PlWf p → tryP e n p = some q → PlWf q
  | .ed e, n, p, q, w, h => by
    unfold tryP at h
    split at h
    · cases h
      rename_i r
      exact edP_wf p e w _ r
    · cases h
  | .no, n, p, q, w, h => by
    unfold tryP at h
    cases h
  | .att es, n, p, q, w, h => by
    unfold tryP at h
    split at h
    · have h := Option.some.inj h
      cases z : tryL es (n + 1) p with
      | none => rw [z] at h; rw [← h]; exact w
      | some r => rw [z] at h; rw [← h]; exact tryL_wf es (n + 1) p r w z
    · cases h
theorem tryL_wf : ∀ (es : List ET) (n : Nat) (p q : Pl), PlWf p → tryL es n p = some q → PlWf q
  | [], n, p, q, w, h => by
    unfold tryL at h
    cases h
    exact w
  | e :: es, n, p, q, w, h => by
    unfold tryL at h
    split at h
    · cases h
    · rename_i r z
      exact tryL_wf es n r q (tryP_wf e n p r w z) h
end
theorem avT {K : PySem.W.Frag} {H : Hp} : ∀ {ys : List Str}, (∀ y ∈ ys, TxtOk y) → Paired (AV K H) (ys.map V.str) (ys.map Arg.nm)
  | [], _ => .nil
  | y :: ys, h => .cons (.nm (by
      have h1 := (h y List.mem_cons_self).l
      have h2 : y.length = y.cps.toList.length := (Array.length_toList (xs := y.cps)).symm
      omega)) (avT fun z hz => h z (List.mem_cons_of_mem _ hz))
theorem argT {ys : List Str} (h : ∀ y ∈ ys, TxtOk y) : ∀ x ∈ ys.map Arg.nm, ArgOk x := fun x hx => by
  obtain ⟨y, hy, rfl⟩ := List.mem_map.mp hx
  exact h y hy
/-- what the value is as an edit: a tuple of a word and texts, of 'attempt' and edits -/
inductive EvT (K : PySem.W.Frag) (H : Hp) : V → ET → Prop where
  | ed {q : Addr} {j : Nat} {ys : List Str} {e : Ed} (h : SqT K H q (.str (wordS j) :: ys.map V.str)) (m : mkEd j (ys.map Arg.nm) = some e) (tx : ∀ y ∈ ys, TxtOk y) (l : ys.length ≤ 90) : EvT K H (.ref q) (.ed e)
  | att {q : Addr} {xs : List V} {es : List ET} (h : SqT K H q (.str "attempt" :: xs)) (p : Paired (EvT K H) xs es) (l : xs.length ≤ 900) : EvT K H (.ref q) (.att es)
theorem EvT.map {K : PySem.W.Frag} {H H' : Hp} (k : ∀ q xs, SqT K H q xs → SqT K H' q xs) : ∀ {v : V} {t : ET}, EvT K H v t → EvT K H' v t
  | _, _, .ed h m p l => .ed (k _ _ h) m p l
  | _, _, .att h p l => .att (k _ _ h) (go p) l
where go : ∀ {xs : List V} {es : List ET}, Paired (EvT K H) xs es → Paired (EvT K H') xs es
  | _, _, .nil => .nil
  | _, _, .cons q t => .cons (EvT.map k q) (go t)
theorem EvT.keep {K : PySem.W.Frag} {H H' : Hp} (k : Same H H') {v : V} {t : ET} (h : EvT K H v t) : EvT K H' v t := EvT.map (fun _ _ z => SqT.keep z k) h
theorem EvT.keeps {K : PySem.W.Frag} {H H' : Hp} (k : Same H H') {xs : List V} {es : List ET} (h : Paired (EvT K H) xs es) : Paired (EvT K H') xs es := EvT.map.go (fun _ _ z => SqT.keep z k) h
/-- over a change of a dict -/
theorem SqT.butD {K : PySem.W.Frag} {H H' : Hp} {t a : Addr} {ks : List (Key × V)} {xs : List V} (d : H t = some (.dK ks)) (b : But t H H') (h : SqT K H a xs) : SqT K H' a xs :=
  h.elim (fun z => .inl (z.elim (fun z => .inl (b _ _ z fun e => by rw [e, d] at z; cases z)) fun ⟨o, z⟩ => .inr ⟨o, b _ _ z fun e => by rw [e, d] at z; cases z⟩)) .inr
end Bo
set_option Elab.async false
set_option linter.all false
set_option maxRecDepth 100000
set_option maxHeartbeats 4000000
namespace Bo
open PySem PySem.Spec PyProof.Rows L2
theorem pmk_own0 {X : Cx} {C : Addr} {bmB : List Value} {B newId initId : String} {x : Str} {p pos : Pos} (F : ExcBaseFacts B newId initId bmB) (q : PySem.W.excIn X.K C bmB newId = true) (gC : X.mg x = some (.ref C))
    (kC : PySem.W.keepIn X.K (.ref C) = true) (r : Raises X (.ref C)) (hg : Gl X x) (hdb : (x == ("__debug__" : Str)) = false := by decide) :
    PMk X (.Call (.Name x p) [] [] pos) (fun _ H Q => Q (.ref C) none H) := by
  intro pins s σ H Q I h
  refine wpAny_Call_Name_kw (ld_glob I hg gC ?_ hdb)
  refine PySem.W.callWith_K0 I.kIn kC ?_
  show wpAny _ _ (call (.ref C) []) _ _ _
  obtain ⟨bm, N, nm, qn, bs, hdct, sn, sub, ab, col, dd, k0, k1, k2, k3, k5, mN, hC, hN, hni, T⟩ := exc_obj I.kIn q
  refine wpAny_call_exc_subT F T hC hN hni (fun h' e hm => ?_) (Nat.zero_le _)
  exact mk_of I hm r h (I.hok.gone hm.new)
/-- what the written part says of an error class without fields -/
structure BareC (K : PySem.W.Frag) (mg : Str → Option Value) (x : Str) (C : Addr) : Prop where
  q : PySem.W.excIn K C [.type "ValueError", .type "Exception", .type "BaseException", .type "object"] "ValueError.__new__" = true
  g : mg x = some (.ref C)
  k : PySem.W.keepIn K (.ref C) = true
  b : PySem.W.subIn K (.ref C) (.type "BaseException") = some true
  t : PySem.W.typeIn K (.ref C) = some (.type "type")
/-- what reading asks of a System -/
structure Sv (K : PySem.W.Frag) (CC CS : Addr) (H : Hp) (s : Addr) (S : Ct) (n : Nat) : Prop where
  ex : ∃ dx c b h bs, H s = some (.ins CS dx (syF c b h)) ∧ H b = some (.lst bs) ∧ bs.length = n ∧ CtIn K CC H c S
theorem Sv.keep {K : PySem.W.Frag} {CC CS : Addr} {H H' : Hp} {s : Addr} {S : Ct} {n : Nat} (h : Sv K CC CS H s S n) (k : Same H H') : Sv K CC CS H' s S n :=
  let ⟨dx, c, b, h, bs, e1, e2, e3, e4⟩ := h.ex; ⟨dx, c, b, h, bs, k _ _ e1, k _ _ e2, e3, e4.keep k⟩
theorem SyG.sv {K : PySem.W.Frag} {CC CS : Addr} {H0 H : Hp} {s : Addr} {S : Ct} {Bs Hs : List Ct} (Y : SyG K CC CS H0 H s S Bs Hs) : Sv K CC CS H s S Bs.length :=
  let ⟨dx, c, b, h, bs, hs, Y, C, p1, _⟩ := Y; ⟨dx, c, b, h, bs, Y.i, Y.b, (pair_len p1).symm, C⟩
def spEqsV (K : PySem.W.Frag) (CC CS : Addr) : Sp := fun vs H Q _ => ∃ (s : Addr) (S : Ct) (n : Nat), vs = [.ref s] ∧ Sv K CC CS H s S n ∧ S.rows.length < 64 ∧ ∀ (t : Addr) (H' : Hp), Same H H' → SqT K H' t ((srt (S.rows.map (·.1))).map V.str) → Q (.ref t) H'
def spUnsV (K : PySem.W.Frag) (CC CS : Addr) : Sp := fun vs H Q _ => ∃ (s : Addr) (S : Ct) (n : Nat), vs = [.ref s] ∧ Sv K CC CS H s S n ∧ ∀ (t : Addr), SqT K H t (S.cols.map V.str) → Q (.ref t) H
end Bo
set_option Elab.async false
set_option linter.all false
set_option maxRecDepth 100000
set_option maxHeartbeats 8000000
namespace L2N
open PySem PySem.Spec PyProof.Rows L2
theorem pmk_own0 {X : Cx} {C : Addr} {bmB : List Value} {B newId initId : String} {x : Str} {p pos : Pos} (F : ExcBaseFacts B newId initId bmB) (q : PySem.W.excIn X.K C bmB newId = true) (gC : X.mg x = some (.ref C))
    (kC : PySem.W.keepIn X.K (.ref C) = true) (r : Raises X (.ref C)) (hg : Gl X x) (hdb : (x == ("__debug__" : Str)) = false := by decide) :
    L2N.PMk X (.Call (.Name x p) [] [] pos) (fun _ H Q => Q (.ref C) none H) := by
  intro pins s σ H Q I h
  refine wpAny_Call_Name_kw (ld_glob I hg gC ?_ hdb)
  refine PySem.W.callWith_K0 I.kIn kC ?_
  show wpAny _ _ (call (.ref C) []) _ _ _
  obtain ⟨bm, N, nm, qn, bs, hdct, sn, sub, ab, col, dd, k0, k1, k2, k3, k5, mN, hC, hN, hni, T⟩ := exc_obj I.kIn q
  refine wpAny_call_exc_subT F T hC hN hni (fun h' e hm => ?_) (Nat.zero_le _)
  exact L2N.mk_of I hm r h (I.hok.gone hm.new)
end L2N
namespace Bo
open PySem PySem.Spec PyProof.Rows L2 L2H
theorem _root_.L2.FnOk.or {P : Program} {w : World} {K : PySem.W.Frag} {mg : Str → Option Value} {base : Heap} {CX : CXT} {k : Nat} {f : Addr} {fd : FuncData} {ps : List Str} {sp sp' : Sp} (F : FnOk P w K mg base CX k f fd ps sp) (F' : FnOk P w K mg base CX k f fd ps sp') :
    FnOk P w K mg base CX k f fd ps (fun vs H Q E => sp vs H Q E ∨ sp' vs H Q E) :=
  ⟨fun vs H Q E q => q.elim (F.len vs H Q E) (F'.len vs H Q E), fun A outer s H args us vs Q E hr he hb hv hs => hs.elim (F.run A outer s H args us vs Q E hr he hb hv) (F'.run A outer s H args us vs Q E hr he hb hv)⟩
abbrev sAA : Stmt := top 53
/-- the contents after it, or an error of the package -/
def TrRes (K : PySem.W.Frag) (CC CB : Addr) (E : XK) (H : Hp) (Q : VK) : Option Pl → Prop
  | some q => ∀ a H', Same H H' → CtIn K CC H' a (ctP q) → Q (.ref a) H'
  | none => ∀ cls d H', Same H H' → PySem.W.exmOne K cls (.ref CB) = some true → E cls d H'
theorem TrRes.later {K : PySem.W.Frag} {CC CB : Addr} {E : XK} {H H1 : Hp} {Q : VK} {r : Option Pl} (h : TrRes K CC CB E H Q r) (k : Same H H1) : TrRes K CC CB E H1 Q r := by
  cases r with
  | none => exact fun cls d H' z => h cls d H' (k.trans z)
  | some q => exact fun a H' z => h a H' (k.trans z)
theorem TrRes.ed {K : PySem.W.Frag} {CC CB : Addr} {cs : Nat → Addr} {E : XK} {H : Hp} {Q : VK} {p : Pl} {e : Ed} {n : Nat} (h : TrRes K CC CB E H Q (tryP (.ed e) n p)) (x : ∀ j, j < 11 → PySem.W.exmOne K (.ref (cs j)) (.ref CB) = some true) : EdRes K CC cs E H Q (edP p e) := by
  unfold tryP at h
  cases r : edP p e with
  | error er =>
    rw [r] at h
    have := edP_er r
    exact fun dx v H' k _ _ => h _ _ H' k (x _ (by omega))
  | ok q =>
    rw [r] at h
    exact fun a H' k z => h a H' k z
def spTE (K : PySem.W.Frag) (CC CB : Addr) (n : Nat) : Sp := fun vs H Q E => ∃ (c : Addr) (v : V) (p : Pl) (t : ET), vs = [.ref c, v, .bl false, .int n] ∧ CtIn K CC H c (ctP p) ∧ PlWf p ∧ EvT K H v t ∧ TrRes K CC CB E H Q (tryP t n p)
def spAA (K : PySem.W.Frag) (CC CB : Addr) (n : Nat) : Sp := fun vs H Q E => ∃ (c q : Addr) (xs : List V) (es : List ET) (p : Pl), vs = [.ref c, .ref q, .bl false, .int n] ∧ CtIn K CC H c (ctP p) ∧ PlWf p ∧ SqT K H q xs ∧ Paired (EvT K H) xs es ∧ xs.length ≤ 900 ∧ TrRes K CC CB E H Q (tryP (.att es) n p)
/-- after_edit of an attempt -/
def spTEa (K : PySem.W.Frag) (CC CB : Addr) (n : Nat) : Sp := fun vs H Q E => ∃ (c q : Addr) (xs : List V) (es : List ET) (p : Pl), vs = [.ref c, .ref q, .bl false, .int n] ∧ CtIn K CC H c (ctP p) ∧ PlWf p ∧ SqT K H q (.str "attempt" :: xs) ∧ Paired (EvT K H) xs es ∧ xs.length ≤ 900 ∧ TrRes K CC CB E H Q (tryP (.att es) n p)
structure TxtA (K : PySem.W.Frag) (mg : Str → Option Value) (CB cN : Addr) : Prop where
  most : ∃ t, mg "MOST_AROUND" = some (.int 4 t)
  B : mg "BlockorderError" = some (.ref CB)
  N : BareC K mg "NoEdit" cN
  x : PySem.W.exmOne K (.ref cN) (.ref CB) = some true
section
variable {P : Program} {w : World} {K : PySem.W.Frag} {mg : Str → Option Value} {base : Heap} {CC fCI CB CS fSI fTk cN : Addr} {cs fs : Nat → Addr} {fds : Nat → FuncData}
theorem scAA : FnScope ["contents", "edits", "linear", "around", "changed", "edit"] ["contents", "edits", "linear", "around"] (defScope sAA) := ⟨rfl, rfl, rfl, by decide +kernel, rfl, by decide +kernel, by decide +kernel⟩
theorem ok_aea {k n : Nat} {f fA : Addr} {fd fdA : FuncData} (F : Fun K "after_edit" "after_edit" sAEd f fd) (T : TxtC mg) (TL : mg "len" = none)
    (GA : FnOk P w K mg base (L2N.CX P w) k fA fdA ["contents", "edits", "linear", "around"] (spAA K CC CB n)) (mA : mg "after_attempt" = some (.ref fA)) (kA : PySem.W.keepIn K (.ref fA) = true) (bA : Binds K fdA ["contents", "edits", "linear", "around"] []) :
    FnOk P w K mg base (L2N.CX P w) (k + 1) f fd ["contents", "edit", "linear", "around"] (spTEa K CC CB n) := by
  refine F.okN scAEd (fun vs H Q E h => ?_) (fun cdv A outer s H vs Q E hr h => ?_)
  · obtain ⟨c, q, xs, es, p, rfl, _⟩ := h
    rfl
  · obtain ⟨c, q, xs, es, p, rfl, hC, hwf, hq, hes, hl, hres⟩ := h
    refine ⟨_, pss_cons (ps_if (PW.pt (pw_or (pt_not (pt_val (pe_callB call_isi (by rfl) T.isi (by decide +kernel) (pa_cons (pv 1) (pa_cons (pe_bltn (v := .ty "tuple") (by rfl) T.tup (by decide +kernel) rfl) pa_nil))))) (pw_or1 (pt_cmpR op_eq (pe_callB call_len_seq (by rfl) TL PySem.boot_len (pa_cons (pv 1) pa_nil)) pe_int (nomark _))))) (pss_one ps_never) pss_nil)
      (pss_cons (ps_if (pt_cmpR op_eq (pe_ix ix_tup (pv 1) pe_int (fun _ _ => rfl)) pe_str (nomark _))
        (pss_one (ps_ret (pe_call GA hr rfl mA kA bA .nil (L2N.passes_call (L2N.takes_of rfl rfl rfl rfl) (fun _ _ _ _ h => h)) (pa_cons (pv 0) (pa_cons (pe_slice sl_tupA (pv 1) (po_some pe_int) po_none) (pa_cons (pv 2) (pa_cons (pv 3) pa_nil))))))) pss_nil)
      (pss_cons ps_never (pss_one ps_never))), ?_⟩
    refine ⟨_, rfl, _, _, _, _, true, rfl, .ty "tuple", sqT_ty hq, kit_ty (by decide +kernel), _, rfl, ?_⟩
    refine iteF ⟨_, rfl, q, _, rfl, .inr hq, rfl, _, rfl, ?_⟩
    rw [decide_eq_false (show ¬ V.int ((V.str "attempt" :: xs).length : Int) = V.int 0 from fun e => by injection e with e; rw [List.length_cons] at e; omega)]
    refine iteF ⟨_, rfl, q, _, _, _, rfl, rfl, hq, atI_nat (j := 0) rfl, rfl, _, rfl, ?_⟩
    rw [decide_eq_true (show V.str "attempt" = V.str "attempt" from rfl)]
    refine iteT ⟨_, rfl, _, rfl, _, rfl, q, _, rfl, hq, fun h => absurd h (cut1_no _ xs), fun _ t ht => ?_⟩
    rw [cut1]
    have sm : Same H (upd H t (.tup xs)) := same_new ht
    exact ⟨_, rfl, _, rfl, c, t, xs, es, p, rfl, hC.keep sm, hwf, SqT.of upd_same, EvT.keeps sm hes, hl, hres.later sm⟩
theorem ok_aa5 {n : Nat} {f : Addr} {fd : FuncData} (hn : ¬ n ≤ 4) (F : Fun K "after_attempt" "after_attempt" sAA f fd) (T : TxtA K mg CB cN) :
    FnOk P w K mg base (L2N.CX P w) 1 f fd ["contents", "edits", "linear", "around"] (spAA K CC CB n) := by
  obtain ⟨tm, mM⟩ := T.most
  refine F.okN scAA (fun vs H Q E h => ?_) (fun cdv A outer s H vs Q E hr h => ?_)
  · obtain ⟨c, q, xs, es, p, rfl, _⟩ := h
    rfl
  · obtain ⟨c, q, xs, es, p, rfl, hC, hwf, hq, hes, hl, hres⟩ := h
    refine ⟨_, pss_cons (ps_if (pt_cmpR op_gt (pv 3) (pe_glob (v := .int 4) (by rfl) mM ⟨_, rfl⟩) (nomark _)) (pss_one (L2N.ps_raise rfl (L2N.takes_of rfl rfl rfl rfl) (L2N.pmk_own0 PySem.F.excBase_ValueError T.N.q T.N.g T.N.k (raises_own T.N.b T.N.t) rfl))) pss_nil)
      (pss_cons ps_never (pss_cons ps_never (pss_one ps_never))), ?_⟩
    unfold tryP at hres
    rw [if_neg hn] at hres
    refine ⟨_, rfl, _, _, rfl, rfl, _, rfl, ?_⟩
    rw [decide_eq_true (show (n : Int) > 4 from by omega)]
    exact iteT (hres _ _ _ (Same.refl H) T.x)
theorem ok_aa {k n : Nat} {f fE : Addr} {fd fdE : FuncData} (hn : n ≤ 4) (F : Fun K "after_attempt" "after_attempt" sAA f fd) (T : TxtA K mg CB cN)
    (GE : FnOk P w K mg base (L2N.CX P w) k fE fdE ["contents", "edit", "linear", "around"] (spTE K CC CB (n + 1))) (mE : mg "after_edit" = some (.ref fE)) (kE : PySem.W.keepIn K (.ref fE) = true) (bE : Binds K fdE ["contents", "edit", "linear", "around"] []) :
    FnOk P w K mg base (L2N.CX P w) (k + 1) f fd ["contents", "edits", "linear", "around"] (spAA K CC CB n) := by
  obtain ⟨tm, mM⟩ := T.most
  refine F.okN scAA (fun vs H Q E h => ?_) (fun cdv A outer s H vs Q E hr h => ?_)
  · obtain ⟨c, q, xs, es, p, rfl, _⟩ := h
    rfl
  · obtain ⟨c, q, xs, es, p, rfl, hC, hwf, hq, hes, hl, hres⟩ := h
    refine ⟨_, pss_cons (ps_if (pt_cmpR op_gt (pv 3) (pe_glob (v := .int 4) (by rfl) mM ⟨_, rfl⟩) (nomark _)) (pss_one ps_never) pss_nil)
      (pss_cons (ps_set (i := 4) scAA.nd rfl (.inl rfl) (pv 0))
      (pss_cons (ps_tryO (ps_try_onlyX (Wout := fun _ _ _ _ => False) rfl rfl ⟨rfl, by decide, .inl T.B⟩ (fun hd => passesAt_of rfl hd) (fun u s' ⟨_, _, _, _, _, _, _, _, _, _, _, _, _, _, _, _, z⟩ => z.elim)
          (fun W pn xe tkN tkP pO => by
            refine pss_one (ps_for pO rfl (show PI _ _ _ (iTup K (tVar 1)) from pi_tup (pv 1)) (pg_name (i := 5) scAA.nd rfl (.inl rfl)) (pss_one (ps_set (i := 4) scAA.nd rfl (.inl rfl) (pe_callS GE hr rfl mE kE bE (fun σ => L2N.passAt tkN σ) (pa_cons (pv 4) (pa_cons (pv 5) (pa_cons (pv 2) (pa_cons (pe_op op_add (pv 3) pe_int) pa_nil)))))))))
          (fun a oe cls d pn hz hf tk hot => pss_one (ps_ret (pv 0)))))
      (pss_one (ps_ret (pv 4))))), ?_⟩
    unfold tryP at hres
    rw [if_pos hn] at hres
    refine ⟨_, rfl, _, _, rfl, rfl, _, rfl, ?_⟩
    rw [decide_eq_false (show ¬ (n : Int) > 4 from by omega)]
    refine iteF ⟨_, rfl, ?_⟩
    refine ⟨_, rfl, q, rfl, ⟨xs, hq⟩, ?_⟩
    refine for_tup (xs := xs) (fun i σ H' => (∃ (ca : Addr) (z5 : Option V) (p' : Pl), σ = [some (.ref c), some (.ref q), some (.bl false), some (.int n), some (.ref ca), z5] ∧ CtIn K CC H' ca (ctP p') ∧ PlWf p' ∧ tryL es (n + 1) p = tryL (es.drop i) (n + 1) p') ∧ Same H H') ⟨⟨c, none, p, rfl, hC, hwf, by rw [List.drop_zero]⟩, Same.refl H⟩ (fun i σ H' _ p => SqT.keep hq p.2) ?_ ?_
    · rintro i x σ H1 hx ⟨⟨ca, z5, p', rfl, hC', hw', hap⟩, sm⟩
      obtain ⟨e, he, fe⟩ := pairG hes hx
      have hdr : es.drop i = e :: es.drop (i + 1) := by
        obtain ⟨hi, e⟩ := List.getElem?_eq_some_iff.mp he
        rw [List.drop_eq_getElem_cons hi, e]
      have key : tryL es (n + 1) p = match tryP e (n + 1) p' with | none => none | some q => tryL (es.drop (i + 1)) (n + 1) q := by
        rw [hap, hdr]
        conv => lhs; unfold tryL
        all_goals (cases tryP e (n + 1) p' <;> rfl)
      refine ⟨_, rfl, _, rfl, _, rfl, _, rfl, _, _, rfl, rfl, ?_⟩
      refine ⟨ca, x, p', e, rfl, hC', hw', EvT.keep sm fe, ?_⟩
      cases r : tryP e (n + 1) p' with
      | some p2 =>
        rw [r] at key
        intro a H3 s3 C3
        exact ⟨⟨a, _, p2, rfl, C3, tryP_wf e _ _ _ hw' r, key⟩, sm.trans s3⟩
      | none =>
        rw [r] at key
        intro cls d H3 s3 ex
        have s03 := sm.trans s3
        rw [key] at hres
        exact ⟨true, ex, fun _ a ha => ⟨_, rfl, hres c H3 s03 (hC.keep s03)⟩, fun z => nomatch z⟩
    · rintro σ H1 ⟨⟨ca, z5, p', rfl, hC', hw', hap⟩, sm⟩
      have el := hes.length
      rw [el, List.drop_length] at hap
      have hap : tryL es (n + 1) p = some p' := by
        rw [hap]
        unfold tryL
        rfl
      rw [hap] at hres
      exact ⟨_, rfl, hres ca H1 sm hC'⟩
/-- both, at every depth -/
theorem ok_te (hcs : ∀ j, j < 11 → PySem.W.exmOne K (.ref (cs j)) (.ref CB) = some true) {fE fA fC : Addr} {fdE fdA fdC : FuncData} (FE : Fun K "after_edit" "after_edit" sAEd fE fdE) (FA : Fun K "after_attempt" "after_attempt" sAA fA fdA) (T : TxtC mg) (TL : mg "len" = none) (TA : TxtA K mg CB cN)
    (mE : mg "after_edit" = some (.ref fE)) (kE : PySem.W.keepIn K (.ref fE) = true) (bE : Binds K fdE ["contents", "edit", "linear", "around"] [])
    (mA : mg "after_attempt" = some (.ref fA)) (kA : PySem.W.keepIn K (.ref fA) = true) (bA : Binds K fdA ["contents", "edits", "linear", "around"] [])
    (GC : FnOk P w K mg base (L2N.CX P w) 10 fC fdC ["contents", "word", "given"] (spAC K CC cs)) (mC : mg "after_call" = some (.ref fC)) (kC : PySem.W.keepIn K (.ref fC) = true) (bC : Binds K fdC ["contents", "word", "given"] []) :
    ∀ m n : Nat, n + m = 5 → FnOk P w K mg base (L2N.CX P w) (11 + 2 * m) fE fdE ["contents", "edit", "linear", "around"] (spTE K CC CB n) := by
  have comb : ∀ {k n : Nat}, 10 ≤ k → FnOk P w K mg base (L2N.CX P w) k fA fdA ["contents", "edits", "linear", "around"] (spAA K CC CB n) → FnOk P w K mg base (L2N.CX P w) (k + 1) fE fdE ["contents", "edit", "linear", "around"] (spTE K CC CB n) := by
    intro k n hk GA
    refine (((ok_aed (cs := cs) FE T TL GC mC kC bC).mono (show 11 ≤ k + 1 by omega)).or (ok_aea FE T TL GA mA kA bA)).imp fun vs H Q E h => ?_
    obtain ⟨c, v, p, t, rfl, hC, hw, hv, hres⟩ := h
    cases hv with
    | @ed q j ys e h m tx l => exact .inl ⟨c, q, n, p, j, _, _, e, rfl, hC, hw, h, m, avT tx, by rw [List.length_map]; omega, hres.ed hcs⟩
    | @att q xs es h pp l => exact .inr ⟨c, q, xs, es, p, rfl, hC, hw, h, pp, l, hres⟩
  intro m
  induction m with
  | zero =>
    intro n hn
    exact comb (Nat.le_refl _) ((ok_aa5 (by omega) FA TA).mono (by decide))
  | succ m ih =>
    intro n hn
    have := comb (by omega) (ok_aa (by omega) FA TA (ih (n + 1) (by omega)) mE kE bE)
    exact this.mono (by omega)
end
end Bo
set_option Elab.async false
set_option linter.all false
set_option maxRecDepth 100000
set_option maxHeartbeats 8000000
namespace Bo
open PySem L2
theorem lt_one (a b : Nat) : decide (([a] : List Nat) < [b]) = decide (a < b) := by
  by_cases h : a < b
  · rw [decide_eq_true h, decide_eq_true (show ([a] : List Nat) < [b] from List.Lex.rel h)]
  · rw [decide_eq_false h, decide_eq_false]
    intro z
    cases z with
    | rel h2 => exact h h2
    | cons h2 => cases h2
abbrev sLName : Stmt := top 69
/-- _law_is_name(thing) -/
def spLName (K : PySem.W.Frag) : Sp := fun vs H Q _ => ∃ (v : V) (d : PyData), vs = [v] ∧ Flat K H v d ∧ (∀ x, v = .str x → TxtOk x) ∧ ∀ H', Same H H' → Q (.bl (nameV v)) H'
section
variable {P : Program} {w : World} {K : PySem.W.Frag} {mg : Str → Option Value} {base : Heap}
theorem scLN : FnScope ["_law_thing", "_law_sign"] ["_law_thing"] (defScope sLName) := ⟨rfl, rfl, rfl, by decide +kernel, rfl, by decide +kernel, by decide +kernel⟩
theorem ok_lname {f : Addr} {fd : FuncData} (F : Fun K "_law_is_name" "_law_is_name" sLName f fd) (T : TxtN mg) : FnOk P w K mg base CX0 1 f fd ["_law_thing"] (spLName K) := by
  refine F.ok scLN (fun vs H Q E h => ?_) (fun cdv A outer s H vs Q E hr h => ?_)
  · obtain ⟨v, d, rfl, _⟩ := h
    rfl
  · obtain ⟨v, d, rfl, hf, hz, k⟩ := h
    have hu64 : (A.deeper (PyProof.Rows.envOfC "_law_is_name" (defScope sLName) s.heap.objs.size f cdv)).units + 64 < cLine := by have := hr.un; omega
    refine ⟨_, pss_cons (ps_if (PW.pt (pw_or (pt_not (pt_val (pe_callB call_isi (by rfl) T.isi (by decide +kernel) (pa_cons (pv 0) (pa_cons (pe_bltn (v := .ty "str") (by rfl) T.str_ (by decide +kernel) rfl) pa_nil)))))
          (pw_or (pt_not (pt_chain op_le op_le pe_int (pe_callB call_len_str (by rfl) T.len PySem.boot_len (pa_cons (pv 0) pa_nil)) pe_int))
          (pw_or1 (pt_not (pt_chain op_le_str op_le_str pe_str (pe_ix ix_str (pv 0) pe_int (fun _ _ => rfl)) pe_str)))))) (pss_one (ps_ret pe_bl)) pss_nil)
      (pss_one (ps_ret (pe_cmpR (op_eqD hu64) (pe_lc (own := [("_law_sign", 1)]) (g := gName 1) rfl scLN.nd (pi_str (pv 0)) (blkOk_by (N := ["_law_thing", "_law_sign"]) (sc := defScope sLName) (by decide +kernel)) (fun _ _ _ _ _ => pg_name (i := 1) scLN.nd rfl (Or.inl rfl))
          (fun _ _ _ _ _ => pts_one (pt_cmpR op_notIn_sign (pv 1) pe_str (by rfl))) (fun _ _ _ _ _ => pv 1)) (pe_lst pa_nil) (by rfl)))), ?_⟩
    rcases flat_ty hf with ⟨x, rfl⟩ | ⟨t, ty, kn⟩
    · obtain ⟨hl, hcs⟩ := hz x rfl
      have lenE : x.length = x.cps.toList.length := (Array.length_toList (xs := x.cps)).symm
      refine ⟨_, rfl, _, _, _, _, true, rfl, .ty "str", .base (.str x), kit_ty (by decide +kernel), _, rfl, iteF ?_⟩
      have bad : (1 ≤ x.cps.toList.length ∧ x.cps.toList.length ≤ 8 → x.cps.toList.head?.any isLet = true → False) → Q (.bl false) H := fun hb => by
        have e : nameV (.str x) = false := by
          show (decide _ && (decide _ && (_ && _))) = false
          by_cases h1 : 1 ≤ x.cps.toList.length
          · by_cases h2 : x.cps.toList.length ≤ 8
            · cases h3 : x.cps.toList.head?.any isLet with
              | false => rw [Bool.false_and, Bool.and_false, Bool.and_false]
              | true => exact (hb ⟨h1, h2⟩ h3).elim
            · rw [decide_eq_false h2, Bool.false_and, Bool.and_false]
          · rw [decide_eq_false h1, Bool.false_and]
        rw [← e]
        exact k H (Same.refl H)
      refine ⟨_, rfl, x, rfl, by rw [sizeLine_eq]; omega, _, _, rfl, rfl, _, rfl, ?_⟩
      refine ite2 (fun h1 => ?_) (fun h1 => ⟨_, rfl, iteT (iteT (bad fun z _ => h1 (decide_eq_true (by omega))))⟩)
      have h1 : (1 : Int) ≤ x.length := of_decide_eq_true h1
      refine ⟨_, _, rfl, rfl, _, rfl, ite2 (fun h2 => iteT (bad fun z _ => ?_)) (fun h2 => ?_)⟩
      · rw [decide_eq_true (show ((x.length : Nat) : Int) ≤ 8 by omega)] at h2
        cases h2
      have h2 : (x.length : Int) ≤ 8 := by
        by_cases z : (x.length : Int) ≤ 8
        · exact z
        · exact absurd (by rw [decide_eq_false z]; rfl) h2
      obtain ⟨c, hc⟩ : ∃ c, x.cps.toList[0]? = some c := ⟨_, List.getElem?_eq_getElem (by omega)⟩
      have hhd : x.cps.toList.head? = some c := by
        rw [List.head?_eq_getElem?]
        exact hc
      have bad2 : isLet c = false → Q (.bl false) H := fun hb => bad fun _ z => by
        rw [hhd, show (some c).any isLet = isLet c from rfl, hb] at z
        cases z
      have ea : (Str.ofString "a").cps.toList = [97] := by decide +kernel
      have ez : (Str.ofString "z").cps.toList = [122] := by decide +kernel
      refine ⟨_, rfl, x, 0, c, rfl, rfl, by rw [sizeLine_eq]; omega, atI_nat (j := 0) hc, _, _, rfl, rfl, _, rfl, ?_⟩
      have g1 : (!decide (([c] : List Nat) < (Str.ofString "a").cps.toList)) = decide (97 ≤ c) := by
        rw [ea, lt_one]
        by_cases z : 97 ≤ c
        · rw [decide_eq_true z, decide_eq_false (by omega)]
          rfl
        · rw [decide_eq_false z, decide_eq_true (by omega)]
          rfl
      have g2 : (!decide ((Str.ofString "z").cps.toList < ([c] : List Nat))) = decide (c ≤ 122) := by
        rw [ez, lt_one]
        by_cases z : c ≤ 122
        · rw [decide_eq_true z, decide_eq_false (by omega)]
          rfl
        · rw [decide_eq_false z, decide_eq_true (by omega)]
          rfl
      refine ite2 (fun h3 => ?_) (fun h3 => ⟨_, rfl, iteT (bad2 ?_)⟩)
      rotate_left
      · rw [show (!decide (([c] : List Nat) < (Str.ofString "a").cps.toList)) = decide (97 ≤ c) from g1] at h3
        rw [isLet_eq]
        exact decide_eq_false fun z => h3 (decide_eq_true z.1)
      have h3 : 97 ≤ c := by
        rw [show (!decide (([c] : List Nat) < (Str.ofString "a").cps.toList)) = decide (97 ≤ c) from g1] at h3
        exact of_decide_eq_true h3
      refine ⟨_, _, rfl, rfl, _, rfl, ite2 (fun h4 => bad2 ?_) (fun h4 => ?_)⟩
      · rw [show (!decide ((Str.ofString "z").cps.toList < ([c] : List Nat))) = decide (c ≤ 122) from g2] at h4
        rw [isLet_eq]
        refine decide_eq_false fun z => ?_
        rw [decide_eq_true z.2] at h4
        cases h4
      have h4 : c ≤ 122 := by
        rw [show (!decide ((Str.ofString "z").cps.toList < ([c] : List Nat))) = decide (c ≤ 122) from g2] at h4
        by_cases z : c ≤ 122
        · exact z
        · exact absurd (by rw [decide_eq_false z]; rfl) h4
      have val : nameV (.str x) = x.cps.toList.all isSign := by
        show (decide _ && (decide _ && (_ && _))) = _
        rw [decide_eq_true (show 1 ≤ x.cps.toList.length by omega), decide_eq_true (show x.cps.toList.length ≤ 8 by omega), hhd, show (some c).any isLet = isLet c from rfl, isLet_eq, decide_eq_true ⟨h3, h4⟩, Bool.true_and, Bool.true_and, Bool.true_and]
      -- the signs that are none
      refine ⟨_, rfl, x, rfl, fun D hD => ?_⟩
      refine lc_it walk_str (fun i H' => H' = upd H D (.lst (((x.cps.toList.take i).filter fun c => !isSign c).map oneTx))) rfl (fun _ _ _ _ => True.intro) ?_ ?_
      · intro i v H1 H' hi e y
        subst e
        obtain ⟨eH, c', hc', rfl⟩ := y
        subst eH
        have hc2 : x.cps.toList[i]? = some c' := by rw [Array.getElem?_toList]; exact hc'
        refine ⟨rfl, _, rfl, c', both, rfl, rfl, _, rfl, ?_⟩
        rw [both_sign]
        refine ite2 (fun h5 => ?_) (fun h5 => ?_)
        · refine ⟨_, rfl, _, upd_same, ?_, ?_⟩
          · have l1 := List.length_filter_le (fun c => !isSign c) (x.cps.toList.take i)
            rw [List.length_take] at l1
            rw [sizeLine_eq, List.length_map]
            omega
          · rw [upd_upd, take_snoc hc2, List.filter_append, List.map_append, List.filter_cons, if_pos h5]
            rfl
        · rw [take_snoc hc2, List.filter_append, List.filter_cons, if_neg h5, List.filter_nil, List.append_nil]
      · intro H' e
        subst e
        have en : x.cps.toList.take x.cps.size = x.cps.toList := by
          rw [← Array.length_toList, List.take_length]
        rw [en]
        refine ⟨by decide, fun p hp => ?_⟩
        have pD : p ≠ D := fun z => by rw [z, upd_same] at hp; cases hp
        have ok : ∀ c ∈ x.cps.toList.filter (fun c => !isSign c), c < 128 := fun c hc => hcs c (List.mem_filter.mp hc).1
        refine ⟨.list ((x.cps.toList.filter fun c => !isSign c).map oneD), .list [], .lst (SqL.of (by rw [upd_ne pD.symm]; exact upd_same)) (ones_dp _), .lst (SqL.of upd_same) .nil, ones_shaped ok, rfl, ?_⟩
        have e2 : PyData.eqv (.list ((x.cps.toList.filter fun c => !isSign c).map oneD)) (.list []) = nameV (.str x) := by
          rw [ones_none, val]
          cases h5 : x.cps.toList.all isSign with
          | true =>
            rw [List.isEmpty_iff, List.filter_eq_nil_iff]
            intro a ha
            rw [List.all_eq_true.mp h5 a ha]
            simp
          | false =>
            cases h6 : (x.cps.toList.filter fun c => !isSign c).isEmpty with
            | false => rfl
            | true =>
              rw [List.isEmpty_iff, List.filter_eq_nil_iff] at h6
              rw [List.all_eq_true.mpr fun a ha => by have := h6 a ha; cases z : isSign a <;> simp_all] at h5
              cases h5
        rw [e2]
        exact k _ ((same_new hD).trans (same_new hp))
    · have hno : nameV v = false := nameV_no fun x e => by
        subst e
        cases ty with
        | base h =>
          cases h
          rw [show PySem.W.kitOne K (.type "str") (.type "str") = some true from kit_ty (by decide +kernel)] at kn
          cases kn
      refine ⟨_, rfl, v, _, _, _, false, rfl, .ty "str", ty, kn, _, rfl, iteT (iteT ?_)⟩
      rw [← hno]
      exact k H (Same.refl H)
end
end Bo
set_option Elab.async false
set_option linter.all false
set_option maxRecDepth 100000
set_option maxHeartbeats 8000000
namespace Bo
open PySem L2
theorem Thg.but {K : PySem.W.Frag} {H H' : Hp} {v : V} {d : PyData} {t : Addr} (h : Thg K H v d) (n : v ≠ .ref t) (b : But t H H') : Thg K H' v d := ⟨h.f.but n b, h.t, h.s, h.p, h.z, h.o⟩
end Bo
set_option Elab.async false
set_option linter.all false
set_option maxRecDepth 100000
set_option maxHeartbeats 8000000
namespace Bo
open PySem L2
abbrev sUnl : Stmt := top 71
abbrev sNew : Stmt := top 72
structure TxtQ (mg : Str → Option Value) : Prop where
  len : mg "len" = none
  rng : mg "range" = none
  srt : mg "sorted" = none
def spUnl (K : PySem.W.Frag) : Sp := fun vs H Q _ => ∃ (k : Str) (l : Addr) (n : Nat) (zs : List Str), vs = [.str k, .ref l, .int n] ∧ H l = some (.lst (zs.map V.str)) ∧ n ≤ zs.length ∧ zs.length ≤ 1000 ∧ (∀ z ∈ zs, z.length ≤ 1000) ∧
  ∀ v H', Same H H' → DueV K H' v ((dupT (zs.take n) (zs.drop n)).map fun y => (1, itemD k (.nm y))) → Q v H'
section
variable {P : Program} {w : World} {K : PySem.W.Frag} {mg : Str → Option Value} {base : Heap}
theorem scUnl : FnScope ["_law_kind", "_law_names_here", "_law_start", "_law_k"] ["_law_kind", "_law_names_here", "_law_start"] (defScope sUnl) := ⟨rfl, rfl, rfl, by decide +kernel, rfl, by decide +kernel, by decide +kernel⟩
theorem ok_unl {f : Addr} {fd : FuncData} (F : Fun K "_law_unlike" "_law_unlike" sUnl f fd) (T : TxtQ mg) : FnOk P w K mg base CX0 1 f fd ["_law_kind", "_law_names_here", "_law_start"] (spUnl K) := by
  refine F.ok scUnl (fun vs H Q E h => ?_) (fun cdv A outer s H vs Q E hr h => ?_)
  · obtain ⟨k, l, n, zs, rfl, _⟩ := h
    rfl
  · obtain ⟨k, l, n, zs, rfl, hl, hn, hz, hy, q⟩ := h
    have hu64 : (A.deeper (PyProof.Rows.envOfC "_law_unlike" (defScope sUnl) s.heap.objs.size f cdv)).units + 64 < cLine := by have := hr.un; omega
    refine ⟨_, pss_cons (ps_for PassesOwn.never rfl (pi_range2 (by rfl) T.rng (pa_cons (pv 2) (pa_cons (pe_callB call_len_seq (by rfl) T.len PySem.boot_len (pa_cons (pv 1) pa_nil)) pa_nil))) (pg_name (i := 3) scUnl.nd rfl (.inl rfl))
        (pss_one (ps_if (pt_cmpR (op_inA hu64) (pe_ix ix_list (pv 1) (pv 3) (fun _ _ => rfl)) (pe_slice sl_list (pv 1) po_none (po_some (pv 3))) (by rfl))
          (pss_one (ps_ret (pe_tup (pa_cons pe_str (pa_cons (pe_tup (pa_cons (pv 0) (pa_cons (pe_ix ix_list (pv 1) (pv 3) (fun _ _ => rfl)) pa_nil))) pa_nil))))) pss_nil)))
      (pss_one (ps_ret pe_non)), ?_⟩
    refine ⟨_, rfl, _, rfl, l, _, rfl, .inl (SqL.of hl), _, _, rfl, ⟨by omega, by omega, by omega, by rw [List.length_map]; omega⟩, ?_⟩
    rw [List.length_map, show ((zs.length : Int) - (n : Int)).toNat = zs.length - n by omega]
    refine for_range (fun i σ H' => (∃ z, σ = [some (.str k), some (.ref l), some (.int n), z]) ∧ Same H H' ∧ dupT (zs.take n) (zs.drop n) = dupT (zs.take (n + i)) (zs.drop (n + i))) ⟨⟨_, rfl⟩, Same.refl H, rfl⟩ ?_ ?_
    · rintro i σ H1 hi ⟨⟨z, rfl⟩, sm, hd⟩
      have li : n + i < zs.length := by omega
      obtain ⟨y, hy1⟩ : ∃ y, zs[n + i]? = some y := ⟨zs[n + i], List.getElem?_eq_getElem li⟩
      rw [dupT_at hy1] at hd
      have hat : atI (zs.map V.str) ((n : Int) + (i : Nat)) = some (V.str y) := by
        rw [show (n : Int) + (i : Nat) = ((n + i : Nat) : Int) by omega]
        exact atI_nat (by rw [List.getElem?_map, hy1]; rfl)
      refine ⟨_, rfl, _, rfl, l, _, _, _, rfl, rfl, SqL.of (sm _ _ hl), hat, _, rfl, _, rfl, _, rfl, l, _, rfl, SqL.of (sm _ _ hl), fun q1 hq1 => ?_⟩
      have ec : cutV (zs.map V.str) none (some ((n : Int) + (i : Nat))) = (zs.take (n + i)).map V.str := by
        rw [show (n : Int) + (i : Nat) = ((n + i : Nat) : Int) by omega]
        unfold cutV
        rw [HT.sIx_none, HT.sIx_nat, List.length_map, Nat.min_eq_left (show n + i ≤ zs.length by omega), Nat.sub_zero, List.drop_zero, List.map_take]
      rw [ec]
      have s1 : Same H1 (upd H1 q1 (.lst ((zs.take (n + i)).map V.str))) := same_new hq1
      refine ⟨q1, zs.take (n + i), .nm y, rfl, .inl (SqL.of upd_same), .nm (hy y (List.mem_of_getElem? hy1)), _, rfl, ?_⟩
      by_cases hm : y ∈ zs.take (n + i)
      · rw [if_pos hm] at hd
        rw [show (if false = true then !Arg.inT (zs.take (n + i)) (.nm y) else Arg.inT (zs.take (n + i)) (.nm y)) = true from decide_eq_true hm]
        refine iteT ⟨_, rfl, _, rfl, _, rfl, l, _, _, _, rfl, rfl, SqL.of (s1 _ _ (sm _ _ hl)), hat, by show 2 ≤ sizeLine; decide, fun t1 ht1 => ⟨by show 2 ≤ sizeLine; decide, fun t2 ht2 => ?_⟩⟩
        generalize upd H1 q1 (.lst ((zs.take (n + i)).map V.str)) = H2 at s1 ht1 ht2 ⊢
        have s2 : Same H2 (upd H2 t1 (.tup [.str k, .str y])) := same_new ht1
        have h1 : SqT K (upd H2 t1 (.tup [.str k, .str y])) t1 [.str k, .str y] := SqT.of upd_same
        generalize upd H2 t1 (.tup [.str k, .str y]) = H3 at s2 h1 ht2 ⊢
        have s3 : Same H3 (upd H3 t2 (.tup [.str (Str.ofString "duplicate"), .ref t1])) := same_new ht2
        refine q _ _ (((sm.trans s1).trans s2).trans s3) ?_
        rw [hd]
        exact .er (er := (1, itemD k (.nm y))) (SqT.of upd_same) (fl_two (SqT.keep h1 s3))
      · rw [if_neg hm] at hd
        rw [show (if false = true then !Arg.inT (zs.take (n + i)) (.nm y) else Arg.inT (zs.take (n + i)) (.nm y)) = false from decide_eq_false hm]
        refine iteF ⟨⟨_, rfl⟩, sm.trans s1, ?_⟩
        rw [hd, show n + (i + 1) = n + i + 1 by omega, take_snoc hy1]
    · rintro σ H1 ⟨⟨z, rfl⟩, sm, hd⟩
      rw [show n + (zs.length - n) = zs.length by omega, List.drop_length] at hd
      refine q _ _ sm ?_
      rw [hd]
      exact .no
end
end Bo
set_option Elab.async false
set_option linter.all false
set_option maxRecDepth 100000
set_option maxHeartbeats 8000000
namespace Bo
open PySem L2
/-- the names that are known: a list, or the keys of a dict -/
inductive KnV (H : Hp) : V → List Str → Prop where
  | lst {a : Addr} {ks : List Str} (h : H a = some (.lst (ks.map V.str))) : KnV H (.ref a) ks
  | dct {a : Addr} {ra : List (Str × Addr)} (h : Rd H a (.dK (refK ra))) : KnV H (.ref a) (ra.map (·.1))
theorem KnV.keep {H H' : Hp} {v : V} {ks : List Str} (h : KnV H v ks) (k : Same H H') : KnV H' v ks := by
  cases h with
  | lst h => exact .lst (k _ _ h)
  | dct h => exact .dct (Rd.keep h k)
/-- what adding names to known ones is answered with -/
def newO (k : Str) (ks : List Str) (as : List Arg) : Option Er := match badA as with
  | some x => some (0, x.d)
  | none => match dupT ks (nmS as) with
    | some y => some (1, itemD k (.nm y))
    | none => if 24 < ks.length + (nmS as).length then some (5, .int 24) else none
def spNew (K : PySem.W.Frag) : Sp := fun vs H Q _ => ∃ (k : Str) (l : Addr) (kn : V) (xs : List V) (as : List Arg) (ks : List Str), vs = [.str k, .ref l, kn] ∧ H l = some (.lst xs) ∧ Paired (AV K H) xs as ∧ (∀ x ∈ as, ArgOk x) ∧ KnV H kn ks ∧ ks.Nodup ∧ ks.length ≤ 60 ∧ (∀ y ∈ ks, y.length ≤ 1000) ∧ xs.length ≤ 900 ∧
  ∀ v H', Same H H' → DueV K H' v (newO k ks as) → Q v H'
section
variable {P : Program} {w : World} {K : PySem.W.Frag} {mg : Str → Option Value} {base : Heap}
theorem scNew : FnScope ["_law_kind", "_law_names_here", "_law_known", "_law_name", "_law_due"] ["_law_kind", "_law_names_here", "_law_known"] (defScope sNew) := ⟨rfl, rfl, rfl, by decide +kernel, rfl, by decide +kernel, by decide +kernel⟩
theorem kn_len {X : Cx} : CallR X (.builtin "len") (fun xs H Q => ∃ (v : V) (ks : List Str), xs = [v] ∧ KnV H v ks ∧ Q (.int ks.length) H) := by
  intro pins s σ H xs us Q I r h
  obtain ⟨v, ks, rfl, hk, q⟩ := h
  cases hk with
  | lst h => exact call_len_seq pins s σ H _ us Q I r ⟨_, _, rfl, .inl (SqL.of h), by rw [List.length_map]; exact q⟩
  | dct h => exact call_lenR pins s σ H _ us Q I r ⟨_, _, rfl, h, by rw [refK_len]; rw [List.length_map] at q; exact q⟩
theorem kn_srt {X : Cx} (hc : X.calm = true) : CallR X (.builtin "sorted") (fun xs H Q => ∃ (v : V) (ks : List Str), xs = [v] ∧ KnV H v ks ∧ ks.length < 64 ∧ ∀ p, H p = none → Q (.ref p) (upd H p (.lst ((srt ks).map V.str)))) := by
  intro pins s σ H xs us Q I r h
  obtain ⟨v, ks, rfl, hk, hl, q⟩ := h
  cases hk with
  | lst h => exact cr_sortedS pins s σ H _ us Q I r ⟨_, _, rfl, SqL.of h, hl, fun ys p h1 h2 h3 => by rw [srt_of h1 h2]; exact q p h3⟩
  | dct h => exact call_sortedD hc pins s σ H _ us Q I r ⟨_, _, _, rfl, h, refK_keys _, hl, fun ys p h1 h2 h3 => by rw [srt_of h1 h2]; exact q p h3⟩
theorem ok_new {f fN fU : Addr} {fd fdN fdU : FuncData} (F : Fun K "_law_new" "_law_new" sNew f fd) (T : TxtQ mg)
    (GN : FnOk P w K mg base CX0 1 fN fdN ["_law_thing"] (spLName K)) (mN : mg "_law_is_name" = some (.ref fN)) (kN : PySem.W.keepIn K (.ref fN) = true) (bN : Binds K fdN ["_law_thing"] [])
    (GU : FnOk P w K mg base CX0 1 fU fdU ["_law_kind", "_law_names_here", "_law_start"] (spUnl K)) (mU : mg "_law_unlike" = some (.ref fU)) (kU : PySem.W.keepIn K (.ref fU) = true) (bU : Binds K fdU ["_law_kind", "_law_names_here", "_law_start"] []) :
    FnOk P w K mg base CX0 2 f fd ["_law_kind", "_law_names_here", "_law_known"] (spNew K) := by
  refine F.ok scNew (fun vs H Q E h => ?_) (fun cdv A outer s H vs Q E hr h => ?_)
  · obtain ⟨k, l, kn, xs, as, ks, rfl, _⟩ := h
    rfl
  · obtain ⟨k, l, kn, xs, as, ks, rfl, hl, hav, hok, hkn, hnd, hkl, hky, hxl, q⟩ := h
    refine ⟨_, pss_cons (ps_for PassesOwn.never rfl (pi_list (pv 1)) (pg_name (i := 3) scNew.nd rfl (.inl rfl))
        (pss_one (ps_if (pt_not (pt_val (pe_call GN hr rfl mN kN bN .nil pass0 (pa_cons (pv 3) pa_nil)))) (pss_one (ps_ret (pe_tup (pa_cons pe_str (pa_cons (pv 3) pa_nil))))) pss_nil)))
      (pss_cons (ps_set (i := 4) scNew.nd rfl (.inl rfl) (pe_call GU hr rfl mU kU bU .nil pass0 (pa_cons (pv 0) (pa_cons (pe_op op_cat (pe_callB (kn_srt rfl) (by rfl) T.srt (by decide +kernel) (pa_cons (pv 2) pa_nil)) (pv 1)) (pa_cons (pe_callB kn_len (by rfl) T.len PySem.boot_len (pa_cons (pv 2) pa_nil)) pa_nil)))))
      (pss_one (ps_ret (pe_ifExp (PW.pt (pw_and (pt_cmp (pc_isN (pv 4))) (pw_and1 (pt_cmpR op_gt (pe_op op_add (pe_callB kn_len (by rfl) T.len PySem.boot_len (pa_cons (pv 2) pa_nil)) (pe_callB call_len_seq (by rfl) T.len PySem.boot_len (pa_cons (pv 1) pa_nil))) pe_int (nomark _)))))
        (pe_tup (pa_cons pe_str (pa_cons pe_int pa_nil))) (pv 4))))), ?_⟩
    refine ⟨_, rfl, l, rfl, ⟨_, SqL.of hl⟩, ?_⟩
    refine for_list (xs := xs) (fun i σ H' => (∃ z, σ = [some (.str k), some (.ref l), some kn, z, none]) ∧ Same H H' ∧ ∀ j x, j < i → as[j]? = some x → x.ok = true) ⟨⟨_, rfl⟩, Same.refl H, fun _ _ h => absurd h (by omega)⟩ (fun i σ H' _ p => SqL.of (p.2.1 _ _ hl)) ?_ ?_
    · rintro i v σ H1 hv ⟨⟨z, rfl⟩, sm, hp⟩
      obtain ⟨a, ha, fa⟩ := pairG hav hv
      have fa1 := fa.keep sm
      have oka := hok a (List.mem_of_getElem? ha)
      refine ⟨_, rfl, v, a.d, rfl, fa1.flat, ?_, fun H2 sm2 => ⟨_, rfl, ?_⟩⟩
      · intro x e
        subst e
        cases fa with
        | nm l => exact oka
        | od f n => exact absurd rfl (n x)
      rw [fa1.name]
      cases hna : a.ok with
      | true =>
        refine iteF ⟨⟨_, rfl⟩, sm.trans sm2, fun j y hj hy => ?_⟩
        by_cases e : j = i
        · subst e
          rw [ha] at hy
          cases hy
          exact hna
        · exact hp j y (by omega) hy
      | false =>
        refine iteT ⟨_, rfl, by show 2 ≤ sizeLine; decide, fun t ht => ?_⟩
        have s3 : Same H2 (upd H2 t (.tup [.str (Str.ofString "name"), v])) := same_new ht
        refine q _ _ ((sm.trans sm2).trans s3) ?_
        unfold newO
        rw [badA_at hp ha hna]
        exact .er (er := (0, a.d)) (SqT.of upd_same) (.fl ((fa1.keep (sm2.trans s3)).flat))
    · rintro σ H1 ⟨⟨z, rfl⟩, sm, hp⟩
      have hb : badA as = none := badA_all fun x hx => by
        obtain ⟨j, hj⟩ := List.mem_iff_getElem?.mp hx
        exact hp j x (by rw [hav.length]; exact (List.getElem?_eq_some_iff.mp hj).1) hj
      obtain ⟨eas, hnm⟩ := badA_none hb
      have eo : newO k ks as = match dupT ks (nmS as) with
        | some y => some (1, itemD k (.nm y))
        | none => if 24 < ks.length + (nmS as).length then some (5, .int 24) else none := by
        unfold newO
        rw [hb]
      rw [eo] at q
      clear eo
      generalize nmS as = ys at eas hnm q
      subst eas
      have exs := avs_txt hav
      subst exs
      have hk1 := hkn.keep sm
      have hl1 := sm _ _ hl
      refine ⟨_, rfl, _, rfl, kn, ks, rfl, hk1, by omega, fun p1 hp1 => ?_⟩
      have s1 : Same H1 (upd H1 p1 (.lst ((srt ks).map V.str))) := same_new hp1
      have hq1 : (upd H1 p1 (.lst ((srt ks).map V.str))) p1 = some (.lst ((srt ks).map V.str)) := upd_same
      generalize upd H1 p1 (.lst ((srt ks).map V.str)) = H2 at s1 hq1 ⊢
      rw [List.length_map] at hxl
      refine ⟨_, rfl, p1, l, _, _, rfl, rfl, hq1, s1 _ _ hl1, by rw [List.length_map, List.length_map, srt_len, sizeLine_eq]; omega, fun p2 hp2 => ?_⟩
      have s2 : Same H2 (upd H2 p2 (.lst ((srt ks).map V.str ++ ys.map V.str))) := same_new hp2
      have hq2 : (upd H2 p2 (.lst ((srt ks).map V.str ++ ys.map V.str))) p2 = some (.lst ((srt ks).map V.str ++ ys.map V.str)) := upd_same
      generalize upd H2 p2 (.lst ((srt ks).map V.str ++ ys.map V.str)) = H3 at s2 hq2 ⊢
      have s13 := s1.trans s2
      refine ⟨_, rfl, kn, ks, rfl, hk1.keep s13, ?_⟩
      rw [← List.map_append] at hq2
      refine ⟨k, p2, ks.length, srt ks ++ ys, rfl, hq2, by rw [List.length_append, srt_len]; omega, by rw [List.length_append, srt_len]; omega, fun z hz => ?_, fun v H4 s4 hd => ?_⟩
      · rcases List.mem_append.mp hz with m | m
        · exact hky z (srt_mem.mp m)
        · exact name_len (hnm z m)
      · have e1 : (srt ks ++ ys).take ks.length = srt ks := by rw [← srt_len ks, List.take_left']; rfl
        have e2 : (srt ks ++ ys).drop ks.length = ys := by rw [← srt_len ks, List.drop_left']; rfl
        rw [e1, e2, dupT_perm (k1 := srt ks) (k2 := ks) fun z => srt_mem] at hd
        have s14 := s13.trans s4
        cases hdu : dupT ks ys with
        | some y =>
          rw [hdu] at hd q
          cases hd with
          | er h f =>
            refine ⟨_, rfl, _, rfl, iteF ⟨_, rfl, ?_⟩⟩
            exact q _ _ (sm.trans s14) (.er h f)
        | none =>
          rw [hdu] at hd q
          cases hd
          refine ⟨_, rfl, _, rfl, iteT ⟨_, rfl, kn, ks, rfl, hk1.keep s14, _, rfl, l, _, rfl, .inl (SqL.of (s14 _ _ hl1)), _, _, rfl, rfl, _, _, rfl, rfl, _, rfl, ?_⟩⟩
          rw [List.length_map]
          dsimp only at q
          by_cases hg : 24 < ks.length + ys.length
          · rw [if_pos hg] at q
            rw [decide_eq_true (show (24 : Int) < (ks.length : Int) + (ys.length : Int) by omega)]
            refine iteT ⟨by show 2 ≤ sizeLine; decide, fun t ht => ?_⟩
            have s5 : Same H4 (upd H4 t (.tup [.str (Str.ofString "large"), .int 24])) := same_new ht
            exact q _ _ ((sm.trans s14).trans s5) (.er (er := (5, .int 24)) (SqT.of upd_same) (.fl (.atom (v := .int 24) rfl)))
          · rw [if_neg hg] at q
            rw [decide_eq_false (show ¬ (24 : Int) < (ks.length : Int) + (ys.length : Int) by omega)]
            exact iteF ⟨_, rfl, q _ _ (sm.trans s14) .no⟩
end
end Bo
set_option Elab.async false
set_option linter.all false
set_option maxRecDepth 100000
set_option maxHeartbeats 4000000
namespace Bo
open PySem PySem.Spec PySem.Calls PyProof.Rows L2
end Bo
set_option Elab.async false
set_option linter.all false
set_option maxRecDepth 100000
set_option maxHeartbeats 8000000
namespace Bo
open PySem L2
abbrev sTold : Stmt := top 76
abbrev sStands : Stmt := top 77
abbrev kR : Key := Sum.inr (Str.ofString "rows")
abbrev kU : Key := Sum.inr (Str.ofString "unknowns")
theorem neRU : ¬ (kR = kU) := by decide +kernel
/-- the laws' own plain system: its rows (all empty) and its unknowns -/
structure Plain (H : Hp) (pl r u : Addr) (rs : List (Str × Addr)) (us : List Str) : Prop where
  d : H pl = some (.dK [(kR, .ref r), (kU, .ref u)])
  r : H r = some (.dK (refK rs))
  e : ∀ p ∈ rs, H p.2 = some (.lst [])
  u : H u = some (.lst (us.map V.str))
theorem Plain.keep {H H' : Hp} {pl r u : Addr} {rs : List (Str × Addr)} {us : List Str} (p : Plain H pl r u rs us) (k : Same H H') : Plain H' pl r u rs us := ⟨k _ _ p.d, k _ _ p.r, fun q hq => k _ _ (p.e q hq), k _ _ p.u⟩
theorem Plain.gr {H : Hp} {pl r u : Addr} {rs : List (Str × Addr)} {us : List Str} (p : Plain H pl r u rs us) : DGet H pl (V.str (Str.ofString "rows")) (some (V.ref r)) :=
  .inl ⟨_, kR, .inl p.d, rfl, (show some (V.ref r) = valV [(kR, V.ref r), (kU, V.ref u)] kR by rw [valV_pos rfl])⟩
theorem Plain.gu {H : Hp} {pl r u : Addr} {rs : List (Str × Addr)} {us : List Str} (p : Plain H pl r u rs us) : DGet H pl (V.str (Str.ofString "unknowns")) (some (V.ref u)) :=
  .inl ⟨_, kU, .inl p.d, rfl, (show some (V.ref u) = valV [(kR, V.ref r), (kU, V.ref u)] kU by rw [valV_neg neRU, valV_pos rfl])⟩
section
variable {P : Program} {w : World} {K : PySem.W.Frag} {mg : Str → Option Value} {base : Heap}
theorem scTo : FnScope ["_law_plain", "_law_pairs", "_law_name", "_law_one"] ["_law_plain"] (defScope sTold) := ⟨rfl, rfl, rfl, by decide +kernel, rfl, by decide +kernel, by decide +kernel⟩
end
end Bo
set_option Elab.async false
set_option linter.all false
set_option maxRecDepth 100000
set_option maxHeartbeats 8000000
namespace Bo
open PySem L2
/-- the laws' own plain system: its rows and its unknowns -/
structure PlG (H : Hp) (pl r u : Addr) (rows : List (Str × List Str)) (ra : List (Str × Addr)) (us : List Str) : Prop where
  d : H pl = some (.dK [(kR, .ref r), (kU, .ref u)])
  r : Rd H r (.dK (refK ra))
  e : Paired (fun (p : Str × List Str) (q : Str × Addr) => p.1 = q.1 ∧ H q.2 = some (.lst (p.2.map V.str))) rows ra
  u : H u = some (.lst (us.map V.str))
section
variable {H H' : Hp} {pl r u : Addr} {rows : List (Str × List Str)} {ra : List (Str × Addr)} {us : List Str}
theorem PlG.keep (p : PlG H pl r u rows ra us) (k : Same H H') : PlG H' pl r u rows ra us := ⟨k _ _ p.d, Rd.keep p.r k, Paired.mapP p.e fun _ _ z => ⟨z.1, k _ _ z.2⟩, k _ _ p.u⟩
theorem PlG.gr (p : PlG H pl r u rows ra us) : DGet H pl (V.str (Str.ofString "rows")) (some (V.ref r)) :=
  .inl ⟨_, kR, .inl p.d, rfl, (show some (V.ref r) = valV [(kR, V.ref r), (kU, V.ref u)] kR by rw [valV_pos rfl])⟩
theorem PlG.gu (p : PlG H pl r u rows ra us) : DGet H pl (V.str (Str.ofString "unknowns")) (some (V.ref u)) :=
  .inl ⟨_, kU, .inl p.d, rfl, (show some (V.ref u) = valV [(kR, V.ref r), (kU, V.ref u)] kU by rw [valV_neg neRU, valV_pos rfl])⟩
theorem PlG.keys (p : PlG H pl r u rows ra us) : ra.map (·.1) = rows.map (·.1) := by
  have key : ∀ {rows : List (Str × List Str)} {ra : List (Str × Addr)}, Paired (fun (p : Str × List Str) (q : Str × Addr) => p.1 = q.1 ∧ H q.2 = some (.lst (p.2.map V.str))) rows ra → ra.map (·.1) = rows.map (·.1) := by
    intro rows ra h
    induction h with
    | nil => rfl
    | cons q t ih => rw [List.map_cons, List.map_cons, ih, q.1]
  exact key p.e
theorem PlG.len (p : PlG H pl r u rows ra us) : ra.length = rows.length := (pair_len p.e).symm
/-- the row at y -/
theorem PlG.row (p : PlG H pl r u rows ra us) {y : Str} (h : y ∈ rows.map (·.1)) : ∃ d xs, valV (refK ra) (Sum.inr y) = some (.ref d) ∧ (y, xs) ∈ rows ∧ H d = some (.lst (xs.map V.str)) := by
  obtain ⟨d, hv, hm⟩ := refK_in (rs := ra) (y := y) (by rw [p.keys]; exact h)
  obtain ⟨j, hj⟩ := List.mem_iff_getElem?.mp hm
  obtain ⟨⟨y', xs⟩, hrow, hrn, hd⟩ := pair_at p.e hj
  cases (show y' = y from hrn)
  exact ⟨d, xs, hv, List.mem_of_getElem? hrow, hd⟩
end
def Pl0 (H : Hp) (pl : Addr) (p : Pl) : Prop := ∃ r u ra, PlG H pl r u p.rows ra p.us
theorem Pl0.keep {H H' : Hp} {pl : Addr} {p : Pl} (h : Pl0 H pl p) (k : Same H H') : Pl0 H' pl p := let ⟨r, u, ra, z⟩ := h; ⟨r, u, ra, z.keep k⟩
abbrev sLack : Stmt := top 73
theorem ptOr {X : Cx} {e : Expr} {t1 t2 : TT} (h1 : PT X e t1) (h2 : PT X e t2) : PT X e (fun σ H Q => t1 σ H Q ∨ t2 σ H Q) := ⟨fun pins s σ H Q I h => h.elim (h1.run pins s σ H Q I) (h2.run pins s σ H Q I)⟩
/-- an equation's name (true), or an unknown's -/
abbrev Itm : Type := Bool × Arg
def itK (b : Bool) : Str := if b then kEq else kUn
def itIn (p : Pl) (t : Itm) : Bool := t.2.inT (if t.1 then p.keys else p.us)
def lackO (p : Pl) (ts : List Itm) : Option Er := (ts.find? fun t => !itIn p t).map fun t => (2, itemD (itK t.1) t.2)
inductive ItV (K : PySem.W.Frag) (H : Hp) : V → Itm → Prop where
  | mk {q : Addr} {v : V} {t : Itm} (h : SqT K H q [.str (itK t.1), v]) (x : AV K H v t.2) : ItV K H (.ref q) t
theorem ItV.keep {K : PySem.W.Frag} {H H' : Hp} {v : V} {t : Itm} (h : ItV K H v t) (k : Same H H') : ItV K H' v t := by
  cases h with
  | mk h x => exact .mk (SqT.keep h k) (x.keep k)
def spLack (K : PySem.W.Frag) : Sp := fun vs H Q _ => ∃ (pl l : Addr) (p : Pl) (xs : List V) (ts : List Itm), vs = [.ref pl, .ref l] ∧ Pl0 H pl p ∧ H l = some (.lst xs) ∧ Paired (ItV K H) xs ts ∧ ∀ v H', Same H H' → DueV K H' v (lackO p ts) → Q v H'
theorem find_at {α : Type} {f : α → Bool} {xs : List α} {i : Nat} {x : α} (h1 : ∀ j y, j < i → xs[j]? = some y → f y = false) (h2 : xs[i]? = some x) (h3 : f x = true) : xs.find? f = some x := by
  induction xs generalizing i with
  | nil => simp at h2
  | cons a xs ih =>
    rw [List.find?_cons]
    cases i with
    | zero =>
      have e : a = x := by simpa using h2
      rw [e, h3]
    | succ i =>
      rw [h1 0 a (Nat.zero_lt_succ _) rfl]
      exact ih (fun j y hj hy => h1 (j + 1) y (Nat.succ_lt_succ hj) (by simpa using hy)) (by simpa using h2)
theorem find_all {α : Type} {f : α → Bool} {xs : List α} (h : ∀ x ∈ xs, f x = false) : xs.find? f = none := by
  rw [List.find?_eq_none]
  exact fun x hx => by rw [h x hx]; simp
section
variable {P : Program} {w : World} {K : PySem.W.Frag} {mg : Str → Option Value} {base : Heap}
theorem scLack : FnScope ["_law_plain", "_law_items", "_law_kind", "_law_name", "_law_known"] ["_law_plain", "_law_items"] (defScope sLack) := ⟨rfl, rfl, rfl, by decide +kernel, rfl, by decide +kernel, by decide +kernel⟩
theorem ok_lack {f : Addr} {fd : FuncData} (F : Fun K "_law_lacking" "_law_lacking" sLack f fd) (T : TxtN mg) : FnOk P w K mg base CX0 1 f fd ["_law_plain", "_law_items"] (spLack K) := by
  refine F.ok scLack (fun vs H Q E h => ?_) (fun cdv A outer s H vs Q E hr h => ?_)
  · obtain ⟨pl, l, p, xs, ts, rfl, _⟩ := h
    rfl
  · obtain ⟨pl, l, p, xs, ts, rfl, hp, hl, hts, q⟩ := h
    obtain ⟨r, u, ra, hG⟩ := hp
    have hu := hu_of hr
    have hu64 : (A.deeper (PyProof.Rows.envOfC "_law_lacking" (defScope sLack) s.heap.objs.size f cdv)).units + 64 < cLine := by have := hr.un; omega
    refine ⟨_, pss_cons (ps_for PassesOwn.never rfl (pi_list (pv 1)) (pg_tup (by rfl) (pgs_cons (pg_name (i := 2) scLack.nd rfl (.inl rfl)) (pgs_cons (pg_name (i := 3) scLack.nd rfl (.inl rfl)) pgs_nil)))
        (pss_cons (ps_set (i := 4) scLack.nd rfl (.inl rfl) (pe_ifExp (pt_cmpR op_eq (pv 2) pe_str (nomark _)) (pe_dget hu (pv 0) pe_str (fun _ _ => rfl)) (pe_dget hu (pv 0) pe_str (fun _ _ => rfl))))
        (pss_one (ps_if (PW.pt (pw_or (pt_not (pt_val (pe_callB call_isi (by rfl) T.isi (by decide +kernel) (pa_cons (pv 3) (pa_cons (pe_bltn (v := .ty "str") (by rfl) T.str_ (by decide +kernel) rfl) pa_nil)))))
            (pw_or1 (ptOr (pt_cmpR (op_notInA hu64) (pv 3) (pv 4) (by rfl)) (pt_cmp (pc_dnotin hu (pv 3) (pv 4)))))))
          (pss_one (ps_ret (pe_tup (pa_cons pe_str (pa_cons (pe_tup (pa_cons (pv 2) (pa_cons (pv 3) pa_nil))) pa_nil))))) pss_nil))))
      (pss_one (ps_ret pe_non)), ?_⟩
    refine ⟨_, rfl, l, rfl, ⟨_, SqL.of hl⟩, ?_⟩
    refine for_list (xs := xs) (fun i σ H' => (∃ z2 z3 z4, σ = [some (.ref pl), some (.ref l), z2, z3, z4]) ∧ H' = H ∧ ∀ j t, j < i → ts[j]? = some t → itIn p t = true) ⟨⟨_, _, _, rfl⟩, rfl, fun _ _ h => absurd h (by omega)⟩ (fun i σ H' _ p => SqL.of (by rw [p.2.1]; exact hl)) ?_ ?_
    · rintro i v σ H1 hv ⟨⟨z2, z3, z4, rfl⟩, rfl, hpre⟩
      obtain ⟨⟨b, a⟩, ht, ft⟩ := pairG hts hv
      cases ft with
      | mk hq hx =>
        rename_i q1 v
        refine ⟨q1, _, rfl, hq, rfl, _, _, rfl, _, _, rfl, rfl, ?_⟩
        refine ⟨_, rfl, rfl, _, rfl, ?_⟩
        have bad : itIn p (b, a) = false → ∀ (t2 : Addr) (H3 : Hp), Same H1 H3 → SqT K H3 t2 [.str (itK b), v] → ∀ t3, H3 t3 = none → Q (.ref t3) (upd H3 t3 (.tup [.str (Str.ofString "unknown"), .ref t2])) := fun hno t2 H3 s3 h2 t3 h3 => by
          have s4 : Same H3 (upd H3 t3 (.tup [.str (Str.ofString "unknown"), .ref t2])) := same_new h3
          refine q _ _ (s3.trans s4) ?_
          unfold lackO
          rw [find_at (x := (b, a)) (fun j t hj e => by rw [hpre j t hj e]; rfl) ht (by rw [hno]; rfl)]
          exact .er (er := (2, itemD (itK b) a)) (SqT.of upd_same) (.pr (SqT.keep h2 s4) (.atom (v := .str (itK b)) rfl) ((hx.keep s3).keep s4).flat)
        have good : itIn p (b, a) = true → ∀ j t, j < i + 1 → ts[j]? = some t → itIn p t = true := fun hy j t hj e => by
          by_cases z : j = i
          · subst z
            rw [ht] at e
            cases e
            exact hy
          · exact hpre j t (by omega) e
        cases a with
        | od d =>
          have f := hx.flat
          rcases flat_ty f with ⟨x, rfl⟩ | ⟨t, ty, kn⟩
          · cases hx with
            | od f n => exact absurd rfl (n x)
          · cases b with
            | true =>
              refine iteT ⟨_, rfl, pl, _, rfl, hG.gr, ?_⟩
              refine ⟨_, rfl, v, _, t, _, false, rfl, .ty "str", ty, kn, _, rfl, iteT (iteT ⟨_, rfl, _, rfl, by show 2 ≤ sizeLine; decide, fun t2 h2 => ⟨by show 2 ≤ sizeLine; decide, fun t3 h3 => bad rfl t2 _ (same_new h2) (SqT.of upd_same) t3 h3⟩⟩)⟩
            | false =>
              refine iteF ⟨_, rfl, pl, _, rfl, hG.gu, ?_⟩
              refine ⟨_, rfl, v, _, t, _, false, rfl, .ty "str", ty, kn, _, rfl, iteT (iteT ⟨_, rfl, _, rfl, by show 2 ≤ sizeLine; decide, fun t2 h2 => ⟨by show 2 ≤ sizeLine; decide, fun t3 h3 => bad rfl t2 _ (same_new h2) (SqT.of upd_same) t3 h3⟩⟩)⟩
        | nm y =>
          have hv' : v = .str y := by cases hx; rfl
          subst hv'
          cases b with
          | true =>
            refine iteT ⟨_, rfl, pl, _, rfl, hG.gr, ?_⟩
            refine ⟨_, rfl, _, _, _, _, true, rfl, .ty "str", .base (.str y), kit_ty (by decide +kernel), _, rfl, iteF ?_⟩
            refine .inr ⟨_, rfl, _, rfl, r, _, rfl, .inl ⟨_, Sum.inr y, hG.r, rfl, rfl⟩, _, rfl, ?_⟩
            by_cases hy : y ∈ p.keys
            · obtain ⟨d0, hd0, _⟩ := refK_in (rs := ra) (y := y) (by rw [hG.keys]; exact hy)
              rw [hd0]
              exact iteF ⟨⟨_, _, _, rfl⟩, rfl, good (decide_eq_true hy)⟩
            · rw [refK_out (by rw [hG.keys]; exact hy)]
              exact iteT ⟨_, rfl, _, rfl, by show 2 ≤ sizeLine; decide, fun t2 h2 => ⟨by show 2 ≤ sizeLine; decide, fun t3 h3 => bad (decide_eq_false hy) t2 _ (same_new h2) (SqT.of upd_same) t3 h3⟩⟩
          | false =>
            refine iteF ⟨_, rfl, pl, _, rfl, hG.gu, ?_⟩
            refine ⟨_, rfl, _, _, _, _, true, rfl, .ty "str", .base (.str y), kit_ty (by decide +kernel), _, rfl, iteF ?_⟩
            refine .inl ⟨_, rfl, _, rfl, u, p.us, .nm y, rfl, .inl (SqL.of hG.u), hx, _, rfl, ?_⟩
            by_cases hy : y ∈ p.us
            · rw [show (if true = true then !Arg.inT p.us (.nm y) else Arg.inT p.us (.nm y)) = false from by rw [if_pos rfl, show Arg.inT p.us (.nm y) = true from decide_eq_true hy]; rfl]
              exact iteF ⟨⟨_, _, _, rfl⟩, rfl, good (decide_eq_true hy)⟩
            · rw [show (if true = true then !Arg.inT p.us (.nm y) else Arg.inT p.us (.nm y)) = true from by rw [if_pos rfl, show Arg.inT p.us (.nm y) = false from decide_eq_false hy]; rfl]
              exact iteT ⟨_, rfl, _, rfl, by show 2 ≤ sizeLine; decide, fun t2 h2 => ⟨by show 2 ≤ sizeLine; decide, fun t3 h3 => bad (decide_eq_false hy) t2 _ (same_new h2) (SqT.of upd_same) t3 h3⟩⟩
    · rintro σ H1 ⟨⟨z2, z3, z4, rfl⟩, rfl, hpre⟩
      refine q _ _ (Same.refl _) ?_
      unfold lackO
      rw [find_all fun t ht => by
        obtain ⟨j, hj⟩ := List.mem_iff_getElem?.mp ht
        rw [hpre j t (by rw [hts.length]; exact (List.getElem?_eq_some_iff.mp hj).1) hj]
        rfl]
      exact .no
end
end Bo
set_option Elab.async false
set_option linter.all false
set_option maxRecDepth 100000
set_option maxHeartbeats 8000000
namespace Bo
open PySem L2
abbrev sAdded : Stmt := top 74
abbrev sEdited : Stmt := top 75
theorem two_merge (r u : Addr) : mergeK [] [(kR, V.ref r), (kU, V.ref u)] = [(kR, V.ref r), (kU, V.ref u)] := by
  have e1 : putK ([] : List (Key × V)) kR (V.ref r) = [(kR, V.ref r)] := rfl
  have e2 : putK [(kR, V.ref r)] kU (V.ref u) = [(kR, V.ref r), (kU, V.ref u)] := putK_new _ (by rw [valV_neg neRU]; rfl)
  show putK (putK [] kR (V.ref r)) kU (V.ref u) = _
  rw [e1, e2]
def dueO (r : Except Er Pl) : Option Er := match r with | .error e => some e | .ok _ => none
def plO (p : Pl) (r : Except Er Pl) : Pl := match r with | .error _ => p | .ok q => q
/-- the plain system, its lists at addresses of which ok holds -/
def PlN (ok : Addr → Prop) (H : Hp) (pl : Addr) (p : Pl) : Prop := ∃ r u ra, PlG H pl r u p.rows ra p.us ∧ ok pl ∧ ok r ∧ ok u ∧ ∀ q ∈ ra, ok q.2
theorem PlN.keep {ok : Addr → Prop} {H H' : Hp} {pl : Addr} {p : Pl} (h : PlN ok H pl p) (k : Same H H') : PlN ok H' pl p := let ⟨r, u, ra, z, o⟩ := h; ⟨r, u, ra, z.keep k, o⟩
theorem PlN.p0 {ok : Addr → Prop} {H : Hp} {pl : Addr} {p : Pl} (h : PlN ok H pl p) : Pl0 H pl p := let ⟨r, u, ra, z, _⟩ := h; ⟨r, u, ra, z⟩
theorem newU_due (p : Pl) (as : List Arg) : dueO (newU p as) = newO kUn p.us as ∧ (newO kUn p.us as = none → badA as = none ∧ plO p (newU p as) = { p with us := p.us ++ nmS as }) := by
  unfold newU newO
  cases hb : badA as with
  | some x => exact ⟨rfl, fun z => nomatch z⟩
  | none =>
    dsimp only
    cases hd : dupT p.us (nmS as) with
    | some y => exact ⟨rfl, fun z => nomatch z⟩
    | none =>
      dsimp only
      by_cases hl : 24 < p.us.length + (nmS as).length
      · rw [if_pos hl, if_pos hl]
        exact ⟨rfl, fun z => nomatch z⟩
      · rw [if_neg hl, if_neg hl]
        exact ⟨rfl, fun _ => ⟨rfl, rfl⟩⟩
abbrev nAdd : List Str := ["_law_plain", "_law_word", "_law_parts", "_law_rows", "_law_unknowns", "_law_due", "_law_others", "_law_one", "_law_name"]
abbrev nEdt : List Str := ["_law_plain", "_law_edit", "_law_word", "_law_parts", "_law_rows", "_law_unknowns", "_law_due", "_law_left", "_law_others", "_law_items", "_law_is_there", "_law_name", "_law_one"]
section
variable {P : Program} {w : World} {K : PySem.W.Frag} {mg : Str → Option Value} {base : Heap}
theorem scAdded : FnScope nAdd ["_law_plain", "_law_word", "_law_parts"] (defScope sAdded) := ⟨rfl, rfl, rfl, by decide +kernel, rfl, by decide +kernel, by decide +kernel⟩
theorem scEdited : FnScope nEdt ["_law_plain", "_law_edit"] (defScope sEdited) := ⟨rfl, rfl, rfl, by decide +kernel, rfl, by decide +kernel, by decide +kernel⟩
end
end Bo
set_option Elab.async false
set_option linter.all false
set_option maxRecDepth 100000
set_option maxHeartbeats 8000000
namespace Bo
open PySem L2
abbrev sShuf : Stmt := top 78
theorem txts_dp {K : PySem.W.Frag} {H : Hp} : ∀ ys : List Str, DpAll K H (ys.map V.str) (ys.map PyData.str)
  | [] => .nil
  | y :: ys => .cons (.str y) (txts_dp ys)
theorem txts_lay : ∀ {ys : List Str}, (∀ y ∈ ys, PyData.strOk y = true) → PyData.canLayAll0 (ys.map PyData.str) = true
  | [], _ => rfl
  | y :: ys, h => by
    show (PyData.strOk y && PyData.canLayAll0 (ys.map PyData.str)) = true
    rw [h y List.mem_cons_self, txts_lay fun x hx => h x (List.mem_cons_of_mem _ hx)]
    rfl
theorem txts_flat : ∀ ys : List Str, PyData.depthAll (ys.map PyData.str) = 0
  | [] => rfl
  | y :: ys => by
    show max 0 (PyData.depthAll (ys.map PyData.str)) = 0
    rw [txts_flat ys]
    rfl
theorem txts_shaped {ys : List Str} (h : ∀ y ∈ ys, PyData.strOk y = true) : SeqAt.shaped (.list (ys.map PyData.str)) = true := by
  show (PyData.canLayAll0 (ys.map PyData.str) && decide (PyData.depthAll (ys.map PyData.str) + 1 ≤ 64)) = true
  rw [txts_lay h, txts_flat]
  rfl
theorem txts_none (ys : List Str) : PyData.eqv (.list (ys.map PyData.str)) (.list []) = ys.isEmpty := by
  cases ys with
  | nil => simp [PyData.eqv, PyData.eqvAll]
  | cons y ys => simp [PyData.eqv, PyData.eqvAll]
theorem Tape.off {H : Hp} {t c D : Addr} {cs : List Int} {p l : Int} {o : HO} (T : Tape H t c cs p l) (n : D ≠ t) (m : c ≠ D) : Tape (upd H D o) t c cs p l := ⟨by rw [upd_ne n.symm]; exact T.d, by rw [upd_ne m]; exact T.c, T.n, T.m, T.p0, T.l0⟩
theorem erase_map {α β : Type} (f : α → β) : ∀ (l : List α) (i : Nat), (l.map f).eraseIdx i = (l.eraseIdx i).map f
  | [], _ => rfl
  | _ :: _, 0 => rfl
  | x :: l, i + 1 => congrArg (f x :: ·) (erase_map f l i)
theorem erase_perm {α : Type} : ∀ {l : List α} {i : Nat} (h : i < l.length), ([l[i]] ++ l.eraseIdx i).Perm l
  | x :: l, 0, _ => List.Perm.refl _
  | x :: l, i + 1, h => by
    have q := erase_perm (l := l) (i := i) (Nat.lt_of_succ_lt_succ h)
    exact (List.Perm.swap x _ _).trans (q.cons x)
/-- the items in any order -/
def spShuf (K : PySem.W.Frag) : Sp := fun vs H Q _ => ∃ (t c a : Addr) (cs : List Int) (p l : Int) (xs : List Str), vs = [.ref t, .ref a] ∧ Tape H t c cs p l ∧ (SqL K H a (xs.map V.str) ∨ SqT K H a (xs.map V.str)) ∧ (∀ x ∈ xs, PyData.strOk x = true) ∧ xs.length ≤ 1000 ∧ p + xs.length < 100000000000 ∧
  ∀ (q : Addr) (ys : List Str) (p' l' : Int) (H' : Hp), ys.Perm xs → H q = none → H' q = some (.lst (ys.map V.str)) → p ≤ p' → p' ≤ p + xs.length → Tape H' t c cs p' l' → But t H H' → Q (.ref q) H'
structure TxtSh (mg : Str → Option Value) : Prop where
  len : mg "len" = none
  lst : mg "list" = none
section
variable {P : Program} {w : World} {K : PySem.W.Frag} {mg : Str → Option Value} {base : Heap}
theorem scSh : FnScope ["_law_tape", "_law_items", "_law_left", "_law_found"] ["_law_tape", "_law_items"] (defScope sShuf) := ⟨rfl, rfl, rfl, by decide +kernel, rfl, by decide +kernel, by decide +kernel⟩
theorem ok_shuf {f fD : Addr} {fd fdD : FuncData} (F : Fun K "_law_shuffled" "_law_shuffled" sShuf f fd) (T : TxtSh mg) (GD : FnOk P w K mg base CX0 1 fD fdD ["_law_tape", "_law_many"] spDraw) (mD : mg "_law_draw" = some (.ref fD)) (kD : PySem.W.keepIn K (.ref fD) = true) (bD : Binds K fdD ["_law_tape", "_law_many"] []) :
    FnOk P w K mg base CX0 2 f fd ["_law_tape", "_law_items"] (spShuf K) := by
  refine F.ok scSh (fun vs H Q E h => ?_) (fun cdv A outer s H vs Q E hr h => ?_)
  · obtain ⟨t, c, a, cs, p, l, xs, rfl, _⟩ := h
    rfl
  · obtain ⟨t, c, a, cs, p, l, xs, rfl, hT, hS, hok, hl, hp, k⟩ := h
    have hu64 : (A.deeper (PyProof.Rows.envOfC "_law_shuffled" (defScope sShuf) s.heap.objs.size f cdv)).units + 64 < cLine := by have := hr.un; omega
    refine ⟨_, pss_cons (ps_par (i := 2) (j := 3) (by rfl) scSh.nd rfl rfl (by decide) rfl rfl (pa_cons (pe_callTy call_list_of (by rfl) T.lst (by decide +kernel) (pa_cons (pv 1) pa_nil)) (pa_cons (pe_lst pa_nil) pa_nil)) (by rfl))
      (pss_cons (ps_while PassesOwn.never (pt_cmpR (op_neD hu64) (pv 2) (pe_lst pa_nil) (nomark _))
        (pss_one (ps_expr (pe_bm PySem.F.plainAttrs_list PySem.F.slot_list_append PySem.F.type_list_append mt_append (pv 3) (pa_cons
          (pe_bm PySem.F.plainAttrs_list PySem.F.slot_list_pop PySem.F.type_list_pop mt_popAt (pv 2) (pa_cons (pe_call GD hr rfl mD kD bD .nil pass0 (pa_cons (pv 0) (pa_cons (pe_callB call_len_seq (by rfl) T.len PySem.boot_len (pa_cons (pv 2) pa_nil)) pa_nil))) pa_nil)) pa_nil)))))
      (pss_one (ps_ret (pv 3)))), ?_⟩
    refine ⟨_, rfl, a, _, rfl, hS, fun L hL => ⟨by decide, fun Fd hFd => ⟨_, _, rfl, ?_⟩⟩⟩
    have eL : (upd (upd H L (.lst (xs.map V.str))) Fd (.lst [])) L = some (.lst (xs.map V.str)) := same_new hFd _ _ upd_same
    have LF : L ≠ Fd := fun z => by rw [← z, upd_same] at hFd; cases hFd
    have hF0 : H Fd = none := by rw [upd_ne LF.symm] at hFd; exact hFd
    have tL : L ≠ t := fun z => by rw [z, hT.d] at hL; cases hL
    have tF : Fd ≠ t := fun z => by rw [z, hT.d] at hF0; cases hF0
    have cL : c ≠ L := ne_of_none hT.c hL
    have cF : c ≠ Fd := ne_of_none hT.c hF0
    have s0 : Same H (upd (upd H L (.lst (xs.map V.str))) Fd (.lst [])) := (same_new hL).trans (same_new hFd)
    refine while_by (fun σ H' => ∃ (ls fs : List Str) (p' l' : Int), σ = [some (.ref t), some (.ref a), some (.ref L), some (.ref Fd)] ∧ H' L = some (.lst (ls.map V.str)) ∧ H' Fd = some (.lst (fs.map V.str)) ∧ (fs ++ ls).Perm xs ∧ Tape H' t c cs p' l' ∧ p ≤ p' ∧ p' ≤ p + fs.length ∧ But t H H')
      (fun _ H' => match H' L with | some (.lst ys) => ys.length | _ => 0) ⟨xs, [], p, l, rfl, eL, upd_same, List.Perm.refl _, hT.keep s0, Int.le_refl _, by simp, fun b o e _ => s0 b o e⟩ ?_ ?_
    · rintro σ H1 ⟨ls, fs, p1, l1, rfl, hL1, hF1, hpm, hT1, a1, b1, hB1⟩
      have hlen := hpm.length_eq
      rw [List.length_append] at hlen
      have hlo : ∀ y ∈ ls, PyData.strOk y = true := fun y hy => hok y (hpm.mem_iff.mp (List.mem_append_right _ hy))
      refine ⟨_, rfl, by decide, fun e he => ⟨.list (ls.map PyData.str), .list [], .lst (SqL.of (same_new he _ _ hL1)) (txts_dp ls), .lst (SqL.of upd_same) .nil, txts_shaped hlo, rfl, _, rfl, ?_⟩⟩
      have k1 : Same H1 (upd H1 e (.lst [])) := same_new he
      have nBe : ∀ b o, H b = some o → b ≠ t → (upd H1 e (.lst [])) b = some o := fun b o e2 n => k1 _ _ (hB1 b o e2 n)
      have hT1' := hT1.keep k1
      have hL1' := k1 _ _ hL1
      have hF1' := k1 _ _ hF1
      generalize upd H1 e (.lst []) = H2 at k1 nBe hT1' hL1' hF1' ⊢
      rw [txts_none]
      cases ls with
      | nil =>
        refine iteF ⟨_, rfl, k Fd fs p1 l1 H2 (by rw [List.append_nil] at hpm; exact hpm) hF0 hF1' a1 (Int.le_trans b1 (by have e : fs.length = xs.length := (Nat.add_zero _).symm.trans hlen; rw [e]; exact Int.le_refl _)) hT1' nBe⟩
      | cons y0 ls0 =>
        refine iteT ?_
        refine ⟨_, rfl, .inl ⟨rfl, _, SqL.of hF1'⟩, _, rfl, .inl ⟨rfl, _, SqL.of hL1'⟩, _, rfl, _, rfl, L, _, rfl, .inl (SqL.of hL1'), t, c, cs, p1, l1, _, rfl, hT1', by simp, ?_, by omega, fun r p2 l2 H3 r0 r1 a2 b2 hT3 hB3 => ?_⟩
        · simp at hlen ⊢
          omega
        have hL3 := hB3 _ _ hL1' tL
        have hF3 := hB3 _ _ hF1' tF
        obtain ⟨i, rfl⟩ : ∃ i : Nat, r = (i : Int) := ⟨r.toNat, by omega⟩
        have hi : i < (y0 :: ls0).length := by
          rw [List.length_map] at r1
          omega
        have hget : ((y0 :: ls0).map V.str)[i]? = some (V.str ((y0 :: ls0)[i])) := by
          rw [List.getElem?_map, List.getElem?_eq_getElem hi]
          rfl
        have hsi : seqIndex? (i : Int) ((y0 :: ls0).map V.str).length = some i := by
          unfold seqIndex?
          rw [List.length_map]
          have h1 : ¬ ((i : Int) < 0) := by omega
          simp only [h1, if_false]
          have h2 : (decide (0 ≤ (i : Int)) && decide ((i : Int) < ((y0 :: ls0).length : Nat))) = true := by
            rw [Bool.and_eq_true, decide_eq_true_eq, decide_eq_true_eq]
            omega
          rw [if_pos h2]
          rfl
        refine ⟨L, _, (i : Int), i, _, rfl, rfl, hL3, by omega, by simp at hlen; simp at hi; omega, hsi, hget, Fd, _, _, rfl, rfl, by rw [upd_ne LF.symm]; exact hF3, ?_, ?_, ?_⟩
        · rw [List.length_map, sizeLine_eq]
          omega
        · refine ⟨(y0 :: ls0).eraseIdx i, fs ++ [(y0 :: ls0)[i]], p2, l2, rfl, ?_, ?_, ?_, ?_, by omega, ?_, fun b o e2 n => ?_⟩
          · rw [upd_ne LF, upd_same, erase_map]
          · rw [upd_same, List.map_append]
            rfl
          · refine List.Perm.trans ?_ hpm
            rw [List.append_assoc]
            exact List.Perm.append_left fs (erase_perm hi)
          · exact (hT3.off tL cL).off tF cF
          · rw [List.length_append]
            show p2 ≤ p + ((fs.length + 1 : Nat) : Int)
            omega
          · have e3 := hB3 b o (nBe b o e2 n) n
            rw [upd_ne (ne_of_none e2 hF0), upd_ne (ne_of_none e2 hL)]
            exact e3
        · show (match (upd (upd H3 L _) Fd _) L with | some (HO.lst ys) => ys.length | _ => 0) < (match H1 L with | some (HO.lst ys) => ys.length | _ => 0)
          rw [upd_ne LF, upd_same, hL1]
          show (((y0 :: ls0).map V.str).eraseIdx i).length < ((y0 :: ls0).map V.str).length
          rw [List.length_eraseIdx_of_lt (by rw [List.length_map]; exact hi), List.length_map]
          simp
    · intro σ H1 Q1 Q2 hq h
      obtain ⟨x, e, z, f⟩ := h
      exact ⟨x, e, z, fun q hq0 => let ⟨d, e', h1, h2, h3, h4, kk, hk, q'⟩ := f q hq0; ⟨d, e', h1, h2, h3, h4, kk, hk, hq _ _ q'⟩⟩
end
end Bo
set_option Elab.async false
set_option linter.all false
set_option maxRecDepth 100000
set_option maxHeartbeats 8000000
namespace Bo
open PySem L2
abbrev sNames : Stmt := top 68
abbrev nNm : List Str := ["_law_tape", "_law_many", "_law_letters", "_law_k", "_law_stem", "_law_place", "_law_first", "_law_cut", "_law_step", "_law_found", "_law_front", "_law_back"]
/-- different names -/
def spNames : Sp := fun vs H Q _ => ∃ (t c : Addr) (cs : List Int) (p l m : Int), vs = [.ref t, .int m] ∧ Tape H t c cs p l ∧ 0 ≤ m ∧ m ≤ 26 ∧ p + 20 < 100000000000 ∧
  ∀ (q : Addr) (ys : List Str) (p' l' : Int) (H' : Hp), H q = none → H' q = some (.lst (ys.map V.str)) → ys.length = m.toNat → ys.Nodup → (∀ y ∈ ys, nameOk y = true ∧ TxtOk y) → p ≤ p' → p' ≤ p + 20 → Tape H' t c cs p' l' → But t H H' → Q (.ref q) H'
def lets26 : List Nat := List.range' 97 26
theorem lets26_eq : lets.cps.toList = lets26 := by decide +kernel
theorem let_at {j : Nat} (h : j < 26) : lets.cps.toList[j]? = some (97 + j) := by
  rw [lets26_eq]
  unfold lets26
  rw [List.getElem?_range' h]
  simp
def steps : List Int := [1, 3, 5, 7, 9, 11, 15, 17, 19, 21, 23, 25]
theorem steps_inj {s f : Int} (hs : s ∈ steps) {k k' : Nat} (h1 : k < 26) (h2 : k' < 26) (e : (f + s * (k : Int)) % 26 = (f + s * (k' : Int)) % 26) : k = k' := by
  unfold steps at hs
  simp only [List.mem_cons, List.not_mem_nil, or_false] at hs
  rcases hs with rfl | rfl | rfl | rfl | rfl | rfl | rfl | rfl | rfl | rfl | rfl | rfl <;> omega
/-- the name of turn k -/
def nameAt (front back : List Nat) (f s : Int) (cut : Bool) (k : Nat) : List Nat := front ++ ((97 + ((f + s * (k : Int)) % 26).toNat) :: (if cut then back.take (k % 3) else back))
theorem nameAt_inj {front back : List Nat} {f s : Int} {cut : Bool} (hs : s ∈ steps) {k k' : Nat} (h1 : k < 26) (h2 : k' < 26) (e : nameAt front back f s cut k = nameAt front back f s cut k') : k = k' := by
  have e2 := List.append_cancel_left e
  injection e2 with e3 _
  refine steps_inj (f := f) hs h1 h2 ?_
  have a := Int.emod_nonneg (f + s * (k : Int)) (show (26 : Int) ≠ 0 by decide)
  have b := Int.emod_nonneg (f + s * (k' : Int)) (show (26 : Int) ≠ 0 by decide)
  omega
theorem But.same {t : Addr} {H H' : Hp} (h : Same H H') : But t H H' := fun q o e _ => h q o e
theorem sign_let {c : Nat} (h : c ∈ lets.cps.toList) : isSign c = true := by
  unfold isSign
  rw [decide_eq_true h]
  rfl
theorem sign_both {c : Nat} (h : c ∈ (lets ++ digs).cps.toList) : isSign c = true := by
  rw [str_app] at h
  unfold isSign
  rcases List.mem_append.mp h with z | z
  · rw [decide_eq_true z]; rfl
  · rw [decide_eq_true z, Bool.or_true]
theorem sign_small : ∀ {c : Nat}, isSign c = true → c < 128 := fun {c} h => by
  unfold isSign at h
  rw [Bool.or_eq_true, decide_eq_true_eq, decide_eq_true_eq] at h
  rcases h with z | z
  · exact lets_ok c z
  · exact both_ok c (by rw [both_eq]; exact List.mem_append_right _ z)
theorem let_mem {j : Nat} (h : j < 26) : 97 + j ∈ lets.cps.toList := List.mem_of_getElem? (let_at h)
/-- a list of signs that begins with a letter -/
theorem name_of {l : List Nat} (h1 : 1 ≤ l.length) (h2 : l.length ≤ 8) (h3 : ∃ c, l.head? = some c ∧ c ∈ lets.cps.toList) (h4 : ∀ c ∈ l, isSign c = true) : nameOk ⟨l.toArray⟩ = true ∧ TxtOk ⟨l.toArray⟩ := by
  obtain ⟨c, hc, hl⟩ := h3
  have e : (⟨l.toArray⟩ : Str).cps.toList = l := List.toList_toArray
  refine ⟨?_, by rw [e]; omega, fun u hu => ?_⟩
  · show (decide _ && (decide _ && (_ && _))) = true
    rw [e, decide_eq_true h1, decide_eq_true h2, hc, show (some c).any isLet = isLet c from rfl, show isLet c = true from decide_eq_true hl, List.all_eq_true.mpr h4]
    rfl
  · rw [e] at hu
    exact sign_small (h4 u hu)
theorem cut_take {l : List Nat} {n : Nat} (h : n ≤ l.length) : cutV (l.map oneTx) none (some (n : Int)) = ((l.take n).map oneS).map V.str := by
  unfold cutV
  rw [HT.sIx_none, HT.sIx_nat, List.length_map, Nat.min_eq_left h, Nat.sub_zero, List.drop_zero, ← List.map_take, ones_map]
theorem cut_drop {l : List Nat} {n : Nat} (h : n ≤ l.length) : cutV (l.map oneTx) (some (n : Int)) none = ((l.drop n).map oneS).map V.str := by
  unfold cutV
  rw [HT.sIx_none, HT.sIx_nat, List.length_map, Nat.min_eq_left h, ← List.map_drop, List.take_of_length_le (by rw [List.length_map, List.length_drop]; exact Nat.le_refl _), ones_map]
theorem str_of {x : Str} {l : List Nat} (h : x.cps.toList = l) : x = ⟨l.toArray⟩ := by
  cases x
  rw [← h]
theorem cutS_take {x : Str} {n : Nat} : (cutS x none (some (n : Int))).cps.toList = x.cps.toList.take n := by
  unfold cutS
  rw [HT.sIx_none, HT.sIx_nat, Nat.sub_zero, List.drop_zero, List.toList_toArray, str_len, Nat.min_def]
  split
  · rfl
  · rw [List.take_of_length_le (Nat.le_refl _), List.take_of_length_le (by omega)]
section
variable {P : Program} {w : World} {K : PySem.W.Frag} {mg : Str → Option Value} {base : Heap}
theorem scNm : FnScope nNm ["_law_tape", "_law_many"] (defScope sNames) := ⟨rfl, rfl, rfl, by decide +kernel, rfl, by decide +kernel, by decide +kernel⟩
theorem ok_names {f fD fP : Addr} {fd fdD fdP : FuncData} (F : Fun K "_law_names" "_law_names" sNames f fd) (T : TxtSh mg) (hrng : mg "range" = none)
    (GD : FnOk P w K mg base CX0 1 fD fdD ["_law_tape", "_law_many"] spDraw) (mD : mg "_law_draw" = some (.ref fD)) (kD : PySem.W.keepIn K (.ref fD) = true) (bD : Binds K fdD ["_law_tape", "_law_many"] [])
    (GP : FnOk P w K mg base CX0 2 fP fdP ["_law_tape", "_law_items"] spPick) (GS : FnOk P w K mg base CX0 2 fP fdP ["_law_tape", "_law_items"] spPickS) (mP : mg "_law_pick" = some (.ref fP)) (kP : PySem.W.keepIn K (.ref fP) = true) (bP : Binds K fdP ["_law_tape", "_law_items"] []) :
    FnOk P w K mg base CX0 3 f fd ["_law_tape", "_law_many"] spNames := by
  refine F.ok scNm (fun vs H Q E h => ?_) (fun cdv A outer s H vs Q E hr h => ?_)
  · obtain ⟨t, c, cs, p, l, m, rfl, _⟩ := h
    rfl
  obtain ⟨t, c, cs, p, l, m, rfl, hT, hm0, hm1, hp, k⟩ := h
  have hr1 : Room 1 _ := hr.mono (by decide)
  refine ⟨_, pss_cons (ps_set (i := 2) scNm.nd rfl (.inr rfl) pe_str)
    (pss_cons (ps_set (i := 4) scNm.nd rfl (.inl rfl) (pe_op op_cat (pe_lst (pa_cons (pe_call GS hr rfl mP kP bP .nil pass0 (pa_cons (pv 0) (pa_cons (pv 2) pa_nil))) pa_nil))
      (pe_lc (own := [("_law_k", 3)]) (g := gName 3) (tt := tYes) rfl scNm.nd (pi_range1 rfl hrng (pa_cons (pe_call GD hr1 rfl mD kD bD .nil pass0 (pa_cons (pv 0) (pa_cons pe_int pa_nil))) pa_nil)) (blkOk_by (N := nNm) (sc := defScope sNames) (by decide +kernel)) (fun _ _ _ _ _ => pg_name (i := 3) scNm.nd rfl (Or.inl rfl)) (fun _ _ _ _ _ => pts_nil)
        (fun _ _ _ _ _ => pe_call GS hr rfl mP kP bP .nil pass0 (pa_cons (pv 0) (pa_cons (pe_op op_add_str (pv 2) pe_str) pa_nil))))))
    (pss_cons (ps_par3 (i := 5) (j := 6) (l := 7) (by rfl) scNm.nd rfl rfl rfl (by decide) (by decide) (by decide) rfl rfl rfl
        (pa_cons (pe_call GD hr1 rfl mD kD bD .nil pass0 (pa_cons (pv 0) (pa_cons (pe_callB call_len_seq (by rfl) T.len PySem.boot_len (pa_cons (pv 4) pa_nil)) pa_nil))) (pa_cons (pe_call GD hr1 rfl mD kD bD .nil pass0 (pa_cons (pv 0) (pa_cons pe_int pa_nil))) (pa_cons (pe_call GD hr1 rfl mD kD bD .nil pass0 (pa_cons (pv 0) (pa_cons pe_int pa_nil))) pa_nil))) (by rfl))
    (pss_cons (ps_par (i := 8) (j := 9) (by rfl) scNm.nd rfl rfl (by decide) rfl rfl (pa_cons (pe_call GP hr rfl mP kP bP .nil pass0 (pa_cons (pv 0) (pa_cons (pe_lst (pa_cons pe_int (pa_cons pe_int (pa_cons pe_int (pa_cons pe_int (pa_cons pe_int (pa_cons pe_int (pa_cons pe_int (pa_cons pe_int (pa_cons pe_int (pa_cons pe_int (pa_cons pe_int (pa_cons pe_int pa_nil))))))))))))) pa_nil))) (pa_cons (pe_lst pa_nil) pa_nil)) (by rfl))
    (pss_cons (ps_par (i := 10) (j := 11) (by rfl) scNm.nd rfl rfl (by decide) rfl rfl (pa_cons (pe_join pe_str (pe_slice sl_list (pv 4) po_none (po_some (pv 5)))) (pa_cons (pe_join pe_str (pe_slice sl_list (pv 4) (po_some (pe_op op_add (pv 5) pe_int)) po_none)) pa_nil)) (by rfl))
    (pss_cons (ps_for PassesOwn.never rfl (pi_range1 rfl hrng (pa_cons (pv 1) pa_nil)) (pg_name (i := 3) scNm.nd rfl (.inl rfl))
      (pss_one (ps_expr (pe_bm PySem.F.plainAttrs_list PySem.F.slot_list_append PySem.F.type_list_append mt_append (pv 9) (pa_cons
        (pe_op op_add_str (pe_op op_add_str (pv 10) (pe_ix ix_str (pv 2) (pe_op op_mod (pe_op op_add (pv 6) (pe_op op_mul (pv 8) (pv 3))) pe_int) (fun _ _ => rfl)))
          (pe_ifExp (pt_cmpR op_eq (pv 7) pe_int (nomark _)) (pv 11) (pe_slice sl_str (pv 11) po_none (po_some (pe_op op_mod (pv 3) pe_int))))) pa_nil)))))
    (pss_one (ps_ret (pv 9)))))))), ?_⟩
  refine ⟨_, rfl, _, rfl, t, c, cs, p, l, lets, rfl, hT, by decide +kernel, by decide +kernel, by omega, fun u p1 l1 H1 hu a1 b1 hT1 hB1 => ⟨by show 1 ≤ sizeLine; decide, fun q1 hq1 => ?_⟩⟩
  have q1t : q1 ≠ t := fun z => by rw [z, hT1.d] at hq1; cases hq1
  have hT1' := hT1.new (o := .lst [V.str ⟨#[u]⟩]) hq1
  have hB1' : But t H (upd H1 q1 (.lst [V.str ⟨#[u]⟩])) := hB1.new hq1
  have eq1 : (upd H1 q1 (.lst [V.str ⟨#[u]⟩])) q1 = some (.lst [oneTx u]) := upd_same
  have c1 : c ≠ q1 := ne_of_none hT1.c hq1
  generalize upd H1 q1 (.lst [V.str ⟨#[u]⟩]) = G1 at hT1' hB1' eq1 ⊢
  refine ⟨_, rfl, t, c, cs, p1, l1, 8, rfl, hT1', by decide, by decide, by omega, fun r p2 l2 H2 r0 r1 a2 b2 hT2 hB2 => ⟨r, rfl, by omega, by omega, fun D hD => ?_⟩⟩
  have Dt : D ≠ t := fun z => by rw [z, hT2.d] at hD; cases hD
  have Dc : c ≠ D := ne_of_none hT2.c hD
  have eq2 := hB2 _ _ eq1 q1t
  have q1D : q1 ≠ D := ne_of_none eq2 hD
  have hBD : But t H (upd H2 D (.lst [])) := (hB1'.trans hB2).new hD
  refine lc_it walk_range (fun i H' => ∃ (us : List Nat) (p' l' : Int), us.length = i ∧ (∀ u ∈ us, u ∈ (lets ++ digs).cps.toList) ∧ p2 ≤ p' ∧ p' ≤ p2 + i ∧ Tape H' t c cs p' l' ∧ H' D = some (.lst (us.map oneTx)) ∧ H' q1 = some (.lst [oneTx u]) ∧ But t H H')
    ⟨[], p2, l2, rfl, (fun _ z => nomatch z), by omega, by omega, hT2.new hD, upd_same, same_new hD _ _ eq2, hBD⟩ (fun _ _ _ _ => True.intro) ?_ ?_
  · rintro i x H3 H4 hi ⟨us, p', l', e1, e2, a3, b3, hT3, hD3, hq3, hB3⟩ ⟨rfl, rfl⟩
    refine ⟨rfl, iteT (B := True) ⟨_, rfl, _, rfl, _, _, rfl, rfl, by decide +kernel, t, c, cs, p', l', lets ++ digs, rfl, hT3, by decide +kernel, by decide +kernel, by omega, fun v p'' l'' H5 hv a5 b5 hT5 hB5 => ⟨us.map oneTx, hB5 _ _ hD3 Dt, by rw [List.length_map, sizeLine_eq]; omega, us ++ [v], p'', l'', ?_⟩⟩⟩
    refine ⟨by rw [List.length_append, e1]; rfl, fun z hz => ?_, by omega, by omega, hT5.off Dt Dc, ?_, (upd_ne q1D).trans (hB5 _ _ hq3 q1t), fun b o e nb => ?_⟩
    · rcases List.mem_append.mp hz with q | q
      · exact e2 z q
      · rw [List.mem_singleton.mp q]; exact hv
    · rw [upd_same, List.map_append]
      rfl
    · have h5 := (hB3.trans hB5) b o e nb
      have nD : b ≠ D := fun z => by
        have e2 := (hB1'.trans hB2) b o e nb
        rw [z, hD] at e2
        cases e2
      rw [upd_ne nD]
      exact h5
  rintro H3 ⟨us, p3, l3, e1, e2, a3, b3, hT3, hD3, hq3, hB3⟩
  have hus : us.length ≤ 7 := by omega
  refine ⟨q1, D, _, _, rfl, rfl, hq3, hD3, by rw [List.length_map, sizeLine_eq]; show 1 + us.length ≤ _; omega, fun q2 hq2 => ?_⟩
  have eqs : (upd H3 q2 (.lst ([oneTx u] ++ us.map oneTx))) q2 = some (.lst ((u :: us).map oneTx)) := upd_same
  have hT3' := hT3.new (o := .lst ([oneTx u] ++ us.map oneTx)) hq2
  have hB3' := hB3.new (o := .lst ([oneTx u] ++ us.map oneTx)) hq2
  have q2t : q2 ≠ t := fun z => by rw [z, hT3.d] at hq2; cases hq2
  generalize upd H3 q2 (.lst ([oneTx u] ++ us.map oneTx)) = G3 at eqs hT3' hB3' ⊢
  have lst : ((u :: us).map oneTx).length = us.length + 1 := by rw [List.length_map]; rfl
  refine ⟨_, rfl, _, rfl, q2, _, rfl, .inl (SqL.of eqs), t, c, cs, p3, l3, _, rfl, hT3', by rw [lst]; omega, by rw [lst]; omega, by omega, fun pl p4 l4 H4 pl0 pl1 a4 b4 hT4 hB4 => ?_⟩
  refine ⟨_, rfl, t, c, cs, p4, l4, 26, rfl, hT4, by decide, by decide, by omega, fun fi p5 l5 H5 fi0 fi1 a5 b5 hT5 hB5 => ?_⟩
  refine ⟨_, rfl, t, c, cs, p5, l5, 2, rfl, hT5, by decide, by decide, by omega, fun cu p6 l6 H6 cu0 cu1 a6 b6 hT6 hB6 => ⟨_, _, _, rfl, ?_⟩⟩
  have eq6 := hB6 _ _ (hB5 _ _ (hB4 _ _ eqs q2t) q2t) q2t
  have hB60 := ((hB3'.trans hB4).trans hB5).trans hB6
  refine ⟨_, rfl, by show 12 ≤ sizeLine; decide, fun q3 hq3' => ⟨t, c, q3, cs, p6, l6, steps.map V.int, rfl, hT6.new hq3', upd_same, by simp [steps], by simp [steps], by omega, fun j x p7 l7 H7 hj a7 b7 hT7 hB7 => ⟨by decide, fun q4 hq4 => ⟨_, _, rfl, ?_⟩⟩⟩⟩
  rw [List.getElem?_map] at hj
  obtain ⟨st, hst, rfl⟩ := Option.map_eq_some_iff.mp hj
  have hst := List.mem_of_getElem? hst
  have hT8 := hT7.new (o := .lst []) hq4
  have hB70 : But t H H7 := (hB60.new hq3').trans hB7
  have hB8 := hB70.new (o := .lst []) hq4
  have q4t : q4 ≠ t := fun z => by rw [z, hT7.d] at hq4; cases hq4
  have q4c : c ≠ q4 := ne_of_none hT7.c hq4
  have q3q : (upd H6 q3 (.lst (steps.map V.int))) q2 = some (.lst ((u :: us).map oneTx)) := same_new hq3' _ _ eq6
  have eq7 := same_new (o := .lst []) hq4 _ _ (hB7 _ _ q3q q2t)
  have e4 : (upd H7 q4 (.lst [])) q4 = some (.lst []) := upd_same
  have n4 : H q4 = none := by
    cases z : H q4 with
    | none => rfl
    | some o =>
      rw [hB70 q4 o z q4t] at hq4
      cases hq4
  generalize upd H7 q4 (.lst []) = G8 at hT8 hB8 eq7 e4 ⊢
  obtain ⟨k0, rfl⟩ : ∃ k0 : Nat, pl = (k0 : Int) := ⟨pl.toNat, by omega⟩
  have hk0 : k0 < (u :: us).length := by
    rw [lst] at pl1
    show k0 < us.length + 1
    omega
  refine ⟨⟨_, rfl⟩, _, rfl, _, rfl, _, rfl, q2, _, rfl, SqL.of eq7, fun q5 hq5 => ?_⟩
  have h5 : (upd G8 q5 (.lst (cutV ((u :: us).map oneTx) none (some (k0 : Int))))) q5 = some (.lst (((((u :: us).take k0).map oneS)).map V.str)) := by rw [upd_same, cut_take (Nat.le_of_lt hk0)]
  have s5 : Same G8 (upd G8 q5 (.lst (cutV ((u :: us).map oneTx) none (some (k0 : Int))))) := same_new hq5
  generalize upd G8 q5 (.lst (cutV ((u :: us).map oneTx) none (some (k0 : Int)))) = G9 at h5 s5 ⊢
  have ls1 : ((u :: us).take k0).length ≤ 8 := by rw [List.length_take]; show min k0 (us.length + 1) ≤ 8; omega
  refine ⟨_, q5, _, rfl, rfl, .inl (SqL.of h5), by rw [ones_sum, List.length_map]; show _ + _ * 0 ≤ _; omega, ?_⟩
  have hFR := ones_join ((u :: us).take k0)
  generalize Txt.join (Str.ofString "") (((u :: us).take k0).map oneS) = FR at hFR ⊢
  have e1k : ((k0 : Int) + 1) = ((k0 + 1 : Nat) : Int) := by omega
  refine ⟨⟨_, rfl⟩, _, rfl, _, rfl, _, _, rfl, rfl, _, rfl, q2, _, rfl, SqL.of (s5 _ _ eq7), fun q6 hq6 => ?_⟩
  have h6 : (upd G9 q6 (.lst (cutV ((u :: us).map oneTx) (some ((k0 : Int) + 1)) none))) q6 = some (.lst (((((u :: us).drop (k0 + 1)).map oneS)).map V.str)) := by rw [upd_same, e1k, cut_drop hk0]
  have s6 : Same G9 (upd G9 q6 (.lst (cutV ((u :: us).map oneTx) (some ((k0 : Int) + 1)) none))) := same_new hq6
  generalize upd G9 q6 (.lst (cutV ((u :: us).map oneTx) (some ((k0 : Int) + 1)) none)) = G10 at h6 s6 ⊢
  have ls2 : ((u :: us).drop (k0 + 1)).length + k0 + 1 ≤ 8 := by rw [List.length_drop]; show us.length + 1 - (k0 + 1) + k0 + 1 ≤ 8; have : k0 < us.length + 1 := hk0; omega
  refine ⟨_, q6, _, rfl, rfl, .inl (SqL.of h6), by rw [ones_sum, List.length_map]; show _ + _ * 0 ≤ _; omega, _, _, rfl, ?_⟩
  have hBK := ones_join ((u :: us).drop (k0 + 1))
  generalize Txt.join (Str.ofString "") (((u :: us).drop (k0 + 1)).map oneS) = BK at hBK ⊢
  have lFR : FR.cps.toList.length = k0 := by rw [hFR, List.length_take]; exact Nat.min_eq_left (Nat.le_of_lt hk0)
  have lBK : BK.cps.toList.length + k0 + 1 ≤ 8 := by rw [hBK]; exact ls2
  have hT10 := (hT8.keep s5).keep s6
  have hB10 : But t H G10 := (hB8.trans (But.same s5)).trans (But.same s6)
  have e10 := s6 _ _ (s5 _ _ e4)
  refine ⟨_, rfl, m, rfl, by omega, by omega, ?_⟩
  let nm : Nat → Str := fun k => ⟨(nameAt FR.cps.toList BK.cps.toList fi st (!decide (cu = 0)) k).toArray⟩
  have nmL : ∀ k, (nm k).cps.toList = nameAt FR.cps.toList BK.cps.toList fi st (!decide (cu = 0)) k := fun k => List.toList_toArray
  refine for_range (fun i σ H' => ∃ z3, σ = [some (.ref t), some (.int m), some (.str lets), z3, some (.ref q2), some (.int (k0 : Int)), some (.int fi), some (.int cu), some (.int st), some (.ref q4), some (.str FR), some (.str BK)] ∧ H' q4 = some (.lst (((List.range i).map nm).map V.str)) ∧ Tape H' t c cs p7 l7 ∧ But t H H')
    ⟨_, rfl, e10, hT10, hB10⟩ ?_ ?_
  · rintro i σ H11 hi ⟨z3, rfl, h11, hT11, hB11⟩
    have hi26 : i < 26 := by omega
    have hmod0 := Int.emod_nonneg (fi + st * (0 + (i : Int))) (show (26 : Int) ≠ 0 by decide)
    have hmod1 := Int.emod_lt_of_pos (fi + st * (0 + (i : Int))) (show (0 : Int) < 26 by decide)
    obtain ⟨j26, hj26⟩ : ∃ j : Nat, (fi + st * (0 + (i : Int))) % 26 = (j : Int) := ⟨((fi + st * (0 + (i : Int))) % 26).toNat, by omega⟩
    have st0 : 0 ≤ st ∧ st ≤ 25 := by
      unfold steps at hst
      simp only [List.mem_cons, List.not_mem_nil, or_false] at hst
      omega
    have fin : ∀ back : Str, back.cps.toList = (if (!decide (cu = 0)) = true then BK.cps.toList.take (i % 3) else BK.cps.toList) → (FR ++ (⟨#[97 + j26]⟩ : Str)) ++ back = nm i := fun back hb => by
      refine (str_of ?_).trans (str_of (nmL i)).symm
      rw [str_app, str_app, hb]
      unfold nameAt
      have e0 : (fi + st * (i : Int)) % 26 = (j26 : Int) := by rw [← hj26, Int.zero_add]
      rw [e0, Int.toNat_natCast, List.append_assoc]
      rfl
    have szB : BK.length ≤ 8 := by rw [str_len]; omega
    have szF : FR.length ≤ 8 := by rw [str_len]; omega
    have sz1 : (FR ++ (⟨#[97 + j26]⟩ : Str)).length ≤ 9 := by
      rw [str_len, str_app, List.length_append]
      show FR.cps.toList.length + 1 ≤ 9
      omega
    have room : ∀ b : Str, b = nm i → ((List.range i).map nm).map V.str ++ [V.str b] = ((List.range (i + 1)).map nm).map V.str := fun b e => by
      rw [e, List.range_succ, List.map_append, List.map_append]
      rfl
    have done : ∀ b : Str, b = nm i → ∃ z3, [some (V.ref t), some (.int m), some (.str lets), some (.int (0 + (i : Int))), some (.ref q2), some (.int (k0 : Int)), some (.int fi), some (.int cu), some (.int st), some (.ref q4), some (.str FR), some (.str BK)] = [some (V.ref t), some (.int m), some (.str lets), z3, some (.ref q2), some (.int (k0 : Int)), some (.int fi), some (.int cu), some (.int st), some (.ref q4), some (.str FR), some (.str BK)] ∧ (upd H11 q4 (.lst (((List.range i).map nm).map V.str ++ [V.str b]))) q4 = some (.lst (((List.range (i + 1)).map nm).map V.str)) ∧ Tape (upd H11 q4 (.lst (((List.range i).map nm).map V.str ++ [V.str b]))) t c cs p7 l7 ∧ But t H (upd H11 q4 (.lst (((List.range i).map nm).map V.str ++ [V.str b]))) := fun b e =>
      ⟨_, rfl, by rw [upd_same, room b e], hT11.off q4t q4c, fun x o ex nx => by rw [upd_ne (ne_of_none ex n4)]; exact hB11 x o ex nx⟩
    refine ⟨_, rfl, .inl ⟨rfl, _, SqL.of h11⟩, _, rfl, _, rfl, _, rfl, _, rfl, _, rfl, _, _, rfl, rfl, .inl ⟨by omega, by omega⟩, _, _, rfl, rfl, _, _, rfl, rfl, (by show (0 : Int) < 26; decide), lets, _, (97 + j26), rfl, rfl, by decide +kernel, ?_, _, _, rfl, rfl, ?_, ?_⟩
    · rw [hj26]
      exact atI_nat (let_at (by omega))
    · rw [sizeLine_eq]; show FR.length + 1 ≤ _; omega
    refine ⟨_, rfl, rfl, _, rfl, ite2 (fun hc => ?_) (fun hc => ?_)⟩
    · have hcu : cu = 0 := V.int.inj (of_decide_eq_true hc)
      have hb := fin BK (by rw [hcu]; rfl)
      exact ⟨_, rfl, _, _, rfl, rfl, by rw [sizeLine_eq]; omega, q4, _, _, rfl, rfl, h11, by rw [List.length_map, List.length_map, List.length_range, sizeLine_eq]; omega, done _ hb⟩
    · have hm3 : (0 + (i : Int)) % 3 = ((i % 3 : Nat) : Int) := by omega
      have hcu : cu ≠ 0 := fun z => hc (by rw [z]; exact decide_eq_true rfl)
      have hb := fin (cutS BK none (some ((0 + (i : Int)) % 3))) (by rw [hm3, cutS_take, decide_eq_false hcu]; rfl)
      have lc := cutS_length BK none (some ((0 + (i : Int)) % 3))
      exact ⟨_, rfl, _, rfl, _, _, rfl, rfl, (by show (0 : Int) < 3; decide), _, rfl, BK, rfl, by rw [sizeLine_eq]; omega, _, _, rfl, rfl, by rw [sizeLine_eq]; omega, q4, _, _, rfl, rfl, h11, by rw [List.length_map, List.length_map, List.length_range, sizeLine_eq]; omega, done _ hb⟩
  · rintro σ H11 ⟨z3, rfl, h11, hT11, hB11⟩
    refine ⟨_, rfl, k q4 ((List.range m.toNat).map nm) p7 l7 H11 n4 h11 (by rw [List.length_map, List.length_range]) ?_ ?_ (by omega) (by omega) hT11 hB11⟩
    · refine List.pairwise_map.mpr (List.nodup_range.imp_of_mem fun {a b} ha hb ne e => ne ?_)
      rw [List.mem_range] at ha hb
      have e9 : (nm a).cps.toList = (nm b).cps.toList := by rw [e]
      rw [nmL a, nmL b] at e9
      exact nameAt_inj hst (by omega) (by omega) e9
    · intro y hy
      obtain ⟨i, hi, rfl⟩ := List.mem_map.mp hy
      have tl : ∀ z ∈ (if (!decide (cu = 0)) = true then BK.cps.toList.take (i % 3) else BK.cps.toList), z ∈ BK.cps.toList := fun z hz => by
        split at hz
        · exact List.mem_of_mem_take hz
        · exact hz
      have tn : (if (!decide (cu = 0)) = true then BK.cps.toList.take (i % 3) else BK.cps.toList).length ≤ BK.cps.toList.length := by
        split
        · rw [List.length_take]; exact Nat.min_le_right _ _
        · exact Nat.le_refl _
      have sg : ∀ z ∈ (u :: us), isSign z = true := fun z hz => by
        rcases List.mem_cons.mp hz with q | q
        · rw [q]; exact sign_let hu
        · exact sign_both (e2 z q)
      have hj : ((fi + st * (i : Int)) % 26).toNat < 26 := by
        have := Int.emod_lt_of_pos (fi + st * (i : Int)) (show (0 : Int) < 26 by decide)
        omega
      refine name_of ?_ ?_ ?_ ?_
      · unfold nameAt
        rw [List.length_append, List.length_cons]
        omega
      · unfold nameAt
        rw [List.length_append, List.length_cons, lFR]
        omega
      · unfold nameAt
        cases k0 with
        | zero =>
          rw [show FR.cps.toList = [] from hFR]
          exact ⟨_, rfl, let_mem hj⟩
        | succ n =>
          rw [show FR.cps.toList = u :: us.take n from hFR]
          exact ⟨u, rfl, hu⟩
      · intro z hz
        unfold nameAt at hz
        rcases List.mem_append.mp hz with q | q
        · rw [hFR] at q
          exact sg z (List.mem_of_mem_take q)
        · rcases List.mem_cons.mp q with q | q
          · rw [q]; exact sign_let (let_mem hj)
          · have q2 := tl z q
            rw [hBK] at q2
            exact sg z (List.mem_of_mem_drop q2)
end
end Bo
set_option Elab.async false
set_option linter.all false
set_option maxRecDepth 100000
set_option maxHeartbeats 4000000
namespace Bo
open PySem PySem.Spec PyProof.Rows L2
section
variable {P : Program} {w : World} {K : PySem.W.Frag} {mg : Str → Option Value} {base : Heap} {CC fCI CN fIN CS fSI fTk cN cO cU : Addr}
theorem ok_eqsV {f : Addr} {fd : FuncData} (F : Fun K "equations" "System.equations" sEqs f fd) (T : SysT K mg CS fSI fTk) (TC : CtT K mg CC fCI) (TP : TxtP mg) : FnOk P w K mg base CX0 1 f fd ["self"] (spEqsV K CC CS) := by
  refine F.ok scEqs (fun vs H Q E h => ?_) (fun cdv A outer s H vs Q E hr h => ?_)
  · obtain ⟨s, S, n, rfl, _⟩ := h
    rfl
  · obtain ⟨s, S, n, rfl, ⟨dx, c, b, h, bs, Yi, Yb, rfl, ⟨d1, ac, ar, ak, rs, C⟩⟩, hl, q⟩ := h
    refine ⟨_, pss_one (ps_ret (pe_callTy call_tuple_of (by rfl) TP.tup (by decide +kernel) (pa_cons (pe_callB (call_sortedD rfl) (by rfl) TP.srt (by decide +kernel) (pa_cons (pe_fld (pe_fld (pv 0) rfl) rfl) pa_nil)) pa_nil))), ?_⟩
    have hks : rs.map (·.1) = S.rows.map (·.1) := pair_keys (fun p q z => z.1) C.p
    have hln : (rs.map (·.1)).length = S.rows.length := by rw [hks, List.length_map]
    refine ⟨_, rfl, s, CS, dx, _, _, rfl, Yi, T.cl, T.n1, syF_c _ _ _, c, CC, d1, _, _, rfl, C.i, TC.cl, TC.n2, ctF_r _ _ _, ar, _, _, rfl, C.r.rd, refK_keys rs, by rw [hln]; exact hl, fun ys p hp1 hp2 hp3 => ?_⟩
    have sm : Same H (upd H p (.lst (ys.map V.str))) := same_new hp3
    refine ⟨p, _, rfl, .inl ⟨SqL.of upd_same, fun t ht => ?_⟩⟩
    refine q t _ (sm.trans (same_new ht)) ?_
    rw [← srt_of (hks ▸ hp1) hp2]
    exact SqT.of upd_same
theorem ok_unsV {f : Addr} {fd : FuncData} (F : Fun K "unknowns" "System.unknowns" sUns f fd) (T : SysT K mg CS fSI fTk) (TC : CtT K mg CC fCI) : FnOk P w K mg base CX0 1 f fd ["self"] (spUnsV K CC CS) := by
  refine F.ok scUns (fun vs H Q E h => ?_) (fun cdv A outer s H vs Q E hr h => ?_)
  · obtain ⟨s, S, n, rfl, _⟩ := h
    rfl
  · obtain ⟨s, S, n, rfl, ⟨dx, c, b, h, bs, Yi, Yb, rfl, ⟨d1, ac, ar, ak, rs, C⟩⟩, q⟩ := h
    refine ⟨_, pss_one (ps_ret (pe_fld (pe_fld (pv 0) rfl) rfl)), ?_⟩
    exact ⟨_, rfl, s, CS, dx, _, _, rfl, Yi, T.cl, T.n1, syF_c _ _ _, c, CC, d1, _, _, rfl, C.i, TC.cl, TC.n1, ctF_c _ _ _, q ac C.c⟩
end
end Bo
set_option Elab.async false
set_option linter.all false
set_option maxRecDepth 100000
set_option maxHeartbeats 8000000
namespace Bo
open PySem PySem.Spec PyProof.Rows L2
theorem strsD_dp {K : PySem.W.Frag} {H : Hp} : ∀ ys : List Str, DpAll K H (ys.map V.str) (ys.map PyData.str)
  | [] => .nil
  | y :: ys => .cons (.str y) (strsD_dp ys)
theorem strsD_ok : ∀ l : List Str, PyData.showableAll (l.map PyData.str) = true
  | [] => rfl
  | y :: l => by
    show (true && PyData.showableAll (l.map PyData.str)) = true
    rw [strsD_ok l]
    rfl
theorem strsD_depth : ∀ l : List Str, PyData.depthAll (l.map PyData.str) = 0
  | [] => rfl
  | y :: l => by
    show max 0 (PyData.depthAll (l.map PyData.str)) = 0
    rw [strsD_depth l]
    rfl
theorem strsD_short : ∀ {l : List Str}, (∀ y ∈ l, TxtOk y) → PyData.leavesShortAll 13 (l.map PyData.str) = true
  | [], _ => rfl
  | y :: l, h => by
    show ((y.cps.toList.all fun c => decide (c < 16 ^ 8)) && PyData.leavesShortAll 13 (l.map PyData.str)) = true
    rw [strsD_short fun z hz => h z (List.mem_cons_of_mem _ hz), Bool.and_true, List.all_eq_true]
    exact fun c hc => decide_eq_true (Nat.lt_of_lt_of_le ((h y List.mem_cons_self).c c hc) (by decide))
theorem strsD_weight : ∀ {l : List Str}, (∀ y ∈ l, TxtOk y) → PyData.weightAll (l.map PyData.str) ≤ 21 * l.length
  | [], _ => Nat.le_refl _
  | y :: l, h => by
    have ih := strsD_weight fun z hz => h z (List.mem_cons_of_mem _ hz)
    have h1 := (h y List.mem_cons_self).l
    have e : (PyData.str y).weight = y.cps.toList.length := by
      show y.cps.size = _
      exact (Array.length_toList (xs := y.cps)).symm
    show (PyData.str y).weight + 1 + PyData.weightAll (l.map PyData.str) ≤ 21 * (l.length + 1)
    rw [e]
    omega
structure PropW (K : PySem.W.Frag) (CS pE gE pU gU pN gN : Addr) : Prop where
  e : PropOf K CS "equations" pE gE
  u : PropOf K CS "unknowns" pU gU
  n : PropOf K CS "entries" pN gN
section
variable {P : Program} {w : World} {K : PySem.W.Frag} {mg : Str → Option Value} {base : Heap} {CC fCI CS fSI fTk : Addr}
theorem scSt : FnScope ["_law_system", "_law_plain"] ["_law_system", "_law_plain"] (defScope sStands) := ⟨rfl, rfl, rfl, by decide +kernel, rfl, by decide +kernel, by decide +kernel⟩
end
end Bo
set_option Elab.async false
set_option linter.all false
set_option maxRecDepth 100000
set_option maxHeartbeats 8000000
namespace Bo
open PySem PySem.Spec PyProof.Rows L2
def tMeR0 (C : Addr) (m : Str) (sp : Sp) (E : XK) (ta : TE) : TE := fun σ H Q => ta σ H fun x H1 => ∃ a dx fs, x = .ref a ∧ H1 a = some (.ins C dx fs) ∧ fs.lookup m = none ∧ sp [x] H1 Q E
theorem pe_meR0 {X : Cx} {CX : CXT} {lv : Nat} {C f : Addr} {m : Str} {sp : Sp} {E : XK} {o : Expr} {to : TE} {p1 p2 : Pos} {pl : Sem Bool} (he : PE X o to) (c : Cls X.K C) (hm : Meth X.K C m f) (F : FnR X.prog X.w X.K X.mg X.base CX lv f sp) (hr : Room lv X.A) (hx : Passes CX X E)
    (ht : eval (.Call (.Attribute o m p1) [] [] p2) X.env = (do
      let own ← eval o X.env
      standAt p1.atName
      let (g, front) ← holding [own] (getMethod own m pl)
      callWith p2 g front (backTo p2 (starEach [] X.env)) (backToKw p2 (keywordEach [] X.env))) := by rfl) : PE X (.Call (.Attribute o m p1) [] [] p2) (tMeR0 C m sp E to) := by
  constructor
  intro pins s σ H Q I h
  refine PySem.W.methodCall_KW (pl := pl) (thn (he.run pins s σ H _ I h) ?_) ht
  rintro u s1 ⟨x, H1, I1, rx, a, dx, fs, rfl, ea, l, q⟩
  obtain rfl : u = Value.ref a := rx
  exact getmeth_ok I1 ea c hm l (PySem.W.callWith_K0 (first := [.ref a]) I1.kIn hm.kp (wpAny_call (run_fnR (us := [.ref a]) (vs := [.ref a]) F hr hx I1 (.cons rfl .nil) q)))
structure Meths (P : Program) (w : World) (K : PySem.W.Frag) (mg : Str → Option Value) (base : Heap) (CC CS : Addr) (cs : Nat → Addr) (ms : Nat → Addr) (ds : Nat → FuncData) : Prop where
  m0 : Meth K CS "add_unknown" (ms 0)
  m1 : Meth K CS "add_equation" (ms 1)
  m2 : Meth K CS "add_entry" (ms 2)
  m3 : Meth K CS "remove_entry" (ms 3)
  m4 : Meth K CS "remove_equation" (ms 4)
  m5 : Meth K CS "remove_unknown" (ms 5)
  G0 : FnR P w K mg base (L2.CX P w) 7 (ms 0) (spM K CC CS cs 0)
  G1 : FnR P w K mg base (L2.CX P w) 9 (ms 1) (spM K CC CS cs 1)
  G2 : FnOk P w K mg base (L2.CX P w) 9 (ms 2) (ds 2) ["self", "equation", "unknown"] (spM K CC CS cs 2)
  G3 : FnOk P w K mg base (L2.CX P w) 10 (ms 3) (ds 3) ["self", "equation", "unknown"] (spM K CC CS cs 3)
  G4 : FnOk P w K mg base (L2.CX P w) 8 (ms 4) (ds 4) ["self", "name"] (spM K CC CS cs 4)
  G5 : FnOk P w K mg base (L2.CX P w) 8 (ms 5) (ds 5) ["self", "name"] (spM K CC CS cs 5)
  b2 : Binds K (ds 2) ["self", "equation", "unknown"] []
  b3 : Binds K (ds 3) ["self", "equation", "unknown"] []
  b4 : Binds K (ds 4) ["self", "name"] []
  b5 : Binds K (ds 5) ["self", "name"] []
end Bo
set_option Elab.async false
set_option linter.all false
set_option maxRecDepth 100000
set_option maxHeartbeats 4000000
namespace Bo
open PySem PySem.Spec PyProof.Rows L2
/-- a def with its code object's address -/
structure FunC (K : PySem.W.Frag) (x qual : Str) (st : Stmt) (f : Addr) (fd : FuncData) (c : Addr) : Prop where
  ex : ∃ (oc : Value) (od : Option Addr) (kV doc pm : Value) (an : Option Addr) (ct : Value) (osl : Array (Option Value)),
    fd = PySem.W.fnOf x qual (defArgs st) (defBody st) (defScope st) .none kV doc pm an (.ref c) ct ∧ K.lookup f = some ⟨oc, od, .func fd, osl⟩ ∧ PySem.W.codeIn K (.ref c) qual = true
/-- the code object at c has its table at T, which is empty and not told by the written part -/
structure OneTab (K : PySem.W.Frag) (h : Heap) (c T : Addr) : Prop where
  new : h.get? T = some { cls := .none, data := .fields #[] }
  out : K.lookup T = none
  code : PySem.W.CodeHd h c T
/-- what may be tracked: the script and the tables -/
def scriptH (a : Addr) (L : List Addr) (o : Option Obj) (xs : List V) : Hp := fun b => if b ∈ L then some (.tbl #[]) else if b = a then o.map fun ob => .frz ob (.lst xs) else none
theorem sH_tab {a b : Addr} {L : List Addr} {o : Option Obj} {xs : List V} (h : b ∈ L) : scriptH a L o xs b = some (.tbl #[]) := if_pos h
theorem sH_scr {a : Addr} {L : List Addr} {o : Option Obj} {xs : List V} (n : a ∉ L) : scriptH a L o xs a = o.map fun ob => .frz ob (.lst xs) := (if_neg n).trans (if_pos rfl)
theorem sH_else {a b : Addr} {L : List Addr} {o : Option Obj} {xs : List V} (n : b ∉ L) (m : b ≠ a) : scriptH a L o xs b = none := (if_neg n).trans (if_neg m)
theorem law_tabsQ {P : Program} {w : World} {K : PySem.W.Frag} {mg mb : Str → Option Value} {k : Nat} {fa a : Addr} {Ts : List (Addr × Addr)} {fd : FuncData} {x : Str} {sp : Sp} {s₁ : Shared} {vs : List Value} {ns : List Int}
    (KX : K.In s₁.heap) (gl : s₁.heap.Ns mainGlobals mg) (bl : s₁.heap.Ns builtinsNs mb) (bb : ∀ y : Str, y ≠ "__name__" → mb y = bootBuiltins y) (lim : s₁.heap.NoLimit) (gens : s₁.gens = #[]) (tab : ∀ p ∈ Ts, OneTab K s₁.heap p.1 p.2)
    (bm : ∃ (m : Addr) (o : Obj), mg "__builtins__" = some (.ref m) ∧ m ≠ builtinsNs ∧ s₁.heap.get? m = some o ∧ o.cls = .type "module" ∧ o.dict = some builtinsNs ∧ o.data = .plain)
    (scr : s₁.heap.get? a = some { cls := .type "list", data := .seq vs.toArray }) (hin : IntsAre vs ns) (len : ns.length ≤ sizeLine) (qt : Quiet k callerA)
    (F : ∀ base : Heap, K.In base → base.Ns mainGlobals mg → (∀ p ∈ Ts, LamX.TabB base mg p.1 p.2) → FnQ P w K mg base CX0 k fa fd [x] sp) (bind : ∀ (s : Shared) (u : Value), BindsTo s fd ⟨[u], []⟩ [(x, u)])
    (asks : ∀ H : Hp, (∀ p ∈ Ts, H p.2 = some (.tbl #[])) → SqL K H a (ns.map V.int) → sp [.ref a] H (fun v _ => v = .bl true) E0) :
    codeAny (model P w) callerA (.call (.ref fa) ⟨[.ref a], []⟩) (fun r s' => r = .ok (.ret (.bool true)) ∧ OldK s₁.heap s'.heap ∧ s'.os = s₁.os ∧ AllBare s'.gens) s₁ := by
  have rv := vals_ints hin
  obtain ⟨L, hL⟩ : ∃ L, L = Ts.map (·.2) := ⟨_, rfl⟩
  have tabL : ∀ {b : Addr}, b ∈ L → s₁.heap.get? b = some { cls := .none, data := .fields #[] } ∧ K.lookup b = none ∧ ∃ c, PySem.W.CodeHd s₁.heap c b := fun {b} m => by
    rw [hL] at m
    obtain ⟨p, hp, rfl⟩ := List.mem_map.mp m
    exact ⟨(tab p hp).new, (tab p hp).out, _, (tab p hp).code⟩
  have aT : a ∉ L := fun z => by
    have e := (tabL z).1
    rw [scr] at e
    cases congrArg Obj.data (Option.some.inj e)
  have lenV : vs.length = ns.length := hin.length
  obtain ⟨o, hS, hok, hKa⟩ : ∃ o : Option Obj, SqL K (scriptH a L o (ns.map V.int)) a (ns.map V.int) ∧ HOk P w (scriptH a L o (ns.map V.int)) s₁.heap ∧ (o ≠ none → o = some { cls := .type "list", data := .seq vs.toArray } ∧ K.lookup a = none) := by
    cases hk : K.lookup a with
    | some ob =>
      have e := KX a ob hk
      rw [scr] at e
      cases e
      refine ⟨none, .inr ⟨_, vs.toArray, _, hk, rfl, rfl, rfl, by rw [List.size_toArray, lenV]; exact len, by simpa using rv⟩, fun b u z => ?_, fun z => absurd rfl z⟩
      by_cases hb : b ∈ L
      · rw [sH_tab hb] at z
        cases z
        exact (tabL hb).1
      · by_cases ha : b = a
        · subst ha
          rw [sH_scr aT] at z
          cases z
        · rw [sH_else hb ha] at z
          cases z
    | none =>
      refine ⟨some { cls := .type "list", data := .seq vs.toArray }, .inl (.inr ⟨_, sH_scr aT⟩), fun b u z => ?_, fun _ => ⟨rfl, rfl⟩⟩
      by_cases hb : b ∈ L
      · rw [sH_tab hb] at z
        cases z
        exact (tabL hb).1
      · by_cases ha : b = a
        · subst ha
          rw [sH_scr aT] at z
          cases z
          exact ⟨scr, by rw [List.length_map]; exact len, vs, _, rv, scr⟩
        · rw [sH_else hb ha] at z
          cases z
  generalize eH : scriptH a L o (ns.map V.int) = H at hS hok
  have hT : ∀ {b : Addr}, b ∈ L → H b = some (.tbl #[]) := fun m => by rw [← eH]; exact sH_tab m
  have hn : ∀ {b : Addr}, b ∉ L → b ≠ a → H b = none := fun n m => by rw [← eH]; exact sH_else n m
  have calm : ∀ {b : Addr} {u : Obj}, s₁.heap.get? b = some u → (∀ ws n, u.data ≠ .seq ws n) → u.data ≠ .fields #[] → H b = none := fun {b u} e n1 n2 => by
    refine hn (fun z => ?_) (fun z => ?_)
    · rw [(tabL z).1] at e
      exact n2 (congrArg Obj.data (Option.some.inj e).symm)
    · rw [z, scr] at e
      exact n1 _ _ (congrArg Obj.data (Option.some.inj e).symm)
  have dict : ∀ {b : Addr} {m : Str → Option Value}, s₁.heap.Ns b m → (hidT s₁.heap H).Ns b m := fun {b m} z => by
    obtain ⟨u, es, ep, e, hd, r⟩ := z
    refine ⟨u, es, ep, hidT_get e (calm e (fun ws n y => ?_) (fun y => ?_)), hd, r⟩
    · cases hd.symm.trans y
    · cases hd.symm.trans y
  have inK : K.In (hidT s₁.heap H) := fun b u e => by
    refine hidT_get (KX b u e) ?_
    by_cases z : b ∈ L
    · rw [(tabL z).2.1] at e
      cases e
    · by_cases y : b = a
      · subst y
        cases ho : o with
        | none => rw [← eH, sH_scr aT, ho]; rfl
        | some ob =>
          rw [(hKa (by rw [ho]; exact fun q => by cases q)).2] at e
          cases e
      · exact hn z y
  have env : Env0 P w K mg (hidT s₁.heap H) callerA [] s₁ H := by
    refine ⟨rfl, ⟨inK, dict gl, ⟨mb, dict bl, bb⟩, ?_⟩, fun b u e => of_hidT e, Nat.le_of_eq (hidT_size _ _), trivial, fun b hb => absurd (show b ∈ ([] : List Addr) from hb) (by simp), hok, .of_eq gens⟩
    obtain ⟨mc, l1, l2⟩ := lim
    exact ⟨mc, dict l1, l2⟩
  have TB : ∀ p ∈ Ts, LamX.TabB (hidT s₁.heap H) mg p.1 p.2 := fun p hp => by
    have tp := tab p hp
    obtain ⟨u, us, file, tf, flags, tg, inF, text, tt, e1, r1, r2, r3, rr⟩ := tp.code
    obtain ⟨m, ob, b1, b2, b3, b4, b5, b6⟩ := bm
    refine ⟨⟨u, us, file, tf, flags, tg, inF, text, tt, hidT_get e1 (calm e1 (fun ws n y => ?_) (fun y => ?_)), r1, r2, r3, rr⟩, ⟨m, ob, b1, b2, fun z => ?_, fun z => ?_, hidT_get b3 (calm b3 (fun ws n y => ?_) (fun y => ?_)), b4, b5, b6⟩, fun z => ?_⟩
    · cases r2.symm.trans y
    · have q := r2.symm.trans y
      cases q
      simp at r3
    · obtain ⟨u2, es, ep, e, hd, _⟩ := gl
      rw [z, e] at b3
      cases b3
      cases hd.symm.trans b6
    · rw [z, tp.new] at b3
      cases b3
      cases b6
    · cases b6.symm.trans y
    · cases b6.symm.trans y
    · obtain ⟨u2, es, ep, e, hd, _⟩ := gl
      rw [z, tp.new] at e
      cases e
      cases hd
  have run := (F _ inK (dict gl) TB).run callerA [] s₁ H ⟨[.ref a], []⟩ [.ref a] [.ref a] _ _ qt env (bind s₁ (.ref a)) (.cons rfl .nil) (asks H (fun p hp => hT (by rw [hL]; exact List.mem_map.mpr ⟨p, hp, rfl⟩)) hS)
  refine codeAny_mono run fun r s' h => ?_
  match r, h with
  | .error e, h => exact (show False from h).elim
  | .ok (.ret u), ⟨v, H', os, bare, un, hok', r', q⟩ =>
    obtain rfl : v = .bl true := q
    obtain rfl : u = Value.bool true := r'
    have grown : ∀ {b : Addr}, b ∈ L → ∃ more, s'.heap.get? b = some { cls := .none, data := .fields (#[] ++ more) } := fun {b} m => by
      obtain ⟨more, ht⟩ := un.tbls b #[] (hT m)
      exact ⟨more, hok' b _ ht⟩
    have stays : ∀ b u, b ∉ L → s₁.heap.get? b = some u → s'.heap.get? b = some u := fun b u nb e => by
      cases hb : H b with
      | none => exact un.keep b u e hb (fun z => by cases z) (by simp)
      | some y =>
        by_cases ha : b = a
        · subst ha
          cases ho : o with
          | none =>
            rw [← eH, sH_scr aT, ho] at hb
            cases hb
          | some ob =>
            rw [← eH, sH_scr aT, ho] at hb
            have hb2 : H b = some (.frz ob (.lst (ns.map V.int))) := by rw [← eH, sH_scr aT, ho]; rfl
            have e1 := (hok b _ hb2).1
            have e2 := (hok' b _ (un.frzs b ob _ hb2)).1
            rw [e] at e1
            cases e1
            exact e2
        · rw [hn nb ha] at hb
          cases hb
    refine ⟨rfl, ⟨fun b u e => ?_, fun b u e => ?_⟩, os, bare⟩
    · by_cases hb : b ∈ L
      · obtain ⟨n1, n2, c, n3⟩ := tabL hb
        obtain ⟨more, hg⟩ := grown hb
        rw [n1] at e
        cases e
        exact .inr (.inl ⟨(n3.tab n1).isCodeTable, rfl, #[], #[] ++ more, rfl, by rw [Array.empty_append]; exact hg⟩)
      · exact .inl (stays b u hb e)
    · by_cases hb : b ∈ L
      · exact ⟨_, (grown hb).choose_spec⟩
      · exact ⟨u, stays b u hb e⟩
end Bo
set_option Elab.async false
set_option linter.all false
set_option maxRecDepth 100000
set_option maxHeartbeats 4000000
namespace Bo
open PySem PySem.Spec PyProof.Rows L2
theorem SqT.ext {K : PySem.W.Frag} {H H1 : Hp} {a : Addr} {xs : List V} (e : LamX.ExtN H H1) (h : SqT K H a xs) : SqT K H1 a xs :=
  h.elim (fun z => .inl (z.elim (fun z => .inl (e _ _ z fun _ q => by cases q)) fun ⟨o, z⟩ => .inr ⟨o, e _ _ z fun _ q => by cases q⟩)) .inr
theorem Fz.ext {H H1 : Hp} {a : Addr} {u : HO} (e : LamX.ExtN H H1) (h : Fz H a u) : Fz H1 a u := let ⟨o, z⟩ := h; ⟨o, e _ _ z fun _ q => by cases q⟩
theorem CtIn.ext {K : PySem.W.Frag} {CC : Addr} {H H1 : Hp} {a : Addr} {S : Ct} (e : LamX.ExtN H H1) (h : CtIn K CC H a S) : CtIn K CC H1 a S :=
  let ⟨dx, ac, ar, ak, rs, z⟩ := h
  ⟨dx, ac, ar, ak, rs, ⟨e _ _ z.i (fun _ q => by cases q), SqT.ext e z.c, z.r.ext e, Paired.mapP z.p fun p q y => ⟨y.1, y.2.ext e⟩, z.k.ext e⟩⟩
theorem Tape.ext {H H1 : Hp} {t c : Addr} {cs : List Int} {p l : Int} (e : LamX.ExtN H H1) (T : Tape H t c cs p l) : Tape H1 t c cs p l := ⟨e _ _ T.d (fun _ z => by cases z), e _ _ T.c (fun _ z => by cases z), T.n, T.m, T.p0, T.l0⟩
theorem tabs_in {T : List (Addr × Str)} {H B : Hp} (b : ∀ q o, H q = some o → (∀ C d f, o ≠ .ins C d f) → (∀ xs, o ≠ .lst xs) → B q = some o) (h : LamX.Tabs T H) : LamX.Tabs T B := fun p hp => by
  obtain ⟨ps, h1, h2, h3⟩ := h p hp
  refine ⟨ps, b _ _ h1 (fun _ _ _ z => by cases z) (fun _ z => by cases z), h2, fun pos cv hc => ?_⟩
  obtain ⟨c, e1, e2⟩ := h3 pos cv hc
  exact ⟨c, e1, b _ _ e2 (fun _ _ _ z => by cases (show HO.ext _ = HO.ins _ _ _ from z)) (fun _ z => by cases (show HO.ext _ = HO.lst _ from z))⟩
theorem tabs_but {T : List (Addr × Str)} {t : Addr} {H H' : Hp} {ks : List (Key × V)} (b : But t H H') (ht : H t = some (.dK ks)) (h : LamX.Tabs T H) : LamX.Tabs T H' := fun p hp => by
  obtain ⟨ps, h1, h2, h3⟩ := h p hp
  refine ⟨ps, b _ _ h1 fun z => ?_, h2, fun pos cv hc => ?_⟩
  · rw [z, ht] at h1
    cases h1
  · obtain ⟨c, e1, e2⟩ := h3 pos cv hc
    refine ⟨c, e1, b _ _ e2 fun z => ?_⟩
    rw [z, ht] at e2
    cases (show HO.dK _ = HO.ext _ from Option.some.inj e2)
/-- the System, the tape; G: what is known to stand beside it, but for the tape and the tables -/
structure SS (K : PySem.W.Frag) (CC CS : Addr) (TT : List (Addr × Str)) (G H : Hp) (s : Addr) (p : Pl) (Bs Hs : List Ct) (t c : Addr) (cs : List Int) (n l : Int) : Prop where
  Y : SyG K CC CS G H s (ctP p) Bs Hs
  T : Tape H t c cs n l
  tb : LamX.Tabs TT H
  gc : ∃ o, G c = some o
  gt : G t = none
  no : ∀ b ps, G b ≠ some (.tbl ps)
section
variable {K : PySem.W.Frag} {CC CS : Addr} {TT : List (Addr × Str)} {G H H' : Hp} {s t c q : Addr} {cs : List Int} {n l n' l' : Int} {p p' : Pl} {Bs Hs Hs' : List Ct}
/-- but for the tape and the tables -/
def hideG (t : Addr) (H : Hp) : Hp := fun b => if b = t then none else match H b with
  | some (.tbl _) => none
  | o => o
theorem hideG_at {b : Addr} {o : HO} (e : H b = some o) (n : b ≠ t) (m : ∀ ps, o ≠ .tbl ps) : hideG t H b = some o := by
  unfold hideG
  rw [if_neg n, e]
  cases o with
  | tbl ps => exact absurd rfl (m ps)
  | _ => rfl
theorem hideG_same : Same (hideG t H) H := fun b o e => by
  unfold hideG at e
  split at e
  · cases e
  · split at e
    · cases e
    · exact e
theorem hideG_no (b : Addr) (ps : Array Value) : hideG t H b ≠ some (.tbl ps) := fun e => by
  unfold hideG at e
  split at e
  · cases e
  · split at e
    · cases e
    · rename_i n
      exact n _ e
theorem SS.keep (L : SS K CC CS TT G H s p Bs Hs t c cs n l) (k : Same H H') : SS K CC CS TT G H' s p Bs Hs t c cs n l := ⟨L.Y.keep k, L.T.keep k, L.tb.ext k, L.gc, L.gt, L.no⟩
theorem SyG.ext {S : Ct} {Bs : List Ct} (L : SyG K CC CS G H s S Bs Hs) (no : ∀ b ps, G b ≠ some (.tbl ps)) (e : LamX.ExtN H H') : SyG K CC CS G H' s S Bs Hs := by
  obtain ⟨dx, c0, b, h, bs, hs, Y, C, p1, p2, e1, e2, e3, e4, e5⟩ := L
  exact ⟨dx, c0, b, h, bs, hs, ⟨e _ _ Y.i (fun _ z => by cases z), e _ _ Y.b (fun _ z => by cases z), e _ _ Y.h (fun _ z => by cases z)⟩, C.ext e, Paired.mapP p1 fun _ _ ⟨a, ea, z⟩ => ⟨a, ea, z.ext e⟩, Paired.mapP p2 fun _ _ ⟨a, ea, z⟩ => ⟨a, ea, z.ext e⟩, e1, e2, e3, e4, fun a o z => e _ _ (e5 _ _ z) fun ps y => no a ps (by rw [z, y])⟩
theorem SS.ext (L : SS K CC CS TT G H s p Bs Hs t c cs n l) (e : LamX.ExtN H H') (T' : LamX.Tabs TT H') : SS K CC CS TT G H' s p Bs Hs t c cs n l := ⟨L.Y.ext L.no e, L.T.ext e, T', L.gc, L.gt, L.no⟩
theorem SS.draw (L : SS K CC CS TT G H s p Bs Hs t c cs n l) (b : But t H H') (T' : Tape H' t c cs n' l') : SS K CC CS TT G H' s p Bs Hs t c cs n' l' := ⟨L.Y.but L.T.d L.gt b, T', tabs_but b L.T.d L.tb, L.gc, L.gt, L.no⟩
/-- a call of the System -/
theorem SS.op (L : SS K CC CS TT G H s p Bs Hs t c cs n l) : ∃ B, SyG K CC CS B H s (ctP p) Bs Hs ∧ ∀ H' p' Bs' Hs', SyG K CC CS B H' s (ctP p') Bs' Hs' → SS K CC CS TT G H' s p' Bs' Hs' t c cs n l := by
  obtain ⟨B, Y1, s1, s2, k⟩ := L.Y.anew
  refine ⟨B, Y1, fun H' p' Bs' Hs' Y' => ?_⟩
  have lst : ∀ {a : Addr} {xs : List V}, (∃ o, G a = some o) → H a = some (.lst xs) → H' a = some (.lst xs) := fun {a xs} ⟨o, e⟩ z => by
    have e1 := s2 _ _ e
    have e2 := s1 _ _ e1
    rw [z] at e2
    rw [← e2] at e1
    exact Y'.same _ _ e1
  exact ⟨Y'.under s2, ⟨Y'.same _ _ (k _ _ L.T.d (fun _ _ _ z => by cases z) fun _ z => by cases z), lst L.gc L.T.c, L.T.n, L.T.m, L.T.p0, L.T.l0⟩, (tabs_in k L.tb).ext Y'.same, L.gc, L.gt, L.no⟩
theorem histG_len {Bs Hs : List Ct} {S : Ct} : (histG Bs Hs S).length ≤ Hs.length + 1 := by
  unfold histG
  split
  · rw [List.length_append]
    exact Nat.le_refl _
  · exact Nat.le_succ _
/-- what stood when H0 was there is told by G, all else is new -/
def OkN (G H0 : Hp) (q : Addr) : Prop := (∃ o, G q = some o) ∨ H0 q = none
/-- more is known to stand beside the System -/
theorem SS.more {H0 : Hp} {S0 : Ct} {Bs0 Hs0 : List Ct} (L : SS K CC CS TT G H s p Bs Hs t c cs n l) (Y0 : SyG K CC CS G H0 s S0 Bs0 Hs0) (e : H s = H0 s) :
    ∃ G', SS K CC CS TT G' H s p Bs Hs t c cs n l ∧ Same G G' ∧ (∀ q o, H q = some o → OkN G H0 q → q ≠ t → (∀ ps, o ≠ .tbl ps) → G' q = some o) ∧
      ∀ q o, H q = some o → q ≠ t → (∀ ps, o ≠ .tbl ps) → (∀ C d f, o ≠ .ins C d f) → (∀ xs, o ≠ .lst xs) → G' q = some o := by
  obtain ⟨dx, c0, b, h, bs, hs, A0, C, p1, p2, e1, e2, e3, e4, e5⟩ := id L.Y
  obtain ⟨dx', c0', b', h', bs', hs', A1, _, _, _, _, f2, f3, f4, f5⟩ := Y0
  have eb : b' = b ∧ h' = h := by
    have q := A1.i
    rw [← e, A0.i] at q
    injection q with q
    injection q with _ _ q
    have l1 := syF_b c0' b' h'
    have l2 := syF_h c0' b' h'
    rw [← q, syF_b] at l1
    rw [← q, syF_h] at l2
    exact ⟨V.ref.inj (Option.some.inj l1).symm, V.ref.inj (Option.some.inj l2).symm⟩
  obtain ⟨rfl, rfl⟩ := eb
  have sm3 : Same (hide3 s b' h' H) H := fun q o z => by
    unfold hide3 at z
    split at z
    · cases z
    · exact z
  have Y1 : SyG K CC CS (hide3 s b' h' H) H s (ctP p) Bs Hs := ⟨dx, c0, b', h', bs, hs, A0, C, p1, p2, e1, if_pos (.inl rfl), if_pos (.inr (.inl rfl)), if_pos (.inr (.inr rfl)), sm3⟩
  have at3 : ∀ {q : Addr} {o : HO}, H q = some o → q ≠ s → q ≠ b' → q ≠ h' → hide3 s b' h' H q = some o := fun {q o} z n1 n2 n3 => (if_neg fun y => y.elim n1 fun y => y.elim n2 n3).trans z
  have gG : ∀ {q : Addr} {o : HO}, G q = some o → q ≠ s ∧ q ≠ b' ∧ q ≠ h' := fun {q o} z => ⟨fun y => (by rw [y, e2] at z; cases z), fun y => (by rw [y, e3] at z; cases z), fun y => (by rw [y, e4] at z; cases z)⟩
  have key : ∀ q o, H q = some o → OkN G H0 q → q ≠ t → (∀ ps, o ≠ .tbl ps) → hideG t (hide3 s b' h' H) q = some o := fun q o z ok nt m => by
    have n3 : q ≠ s ∧ q ≠ b' ∧ q ≠ h' := by
      rcases ok with ⟨o', g⟩ | hn
      · exact gG g
      · exact ⟨fun y => (by rw [y, A1.i] at hn; cases hn), fun y => (by rw [y, A1.b] at hn; cases hn), fun y => (by rw [y, A1.h] at hn; cases hn)⟩
    exact hideG_at (at3 z n3.1 n3.2.1 n3.2.2) nt m
  have gsame : Same G (hideG t (hide3 s b' h' H)) := fun q o z => by
    have nt : q ≠ t := fun y => by rw [y, L.gt] at z; cases z
    exact key q o (e5 _ _ z) (.inl ⟨o, z⟩) nt fun ps y => L.no q ps (by rw [z, y])
  refine ⟨hideG t (hide3 s b' h' H), ⟨Y1.under hideG_same, L.T, L.tb, let ⟨o, z⟩ := L.gc; ⟨o, gsame _ _ z⟩, if_pos rfl, hideG_no⟩, gsame, key, fun q o z nt m n1 n2 => ?_⟩
  exact hideG_at (at3 z (fun y => by rw [y, A0.i] at z; exact n1 _ _ _ (Option.some.inj z).symm) (fun y => by rw [y, A0.b] at z; exact n2 _ (Option.some.inj z).symm) (fun y => by rw [y, A0.h] at z; exact n2 _ (Option.some.inj z).symm)) nt m
/-- a System that was just made -/
theorem SS.start {H1 : Hp} (Y : SyG K CC CS H1 H s (ctP p) Bs Hs) (T : Tape H1 t c cs n l) (tb : LamX.Tabs TT H1) : SS K CC CS TT (hideG t H1) H s p Bs Hs t c cs n l :=
  ⟨Y.under hideG_same, T.keep Y.same, tb.ext Y.same, ⟨_, hideG_at T.c T.ne.symm (fun _ z => by cases z)⟩, if_pos rfl, hideG_no⟩
end
end Bo
set_option Elab.async false
set_option linter.all false
set_option maxRecDepth 100000
set_option maxHeartbeats 4000000
namespace Bo
open PySem PySem.Spec PyProof.Rows L2
section
variable {K : PySem.W.Frag} {CC CS : Addr} {cs : Nat → Addr} {TT : List (Addr × Str)} {G H H' : Hp} {s t c q : Addr} {ds : List Int} {n l n' l' : Int} {p p' : Pl} {Bs Hs Hs' : List Ct}
def apO (r : Except Nat Pl) : Option Er := match r with | .error i => some (9, .int i) | .ok _ => none
def apP (p : Pl) (r : Except Nat Pl) : Pl := match r with | .error _ => p | .ok q => q
/-- a list that is not the System's is changed -/
theorem SS.put {H0 : Hp} {S0 : Ct} {Bs0 Hs0 : List Ct} {u : Addr} {xs ys : List V} (L : SS K CC CS TT G H s p Bs Hs t c ds n l) (Y0 : SyG K CC CS G H0 s S0 Bs0 Hs0) (e : H s = H0 s) (hu : H u = some (.lst xs)) (hn : H0 u = none) : SS K CC CS TT G (upd H u (.lst ys)) s p Bs Hs t c ds n l := by
  obtain ⟨dx, c0, b, h, bs, hs, A0, C, p1, p2, e1, e2, e3, e4, e5⟩ := L.Y
  obtain ⟨dx', c0', b', h', bs', hs', A1, _, _, _, _, f2, f3, f4, f5⟩ := Y0
  have eb : b' = b ∧ h' = h := by
    have q := A1.i
    rw [← e, A0.i] at q
    injection q with q
    injection q with _ _ q
    have l1 := syF_b c0' b' h'
    have l2 := syF_h c0' b' h'
    rw [← q, syF_b] at l1
    rw [← q, syF_h] at l2
    exact ⟨V.ref.inj (Option.some.inj l1).symm, V.ref.inj (Option.some.inj l2).symm⟩
  obtain ⟨rfl, rfl⟩ := eb
  have nb : b' ≠ u := fun z => by rw [← z, A1.b] at hn; cases hn
  have nh : h' ≠ u := fun z => by rw [← z, A1.h] at hn; cases hn
  have ns : s ≠ u := fun z => by rw [← z, A1.i] at hn; cases hn
  have cm : Calm CC H (upd H u (.lst ys)) := by
    refine ⟨fun a d ac ar ak z => ?_, fun a xs z => ?_, fun a o u' z => ?_⟩ <;>
    · rw [upd_ne fun y => by rw [y, hu] at z; cases z]
      exact z
  have gu : G u = none := by
    cases z : G u with
    | none => rfl
    | some o => rw [f5 _ _ z] at hn; cases hn
  have td := L.T.d
  have nt : t ≠ u := fun z => by rw [z, hu] at td; cases td
  have nc : c ≠ u := fun z => by
    obtain ⟨o, g⟩ := L.gc
    rw [z, gu] at g
    cases g
  refine ⟨⟨dx, c0, b', h', bs, hs, ⟨by rw [upd_ne ns]; exact A0.i, by rw [upd_ne nb]; exact A0.b, by rw [upd_ne nh]; exact A0.h⟩, C.calm cm, ctV_calm p1 cm, ctV_calm p2 cm, e1, e2, e3, e4, fun a o z => ?_⟩, ⟨by rw [upd_ne nt]; exact L.T.d, by rw [upd_ne nc]; exact L.T.c, L.T.n, L.T.m, L.T.p0, L.T.l0⟩, fun p hp => ?_, L.gc, L.gt, L.no⟩
  · rw [upd_ne fun y => by rw [y, gu] at z; cases z]
    exact e5 _ _ z
  · obtain ⟨ps, h1, h2, h3⟩ := L.tb p hp
    refine ⟨ps, ?_, h2, fun pos cv hc => ?_⟩
    · rw [upd_ne fun y => by rw [y, hu] at h1; cases h1]
      exact h1
    · obtain ⟨c1, x1, x2⟩ := h3 pos cv hc
      refine ⟨c1, x1, ?_⟩
      rw [upd_ne fun y => by rw [y, hu] at x2; cases (show HO.lst _ = HO.ext _ from Option.some.inj x2)]
      exact x2
/-- all but the tape and the tables stay -/
def ButN (t : Addr) (H H' : Hp) : Prop := ∀ b o, H b = some o → b ≠ t → (∀ ps, o ≠ .tbl ps) → H' b = some o
theorem ButN.trans {H1 : Hp} (a : ButN t H H1) (b : ButN t H1 H') : ButN t H H' := fun q o e n m => b q o (a q o e n m) n m
theorem ButN.of (k : Same H H') : ButN t H H' := fun q o e _ _ => k q o e
theorem ButN.but (k : But t H H') : ButN t H H' := fun q o e n _ => k q o e n
end
theorem okN_ne {G H0 : Hp} {q t : Addr} {o : HO} (h : OkN G H0 q) (gt : G t = none) (ht : H0 t = some o) : q ≠ t := fun z => by
  rcases h with ⟨o', e⟩ | e
  · rw [z, gt] at e; cases e
  · rw [z, ht] at e; cases e
theorem plg_in {G G' H H0 : Hp} {t pl r u : Addr} {rows : List (Str × List Str)} {ra : List (Str × Addr)} {us : List Str} (key : ∀ q o, H q = some o → OkN G H0 q → q ≠ t → (∀ ps, o ≠ .tbl ps) → G' q = some o) (nt : ∀ q, OkN G H0 q → q ≠ t)
    (P : PlG H pl r u rows ra us) (o1 : OkN G H0 pl) (o2 : OkN G H0 r) (o3 : OkN G H0 u) (o4 : ∀ q ∈ ra, OkN G H0 q.2) : PlG G' pl r u rows ra us := by
  refine ⟨key _ _ P.d o1 (nt _ o1) (fun _ z => by cases z), ?_, ?_, key _ _ P.u o3 (nt _ o3) (fun _ z => by cases z)⟩
  · rcases P.r with e | ⟨o, e⟩
    · exact .inl (key _ _ e o2 (nt _ o2) fun _ z => by cases z)
    · exact .inr ⟨o, key _ _ e o2 (nt _ o2) (fun _ z => by cases z)⟩
  · have e := P.e
    have go : ∀ {rows : List (Str × List Str)} {ra : List (Str × Addr)}, Paired (fun (p : Str × List Str) (q : Str × Addr) => p.1 = q.1 ∧ H q.2 = some (.lst (p.2.map V.str))) rows ra → (∀ q ∈ ra, OkN G H0 q.2) → Paired (fun (p : Str × List Str) (q : Str × Addr) => p.1 = q.1 ∧ G' q.2 = some (.lst (p.2.map V.str))) rows ra := by
      intro rows ra h
      induction h with
      | nil => exact fun _ => .nil
      | cons q tl ih => exact fun o => .cons ⟨q.1, key _ _ q.2 (o _ List.mem_cons_self) (nt _ (o _ List.mem_cons_self)) (fun _ z => by cases z)⟩ (ih fun z hz => o z (List.mem_cons_of_mem _ hz))
    exact go e o4
end Bo
set_option Elab.async false
set_option linter.all false
set_option maxRecDepth 100000
set_option maxHeartbeats 4000000
namespace Bo
open PySem PySem.Spec PyProof.Rows L2
theorem sg_of {K : PySem.W.Frag} {CC CS : Addr} {H H' : Hp} {x dx c b h : Addr} (hx : H x = none) (hd : H dx = none) (kk : ∀ q o, (upd (upd H dx (.own x)) x (.ins CS dx [])) q = some o → q ≠ x → H' q = some o) (e1 : h ≠ b) (e0 : (upd (upd H dx (.own x)) x (.ins CS dx [])) b = none) (e2 : (upd (upd H dx (.own x)) x (.ins CS dx [])) h = none)
    (Y : SgAt CS H' x dx c b h [] []) (C : CtIn K CC H' c ⟨[], [], []⟩) : SyG K CC CS H H' x ⟨[], [], []⟩ [] [] := by
  have free : ∀ q, (upd (upd H dx (.own x)) x (.ins CS dx [])) q = none → H q = none := fun q e => by
    cases z : H q with
    | none => rfl
    | some o => rw [upd_ne (ne_of_none z hx), upd_ne (ne_of_none z hd), z] at e; cases e
  exact ⟨dx, c, b, h, [], [], Y, C, .nil, .nil, e1, hx, free _ e0, free _ e2, fun q o e => kk q o (by rw [upd_ne (ne_of_none e hx), upd_ne (ne_of_none e hd)]; exact e) (ne_of_none e hx)⟩
theorem Flat.extN {K : PySem.W.Frag} {H H1 : Hp} {v : V} {d : PyData} (e : LamX.ExtN H H1) (h : Flat K H v d) : Flat K H1 v d := by
  cases h with
  | atom h => exact .atom h
  | tup h x l => exact .tup (SqT.ext e h) x l
  | lst h x l => exact .lst (e _ _ h fun _ z => by cases z) x l
  | dct h x nd l => exact .dct (e _ _ h fun _ z => by cases z) x nd l
theorem Fl2.extN {K : PySem.W.Frag} {H H1 : Hp} {v : V} {d : PyData} (e : LamX.ExtN H H1) (h : Fl2 K H v d) : Fl2 K H1 v d := by
  cases h with
  | fl f => exact .fl (Flat.extN e f)
  | pr h x y => exact .pr (SqT.ext e h) (Flat.extN e x) (Flat.extN e y)
theorem DueV.ext {K : PySem.W.Frag} {H H1 : Hp} {v : V} {o : Option Er} (e : LamX.ExtN H H1) (h : DueV K H v o) : DueV K H1 v o := by
  cases h with
  | no => exact .no
  | er h f => exact .er (SqT.ext e h) (f.extN e)
def qLam (x : Str) : Str := (x ++ (".<locals>." : String)) ++ ("<lambda>" : String)
theorem ctP0 : ctP ⟨[], []⟩ = ⟨[], [], []⟩ := by
  unfold ctP
  rw [show srt (⟨[], []⟩ : Pl).us = [] from (srt_perm []).eq_nil]
  rfl
theorem av_txt {K : PySem.W.Frag} {H : Hp} : ∀ {ys : List Str}, (∀ y ∈ ys, TxtOk y) → Paired (AV K H) (ys.map V.str) (ys.map Arg.nm)
  | [], _ => .nil
  | y :: ys, h => .cons (.nm (by
      have h1 := (h y List.mem_cons_self).l
      have h2 : y.length = y.cps.toList.length := (Array.length_toList (xs := y.cps)).symm
      omega)) (av_txt fun z hz => h z (List.mem_cons_of_mem _ hz))
theorem AV.ext {K : PySem.W.Frag} {H H1 : Hp} {v : V} {x : Arg} (e : LamX.ExtN H H1) (h : AV K H v x) : AV K H1 v x := by
  cases h with
  | nm l => exact .nm l
  | od f n => exact .od (f.extN e) n
def spLaw (K : PySem.W.Frag) (TT : List (Addr × Str)) : Sp := fun vs H Q _ => ∃ (a : Addr) (ns : List Int), vs = [.ref a] ∧ SqL K H a (ns.map V.int) ∧ ns.length ≤ 63 ∧ LamX.Tabs TT H ∧ ∀ H', Q (.bl true) H'
end Bo
set_option Elab.async false
set_option linter.all false
set_option maxRecDepth 100000
set_option maxHeartbeats 8000000
namespace Bo
open PySem PySem.Spec PyProof.Rows L2 L2H
def AtRes (K : PySem.W.Frag) (CC CS : Addr) (cs : Nat → Addr) (E : XK) (H0 : Hp) (s : Addr) (Bs Hs : List Ct) (p : Pl) (H : Hp) (Q : VK) : Except Nat Pl → Prop
  | .error i => Thrown2 K E H (cs 9) "index" (.int i)
  | .ok p' => ∀ H', SyG K CC CS H0 H' s (ctP p') Bs (histG Bs Hs (ctP p)) → Q .non H'
def spAppA (K : PySem.W.Frag) (CC CS : Addr) (cs : Nat → Addr) : Sp := fun vs H Q E => ∃ (s : Addr) (H0 : Hp) (p : Pl) (Bs Hs : List Ct) (xs : List V) (es : List ET), vs = .ref s :: xs ∧ Paired (EvT K H) xs es ∧ xs.length ≤ 1000 ∧ SyG K CC CS H0 H s (ctP p) Bs Hs ∧ Hs.length < 1000000 ∧ PlWf p ∧ AtRes K CC CS cs E H0 s Bs Hs p H Q (appT es p 0)
def spAppAT (K : PySem.W.Frag) (CC CS : Addr) (cs : Nat → Addr) : Sp := fun vs H Q E => ∃ (s n : Addr) (xs : List V), vs = [.ref s, .ref n] ∧ H n = some (.tup xs) ∧ spAppA K CC CS cs (.ref s :: xs) H Q E
theorem AtRes.later {K : PySem.W.Frag} {CC CS : Addr} {cs : Nat → Addr} {E : XK} {H0 H H1 : Hp} {s : Addr} {Bs Hs : List Ct} {p : Pl} {Q : VK} {r : Except Nat Pl} (h : AtRes K CC CS cs E H0 s Bs Hs p H Q r) (k : Same H H1) : AtRes K CC CS cs E H0 s Bs Hs p H1 Q r := by
  cases r with
  | error e => exact Thrown2.later h k
  | ok p' => exact h
theorem spAppA_keep {K : PySem.W.Frag} {CC CS : Addr} {cs : Nat → Addr} {vs : List V} {H H1 : Hp} {Q : VK} {E : XK} (h : spAppA K CC CS cs vs H Q E) (k : Same H H1) : spAppA K CC CS cs vs H1 Q E :=
  let ⟨s, H0, p, Bs, Hs, xs, es, h1, h2, h3, h4, h5, h6, h8⟩ := h
  ⟨s, H0, p, Bs, Hs, xs, es, h1, EvT.keeps k h2, h3, h4.keep k, h5, h6, h8.later k⟩
theorem ok_appA {P : Program} {w : World} {K : PySem.W.Frag} {mg : Str → Option Value} {base : Heap} {CC CB CS fSI fTk : Addr} {cs : Nat → Addr} {f fE f9 : Addr} {fd fdE fdTk fd9 : FuncData} (F : Fun K "apply" "System.apply" sApply f fd) (T : SysT K mg CS fSI fTk) (TE : ErrA K mg CB cs) (mEn : mg "enumerate" = none) (hL : ∃ u, Con K CS "LINEAR" (.bl false) u)
    (c9 : ErrC K (cs 9) f9 "index") (G9 : FnH P w K mg base CX0 2 f9 fd9 ["self", "index"] (spInitA K "index")) (b9 : Binds K fd9 ["self", "index"] [])
    (GT : FnOk P w K mg base CX0 1 fTk fdTk ["self", "contents"] (spTakeG K CC CS)) (bT : Binds K fdTk ["self", "contents"] [])
    (GE : FnOk P w K mg base (L2N.CX P w) 21 fE fdE ["contents", "edit", "linear", "around"] (spTE K CC CB 0)) (mE : mg "after_edit" = some (.ref fE)) (kE : PySem.W.keepIn K (.ref fE) = true) (bE : Binds K fdE ["contents", "edit", "linear", "around"] []) :
    FnR P w K mg base (L2.CX P w) 22 f (spAppA K CC CS cs) := by
  obtain ⟨oc, od, kV, doc, pm, an, cdv, ct, osl, rfl, lk, hcd⟩ := F.ex
  have R : FnR P w K mg base (L2.CX P w) 22 f (fun vs H Q E => ∃ ws rest, vs = ws ++ rest ∧ ws.length = (["self"] : List Str).length ∧ rest.length ≤ sizeLine ∧ ∀ p, H p = none → spAppAT K CC CS cs (ws ++ [V.ref p]) (upd H p (.tup rest)) Q E) := by
    refine StX.fn_star lk hcd scApply StX.cxUp (StX.bind_star1 (B := fun vs => bindArgs _ ⟨vs, []⟩) (fun _ => rfl) (fun _ _ _ => rfl)) (fun A outer s H vs Q E hr h => ?_)
    obtain ⟨s, n, xs, rfl, hn, h⟩ := h
    obtain ⟨s', H0, p, Bs, Hs, xs', es, e1, hes, hl, Y, hm, hw, hres⟩ := h
    cases e1
    have hr1 : Room 1 _ := hr.mono (by decide)
    refine ⟨_, pss_cons (ps_set (i := 2) scApply.nd rfl (.inl rfl) (pe_fld (pv 0) rfl))
      (pss_cons (ps_for (passes_of rfl) rfl (pi_enumT (by rfl) mEn (pa_cons (pv 1) pa_nil)) (pg_tup (by rfl) (pgs_cons (pg_name (i := 3) scApply.nd rfl (.inl rfl)) (pgs_cons (pg_name (i := 4) scApply.nd rfl (.inl rfl)) pgs_nil)))
        (pss_one (ps_tryO (ps_try_onlyX rfl rfl ⟨rfl, by decide, .inl TE.gB⟩ (fun hd => passesAt_of rfl hd) (takes_of rfl rfl rfl rfl)
          (fun W pn xe tkN tkP _ => pss_one (ps_set (i := 2) scApply.nd rfl (.inl rfl) (pe_callS GE hr rfl mE kE bE (fun σ => L2N.passAt tkN σ) (pa_cons (pv 2) (pa_cons (pv 4) (pa_cons (pe_conK (K := K) rfl (pv 0) rfl) (pa_cons pe_int pa_nil)))))))
          (fun a oe cls d pn hz hf tk hot => pss_one (ps_raiseHN hot tk (pmk5_oexH c9.o c9.i c9.t G9 (RoomH.mono (roomH_mark hr _) (show 3 ≤ 21 by decide)) hot b9 pass0 rfl TE.g9 (pa_cons (pv 3) pa_nil))))))))
      (pss_one (ps_expr (pe_meth (pv 0) T.cl T.tk GT hr1 bT .nil pass0 (pa_cons (pv 2) pa_nil))))), ?_⟩
    obtain ⟨dx, c, b, h, bs, hs, A0, C, rest⟩ := id Y
    refine ⟨_, rfl, s, CS, dx, _, _, rfl, A0.i, T.cl, T.n1, syF_c _ _ _, _, rfl, n, xs, rfl, SqT.of hn, ?_⟩
    refine for_it (walk_enumT (K := K) (a := n) (xs := xs)) (fun i σ H' => (∃ (ca : Addr) (z3 z4 : Option V) (p' : Pl), σ = [some (.ref s), some (.ref n), some (.ref ca), z3, z4] ∧ CtIn K CC H' ca (ctP p') ∧ PlWf p' ∧ appT es p 0 = appT (es.drop i) p' i) ∧ Same H H') ⟨⟨c, none, none, p, rfl, C, hw, by rw [List.drop_zero]⟩, Same.refl H⟩ (fun i σ H' _ q => q.2 _ _ hn |> SqT.of) ?_ ?_
    · rintro i v σ H1 H2 hi ⟨⟨ca, z3, z4, p', rfl, hC, hw', hap⟩, sm⟩ y
      obtain ⟨tq, a, b, rfl, htq, rfl, ea, eb⟩ := y
      cases ea
      have eb : xs[i]? = some b := eb
      obtain ⟨e, he, fe⟩ := pairG hes eb
      have s2 : Same H1 (upd H1 tq (.tup [V.int (i : Nat), b])) := same_new htq
      have sm2 := sm.trans s2
      have hdr : es.drop i = e :: es.drop (i + 1) := by
        obtain ⟨hi, e⟩ := List.getElem?_eq_some_iff.mp he
        rw [List.drop_eq_getElem_cons hi, e]
      have key : appT es p 0 = match tryP e 0 p' with | none => .error i | some q => appT (es.drop (i + 1)) q (i + 1) := by
        rw [hap, hdr]
        conv => lhs; unfold appT
        all_goals (cases tryP e 0 p' <;> rfl)
      obtain ⟨ul, hul⟩ := hL
      refine ⟨tq, _, rfl, SqT.of upd_same, rfl, _, _, rfl, _, _, rfl, rfl, ?_⟩
      refine ⟨_, rfl, _, rfl, _, rfl, s, CS, dx, _, _, ul, rfl, sm2 _ _ A0.i, T.cl, hul, syF_no _ _ _ (by decide +kernel) (by decide +kernel) (by decide +kernel), ?_⟩
      refine ⟨ca, b, p', e, rfl, hC.keep s2, hw', EvT.keep sm2 fe, ?_⟩
      cases r : tryP e 0 p' with
      | some p2 =>
        rw [r] at key
        intro a H3 sm3 C3
        exact ⟨⟨a, _, _, p2, rfl, C3, tryP_wf e _ _ _ hw' r, key⟩, sm2.trans sm3⟩
      | none =>
        rw [r] at key
        rw [key] at hres
        intro cls d2 H3 sm3 ex
        exact ⟨true, ex, fun _ a ha => ⟨_, rfl, raise_readI c9 (Thrown2.later hres (sm2.trans sm3))⟩, fun z => nomatch z⟩
    · rintro σ H1 ⟨⟨ca, z3, z4, p', rfl, hC, hw', hap⟩, sm⟩
      have el := hes.length
      rw [el, List.drop_length] at hap
      have hap : appT es p 0 = .ok p' := by rw [hap]; unfold appT; rfl
      rw [hap] at hres
      refine ⟨_, rfl, s, dx, _, rfl, sm _ _ A0.i, syF_no _ _ _ (by decide +kernel) (by decide +kernel) (by decide +kernel), _, rfl, ?_⟩
      exact ⟨s, ca, H0, ctP p, ctP p', Bs, Hs, rfl, Y.keep sm, hC, hm, hres⟩
  refine R.imp fun vs H Q E h => ?_
  obtain ⟨s, H0, p, Bs, Hs, xs, es, rfl, h1, h2, rest⟩ := id h
  exact ⟨[.ref s], xs, rfl, rfl, by rw [sizeLine_eq]; omega, fun p hp => ⟨s, p, xs, rfl, upd_same, spAppA_keep h (same_new hp)⟩⟩
section
variable {K : PySem.W.Frag} {CC CS : Addr} {cs : Nat → Addr} {TT : List (Addr × Str)} {G H H' : Hp} {s t c q : Addr} {ds : List Int} {n l n' l' : Int} {p p' : Pl} {Bs Hs Hs' : List Ct}
theorem SS.appA {xs : List V} {es : List ET} {Q : VK} (L : SS K CC CS TT G H s p Bs Hs t c ds n l) (hes : Paired (EvT K H) xs es) (hx : xs.length ≤ 1000) (hm : Hs.length < 1000000) (hw : PlWf p)
    (k : ∀ v H' Hs', SS K CC CS TT G H' s (apP p (appT es p 0)) Bs Hs' t c ds n l → Hs'.length ≤ Hs.length + 1 → DueV K H' v (apO (appT es p 0)) → Q v H') : spAppA K CC CS cs (.ref s :: xs) H (backN Q) (EchA K cs Q) := by
  obtain ⟨B, Y1, kk⟩ := L.op
  refine ⟨s, B, p, Bs, Hs, xs, es, rfl, hes, hx, Y1, hm, hw, ?_⟩
  cases h : appT es p 0 with
  | error i => exact fun dx v H2 sm e f => ⟨9, by decide, rfl, .inr ⟨rfl, dx, v, rfl, e, fun a H3 s3 hq => k _ H3 Hs (by rw [h]; exact L.keep (sm.trans s3)) (Nat.le_succ _) (by rw [h]; exact .er (er := (9, .int i)) hq (f.keep s3))⟩⟩
  | ok p' => exact fun H2 Y2 => backN_non (k .non H2 _ (by rw [h]; exact kk H2 p' _ _ Y2) histG_len (by rw [h]; exact .no))
end
end Bo
set_option Elab.async false
set_option linter.all false
set_option maxRecDepth 100000
set_option maxHeartbeats 4000000
namespace Bo
open PySem PySem.Spec PyProof.Rows L2
abbrev PrT : Type := Str × Str
def leP (p q : PrT) : Bool := if p.1 = q.1 then leT p.2 q.2 else leT p.1 q.1
theorem leP_trans {a b c : PrT} (h1 : leP a b = true) (h2 : leP b c = true) : leP a c = true := by
  unfold leP at *
  by_cases e1 : a.1 = b.1
  · rw [if_pos e1] at h1
    by_cases e2 : b.1 = c.1
    · rw [if_pos e2] at h2
      rw [if_pos (e1.trans e2)]
      exact leT_trans h1 h2
    · rw [if_neg e2] at h2
      rw [if_neg fun z => e2 (e1.symm.trans z), e1]
      exact h2
  · rw [if_neg e1] at h1
    by_cases e2 : b.1 = c.1
    · rw [if_neg fun z => e1 (z.trans e2.symm), ← e2]
      exact h1
    · rw [if_neg e2] at h2
      by_cases e3 : a.1 = c.1
      · exact absurd (leT_anti h1 (by rw [e3]; exact h2)) e1
      · rw [if_neg e3]
        exact leT_trans h1 h2
theorem leP_total (a b : PrT) : leP a b = true ∨ leP b a = true := by
  unfold leP
  by_cases e : a.1 = b.1
  · rw [if_pos e, if_pos e.symm]
    exact (Bool.or_eq_true _ _).mp (leT_total _ _)
  · rw [if_neg e, if_neg fun z => e z.symm]
    exact (Bool.or_eq_true _ _).mp (leT_total _ _)
theorem leP_anti {a b : PrT} (h1 : leP a b = true) (h2 : leP b a = true) : a = b := by
  unfold leP at *
  by_cases e : a.1 = b.1
  · rw [if_pos e] at h1
    rw [if_pos e.symm] at h2
    exact Prod.ext e (leT_anti h1 h2)
  · rw [if_neg e] at h1
    rw [if_neg fun z => e z.symm] at h2
    exact absurd (leT_anti h1 h2) e
/-- one arrangement alone -/
theorem prs_one : ∀ {l m : List PrT}, l.Pairwise (fun a b => leP a b = true) → m.Pairwise (fun a b => leP a b = true) → l.Perm m → l = m
  | [], m, _, _, p => (p.symm.eq_nil).symm
  | x :: l, [], _, _, p => absurd p.eq_nil (by simp)
  | x :: l, y :: m, h1, h2, p => by
    have e : x = y := by
      rcases List.mem_cons.mp (p.mem_iff.mp (List.mem_cons_self (a := x) (l := l))) with e | e
      · exact e
      · rcases List.mem_cons.mp (p.mem_iff.mpr (List.mem_cons_self (a := y) (l := m))) with e2 | e2
        · exact e2.symm
        · exact leP_anti ((List.pairwise_cons.mp h1).1 y e2) ((List.pairwise_cons.mp h2).1 x e)
    subst e
    rw [prs_one (List.pairwise_cons.mp h1).2 (List.pairwise_cons.mp h2).2 (List.perm_cons x |>.mp p)]
abbrev gtP (p q : PrT) : Bool := !leP q p
theorem gtP_swo {α : Type} (k : α → PrT) : SrtO.Swo fun v u => gtP (k v) (k u) := by
  refine ⟨fun x y h => ?_, fun x y z h1 h2 => ?_⟩
  · have a : leP (k y) (k x) = false := by simpa using h
    have b := (leP_total (k x) (k y)).resolve_right (by rw [a]; decide)
    show (!leP (k x) (k y)) = false
    rw [b]
    rfl
  · have a : leP (k x) (k y) = true := by simpa using h1
    have b : leP (k y) (k z) = true := by simpa using h2
    show (!leP (k x) (k z)) = false
    rw [leP_trans a b]
    rfl
def PairT (h : Heap) (v : Value) (p : PrT) : Prop := ∃ a o t u n, v = .ref a ∧ h.get? a = some o ∧ o.cls = .type "tuple" ∧ o.data = .seq #[.str p.1 t, .str p.2 u] n
theorem PairT.keeps {h h' : Heap} {v : Value} {p : PrT} (q : PairT h v p) (k : ∀ b o, h.get? b = some o → o.cls = .type "tuple" → h'.get? b = some o) : PairT h' v p :=
  let ⟨a, o, t, u, n, e, h1, h2, h3⟩ := q
  ⟨a, o, t, u, n, e, k _ _ h1 h2, h2, h3⟩
theorem heads_of {h : Heap} : ∀ {vs : List Value}, (∀ v ∈ vs, ∃ p, PairT h v p) → ∃ fs : List Value, PySem.W.KatTups h vs fs ∧ fs.length = vs.length ∧ ∀ f ∈ fs, ∃ x t, f = Value.str x t
  | [], _ => ⟨[], PySem.W.KatTups.nil, rfl, fun _ hm => (by cases hm)⟩
  | v :: vs, hp => by
    obtain ⟨fs, k1, k2, k3⟩ := heads_of fun z hz => hp z (List.mem_cons_of_mem _ hz)
    obtain ⟨p, a, o, t, u, n, e, g1, g2, g3⟩ := hp v List.mem_cons_self
    subst e
    refine ⟨.str p.1 t :: fs, PySem.W.KatTups.cons g1 g2 g3 rfl k1, by rw [List.length_cons, List.length_cons, k2], fun f hf => ?_⟩
    rcases List.mem_cons.mp hf with e | hf
    · exact ⟨p.1, t, e⟩
    · exact k3 f hf
theorem str_beq {x y : Str} : (x == y) = true ↔ x = y := beq_iff_eq
section
variable {prog : Program} {w : World} {A : Around} {s : Shared}
theorem pairT_cmp {vs : List Value} {k : Value → PrT} (hp : ∀ v ∈ vs, PairT s.heap v (k v)) : SrtO.Cmp prog w A s (tuples' true) (fun p => p.1 ∈ vs) (SrtO.lt2 fun v u => gtP (k v) (k u)) := by
  intro p q m1 m2
  have h1 := hp _ m1
  have h2 := hp _ m2
  show wpAny (model prog w) A (keyLt' (tuples' true) p.1 q.1) (fun r s' => s' = s ∧ r = gtP (k p.1) (k q.1)) (fun _ _ => False) s
  unfold gtP leP
  generalize (k p.1) = x at h1 ⊢
  generalize (k q.1) = y at h2 ⊢
  obtain ⟨x1, x2⟩ := x
  obtain ⟨y1, y2⟩ := y
  obtain ⟨a, o, t, u, n, ea, oa, ca, da⟩ := h1
  obtain ⟨b, o', t', u', n', eb, ob, cb, db⟩ := h2
  rw [ea, eb]
  refine PySem.W.kat_lt oa da ob db ?_
  have lt : ∀ a b : Str, decide (a.cps.toList < b.cps.toList) = !leT b a := fun a b => by
    unfold leT
    rw [Bool.not_not, ltCps_eq]
  dsimp only
  show PySem.W.KatLex prog w A true (decide (2 < 2)) _ [(.str x1 t, .str y1 t'), (.str x2 u, .str y2 u')] 0 s
  refine PySem.W.kat_cons (SeqAt.EqAt.str_str x1 t y1 t' prog w _ _ ?_)
  refine PySem.W.kat_go (fun e1 => ?_) (fun e1 => ?_)
  · have ex := str_beq.mp e1
    refine PySem.W.kat_yes (PySem.W.kat_cons (SeqAt.EqAt.str_str x2 u y2 u' prog w _ _ ?_))
    refine PySem.W.kat_go (fun e2 => ?_) (fun e2 => ?_)
    · have ey := str_beq.mp e2
      have r := leT_total y2 y2
      rw [Bool.or_self] at r
      refine PySem.W.kat_yes (PySem.W.kat_nil ⟨rfl, ?_⟩)
      rw [if_pos ex.symm, ey, r]
      rfl
    · refine PySem.W.kat_no (PySem.W.kat_one _ _ (PyProof.Rows.lt_str ?_))
      rw [if_pos ex.symm]
      exact (show s = s ∧ decide (x2.cps.toList < y2.cps.toList) = !leT y2 x2 from ⟨rfl, lt _ _⟩)
  · have ex : ¬ y1 = x1 := fun z => by rw [str_beq.mpr z.symm] at e1; cases e1
    rw [if_neg ex]
    exact PySem.W.kat_no (oneLt_str ⟨rfl, lt _ _⟩)
theorem pairT_sortable {a : Addr} {vs : List Value} {k : Value → PrT} (h0 : 0 < vs.length) (hp : ∀ v ∈ vs, PairT s.heap v (k v)) (ha : ∀ o, s.heap.get? a = some o → o.cls ≠ .type "tuple") : SrtO.SortableO prog w A s a vs fun v u => gtP (k v) (k u) := by
  intro h' kp
  have hp' : ∀ v ∈ vs, PairT h' v (k v) := fun v hv => (hp v hv).keeps fun b o e c => kp b o (fun z => by rw [z] at e; exact ha o e c) e
  obtain ⟨fs, k1, k2, k3⟩ := heads_of fun v hv => ⟨_, hp' v hv⟩
  refine ⟨tuples' true, fun Q E hq => ?_, pairT_cmp hp'⟩
  refine PySem.W.kat_kind (T := .type "str") k1 (by omega) (fun f hf => ?_) (by rfl) ?_
  · obtain ⟨x, t, e⟩ := k3 f hf
    rw [e]
    exact PySem.W.Looks.now
  · rw [show (Value.type "str" != Value.type "tuple") = true by first | decide +kernel | rfl]
    exact hq
end
/-- the pair that a value stands for -/
def prOf (H : Hp) : V → PrT
  | .ref t => match H t with
    | some (.tup [.str i, .str j]) => (i, j)
    | _ => (Str.empty, Str.empty)
  | _ => (Str.empty, Str.empty)
def rSortedPT (K : PySem.W.Frag) : List V → Hp → VK → Prop := fun vs H Q => ∃ (a : Addr) (qs : List Addr) (ps : List PrT), vs = [V.ref a] ∧ SqL K H a (qs.map V.ref) ∧ Paired (fun q (p : PrT) => H q = some (.tup [.str p.1, .str p.2])) qs ps ∧
  ∀ (qs' : List Addr) (ps' : List PrT) (p : Addr), ps'.Perm ps → ps'.Pairwise (fun a b => leP a b = true) → Paired (fun q (p : PrT) => H q = some (.tup [.str p.1, .str p.2])) qs' ps' → H p = none → Q (.ref p) (upd H p (.lst (qs'.map V.ref)))
theorem prs_of {H : Hp} : ∀ {qs : List Addr} {ps : List PrT}, Paired (fun q (p : PrT) => H q = some (.tup [.str p.1, .str p.2])) qs ps → ps = qs.map (fun q => prOf H (.ref q)) ∧ ∀ q ∈ qs, H q = some (.tup [.str (prOf H (.ref q)).1, .str (prOf H (.ref q)).2])
  | _, _, .nil => ⟨rfl, fun _ h => nomatch h⟩
  | _, _, .cons (a := q) (b := p) h t => by
    obtain ⟨e1, e2⟩ := prs_of t
    have e : prOf H (.ref q) = p := by
      show (match H q with
        | some (.tup [.str i, .str j]) => (i, j)
        | _ => (Str.empty, Str.empty)) = p
      rw [h]
    refine ⟨by rw [List.map_cons, e, ← e1], fun z hz => ?_⟩
    rcases List.mem_cons.mp hz with w | w
    · rw [w, e]
      exact h
    · exact e2 z w
theorem pair_self {α β : Type} {F : α → β → Prop} {f : α → β} : ∀ {l : List α}, (∀ x ∈ l, F x (f x)) → Paired F l (l.map f)
  | [], _ => .nil
  | x :: l, h => .cons (h x List.mem_cons_self) (pair_self fun y hy => h y (List.mem_cons_of_mem _ hy))
theorem cr_sortedPT {X : Cx} : CallR X (.builtin "sorted") (rSortedPT X.K) := by
  intro pins s σ H vs us Q I r h
  obtain ⟨a, qs, ps, rfl, hs, hx, q⟩ := h
  obtain ⟨eps, hqs⟩ := prs_of hx
  obtain ⟨its, rv, pl, hz⟩ := I.list hs
  obtain ⟨u, rfl, ru⟩ := vals1 r
  obtain rfl : u = Value.ref a := ru
  obtain ⟨e1, e2⟩ := refs_back rv fun x m => by
    obtain ⟨t, _, e⟩ := List.mem_map.mp m
    exact ⟨t, e.symm⟩
  have lz : its.length ≤ sizeLine := by rw [← rv.length]; exact hz
  have pT : ∀ v ∈ its, PairT s.heap v (prOf H (backV v)) := fun v hv => by
    obtain ⟨t, rfl⟩ := e2 v hv
    have hm : V.ref t ∈ qs.map V.ref := by rw [e1]; exact List.mem_map.mpr ⟨_, hv, rfl⟩
    obtain ⟨t', ht', e⟩ := List.mem_map.mp hm
    cases e
    obtain ⟨_, its2, r2, o, ho, hc, n, hd⟩ := I.hok _ _ (hqs t ht')
    obtain ⟨u1, u2, rfl, ri, rj⟩ := vals2 r2
    obtain ⟨t1, rfl⟩ := ri
    obtain ⟨t2, rfl⟩ := rj
    exact ⟨t, o, t1, t2, n, rfl, ho, hc, hd⟩
  refine SrtO.sorted_ord (gtP_swo fun v => prOf H (backV v)) pl.isList lz (fun l2 h₁ b hb kk => ?_) fun out so sb => ?_
  · refine pairT_sortable (s := { s with heap := h₁ }) (by omega) (fun v hm => (pT v hm).keeps fun b o e _ => (kk b o e).2) fun o e => ?_
    cases (e.symm.trans hb)
    exact fun c => absurd (Value.type.inj c) (by decide)
  · have o3 : ∀ u ∈ out, ∃ a, u = Value.ref a := fun u hu => e2 u (sb.perm.mem_iff.mp hu)
    obtain ⟨as, eas⟩ : ∃ as : List Addr, out = as.map Value.ref := by
      have go : ∀ {l : List Value}, (∀ u ∈ l, ∃ a, u = Value.ref a) → ∃ as : List Addr, l = as.map Value.ref := by
        intro l h
        induction l with
        | nil => exact ⟨[], rfl⟩
        | cons u l ih =>
          obtain ⟨as, e⟩ := ih fun z hz => h z (List.mem_cons_of_mem _ hz)
          obtain ⟨a, e'⟩ := h u List.mem_cons_self
          exact ⟨a :: as, by rw [List.map_cons, ← e, e']⟩
      exact go o3
    have eback : out.map backV = as.map V.ref := by rw [eas, List.map_map]; rfl
    have eits : (qs.map V.ref) = its.map backV := e1
    have pq : (as.map V.ref).Perm (qs.map V.ref) := by rw [← eback, eits]; exact sb.perm.map backV
    have mq : ∀ a ∈ as, a ∈ qs := fun a ha => by
      obtain ⟨t, ht, e⟩ := List.mem_map.mp (pq.mem_iff.mp (List.mem_map.mpr ⟨a, ha, rfl⟩))
      cases e
      exact ht
    obtain ⟨n, hn⟩ := sortedAll_at s.heap its out.toArray
    have hz2 : (as.map V.ref).length ≤ sizeLine := by rw [pq.length_eq]; exact hz
    refine ⟨.ref (s.heap.objs.size + 1), upd H (s.heap.objs.size + 1) (.lst (as.map V.ref)), I.laid (t' := s.toks) (fun b o e => sortedAll_old e) (Nat.le_succ _) ⟨hz2, out, n, by rw [← eback]; exact vals_back o3, hn⟩, rfl, ?_⟩
    refine q as (as.map fun q => prOf H (.ref q)) _ ?_ ?_ (pair_self fun z hz => hqs z (mq z hz)) (I.hok.fresh (Nat.le_succ _))
    · rw [eps]
      have := (pq.map (prOf H))
      rw [List.map_map, List.map_map] at this
      exact this
    · rw [eas] at so
      refine List.pairwise_map.mpr ?_
      have := List.pairwise_map.mp so
      refine this.imp fun {x y} h => ?_
      have h : gtP (prOf H (backV (Value.ref y))) (prOf H (backV (Value.ref x))) = false := h
      show leP (prOf H (V.ref x)) (prOf H (V.ref y)) = true
      have : (!leP (prOf H (V.ref x)) (prOf H (V.ref y))) = false := h
      simpa using this
end Bo
set_option Elab.async false
set_option linter.all false
set_option maxRecDepth 100000
set_option maxHeartbeats 4000000
namespace Bo
open PySem PySem.Spec PyProof.Rows L2
theorem mergeN : ∀ {l : List (Str × Addr)} {acc : List (Str × Addr)}, ((acc ++ l).map (·.1)).Nodup → mergeK (refK acc) (refK l) = refK (acc ++ l)
  | [], acc, _ => by rw [List.append_nil]; rfl
  | p :: l, acc, nd => by
    have nd2 : (((acc ++ [p]) ++ l).map (·.1)).Nodup := by rw [List.append_assoc]; exact nd
    have np : p.1 ∉ acc.map (·.1) := by
      rw [List.map_append, List.nodup_append] at nd
      exact fun z => nd.2.2 _ z _ List.mem_cons_self rfl
    show mergeK (putK (refK acc) (Sum.inr p.1) (.ref p.2)) (refK l) = _
    have e : putK (refK acc) (Sum.inr p.1) (.ref p.2) = refK (acc ++ [p]) := by
      rw [putK_new _ (refK_out np)]
      unfold refK
      rw [List.map_append]
      rfl
    rw [e, mergeN nd2, List.append_assoc]
    rfl
theorem But.of {t : Addr} {H H' : Hp} (k : Same H H') : But t H H' := fun b o e _ => k b o e
theorem But.tr {t : Addr} {H H1 H' : Hp} (a : But t H H1) (b : But t H1 H') : But t H H' := fun q o e n => b q o (a q o e n) n
theorem pair_keysN {C : Str × Addr → Str × Addr → Prop} (h : ∀ a b, C a b → a.1 = b.1) : ∀ {l m : List (Str × Addr)}, Paired C l m → m.map (·.1) = l.map (·.1)
  | _, _, .nil => rfl
  | _, _, .cons q t => by rw [List.map_cons, List.map_cons, pair_keysN h t, h _ _ q]
theorem dict_rows {K : PySem.W.Frag} {σ : L2.St} {H : Hp} {Q : VK} {sl nm : Nat} {r : Addr} {ra : List (Str × Addr)} {te2 : TE} (C : Str × Addr → Addr → Hp → Prop)
    (hσ : nm < σ.length) (es : σ[sl]? = some (some (.ref r))) (hs : sl ≠ nm) (hr : H r = some (.dK (refK ra))) (nd : (ra.map (·.1)).Nodup) (ln : ra.length ≤ 1000) (hd : ∀ a ∈ ra, ∃ xs, H a.2 = some (.lst xs))
    (hE : ∀ a d' H', C a d' H' → ∃ o, H' d' = some o) (hC : ∀ a d' D H1 H2, C a d' H1 → But D H1 H2 → d' ≠ D → C a d' H2)
    (hstep : ∀ y d od H', (y, d) ∈ ra → But r H H' → H' r = some (.frz od (.dK (refK ra))) → ∀ Q2 : VK, (∀ d' H'', Same H' H'' → (H' d' = none ∨ d' = d) → C (y, d) d' H'' → Q2 (.ref d') H'') → te2 ((wipe σ [nm]).set nm (some (V.str y))) H' Q2)
    (k : ∀ p rb H', Same H H' → H p = none → H' p = some (.dK (refK rb)) → Paired (fun a b => a.1 = b.1 ∧ C a b.2 H' ∧ (H b.2 = none ∨ b.2 = a.2)) ra rb → Q (.ref p) H') :
    tCB (fun xs H Q => ∃ (a : Addr) (ps : List Addr) (kvs : List (Key × V)), xs = [.ref a] ∧ SqL K H a (ps.map V.ref) ∧ Paired (fun p kv => SqT K H p [kV kv.1, kv.2]) ps kvs ∧ ∀ p, H p = none → Q (.ref p) (upd H p (.dK (mergeK [] kvs))))
      (tCons (tLockE (tLc (iKeys (tVar sl)) (gName nm) tYes (tTup (tCons (tVar nm) (tCons te2 tNil))) [nm])) tNil) σ H Q := by
  refine ⟨r, _, hr, True.intro, fun od => ?_⟩
  have kr : ∀ {q : Addr} {o : HO}, H q = some o → q ≠ r → upd H r (.frz od (.dK (refK ra))) q = some o := fun e n => (upd_ne n).trans e
  have er : (upd H r (.frz od (.dK (refK ra)))) r = some (.frz od (.dK (refK ra))) := upd_same
  have fr : ∀ {q : Addr}, (upd H r (.frz od (.dK (refK ra)))) q = none → H q = none := fun {q} e => by
    by_cases z : q = r
    · rw [z, er] at e; cases e
    · rw [upd_ne z] at e; exact e
  have bt0 : But r H (upd H r (.frz od (.dK (refK ra)))) := fun b o e n => kr e n
  generalize upd H r (.frz od (.dK (refK ra))) = H1 at kr er fr bt0 ⊢
  refine ⟨_, es, r, od, rfl, .inl ⟨_, er, fun D hD => ?_⟩⟩
  have rD : r ≠ D := fun z => by rw [z, hD] at er; cases er
  have nD : H D = none := fr hD
  refine lc_it (walk_keys (kvs := refK ra)) (fun i H' => But D H1 H' ∧ ∃ (ps : List Addr) (rb : List (Str × Addr)), H' D = some (.lst (ps.map V.ref)) ∧ Paired (fun p (b : Str × Addr) => SqT K H' p [.str b.1, .ref b.2] ∧ p ≠ D) ps rb ∧
      Paired (fun a b => a.1 = b.1 ∧ C a b.2 H' ∧ (H b.2 = none ∨ b.2 = a.2) ∧ b.2 ≠ D ∧ b.2 ≠ r) (ra.take i) rb) ⟨fun b o e n => (upd_ne n).trans e, [], [], upd_same, .nil, .nil⟩ (fun i H' _ q => q.1 _ _ er rD) ?_ ?_
  · rintro i x H' H'' hi ⟨bt, ps, rb, hDl, p1, p2⟩ ⟨rfl, k0, v0, hkv, rfl⟩
    obtain ⟨y, d, hz, rfl, rfl⟩ := refK_at hkv
    have hm := List.mem_of_getElem? hz
    have g1 : ((wipe σ [nm]).set nm (some (V.str y)))[nm]? = some (some (V.str y)) := by
      rw [List.getElem?_set_self]
      show nm < (σ.set nm none).length
      rw [List.length_set]
      exact hσ
    refine ⟨?_, iteT (B := True) ?_⟩
    · show ((σ.set nm none).set nm (some (V.str y))).set nm none = σ.set nm none
      rw [List.set_set, List.set_set]
    refine ⟨_, g1, ?_⟩
    have bt2 : But r H H'' := fun b o e n => bt _ _ (kr e n) fun z => by rw [z, nD] at e; cases e
    refine hstep y d od H'' hm bt2 (bt _ _ er rD) _ fun d' H3 s3 hn hc => ?_
    refine ⟨by show 2 ≤ sizeLine; decide, fun t ht => ?_⟩
    have s4 : Same H3 (upd H3 t (.tup [.str y, .ref d'])) := same_new ht
    have et : (upd H3 t (.tup [.str y, .ref d'])) t = some (.tup [.str y, .ref d']) := upd_same
    have D3 := s3 _ _ hDl
    have tD : t ≠ D := fun z => by rw [z, D3] at ht; cases ht
    have dr : H d' = none ∨ d' = d := hn.imp (fun e => by
      cases z : H d' with
      | none => rfl
      | some o => 
        by_cases w : d' = r
        · rw [w, bt _ _ er rD] at e; cases e
        · rw [bt2 _ _ z w] at e; cases e) id
    obtain ⟨xs0, hdl⟩ := hd _ hm
    have ndD : d' ≠ D := hn.elim (fun e z => by rw [z, hDl] at e; cases e) fun e z => by rw [← e, z, nD] at hdl; cases hdl
    have ndr : d' ≠ r := hn.elim (fun e z => by rw [z, bt _ _ er rD] at e; cases e) fun e z => by rw [← e, z, hr] at hdl; cases hdl
    have D4 := s4 _ _ D3
    refine ⟨ps.map V.ref, D4, ?_, ?_⟩
    · have l1 := Paired.length p1
      have l2 := Paired.length p2
      rw [List.length_take] at l2
      rw [List.length_map, sizeLine_eq]
      omega
    have bt5 : But D (upd H3 t (.tup [.str y, .ref d'])) (upd (upd H3 t (.tup [.str y, .ref d'])) D (.lst (ps.map V.ref ++ [V.ref t]))) := fun b o e n => (upd_ne n).trans e
    have s34 := s3.trans s4
    refine ⟨bt.tr ((But.of s34).tr bt5), ps ++ [t], rb ++ [(y, d')], by rw [upd_same, List.map_append]; rfl, pair_snoc (Paired.mapP p1 fun p b q => ⟨?_, q.2⟩) ⟨SqT.of (bt5 _ _ et tD), tD⟩, ?_⟩
    · have := SqT.keep q.1 s34
      rcases this with (z | ⟨o, z⟩) | z
      · exact .inl (.inl (bt5 _ _ z q.2))
      · exact .inl (.inr ⟨o, bt5 _ _ z q.2⟩)
      · exact .inr z
    · rw [take_snoc hz]
      exact pair_snoc (Paired.mapP p2 fun a b ⟨q1, q2, q3, q4, q5⟩ => ⟨q1, hC _ _ D _ _ (hC _ _ D _ _ q2 (But.of s34) q4) bt5 q4, q3, q4, q5⟩) ⟨rfl, hC _ _ D _ _ (hC _ _ D _ _ hc (But.of s4) ndD) bt5 ndD, dr, ndD, ndr⟩
  · rintro H' ⟨bt, ps, rb, hDl, p1, p2⟩
    have hl : (refK ra).length = ra.length := refK_len ra
    rw [hl, List.take_length] at p2
    have e1 := bt _ _ er rD
    refine ⟨e1, D, ps, refK rb, rfl, ?_, ?_, fun p hp => ?_⟩
    · exact SqL.of ((upd_ne rD.symm).trans hDl)
    · have go : ∀ {ps : List Addr} {rb : List (Str × Addr)}, Paired (fun p (b : Str × Addr) => SqT K H' p [.str b.1, .ref b.2] ∧ p ≠ D) ps rb → Paired (fun p (kv : Key × V) => SqT K (upd H' r (.dK (refK ra))) p [kV kv.1, kv.2]) ps (refK rb) := by
        intro ps rb h
        induction h with
        | nil => exact .nil
        | @cons p b _ _ q _ ih =>
          refine .cons ?_ ih
          rcases q.1 with (z | ⟨o, z⟩) | z
          · exact .inl (.inl ((upd_ne fun w => by rw [w, e1] at z; cases z).trans z))
          · exact .inl (.inr ⟨o, (upd_ne fun w => by rw [w, e1] at z; cases z).trans z⟩)
          · exact .inr z
      exact go p1
    have ek : rb.map (·.1) = ra.map (·.1) := pair_keysN (fun _ _ q => q.1) p2
    have em : mergeK [] (refK rb) = refK rb := by
      have := mergeN (l := rb) (acc := []) (by rw [List.nil_append, ek]; exact nd)
      rw [List.nil_append] at this
      exact this
    rw [em]
    have rp : r ≠ p := fun z => by rw [← z, upd_same] at hp; cases hp
    have fin : Same H (upd (upd H' r (.dK (refK ra))) p (.dK (refK rb))) := fun b o e => by
      by_cases z : b = r
      · rw [z] at e ⊢
        rw [upd_ne rp, upd_same, ← e, hr]
      · have e2 := bt _ _ (kr e z) fun w => by rw [w, nD] at e; cases e
        have bp : b ≠ p := fun w => by
          rw [w] at e2
          rw [upd_ne rp.symm, e2] at hp
          cases hp
        rw [upd_ne bp, upd_ne z]
        exact e2
    have hpn : H p = none := by
      cases z : H p with
      | none => rfl
      | some o =>
        have e2 := bt _ _ (kr z rp.symm) fun w => by rw [w, nD] at z; cases z
        rw [upd_ne rp.symm, e2] at hp
        cases hp
    refine k p rb _ fin hpn upd_same (Paired.mapP p2 fun a b ⟨q1, q2, q3, q4, q5⟩ => ⟨q1, ?_, q3⟩)
    have b1 : But r H' (upd H' r (.dK (refK ra))) := fun b o e n => (upd_ne n).trans e
    have c1 := hC _ _ r _ _ q2 b1 q5
    by_cases w : b.2 = p
    · obtain ⟨o, e2⟩ := hE _ _ _ c1
      rw [w, hp] at e2
      cases e2
    · exact hC _ _ p _ _ c1 (fun b o e n => (upd_ne n).trans e) w
end Bo
set_option Elab.async false
set_option linter.all false
set_option maxRecDepth 100000
set_option maxHeartbeats 4000000
namespace Bo
open PySem PySem.Spec PyProof.Rows L2
theorem SqT.but {K : PySem.W.Frag} {H H' : Hp} {q D : Addr} {xs : List V} (h : SqT K H q xs) (n : q ≠ D) (b : But D H H') : SqT K H' q xs := by
  rcases h with (z | ⟨o, z⟩) | z
  · exact .inl (.inl (b _ _ z n))
  · exact .inl (.inr ⟨o, b _ _ z n⟩)
  · exact .inr z
theorem But.fresh {D : Addr} {H H' : Hp} (b : But D H H') (hD : H D = none) : Same H H' := fun q o z => b _ _ z fun w => by rw [w, hD] at z; cases z
theorem items_pair {K : PySem.W.Frag} {H : Hp} {b : Bool} : ∀ {qs : List Addr} {xs : List V} {us : List Arg}, Paired (fun q v => SqT K H q [.str (itK b), v]) qs xs → Paired (AV K H) xs us → Paired (ItV K H) (qs.map V.ref) (us.map fun u => (b, u))
  | _, _, _, .nil, .nil => .nil
  | _, _, _, .cons q t, .cons a r => .cons (.mk q a) (items_pair t r)
theorem items_lc {K : PySem.W.Frag} {σ : L2.St} {H : Hp} {Q : VK} {nm : Nat} {b : Bool} {te0 : TE} {xs : List V} {us : List Arg} (hσ : nm < σ.length) (hav : Paired (AV K H) xs us) (ln : xs.length ≤ 1000)
    (h0 : ∀ Q' : VK, (∀ lw H', Same H H' → SqL K H' lw xs → Q' (.ref lw) H') → te0 σ H Q')
    (k : ∀ D H' ys, Same H H' → H D = none → H' D = some (.lst ys) → Paired (ItV K H') ys (us.map fun u => (b, u)) → Q (.ref D) H') :
    tLc (iList K te0) (gName nm) tYes (tTup (tCons (tC (V.str (itK b))) (tCons (tVar nm) tNil))) [nm] σ H Q := by
  refine h0 _ fun lw H1 s1 hl => ⟨lw, rfl, ⟨_, hl⟩, fun D hD => ?_⟩
  refine lc_list (xs := xs) (fun i H' => But D H1 H' ∧ ∃ qs : List Addr, H' D = some (.lst (qs.map V.ref)) ∧ Paired (fun q v => SqT K H' q [.str (itK b), v] ∧ q ≠ D) qs (xs.take i)) ⟨fun _ _ e n => (upd_ne n).trans e, [], upd_same, .nil⟩ (fun i H' _ e => SqL.keep hl (e.1.fresh hD)) ?_ ?_
  · rintro i v H' hv ⟨bt, qs, hys, hp⟩
    have li := (List.getElem?_eq_some_iff.mp hv).1
    have g1 : ((wipe σ [nm]).set nm (some v))[nm]? = some (some v) := by
      rw [List.getElem?_set_self]
      show nm < (σ.set nm none).length
      rw [List.length_set]
      exact hσ
    refine ⟨?_, iteT (B := True) ?_⟩
    · show ((σ.set nm none).set nm (some v)).set nm none = σ.set nm none
      rw [List.set_set, List.set_set]
    refine ⟨_, g1, by show 2 ≤ sizeLine; decide, fun t ht => ?_⟩
    have s4 : Same H' (upd H' t (.tup [.str (itK b), v])) := same_new ht
    have et : (upd H' t (.tup [.str (itK b), v])) t = some (.tup [.str (itK b), v]) := upd_same
    have tD : t ≠ D := fun z => by rw [z, hys] at ht; cases ht
    refine ⟨_, s4 _ _ hys, ?_, ?_⟩
    · have l1 := Paired.length hp
      rw [List.length_take] at l1
      rw [List.length_map, sizeLine_eq]
      omega
    have b5 : But D (upd H' t (.tup [.str (itK b), v])) (upd (upd H' t (.tup [.str (itK b), v])) D (.lst (qs.map V.ref ++ [V.ref t]))) := fun _ _ e n => (upd_ne n).trans e
    refine ⟨bt.tr ((But.of s4).tr b5), qs ++ [t], by rw [upd_same, List.map_append]; rfl, ?_⟩
    rw [take_snoc hv]
    exact pair_snoc (Paired.mapP hp fun q v z => ⟨SqT.but (SqT.keep z.1 s4) z.2 b5, z.2⟩) ⟨SqT.of (b5 _ _ et tD), tD⟩
  · rintro H' ⟨bt, qs, hys, hp⟩
    rw [List.take_length] at hp
    have s2 := s1.trans (bt.fresh hD)
    refine k D H' _ s2 ?_ hys (items_pair (Paired.mapP hp fun _ _ z => z.1) (avs_keep hav s2))
    cases z : H D with
    | none => rfl
    | some o => rw [s1 _ _ z] at hD; cases hD
/-- [one for one in names if ..] -/
theorem filt_lc {K : PySem.W.Frag} {σ : L2.St} {H : Hp} {Q : VK} {nm : Nat} {te0 : TE} {tt : TT} {zs : List Str} (g : Str → Bool) (hσ : nm < σ.length) (ln : zs.length ≤ 1000)
    (h0 : ∀ Q' : VK, (∀ lw H', Same H H' → SqL K H' lw (zs.map V.str) → Q' (.ref lw) H') → te0 σ H Q')
    (ht : ∀ z H' Q', z ∈ zs → Same H H' → Q' (g z) H' → tt ((wipe σ [nm]).set nm (some (V.str z))) H' Q')
    (k : ∀ D H', Same H H' → H D = none → H' D = some (.lst ((zs.filter g).map V.str)) → Q (.ref D) H') :
    tLc (iList K te0) (gName nm) tt (tVar nm) [nm] σ H Q := by
  refine h0 _ fun lw H1 s1 hl => ⟨lw, rfl, ⟨_, hl⟩, fun D hD => ?_⟩
  refine lc_list (xs := zs.map V.str) (fun i H' => But D H1 H' ∧ H' D = some (.lst (((zs.take i).filter g).map V.str))) ⟨fun _ _ e n => (upd_ne n).trans e, upd_same⟩ (fun i H' _ e => SqL.keep hl (e.1.fresh hD)) ?_ ?_
  · rintro i v H' hv ⟨bt, hys⟩
    rw [List.getElem?_map] at hv
    obtain ⟨z, hz, rfl⟩ := Option.map_eq_some_iff.mp hv
    have g1 : ((wipe σ [nm]).set nm (some (V.str z)))[nm]? = some (some (V.str z)) := by
      rw [List.getElem?_set_self]
      show nm < (σ.set nm none).length
      rw [List.length_set]
      exact hσ
    refine ⟨?_, ht z H' _ (List.mem_of_getElem? hz) (s1.trans (bt.fresh hD)) ?_⟩
    · show ((σ.set nm none).set nm (some (V.str z))).set nm none = σ.set nm none
      rw [List.set_set, List.set_set]
    refine ite2 (fun c => ?_) (fun c => ?_)
    · refine ⟨_, g1, _, hys, ?_, ?_⟩
      · have l1 := List.length_filter_le g (zs.take i)
        rw [List.length_take] at l1
        rw [List.length_map, sizeLine_eq]
        omega
      · refine ⟨bt.tr fun _ _ e n => (upd_ne n).trans e, ?_⟩
        rw [upd_same, take_snoc hz, List.filter_append, List.filter_cons, if_pos c, List.map_append]
        rfl
    · refine ⟨bt, ?_⟩
      rw [take_snoc hz, List.filter_append, List.filter_cons, if_neg c, List.filter_nil, List.append_nil]
      exact hys
  · rintro H' ⟨bt, hys⟩
    rw [List.length_map, List.take_length] at hys
    refine k D H' (s1.trans (bt.fresh hD)) ?_ hys
    cases z : H D with
    | none => rfl
    | some o => rw [s1 _ _ z] at hD; cases hD
end Bo
set_option Elab.async false
set_option linter.all false
set_option maxRecDepth 100000
set_option maxHeartbeats 8000000
namespace Bo
open PySem PySem.Spec PyProof.Rows L2
/-- the plain system, its rows' dict its own -/
def PlM (ok : Addr → Prop) (H : Hp) (pl : Addr) (p : Pl) : Prop := ∃ r u ra, PlG H pl r u p.rows ra p.us ∧ H r = some (.dK (refK ra)) ∧ ok pl ∧ ok r ∧ ok u ∧ ∀ q ∈ ra, ok q.2
def EdOutM (K : PySem.W.Frag) (ok : Addr → Prop) (H : Hp) (v : V) (p : Pl) (r : Except Er Pl) : Prop := ∃ (t pl : Addr) (dv : V), v = .ref t ∧ SqT K H t [dv, .ref pl] ∧ DueV K H dv (dueO r) ∧ PlM ok H pl (plO p r)
def spAdded (K : PySem.W.Frag) : Sp := fun vs H Q _ => ∃ (ok : Addr → Prop) (pl l : Addr) (p : Pl) (j : Nat) (xs : List V) (as : List Arg) (e : Ed), vs = [.ref pl, .str (wordS j), .ref l] ∧ j < 2 ∧ mkEd j as = some e ∧ (∀ q, H q = none → ok q) ∧ PlM ok H pl p ∧ PlWf p ∧ H l = some (.lst xs) ∧ Paired (AV K H) xs as ∧ (∀ x ∈ as, ArgOk x) ∧ xs.length ≤ 900 ∧
  ∀ v H', Same H H' → EdOutM K ok H' v p (edP p e) → Q v H'
theorem newE_due (p : Pl) (a : Arg) (us : List Arg) : (∀ er, newO kEq p.keys [a] = some er → newE p a us = .error er) ∧ (newO kEq p.keys [a] = none → ∃ y, a = .nm y ∧ nameOk y = true ∧ y ∉ p.keys ∧ newE p a us = match chkU p.us us with | some e => .error e | none => .ok { p with rows := p.rows ++ [(y, nmS us)] }) := by
  unfold newO newE
  cases a with
  | od d => exact ⟨fun er z => by cases z; rfl, fun z => by cases z⟩
  | nm y =>
    have hb : badA [Arg.nm y] = if nameOk y = true then none else some (.nm y) := by
      show List.find? _ [Arg.nm y] = _
      rw [List.find?_cons]
      show (match !nameOk y with | true => _ | false => _) = _
      cases nameOk y <;> rfl
    rw [hb]
    have hdup : dupT p.keys (nmS [Arg.nm y]) = if y ∈ p.keys then some y else none := rfl
    rw [hdup]
    have hk : p.keys.length = p.rows.length := List.length_map _
    by_cases h1 : nameOk y = true
    · rw [if_pos h1]
      dsimp only
      have h3 : ¬ nameOk y = false := by rw [h1]; decide
      by_cases h2 : y ∈ p.keys
      · rw [if_pos h2]
        dsimp only
        rw [if_neg h3, if_pos h2]
        exact ⟨fun er z => by cases z; rfl, fun z => by cases z⟩
      · rw [if_neg h2]
        dsimp only
        by_cases h4 : 24 ≤ p.rows.length
        · rw [if_pos (show 24 < p.keys.length + (nmS [Arg.nm y]).length by show 24 < p.keys.length + 1; omega), if_neg h3, if_neg h2, if_pos h4]
          exact ⟨fun er z => by cases z; rfl, fun z => by cases z⟩
        · rw [if_neg (show ¬ 24 < p.keys.length + (nmS [Arg.nm y]).length by show ¬ 24 < p.keys.length + 1; omega), if_neg h3, if_neg h2, if_neg h4]
          exact ⟨fun er z => (by cases z), fun _ => ⟨y, rfl, h1, h2, rfl⟩⟩
    · rw [if_neg h1]
      have h2 : nameOk y = false := by simpa using h1
      dsimp only
      refine ⟨fun er z => ?_, fun z => by cases z⟩
      cases z
      exact if_pos h2
theorem lackO_un (p : Pl) (us : List Arg) : lackO p (us.map fun u => (false, u)) = (lackA p.us us).map fun u => (2, itemD kUn u) := by
  unfold lackO lackA
  induction us with
  | nil => rfl
  | cons u us ih =>
    rw [List.map_cons, List.find?_cons, List.find?_cons]
    show (match !u.inT p.us with | true => _ | false => _ : Option Itm).map _ = (match !u.inT p.us with | true => _ | false => _ : Option Arg).map _
    cases u.inT p.us with
    | true => exact ih
    | false => rfl
section
variable {P : Program} {w : World} {K : PySem.W.Frag} {mg : Str → Option Value} {base : Heap}
theorem ok_added {f fN fL fU : Addr} {fd fdN fdL fdU : FuncData} (F : Fun K "_law_added" "_law_added" sAdded f fd) (hdict : mg "dict" = none)
    (GN : FnOk P w K mg base CX0 2 fN fdN ["_law_kind", "_law_names_here", "_law_known"] (spNew K)) (mN : mg "_law_new" = some (.ref fN)) (kN : PySem.W.keepIn K (.ref fN) = true) (bN : Binds K fdN ["_law_kind", "_law_names_here", "_law_known"] [])
    (GL : FnOk P w K mg base CX0 1 fL fdL ["_law_plain", "_law_items"] (spLack K)) (mL : mg "_law_lacking" = some (.ref fL)) (kL : PySem.W.keepIn K (.ref fL) = true) (bL : Binds K fdL ["_law_plain", "_law_items"] [])
    (GU : FnOk P w K mg base CX0 1 fU fdU ["_law_kind", "_law_names_here", "_law_start"] (spUnl K)) (mU : mg "_law_unlike" = some (.ref fU)) (kUl : PySem.W.keepIn K (.ref fU) = true) (bU : Binds K fdU ["_law_kind", "_law_names_here", "_law_start"] []) :
    FnOk P w K mg base CX0 3 f fd ["_law_plain", "_law_word", "_law_parts"] (spAdded K) := by
  refine F.ok scAdded (fun vs H Q E h => ?_) (fun cdv A outer s H vs Q E hr h => ?_)
  · obtain ⟨ok, pl, l, p, j, xs, as, e, rfl, _⟩ := h
    rfl
  · obtain ⟨ok, pl, l, p, j, xs, as, e, rfl, hj, hmk, hfr, ⟨r, u, ra, hG, hrd, o1, o2, o3, o4⟩, hw, hl, hav, hok, hxl, q⟩ := h
    have hu := hu_of hr
    have hr1 : Room 1 _ := hr.mono (by decide)
    have hu1 : (A.deeper (PyProof.Rows.envOfC "_law_added" (defScope sAdded) s.heap.objs.size f cdv)).units + 1 < cLine := by have := hr.un; omega
    refine ⟨_, pss_cons (ps_asg (pe_tup (pa_cons (pe_dget hu (pv 0) pe_str (fun _ _ => rfl)) (pa_cons (pe_dget hu (pv 0) pe_str (fun _ _ => rfl)) pa_nil))) (pg_tup (by rfl) (pgs_cons (pg_name (i := 3) scAdded.nd rfl (.inr rfl)) (pgs_cons (pg_name (i := 4) scAdded.nd rfl (.inl rfl)) pgs_nil))))
      (pss_cons (ps_if (pt_cmpR op_eq (pv 1) pe_str (nomark _))
        (pss_cons (ps_set (i := 5) scAdded.nd rfl (.inl rfl) (pe_call GN hr rfl mN kN bN .nil pass0 (pa_cons pe_str (pa_cons (pv 2) (pa_cons (pv 4) pa_nil)))))
        (pss_one (ps_ret (pe_tup (pa_cons (pv 5) (pa_cons (pe_ifExp (pt_cmp (pc_isN (pv 5))) (pe_disp (pps_cons pe_str (pv 3) (pps_cons pe_str (pe_op op_cat (pv 4) (pv 2)) pps_nil)) (by rfl) (by rfl) (fun z => by cases z) (by decide)) (pv 0)) pa_nil)))))) pss_nil)
      (pss_cons (ps_set (i := 5) scAdded.nd rfl (.inl rfl) (pe_call GN hr rfl mN kN bN .nil pass0 (pa_cons pe_str (pa_cons (pe_slice sl_list (pv 2) po_none (po_some pe_int)) (pa_cons (pv 3) pa_nil)))))
      (pss_cons (ps_set (i := 5) scAdded.nd rfl (.inl rfl) (pe_ifExp (pt_cmp (pc_isN (pv 5))) (pe_call GL hr1 rfl mL kL bL .nil pass0 (pa_cons (pv 0) (pa_cons (pe_lc (own := [("_law_one", 7)]) (g := gName 7) (tt := tYes) (te := tTup (tCons (tC (V.str "unknown")) (tCons (tVar 7) tNil))) rfl scAdded.nd (pi_list (pe_slice sl_list (pv 2) (po_some pe_int) po_none)) (blkOk_by (N := nAdd) (sc := defScope sAdded) (by decide +kernel)) (fun _ _ _ _ _ => pg_name (i := 7) scAdded.nd rfl (Or.inl rfl)) (fun _ _ _ _ _ => pts_nil) (fun _ _ _ _ _ => pe_tup (pa_cons pe_str (pa_cons (pv 7) pa_nil)))) pa_nil))) (pv 5)))
      (pss_cons (ps_set (i := 5) scAdded.nd rfl (.inl rfl) (pe_ifExp (pt_cmp (pc_isN (pv 5))) (pe_call GU hr1 rfl mU kUl bU .nil pass0 (pa_cons pe_str (pa_cons (pe_slice sl_list (pv 2) (po_some pe_int) po_none) (pa_cons pe_int pa_nil)))) (pv 5)))
      (pss_cons (ps_if (pt_cmp (pc_notN (pv 5))) (pss_one (ps_ret (pe_tup (pa_cons (pv 5) (pa_cons (pv 0) pa_nil))))) pss_nil)
      (pss_cons (ps_set (i := 6) scAdded.nd rfl (.inl rfl) (pe_callTy (call_dictP rfl) (by rfl) hdict (by decide +kernel) (pa_cons (pe_lock (pe_lc (own := [("_law_name", 8)]) (g := gName 8) (tt := tYes) (te := tTup (tCons (tVar 8) (tCons (tDGet (tVar 3) (tVar 8)) tNil))) rfl scAdded.nd (pi_keys (pv 3)) (blkOk_by (N := nAdd) (sc := defScope sAdded) (by decide +kernel)) (fun _ _ _ _ _ => pg_name (i := 8) scAdded.nd rfl (Or.inl rfl)) (fun _ _ _ _ _ => pts_nil) (fun _ _ _ _ _ => pe_tup (pa_cons (pv 8) (pa_cons (pe_dget hu (pv 3) (pv 8) (fun _ _ => rfl)) pa_nil))))) pa_nil)))
      (pss_cons (ps_asg (pe_slice sl_list (pv 2) (po_some pe_int) po_none) (pg_sub (pv 6) (pe_ix ix_list (pv 2) pe_int (fun _ _ => rfl)) (set_dict hu1)))
      (pss_one (ps_ret (pe_tup (pa_cons pe_non (pa_cons (pe_disp (pps_cons pe_str (pv 6) (pps_cons pe_str (pv 4) pps_nil)) (by rfl) (by rfl) (fun z => by cases z) (by decide)) pa_nil)))))))))))), ?_⟩
    refine ⟨_, rfl, pl, _, rfl, hG.gr, _, rfl, pl, _, rfl, hG.gu, by show 2 ≤ sizeLine; decide, fun t0 ht0 => ?_⟩
    have s0 : Same H (upd H t0 (.tup [.ref r, .ref u])) := same_new ht0
    refine ⟨t0, _, rfl, SqT.of upd_same, rfl, _, _, rfl, _, _, rfl, rfl, ?_⟩
    generalize upd H t0 (.tup [.ref r, .ref u]) = H1 at s0 ⊢
    have hG1 := hG.keep s0
    have hav1 := avs_keep hav s0
    have hl1 := s0 _ _ hl
    have hr1' := s0 _ _ hrd
    match j, hj with
    | 0, _ =>
      cases hmk
      refine ⟨_, rfl, rfl, _, rfl, iteT ?_⟩
      refine ⟨_, rfl, _, rfl, kUn, l, .ref u, xs, as, p.us, rfl, hl1, hav1, hok, .lst hG1.u, hw.u, by have := hw.lu; omega, fun y hy => name_len (hw.nu y hy), hxl, fun dv H2 s2 hd => ?_⟩
      obtain ⟨e1, e2⟩ := newU_due p as
      refine ⟨_, rfl, _, rfl, ?_⟩
      have hG2 := hG1.keep s2
      have s02 := s0.trans s2
      cases hn : newO kUn p.us as with
      | some er =>
        rw [hn] at hd e1
        cases hd with
        | er hd1 hd2 =>
        rename_i ea w
        refine ⟨_, rfl, iteF ⟨_, rfl, by show 2 ≤ sizeLine; decide, fun t ht => ?_⟩⟩
        have s3 : Same H2 (upd H2 t (.tup [.ref ea, .ref pl])) := same_new ht
        refine q _ _ (s02.trans s3) ⟨t, pl, .ref ea, rfl, SqT.of upd_same, ?_, ?_⟩
        · show DueV K _ _ (dueO (newU p as))
          rw [e1]
          exact (DueV.er hd1 hd2).keep s3
        · have e3 : plO p (newU p as) = p := by
            cases hz : newU p as with
            | error e => rfl
            | ok p' => rw [hz] at e1; cases e1
          show PlM ok _ pl (plO p (newU p as))
          rw [e3]
          exact ⟨r, u, ra, hG2.keep s3, (s02.trans s3) _ _ hrd, o1, o2, o3, o4⟩
      | none =>
        rw [hn] at hd e1
        obtain ⟨hb, e3⟩ := e2 hn
        obtain ⟨eas, hnm⟩ := badA_none hb
        have exs : xs = (nmS as).map V.str := by
          rw [eas] at hav
          exact avs_txt hav
        cases hd
        refine ⟨_, rfl, iteT ?_⟩
        intro p1 hp1
        have hl2 := s02 _ _ hl
        have s3 : Same H2 (upd H2 p1 (.dK [])) := same_new hp1
        have := hw.lu
        refine ⟨_, rfl, _, rfl, _, rfl, u, l, _, _, rfl, rfl, s3 _ _ hG2.u, s3 _ _ hl2, by rw [List.length_map, sizeLine_eq]; omega, fun p2 hp2 => ?_⟩
        have n12 : p2 ≠ p1 := fun z => by rw [z, upd_same] at hp2; cases hp2
        refine ⟨by rw [upd_ne n12.symm]; exact upd_same, [(kR, V.ref r), (kU, V.ref p2)], rfl, by show 2 ≤ 15; decide, by show 2 ≤ sizeLine; decide, fun t ht => ?_⟩
        rw [two_merge] at ht ⊢
        have hp2' : H2 p2 = none := by rw [upd_ne n12] at hp2; exact hp2
        have kk : Same H2 (upd (upd (upd H2 p1 (.dK [])) p2 (.lst (p.us.map V.str ++ xs))) p1 (.dK [(kR, V.ref r), (kU, V.ref p2)])) := fun b o e => by
          rw [upd_ne (ne_of_none e hp1), upd_ne (ne_of_none e hp2'), upd_ne (ne_of_none e hp1)]
          exact e
        have h1 : (upd (upd (upd H2 p1 (.dK [])) p2 (.lst (p.us.map V.str ++ xs))) p1 (.dK [(kR, V.ref r), (kU, V.ref p2)])) p1 = some (.dK [(kR, V.ref r), (kU, V.ref p2)]) := upd_same
        have h2 : (upd (upd (upd H2 p1 (.dK [])) p2 (.lst (p.us.map V.str ++ xs))) p1 (.dK [(kR, V.ref r), (kU, V.ref p2)])) p2 = some (.lst (p.us.map V.str ++ xs)) := by rw [upd_ne n12]; exact upd_same
        generalize upd (upd (upd H2 p1 (.dK [])) p2 (.lst (p.us.map V.str ++ xs))) p1 (.dK [(kR, V.ref r), (kU, V.ref p2)]) = H3 at kk h1 h2 ht ⊢
        have s4 : Same H3 (upd H3 t (.tup [.non, .ref p1])) := same_new ht
        refine q _ _ ((s02.trans kk).trans s4) ⟨t, p1, .non, rfl, SqT.of upd_same, ?_, ?_⟩
        · show DueV K _ _ (dueO (newU p as))
          rw [e1]
          exact .no
        · show PlM ok _ p1 (plO p (newU p as))
          rw [e3]
          have hG3 := hG2.keep (kk.trans s4)
          refine ⟨r, p2, ra, ⟨s4 _ _ h1, hG3.r, hG3.e, ?_⟩, ((s02.trans kk).trans s4) _ _ hrd, hfr _ (s02.free hp1), o2, hfr _ (s02.free hp2'), o4⟩
          have := s4 _ _ h2
          rw [exs, ← List.map_append] at this
          exact this
    | 1, _ =>
      cases as with
      | nil => cases hmk
      | cons a us =>
      cases hmk
      cases hav1 with
      | @cons x _ xr _ hx1 hxs1 =>
      refine ⟨_, rfl, rfl, _, rfl, ?_⟩
      rw [decide_eq_false (show ¬ V.str (wordS 1) = V.str "add_unknown" from by decide)]
      refine iteF ?_
      refine ⟨_, rfl, _, rfl, l, _, rfl, SqL.of hl1, fun l2 hl2 => ?_⟩
      rw [show cutV (x :: xr) none (some 1) = [x] from by unfold cutV; rw [HT.sIx_none, show (some (1 : Int)) = some ((1 : Nat) : Int) from rfl, HT.sIx_nat, Nat.min_eq_left (by rw [List.length_cons]; omega)]; rfl]
      have s2 : Same H1 (upd H1 l2 (.lst [x])) := same_new hl2
      have e2 : (upd H1 l2 (.lst [x])) l2 = some (.lst [x]) := upd_same
      generalize upd H1 l2 (.lst [x]) = H2 at s2 e2 ⊢
      have hG2 := hG1.keep s2
      refine ⟨_, rfl, kEq, l2, .ref r, [x], [a], ra.map (·.1), rfl, e2, .cons (hx1.keep s2) .nil, fun z hz => hok z (by rw [List.mem_singleton.mp hz]; exact List.mem_cons_self), .dct hG2.r, by rw [hG2.keys]; exact hw.k, by rw [hG2.keys, List.length_map]; have := hw.lk; omega, fun y hy => name_len (hw.nk y (by rw [hG2.keys] at hy; exact hy)), by show 1 ≤ 900; decide, fun dv H3 s3 hd => ?_⟩
      have s03 := (s0.trans s2).trans s3
      rw [hG2.keys] at hd
      obtain ⟨w1, w2⟩ := newE_due p a us
      have out : ∀ {er : Er} {dv : V} {H' : Hp}, newE p a us = .error er → Same H H' → DueV K H' dv (some er) → ∀ t, H' t = none → Q (.ref t) (upd H' t (.tup [dv, .ref pl])) := fun {er dv H'} he sm hd t ht => by
        have s5 : Same H' (upd H' t (.tup [dv, .ref pl])) := same_new ht
        refine q _ _ (sm.trans s5) ⟨t, pl, dv, rfl, SqT.of upd_same, ?_, ?_⟩
        · show DueV K _ _ (dueO (newE p a us))
          rw [he]
          exact hd.keep s5
        · show PlM ok _ pl (plO p (newE p a us))
          rw [he]
          exact ⟨r, u, ra, hG.keep (sm.trans s5), (sm.trans s5) _ _ hrd, o1, o2, o3, o4⟩
      have last : ∀ {er : Er} {dv : V} {H' : Hp}, newE p a us = .error er → Same H H' → DueV K H' dv (some er) → (∃ ea, dv = .ref ea) := fun {er dv H'} _ _ hd => by
        cases hd with
        | er h f => exact ⟨_, rfl⟩
      cases hn : newO kEq p.keys [a] with
      | some er =>
        have hd : DueV K H3 dv (newO kEq p.keys [a]) := hd
        rw [hn] at hd
        have he := w1 _ hn
        obtain ⟨ea, rfl⟩ := last he s03 hd
        refine ⟨_, rfl, _, rfl, iteF ⟨_, rfl, ?_⟩⟩
        refine ⟨_, rfl, _, rfl, iteF ⟨_, rfl, ?_⟩⟩
        refine ⟨_, rfl, _, rfl, iteT ⟨_, rfl, _, rfl, by show 2 ≤ sizeLine; decide, fun t ht => ?_⟩⟩
        exact out he s03 hd t ht
      | none =>
        have hd : DueV K H3 dv (newO kEq p.keys [a]) := hd
        rw [hn] at hd
        cases hd
        obtain ⟨y, rfl, hny, hky, hE⟩ := w2 hn
        refine ⟨_, rfl, _, rfl, iteT ?_⟩
        have hl3 := (s2.trans s3) _ _ hl1
        have hxs3 := avs_keep hxs1 (s2.trans s3)
        refine ⟨_, rfl, ?_⟩
        refine items_lc (b := false) (us := us) (xs := xr) (by show 7 < 9; decide) hxs3 (by rw [List.length_cons] at hxl; omega) (fun Q' k => ⟨_, rfl, _, rfl, l, _, rfl, SqL.of hl3, fun l4 h4 => ?_⟩) fun D H4 ys s4 hDn hD hit => ?_
        · rw [show cutV (x :: xr) (some 1) none = xr from cut1 x xr]
          exact k l4 _ (same_new h4) (SqL.of upd_same)
        refine ⟨pl, D, p, ys, us.map fun u => (false, u), rfl, ⟨r, u, ra, hG.keep (s03.trans s4)⟩, hD, hit, fun dv2 H5 s5 hd5 => ?_⟩
        rw [lackO_un] at hd5
        have s05 := (s03.trans s4).trans s5
        cases hlk : lackA p.us us with
        | some ux =>
          rw [hlk] at hd5
          have he : newE p (.nm y) us = .error (2, itemD kUn ux) := by rw [hE]; unfold chkU; rw [hlk]
          obtain ⟨ea, rfl⟩ := last he s05 hd5
          refine ⟨_, rfl, _, rfl, iteF ⟨_, rfl, ?_⟩⟩
          refine ⟨_, rfl, _, rfl, iteT ⟨_, rfl, _, rfl, by show 2 ≤ sizeLine; decide, fun t ht => ?_⟩⟩
          exact out he s05 hd5 t ht
        | none =>
          rw [hlk] at hd5
          cases hd5
          obtain ⟨eus, hin⟩ := lackA_none hlk
          have hch : chkU p.us us = (dupT [] (nmS us)).map fun y => (1, itemD kUn (.nm y)) := by unfold chkU; rw [hlk]
          rw [hch] at hE
          generalize nmS us = zs at eus hin hE
          subst eus
          have exr := avs_txt hxs1
          subst exr
          have hl5 := (s4.trans s5) _ _ hl3
          rw [List.length_cons, List.length_map] at hxl
          refine ⟨_, rfl, _, rfl, iteT ⟨_, rfl, _, rfl, l, _, rfl, SqL.of hl5, fun l6 h6 => ?_⟩⟩
          rw [show cutV (x :: zs.map V.str) (some 1) none = zs.map V.str from cut1 x _]
          have s6 : Same H5 (upd H5 l6 (.lst (zs.map V.str))) := same_new h6
          have e6 : (upd H5 l6 (.lst (zs.map V.str))) l6 = some (.lst (zs.map V.str)) := upd_same
          generalize upd H5 l6 (.lst (zs.map V.str)) = H6 at s6 e6 ⊢
          refine ⟨kUn, l6, 0, zs, rfl, e6, Nat.zero_le _, by omega, fun z hz => name_len (hw.nu z (hin z hz)), fun dv3 H7 s7 hd7 => ?_⟩
          rw [List.take_zero, List.drop_zero] at hd7
          have s07 := (s05.trans s6).trans s7
          cases hdp : dupT [] zs with
          | some z =>
            rw [hdp] at hd7 hE
            obtain ⟨ea, rfl⟩ := last hE s07 hd7
            refine ⟨_, rfl, _, rfl, iteT ⟨_, rfl, _, rfl, by show 2 ≤ sizeLine; decide, fun t ht => ?_⟩⟩
            exact out hE s07 hd7 t ht
          | none =>
            rw [hdp] at hd7 hE
            cases hd7
            have hE : newE p (.nm y) (zs.map Arg.nm) = .ok { p with rows := p.rows ++ [(y, zs)] } := hE
            refine ⟨_, rfl, _, rfl, iteF ?_⟩
            have hG7 := hG.keep s07
            have hr7 := s07 _ _ hrd
            have nd : (ra.map (·.1)).Nodup := by rw [hG.keys]; exact hw.k
            have lra : ra.length ≤ 24 := by rw [hG.len]; exact hw.lk
            dsimp only [tNext, tSeq, tAsg]
            refine dict_rows (fun a d' H => d' = a.2 ∧ ∃ xs, H d' = some (.lst xs)) (σ := [some (.ref pl), some (.str (wordS 1)), some (.ref l), some (.ref r), some (.ref u), some .non, none, none, none]) (sl := 3) (nm := 8) (ra := ra) (by show 8 < 9; decide) rfl (by decide) hr7 nd (by omega) (fun a ha => ?_) (fun a d' H' h => let ⟨_, xs, e⟩ := h; ⟨_, e⟩) (fun a d' D H1 H2 h b n => let ⟨e1, xs, e⟩ := h; ⟨e1, xs, b _ _ e n⟩) (fun y d od H' hm bt hr' Q2 k2 => ?_) fun d8 rb H8 s8 n8 e8 p8 => ?_
            · obtain ⟨i, hi⟩ := List.mem_iff_getElem?.mp ha
              obtain ⟨row, _, _, hd⟩ := pair_at hG7.e hi
              exact ⟨_, hd⟩
            · have e8 : ((wipe [some (.ref pl), some (.str (wordS 1)), some (.ref l), some (.ref r), some (.ref u), some V.non, none, none, none] [8]).set 8 (some (V.str y)))[8]? = some (some (V.str y)) := rfl
              obtain ⟨d0, hv, hm0⟩ := refK_in (rs := ra) (y := y) (List.mem_map.mpr ⟨_, hm, rfl⟩)
              have ed : d0 = d := Option.some.inj ((lookup_of nd hm0).symm.trans (lookup_of nd hm))
              subst ed
              obtain ⟨i, hi⟩ := List.mem_iff_getElem?.mp hm
              obtain ⟨row, _, _, hd⟩ := pair_at hG7.e hi
              refine ⟨_, rfl, _, rfl, r, _, rfl, .inl ⟨_, Sum.inr y, .inr ⟨_, hr'⟩, rfl, hv.symm⟩, k2 d0 H' (Same.refl _) (.inr rfl) ⟨rfl, _, bt _ _ hd fun z => ?_⟩⟩
              rw [z, hr7] at hd
              cases hd
            have hp8 : rb = ra := by
              have go : ∀ {ra rb : List (Str × Addr)}, Paired (fun (a b : Str × Addr) => a.1 = b.1 ∧ (b.2 = a.2 ∧ ∃ xs, H8 b.2 = some (HO.lst xs)) ∧ (H7 b.2 = none ∨ b.2 = a.2)) ra rb → rb = ra := by
                intro ra rb h
                induction h with
                | nil => rfl
                | @cons a b _ _ q _ ih => rw [ih, show b = a from Prod.ext q.1.symm q.2.1.1]
              exact go p8
            subst hp8
            have s08 := s07.trans s8
            have hl8 := s08 _ _ hl
            refine ⟨_, rfl, _, rfl, l, _, rfl, SqL.of hl8, fun l9 h9 => ?_⟩
            rw [show cutV (x :: zs.map V.str) (some 1) none = zs.map V.str from cut1 x _]
            have s9 : Same H8 (upd H8 l9 (.lst (zs.map V.str))) := same_new h9
            have e9 : (upd H8 l9 (.lst (zs.map V.str))) l9 = some (.lst (zs.map V.str)) := upd_same
            generalize upd H8 l9 (.lst (zs.map V.str)) = H9 at s9 e9 ⊢
            have hx : x = .str y := by cases hx1; rfl
            subst hx
            have n8' : H d8 = none := s07.free n8
            have d9 : d8 ≠ l9 := fun z => by rw [z, h9] at e8; cases e8
            refine ⟨_, rfl, _, rfl, l, _, _, _, rfl, rfl, SqL.of (s9 _ _ hl8), atI_nat (j := 0) rfl, d8, _, rfl, DPut.k (k := Sum.inr y) (s9 _ _ e8) (by rw [refK_len, sizeLine_eq]; omega), ?_⟩
            have ep : putK (refK rb) (Sum.inr y) (V.ref l9) = refK (rb ++ [(y, l9)]) := by
              rw [putK_new _ (refK_out (by rw [hG.keys]; exact hky))]
              unfold refK
              rw [List.map_append]
              rfl
            rw [ep]
            have kd : Same H8 (upd H9 d8 (.dK (refK (rb ++ [(y, l9)])))) → True := fun _ => trivial
            have s10 : Same H7 (upd H9 d8 (.dK (refK (rb ++ [(y, l9)])))) := fun b o e => by
              rw [upd_ne (ne_of_none e n8)]
              exact s9 _ _ (s8 _ _ e)
            have e10 : (upd H9 d8 (.dK (refK (rb ++ [(y, l9)])))) d8 = some (.dK (refK (rb ++ [(y, l9)]))) := upd_same
            have e11 : (upd H9 d8 (.dK (refK (rb ++ [(y, l9)])))) l9 = some (.lst (zs.map V.str)) := by rw [upd_ne d9.symm]; exact e9
            generalize upd H9 d8 (.dK (refK (rb ++ [(y, l9)]))) = H10 at s10 e10 e11 ⊢
            have s010 := s07.trans s10
            intro p1 hp1
            have s11 : Same H10 (upd H10 p1 (.dK [])) := same_new hp1
            refine ⟨_, rfl, _, rfl, upd_same, [(kR, V.ref d8), (kU, V.ref u)], rfl, by show 2 ≤ 15; decide, by show 2 ≤ sizeLine; decide, fun t ht => ?_⟩
            rw [two_merge] at ht ⊢
            have kk : Same H10 (upd (upd H10 p1 (.dK [])) p1 (.dK [(kR, V.ref d8), (kU, V.ref u)])) := fun b o e => by
              rw [upd_ne (ne_of_none e hp1), upd_ne (ne_of_none e hp1)]
              exact e
            have h1 : (upd (upd H10 p1 (.dK [])) p1 (.dK [(kR, V.ref d8), (kU, V.ref u)])) p1 = some (.dK [(kR, V.ref d8), (kU, V.ref u)]) := upd_same
            generalize upd (upd H10 p1 (.dK [])) p1 (.dK [(kR, V.ref d8), (kU, V.ref u)]) = H11 at kk h1 ht ⊢
            have s12 : Same H11 (upd H11 t (.tup [.non, .ref p1])) := same_new ht
            have sA := (s010.trans kk).trans s12
            refine q _ _ sA ⟨t, p1, .non, rfl, SqT.of upd_same, ?_, ?_⟩
            · show DueV K _ _ (dueO (newE p (.nm y) (zs.map Arg.nm)))
              rw [hE]
              exact .no
            · show PlM ok _ p1 (plO p (newE p (.nm y) (zs.map Arg.nm)))
              rw [hE]
              have sB := kk.trans s12
              refine ⟨d8, u, rb ++ [(y, l9)], ⟨s12 _ _ h1, .inl (sB _ _ e10), pair_snoc (Paired.mapP hG.e fun _ _ z => ⟨z.1, sA _ _ z.2⟩) ⟨rfl, sB _ _ e11⟩, sA _ _ hG.u⟩, sB _ _ e10, hfr _ (s010.free hp1), hfr _ n8', o3, fun z hz => ?_⟩
              rcases List.mem_append.mp hz with m | m
              · exact o4 z m
              · rw [List.mem_singleton.mp m]
                exact hfr _ (s08.free h9)
    | n + 2, h => exact absurd h (by omega)
end
end Bo
set_option Elab.async false
set_option linter.all false
set_option maxRecDepth 100000
set_option maxHeartbeats 8000000
namespace Bo
open PySem PySem.Spec PyProof.Rows L2
abbrev scIn : Scope := ⟨.function, [(".0", .local), ("_law_name", .local), ("_law_left", .cell), ("_law_rows", .cell)], false, false, []⟩
def spEdited (K : PySem.W.Frag) : Sp := fun vs H Q _ => ∃ (ok : Addr → Prop) (pl q : Addr) (p : Pl) (j : Nat) (xs : List V) (as : List Arg) (e : Ed), vs = [.ref pl, .ref q] ∧ mkEd j as = some e ∧ (∀ q, H q = none → ok q) ∧ PlM ok H pl p ∧ PlWf p ∧ SqT K H q (.str (wordS j) :: xs) ∧ Paired (AV K H) xs as ∧ (∀ x ∈ as, ArgOk x) ∧ xs.length ≤ 900 ∧
  ∀ v H', Same H H' → EdOutM K ok H' v p (edP p e) → Q v H'
theorem lackO_one (p : Pl) (b : Bool) (a : Arg) : lackO p [(b, a)] = if a.inT (if b then p.keys else p.us) = true then none else some (2, itemD (itK b) a) := by
  unfold lackO
  rw [List.find?_cons]
  show (match !a.inT (if b then p.keys else p.us) with | true => _ | false => _ : Option Itm).map _ = _
  cases a.inT (if b = true then p.keys else p.us) <;> rfl
def leftU (p : Pl) (a : Arg) : List Str := match lackO p [(false, a)] with
  | some _ => p.us
  | none => p.us.filter fun z => !decide (V.str z = (match a with | .nm y => V.str y | .od _ => V.non))
def cutRows (p : Pl) (L : List Str) : Pl := ⟨p.rows.map fun r => (r.1, r.2.filter fun z => decide (z ∈ L)), L⟩
theorem filter_same {α : Type} {g h : α → Bool} : ∀ {l : List α}, (∀ x ∈ l, g x = h x) → l.filter g = l.filter h
  | [], _ => rfl
  | x :: l, e => by
    rw [List.filter_cons, List.filter_cons, e x List.mem_cons_self, filter_same fun z hz => e z (List.mem_cons_of_mem _ hz)]
theorem rmU_facts {p : Pl} (hw : PlWf p) (a : Arg) : dueO (edP p (.rmU a)) = lackO p [(false, a)] ∧ plO p (edP p (.rmU a)) = cutRows p (leftU p a) := by
  have bad : ∀ {er : Er}, lackO p [(false, a)] = some er → edP p (.rmU a) = .error er → dueO (edP p (.rmU a)) = lackO p [(false, a)] ∧ plO p (edP p (.rmU a)) = cutRows p (leftU p a) := fun {er} h1 h2 => by
    rw [h1, h2]
    refine ⟨rfl, ?_⟩
    show p = _
    unfold cutRows leftU
    rw [h1]
    have e : (p.rows.map fun r => (r.1, r.2.filter fun z => decide (z ∈ p.us))) = p.rows := by
      have : ∀ {rows : List (Str × List Str)}, (∀ row ∈ rows, ∀ x ∈ row.2, x ∈ p.us) → (rows.map fun r => (r.1, r.2.filter fun z => decide (z ∈ p.us))) = rows := by
        intro rows h
        induction rows with
        | nil => rfl
        | cons r rows ih =>
          rw [List.map_cons, ih fun row hr => h row (List.mem_cons_of_mem _ hr), List.filter_eq_self.mpr fun x hx => decide_eq_true (h r List.mem_cons_self x hx)]
      exact this fun row hr => (hw.r row hr).2
    show p = ⟨p.rows.map fun r => (r.1, r.2.filter fun z => decide (z ∈ p.us)), p.us⟩
    rw [e]
  have e0 := lackO_one p false a
  cases a with
  | od d => exact bad (er := (2, itemD kUn (.od d))) e0 rfl
  | nm y =>
    by_cases hy : y ∈ p.us
    · have e1 : lackO p [(false, .nm y)] = none := by rw [e0]; exact if_pos (decide_eq_true hy)
      have e2 : edP p (.rmU (.nm y)) = .ok { rows := p.rows.map fun r => (r.1, r.2.filter fun z => !decide (z = y)), us := p.us.filter fun z => !decide (z = y) } := by
        show (if y ∈ p.us then _ else _) = _
        rw [if_pos hy]
      rw [e1, e2]
      refine ⟨rfl, ?_⟩
      unfold cutRows leftU
      rw [e1]
      have q : ∀ z : Str, (!decide (V.str z = V.str y)) = !decide (z = y) := fun z => by
        by_cases e : z = y
        · rw [e, decide_eq_true rfl, decide_eq_true rfl]
        · rw [decide_eq_false e, decide_eq_false fun w => e (V.str.inj w)]
      have e3 : (p.us.filter fun z => !decide (V.str z = V.str y)) = p.us.filter fun z => !decide (z = y) := filter_same fun z _ => q z
      show Pl.mk _ _ = ⟨p.rows.map fun r => (r.1, r.2.filter fun z => decide (z ∈ p.us.filter fun z => !decide (V.str z = V.str y))), p.us.filter fun z => !decide (V.str z = V.str y)⟩
      rw [e3]
      congr 1
      refine List.map_congr_left fun r hr => ?_
      rw [filter_same fun z hz => ?_]
      have hzu := (hw.r r hr).2 z hz
      by_cases e : z = y
      · rw [e, decide_eq_true rfl, decide_eq_false]
        · rfl
        · intro m
          have := (List.mem_filter.mp m).2
          rw [decide_eq_true rfl] at this
          cases this
      · rw [decide_eq_false e, decide_eq_true]
        · rfl
        · refine List.mem_filter.mpr ⟨hzu, ?_⟩
          rw [decide_eq_false e]
          rfl
    · have e1 : lackO p [(false, .nm y)] = some (2, itemD kUn (.nm y)) := by rw [e0]; exact if_neg (by show ¬ decide (y ∈ p.us) = true; rw [decide_eq_false hy]; decide)
      exact bad e1 (by show (if y ∈ p.us then _ else _) = _; rw [if_neg hy])
theorem pair_comp {A B C' : Type} {F : A → B → Prop} {G : B → C' → Prop} : ∀ {l : List A} {m : List B} {n : List C'}, Paired F l m → Paired G m n → Paired (fun a c => ∃ b, b ∈ m ∧ F a b ∧ G b c) l n
  | _, _, _, .nil, .nil => .nil
  | _, _, _, .cons h t, .cons g r => .cons ⟨_, List.mem_cons_self, h, g⟩ (Paired.mapP (pair_comp t r) fun _ _ ⟨b, hb, x⟩ => ⟨b, List.mem_cons_of_mem _ hb, x⟩)
theorem pair_mapL {A B C' : Type} {F : A → B → Prop} {G : C' → B → Prop} {f : A → C'} : ∀ {l : List A} {m : List B}, Paired F l m → (∀ a b, a ∈ l → F a b → G (f a) b) → Paired G (l.map f) m
  | _, _, .nil, _ => .nil
  | _, _, .cons h t, k => .cons (k _ _ List.mem_cons_self h) (pair_mapL t fun a b ha z => k a b (List.mem_cons_of_mem _ ha) z)
theorem pair_memR {A B : Type} {F : A → B → Prop} : ∀ {l : List A} {m : List B} {b : B}, Paired F l m → b ∈ m → ∃ a, a ∈ l ∧ F a b
  | _, _, _, .cons h t, hb => (List.mem_cons.mp hb).elim (fun e => ⟨_, List.mem_cons_self, by rw [e]; exact h⟩) fun e => let ⟨a, h1, h2⟩ := pair_memR t e; ⟨a, List.mem_cons_of_mem _ h1, h2⟩
theorem lackO_two (p : Pl) (a b : Arg) : lackO p [(true, a), (false, b)] = match chkN p a b with | .error er => some er | .ok _ => none := by
  have h1 : lackO p [(true, a), (false, b)] = if a.inT p.keys = true then lackO p [(false, b)] else some (2, itemD kEq a) := by
    unfold lackO
    rw [List.find?_cons]
    show (match !a.inT p.keys with | true => _ | false => _ : Option Itm).map _ = _
    cases a.inT p.keys <;> rfl
  rw [h1, lackO_one]
  unfold chkN
  cases a with
  | od d => rfl
  | nm y =>
    by_cases hy : y ∈ p.keys
    · rw [if_pos (show (Arg.nm y).inT p.keys = true from decide_eq_true hy)]
      cases b with
      | od d => dsimp only; rw [if_pos hy]; rfl
      | nm z =>
        dsimp only
        rw [if_pos hy]
        by_cases hz : z ∈ p.us
        · rw [if_pos hz]; exact if_pos (decide_eq_true hz)
        · rw [if_neg hz]; exact if_neg (by show ¬ decide (z ∈ p.us) = true; rw [decide_eq_false hz]; decide)
    · rw [if_neg (show ¬ (Arg.nm y).inT p.keys = true from by show ¬ decide (y ∈ p.keys) = true; rw [decide_eq_false hy]; decide)]
      cases b with
      | od d => dsimp only; rw [if_neg hy]
      | nm z => dsimp only; rw [if_neg hy]
theorem lack_ed {p : Pl} {a : Arg} {ar : List Arg} {j : Nat} {e : Ed} (hmk : mkEd j (a :: ar) = some e) (hj : j = 2 ∨ j = 3 ∨ j = 4) :
    (∀ er, lackO p ((true, a) :: ar.map fun u => (false, u)) = some er → edP p e = .error er) ∧ (lackO p ((true, a) :: ar.map fun u => (false, u)) = none → ∃ y, a = .nm y ∧ y ∈ p.keys ∧
      ((j = 4 ∧ ar = [] ∧ edP p e = .ok { p with rows := dropRow p.rows y }) ∨ ∃ z, ar = [.nm z] ∧ z ∈ p.us ∧
        ((j = 2 ∧ edP p e = if z ∈ rowOf p.rows y then .error (3, .tuple [.str y, .str z]) else .ok { p with rows := setRow p.rows y (rowOf p.rows y ++ [z]) }) ∨
         (j = 3 ∧ edP p e = if z ∈ rowOf p.rows y then .ok { p with rows := setRow p.rows y ((rowOf p.rows y).filter fun x => !decide (x = z)) } else .error (4, .tuple [.str y, .str z]))))) := by
  have two : ∀ {b : Arg}, ar = [b] → (∀ er, lackO p ((true, a) :: ar.map fun u => (false, u)) = some er → chkN p a b = .error er) ∧ (lackO p ((true, a) :: ar.map fun u => (false, u)) = none → ∃ q, chkN p a b = .ok q) := fun {b} h => by
    subst h
    show (∀ er, lackO p [(true, a), (false, b)] = some er → _) ∧ (lackO p [(true, a), (false, b)] = none → _)
    rw [lackO_two]
    cases chkN p a b with
    | error er => exact ⟨fun er' z => by cases z; rfl, fun z => by cases z⟩
    | ok q => exact ⟨fun er' z => by (cases z), fun _ => ⟨q, rfl⟩⟩
  rcases hj with rfl | rfl | rfl
  · match ar, hmk with
    | [b], hmk =>
      cases hmk
      obtain ⟨t1, t2⟩ := two rfl
      refine ⟨fun er h => by show (match chkN p a b with | .error er => _ | .ok (y, x) => _) = _; rw [t1 er h], fun h => ?_⟩
      obtain ⟨⟨y, z⟩, hq⟩ := t2 h
      obtain ⟨rfl, rfl, h1, h2⟩ := chkN_args hq
      refine ⟨y, rfl, h1, .inr ⟨z, rfl, h2, .inl ⟨rfl, ?_⟩⟩⟩
      show (match chkN p (.nm y) (.nm z) with | .error er => _ | .ok (y, x) => _) = _
      rw [hq]
  · match ar, hmk with
    | [b], hmk =>
      cases hmk
      obtain ⟨t1, t2⟩ := two rfl
      refine ⟨fun er h => by show (match chkN p a b with | .error er => _ | .ok (y, x) => _) = _; rw [t1 er h], fun h => ?_⟩
      obtain ⟨⟨y, z⟩, hq⟩ := t2 h
      obtain ⟨rfl, rfl, h1, h2⟩ := chkN_args hq
      refine ⟨y, rfl, h1, .inr ⟨z, rfl, h2, .inr ⟨rfl, ?_⟩⟩⟩
      show (match chkN p (.nm y) (.nm z) with | .error er => _ | .ok (y, x) => _) = _
      rw [hq]
  · match ar, hmk with
    | [], hmk =>
      cases hmk
      show (∀ er, lackO p [(true, a)] = some er → _) ∧ (lackO p [(true, a)] = none → _)
      rw [lackO_one]
      cases a with
      | od d => exact ⟨fun er z => by cases z; rfl, fun z => by cases z⟩
      | nm y =>
        by_cases hy : y ∈ p.keys
        · rw [if_pos (show (Arg.nm y).inT (if true = true then p.keys else p.us) = true from decide_eq_true hy)]
          exact ⟨fun er z => by (cases z), fun _ => ⟨y, rfl, hy, .inl ⟨rfl, rfl, if_pos hy⟩⟩⟩
        · rw [if_neg (show ¬ (Arg.nm y).inT (if true = true then p.keys else p.us) = true from by show ¬ decide (y ∈ p.keys) = true; rw [decide_eq_false hy]; decide)]
          exact ⟨fun er z => by cases z; exact if_neg hy, fun z => by cases z⟩
theorem refK_dropK {y : Str} (l : List (Str × Addr)) : dropK (refK l) (Sum.inr y) = refK (dropRow l y) := by
  unfold dropK refK
  rw [← drop_map]
  refine filter_same fun q _ => ?_
  by_cases e : q.1 = Sum.inr y
  · rw [decide_eq_true e, decide_eq_false fun z => z e]; rfl
  · rw [decide_eq_false e, decide_eq_true e]; rfl
theorem pair_dropS {F : (Str × List Str) → (Str × Addr) → Prop} {y : Str} (h1 : ∀ p q, F p q → p.1 = q.1) : ∀ {l : List (Str × List Str)} {m : List (Str × Addr)}, Paired F l m → Paired F (dropRow l y) (dropRow m y)
  | _, _, .nil => .nil
  | _, _, .cons (a := p) (b := q) h t => by
    have e := h1 p q h
    have ih := pair_dropS (y := y) h1 t
    unfold dropRow at ih ⊢
    rw [List.filter_cons, List.filter_cons]
    show Paired F (if (!decide (p.1 = y)) = true then _ else _) (if (!decide (q.1 = y)) = true then _ else _)
    rw [e]
    split
    · exact .cons h ih
    · exact ih
theorem pair_setS {F : (Str × List Str) → (Str × Addr) → Prop} {y : Str} {r : List Str} {d : Addr} (h1 : ∀ p q, F p q → p.1 = q.1) (h2 : F (y, r) (y, d)) : ∀ {l : List (Str × List Str)} {m : List (Str × Addr)}, Paired F l m → Paired F (setRow l y r) (setRow m y d)
  | _, _, .nil => .nil
  | _, _, .cons (a := p) (b := q) h t => by
    have e := h1 p q h
    have ih := pair_setS (y := y) (r := r) (d := d) h1 h2 t
    unfold setRow at ih ⊢
    rw [List.map_cons, List.map_cons]
    by_cases z : p.1 = y
    · rw [if_pos z, if_pos (e ▸ z)]
      refine .cons ?_ ih
      rw [z, show q.1 = y from e ▸ z]
      exact h2
    · rw [if_neg z, if_neg fun w => z (e.trans w)]
      exact .cons h ih
theorem setRow_memA {y : Str} {r : Addr} {q : Str × Addr} : ∀ {rows : List (Str × Addr)}, q ∈ setRow rows y r → q ∈ rows ∨ q.2 = r
  | p :: rows, h => by
    unfold setRow at h
    rw [List.map_cons] at h
    rcases List.mem_cons.mp h with e | e
    · by_cases z : p.1 = y
      · rw [if_pos z] at e
        exact .inr (by rw [e])
      · rw [if_neg z] at e
        exact .inl (by rw [e]; exact List.mem_cons_self)
    · rcases setRow_memA (y := y) (r := r) (rows := rows) e with z | z
      · exact .inl (List.mem_cons_of_mem _ z)
      · exact .inr z
section
variable {P : Program} {w : World} {K : PySem.W.Frag} {mg : Str → Option Value} {base : Heap}
theorem ok_edited {f fA fL : Addr} {fd fdA fdL : FuncData} (F : Fun K "_law_edited" "_law_edited" sEdited f fd) (hl : mg "list" = none) (hdict : mg "dict" = none)
    (GA : FnOk P w K mg base CX0 3 fA fdA ["_law_plain", "_law_word", "_law_parts"] (spAdded K)) (mA : mg "_law_added" = some (.ref fA)) (kA : PySem.W.keepIn K (.ref fA) = true) (bA : Binds K fdA ["_law_plain", "_law_word", "_law_parts"] [])
    (GL : FnOk P w K mg base CX0 1 fL fdL ["_law_plain", "_law_items"] (spLack K)) (mL : mg "_law_lacking" = some (.ref fL)) (kL : PySem.W.keepIn K (.ref fL) = true) (bL : Binds K fdL ["_law_plain", "_law_items"] []) :
    FnOk P w K mg base CX0 4 f fd ["_law_plain", "_law_edit"] (spEdited K) := by
  refine F.ok scEdited (fun vs H Q E h => ?_) (fun cdv A outer s H vs Q E hr h => ?_)
  · obtain ⟨ok, pl, q, p, j, xs, as, e, rfl, _⟩ := h
    rfl
  · obtain ⟨ok, pl, eq, p, j, xs, as, e, rfl, hmk, hfr, ⟨r, u, ra, hG, hrd, o1, o2, o3, o4⟩, hw, hq, hav, hok, hxl, q⟩ := h
    have hu := hu_of hr
    have hr1 : Room 1 _ := hr.mono (by decide)
    have hu1 : (A.deeper (PyProof.Rows.envOfC "_law_edited" (defScope sEdited) s.heap.objs.size f cdv)).units + 1 < cLine := by have := hr.un; omega
    have hu64 : (A.deeper (PyProof.Rows.envOfC "_law_edited" (defScope sEdited) s.heap.objs.size f cdv)).units + 64 < cLine := by have := hr.un; omega
    refine ⟨_, pss_cons (ps_asg (pe_tup (pa_cons (pe_ix ix_tup (pv 1) pe_int (fun _ _ => rfl)) (pa_cons (pe_callTy call_list_of (by rfl) hl (by decide +kernel) (pa_cons (pe_slice sl_tupA (pv 1) (po_some pe_int) po_none) pa_nil)) pa_nil))) (pg_tup (by rfl) (pgs_cons (pg_name (i := 2) scEdited.nd rfl (.inl rfl)) (pgs_cons (pg_name (i := 3) scEdited.nd rfl (.inr rfl)) pgs_nil))))
      (pss_cons (ps_asg (pe_tup (pa_cons (pe_dget hu (pv 0) pe_str (fun _ _ => rfl)) (pa_cons (pe_dget hu (pv 0) pe_str (fun _ _ => rfl)) pa_nil))) (pg_tup (by rfl) (pgs_cons (pg_name (i := 4) scEdited.nd rfl (.inr rfl)) (pgs_cons (pg_name (i := 5) scEdited.nd rfl (.inl rfl)) pgs_nil))))
      (pss_cons (ps_if (pt_cmpR op_in_seq (pv 2) (pe_tup (pa_cons pe_str (pa_cons pe_str pa_nil))) (by rfl)) (pss_one (ps_ret (pe_call GA hr rfl mA kA bA .nil pass0 (pa_cons (pv 0) (pa_cons (pv 2) (pa_cons (pv 3) pa_nil)))))) pss_nil)
      (pss_cons (ps_if (pt_cmpR op_eq (pv 2) pe_str (nomark _))
        (pss_cons (ps_set (i := 6) scEdited.nd rfl (.inr rfl) (pe_call GL hr1 rfl mL kL bL .nil pass0 (pa_cons (pv 0) (pa_cons (pe_lst (pa_cons (pe_tup (pa_cons pe_str (pa_cons (pe_ix ix_list (pv 3) pe_int (fun _ _ => rfl)) pa_nil))) pa_nil)) pa_nil))))
        (pss_cons (ps_set (i := 7) scEdited.nd rfl (.inr rfl) (pe_lc (own := [("_law_name", 11)]) (g := gName 11) rfl scEdited.nd (pi_list (pv 5)) (blkOk_by (N := nEdt) (sc := defScope sEdited) (by decide +kernel)) (fun _ _ _ _ _ => pg_name (i := 11) scEdited.nd rfl (Or.inl rfl))
            (fun _ _ _ _ _ => pts_one (PW.pt (pw_or (pt_cmp (pc_notN (pv 6))) (pw_or1 (pt_cmpR op_ne (pv 11) (pe_ix (r := rIxL K) ix_list (pv 3) pe_int (fun _ _ => rfl)) (nomark _)))))) (fun _ _ _ _ _ => pv 11)))
        (pss_cons (ps_set (i := 8) scEdited.nd rfl (.inl rfl) (pe_callTy (call_dictP rfl) (by rfl) hdict (by decide +kernel) (pa_cons (pe_lock (pe_lc (own := [("_law_name", 11)]) (g := gName 11) (tt := tYes) (te := tTup (tCons (tVar 11) (tCons (tLc (iList K (tDGet (tVar 4) (tVar 11))) (gName 12) (tTest (tOp (rInA K false) (tVar 12) (tVar 7))) (tVar 12) [12]) tNil))) rfl scEdited.nd (pi_keys (pv 4)) (blkOk_by (N := nEdt) (sc := defScope sEdited) (by decide +kernel)) (fun _ _ _ _ _ => pg_name (i := 11) scEdited.nd rfl (Or.inl rfl)) (fun _ _ _ _ _ => pts_nil)
            (fun _ _ _ _ _ => pe_tup (pa_cons (pv 11) (pa_cons (pe_lc (own := [("_law_one", 12)]) (g := gName 12) rfl scEdited.nd (pi_list (pe_dget hu (pv 4) (pv 11) (fun _ _ => rfl))) (blkOk_by (N := nEdt) (sc := scIn) (by decide +kernel)) (fun _ _ _ _ _ => pg_name (i := 12) scEdited.nd rfl (Or.inl rfl)) (fun _ _ _ _ _ => pts_one (pt_cmpR (op_inA hu64) (pv 12) (pv 7) (by rfl))) (fun _ _ _ _ _ => pv 12)) pa_nil))))) pa_nil)))
        (pss_one (ps_ret (pe_tup (pa_cons (pv 6) (pa_cons (pe_disp (pps_cons pe_str (pv 8) (pps_cons pe_str (pv 7) pps_nil)) (by rfl) (by rfl) (fun z => by cases z) (by decide)) pa_nil)))))))) pss_nil)
      (pss_cons (ps_set (i := 9) scEdited.nd rfl (.inl rfl) (pe_op op_cat (pe_lst (pa_cons (pe_tup (pa_cons pe_str (pa_cons (pe_ix ix_list (pv 3) pe_int (fun _ _ => rfl)) pa_nil))) pa_nil))
          (pe_lc (own := [("_law_one", 12)]) (g := gName 12) (tt := tYes) (te := tTup (tCons (tC (V.str "unknown")) (tCons (tVar 12) tNil))) rfl scEdited.nd (pi_list (pe_slice sl_list (pv 3) (po_some pe_int) po_none)) (blkOk_by (N := nEdt) (sc := defScope sEdited) (by decide +kernel)) (fun _ _ _ _ _ => pg_name (i := 12) scEdited.nd rfl (Or.inl rfl)) (fun _ _ _ _ _ => pts_nil) (fun _ _ _ _ _ => pe_tup (pa_cons pe_str (pa_cons (pv 12) pa_nil))))))
      (pss_cons (ps_asg (pe_tup (pa_cons (pe_call GL hr1 rfl mL kL bL .nil pass0 (pa_cons (pv 0) (pa_cons (pv 9) pa_nil))) (pa_cons (pe_callTy (call_dictP rfl) (by rfl) hdict (by decide +kernel) (pa_cons (pe_lock (pe_lc (own := [("_law_name", 11)]) (g := gName 11) (tt := tYes) (te := tTup (tCons (tVar 11) (tCons (tDGet (tVar 4) (tVar 11)) tNil))) rfl scEdited.nd (pi_keys (pv 4)) (blkOk_by (N := nEdt) (sc := defScope sEdited) (by decide +kernel)) (fun _ _ _ _ _ => pg_name (i := 11) scEdited.nd rfl (Or.inl rfl)) (fun _ _ _ _ _ => pts_nil) (fun _ _ _ _ _ => pe_tup (pa_cons (pv 11) (pa_cons (pe_dget hu (pv 4) (pv 11) (fun _ _ => rfl)) pa_nil))))) pa_nil)) pa_nil)))
          (pg_tup (by rfl) (pgs_cons (pg_name (i := 6) scEdited.nd rfl (.inr rfl)) (pgs_cons (pg_name (i := 8) scEdited.nd rfl (.inl rfl)) pgs_nil))))
      (pss_cons (ps_if (pt_cmp (pc_notN (pv 6))) (pss_one (ps_ret (pe_tup (pa_cons (pv 6) (pa_cons (pv 0) pa_nil))))) pss_nil)
      (pss_cons (ps_if (pt_cmpR op_eq (pv 2) pe_str (nomark _))
        (pss_cons (ps_expr (pe_dpop1 (pv 8) (pe_ix ix_list (pv 3) pe_int (fun _ _ => rfl)) ⟨by rfl, by rfl, by rfl, by rfl⟩))
        (pss_one (ps_ret (pe_tup (pa_cons pe_non (pa_cons (pe_disp (pps_cons pe_str (pv 8) (pps_cons pe_str (pv 5) pps_nil)) (by rfl) (by rfl) (fun z => by cases z) (by decide)) pa_nil)))))) pss_nil)
      (pss_cons (ps_set (i := 10) scEdited.nd rfl (.inl rfl) (pe_cmpR (op_inA hu64) (pe_ix ix_list (pv 3) pe_int (fun _ _ => rfl)) (pe_dget hu (pv 4) (pe_ix ix_list (pv 3) pe_int (fun _ _ => rfl)) (fun _ _ => rfl)) (by rfl)))
      (pss_cons (ps_if (pt_cmpR op_eq (pv 10) (pe_cmpR op_eq (pv 2) pe_str (nomark _)) (nomark _)) (pss_one (ps_ret (pe_tup (pa_cons (pe_tup (pa_cons (pe_ifExp (pt_val (pv 10)) pe_str pe_str) (pa_cons (pe_tup (pa_cons (pe_ix ix_list (pv 3) pe_int (fun _ _ => rfl)) (pa_cons (pe_ix ix_list (pv 3) pe_int (fun _ _ => rfl)) pa_nil))) pa_nil))) (pa_cons (pv 0) pa_nil))))) pss_nil)
      (pss_cons (ps_set (i := 7) scEdited.nd rfl (.inr rfl) (pe_lc (own := [("_law_one", 12)]) (g := gName 12) rfl scEdited.nd (pi_list (pe_dget hu (pv 4) (pe_ix ix_list (pv 3) pe_int (fun _ _ => rfl)) (fun _ _ => rfl))) (blkOk_by (N := nEdt) (sc := defScope sEdited) (by decide +kernel)) (fun _ _ _ _ _ => pg_name (i := 12) scEdited.nd rfl (Or.inl rfl))
            (fun _ _ _ _ _ => pts_one (pt_cmpR op_ne (pv 12) (pe_ix (r := rIxL K) ix_list (pv 3) pe_int (fun _ _ => rfl)) (nomark _))) (fun _ _ _ _ _ => pv 12)))
      (pss_cons (ps_asg (pe_ifExp (pt_val (pv 10)) (pv 7) (pe_op op_cat (pv 7) (pe_lst (pa_cons (pe_ix ix_list (pv 3) pe_int (fun _ _ => rfl)) pa_nil)))) (pg_sub (pv 8) (pe_ix ix_list (pv 3) pe_int (fun _ _ => rfl)) (set_dict hu1)))
      (pss_one (ps_ret (pe_tup (pa_cons pe_non (pa_cons (pe_disp (pps_cons pe_str (pv 8) (pps_cons pe_str (pv 5) pps_nil)) (by rfl) (by rfl) (fun z => by cases z) (by decide)) pa_nil)))))))))))))))), ?_⟩
    refine ⟨_, rfl, eq, _, _, _, rfl, rfl, hq, atI_nat (j := 0) rfl, _, rfl, _, rfl, eq, _, rfl, hq, fun h => absurd h (cut1_no _ xs), fun _ t1 h1 => ?_⟩
    rw [cut1]
    have s1 : Same H (upd H t1 (.tup xs)) := same_new h1
    have e1 : SqT K (upd H t1 (.tup xs)) t1 xs := SqT.of upd_same
    generalize upd H t1 (.tup xs) = H1 at s1 e1 ⊢
    refine ⟨t1, _, rfl, .inr e1, fun l2 h2 => ⟨by show 2 ≤ sizeLine; decide, fun t3 h3 => ?_⟩⟩
    have s2 : Same H1 (upd H1 l2 (.lst xs)) := same_new h2
    have e2 : (upd H1 l2 (.lst xs)) l2 = some (.lst xs) := upd_same
    generalize upd H1 l2 (.lst xs) = H2 at s2 e2 h3 ⊢
    have s3 : Same H2 (upd H2 t3 (.tup [.str (wordS j), .ref l2])) := same_new h3
    have e3 : SqT K (upd H2 t3 (.tup [.str (wordS j), .ref l2])) t3 [.str (wordS j), .ref l2] := SqT.of upd_same
    generalize upd H2 t3 (.tup [.str (wordS j), .ref l2]) = H3 at s3 e3 ⊢
    refine ⟨t3, _, rfl, e3, rfl, _, _, rfl, _, _, rfl, rfl, ?_⟩
    have s13 := (s1.trans s2).trans s3
    have hG3 := hG.keep s13
    refine ⟨_, rfl, pl, _, rfl, hG3.gr, _, rfl, pl, _, rfl, hG3.gu, by show 2 ≤ sizeLine; decide, fun t0 ht0 => ?_⟩
    have s4 : Same H3 (upd H3 t0 (.tup [.ref r, .ref u])) := same_new ht0
    refine ⟨t0, _, rfl, SqT.of upd_same, rfl, _, _, rfl, _, _, rfl, rfl, ?_⟩
    generalize upd H3 t0 (.tup [.ref r, .ref u]) = H4 at s4 ⊢
    refine ⟨_, rfl, by show 2 ≤ sizeLine; decide, fun t5 h5 => ?_⟩
    have s5 : Same H4 (upd H4 t5 (.tup [.str "add_unknown", .str "add_equation"])) := same_new h5
    refine ⟨t5, _, rfl, .inr (SqT.of upd_same), rfl, rfl, _, rfl, ?_⟩
    generalize upd H4 t5 (.tup [.str "add_unknown", .str "add_equation"]) = H5 at s5 ⊢
    have sall := (s13.trans s4).trans s5
    have hG5 := hG.keep sall
    have hl5 := s5 _ _ (s4 _ _ (s3 _ _ e2))
    have hav5 := avs_keep hav sall
    have addj : j < 2 → spAdded K [.ref pl, .str (wordS j), .ref l2] H5 Q E := fun hj => ⟨ok, pl, l2, p, j, xs, as, e, rfl, hj, hmk, fun q h => hfr q (sall.free h), ⟨r, u, ra, hG5, sall _ _ hrd, o1, o2, o3, o4⟩, hw, hl5, hav5, hok, hxl, fun v H6 s6 ho => q v H6 (sall.trans s6) ho⟩
    by_cases hj : j = 2 ∨ j = 3 ∨ j = 4
    · clear addj
      have w1 : (if false = true then !inV (V.str (wordS j)) [V.str "add_unknown", V.str "add_equation"] else inV (V.str (wordS j)) [V.str "add_unknown", V.str "add_equation"]) = false := by
        rcases hj with rfl | rfl | rfl <;> decide
      rw [w1]
      refine iteF ⟨_, rfl, ?_⟩
      have w2 : ¬ V.str (wordS j) = V.str "remove_unknown" := by
        rcases hj with rfl | rfl | rfl <;> decide
      refine ⟨by rcases hj with rfl | rfl | rfl <;> rfl, _, rfl, ?_⟩
      rw [decide_eq_false w2]
      refine iteF ?_
      obtain ⟨x, xr, a, ar, rfl, rfl, hx, hxr⟩ : ∃ x xr a ar, xs = x :: xr ∧ as = a :: ar ∧ AV K H5 x a ∧ Paired (AV K H5) xr ar := by
        cases hav5 with
        | nil => rcases hj with rfl | rfl | rfl <;> cases hmk
        | cons h t => exact ⟨_, _, _, _, rfl, rfl, h, t⟩
      rw [List.length_cons] at hxl
      refine ⟨_, rfl, l2, _, _, _, rfl, rfl, SqL.of hl5, atI_nat (j := 0) rfl, by show 2 ≤ sizeLine; decide, fun t6 h6 => ⟨by show 1 ≤ sizeLine; decide, fun l7 h7 => ?_⟩⟩
      have s6 : Same H5 (upd H5 t6 (.tup [.str kEq, x])) := same_new h6
      have e6 : SqT K (upd H5 t6 (.tup [.str kEq, x])) t6 [.str (itK true), x] := SqT.of upd_same
      have s7 : Same (upd H5 t6 (.tup [.str kEq, x])) (upd (upd H5 t6 (.tup [.str kEq, x])) l7 (.lst [.ref t6])) := same_new h7
      have e6 := SqT.keep e6 s7
      have e7 : (upd (upd H5 t6 (.tup [.str kEq, x])) l7 (.lst [.ref t6])) l7 = some (.lst [.ref t6]) := upd_same
      have s57 := s6.trans s7
      have n7 : l7 ≠ l2 := fun z => by
        have := s6 _ _ hl5
        rw [← z] at this
        rw [this] at h7
        cases h7
      refine items_lc (K := K) (b := false) (nm := 12) (xs := xr) (us := ar) (by show 12 < 13; decide) (avs_keep hxr s57) (by omega) (fun Q' k => ⟨_, rfl, _, rfl, l2, _, rfl, SqL.of (s57 _ _ hl5), fun l h => ?_⟩) fun D H8 ys s8 hDn hD hit => ?_
      · rw [show cutV (x :: xr) (some 1) none = xr from cut1 x xr]
        exact k l _ (same_new h) (SqL.of upd_same)
      have s58 := s57.trans s8
      refine ⟨l7, D, _, _, rfl, rfl, s8 _ _ e7, hD, ?_, fun l9 h9 => ?_⟩
      · have := Paired.length hit
        rw [List.length_map, ← Paired.length hxr] at this
        show 1 + ys.length ≤ sizeLine
        rw [sizeLine_eq]
        omega
      have s9 : Same H8 (upd H8 l9 (.lst ([.ref t6] ++ ys))) := same_new h9
      have e9 : (upd H8 l9 (.lst ([.ref t6] ++ ys))) l9 = some (.lst (.ref t6 :: ys)) := upd_same
      generalize upd H8 l9 (.lst ([.ref t6] ++ ys)) = H9 at s9 e9 ⊢
      have s59 := s58.trans s9
      have hits : Paired (ItV K H9) (.ref t6 :: ys) ((true, a) :: ar.map fun u => (false, u)) := .cons (.mk (SqT.keep (SqT.keep e6 s8) s9) (hx.keep s59)) (Paired.mapP hit fun _ _ z => z.keep s9)
      refine ⟨_, rfl, _, rfl, pl, l9, p, _, _, rfl, ⟨r, u, ra, hG5.keep s59⟩, e9, hits, fun dv H10 s10 hd => ?_⟩
      have s010 := (sall.trans s59).trans s10
      have hr10 := s010 _ _ hrd
      have hG10 := hG.keep s010
      have nd : (ra.map (·.1)).Nodup := by rw [hG.keys]; exact hw.k
      have lra : ra.length ≤ 24 := by rw [hG.len]; exact hw.lk
      refine dict_rows (K := K) (σ := [some (.ref pl), some (.ref eq), some (.str (wordS j)), some (.ref l2), some (.ref r), some (.ref u), none, none, none, some (.ref l9), none, none, none]) (fun a d' H => d' = a.2 ∧ ∃ xs, H d' = some (.lst xs)) (sl := 4) (nm := 11) (ra := ra) (by show 11 < 13; decide) rfl (by decide) hr10 nd (by omega) (fun a ha => ?_) (fun a d' H' h => let ⟨_, xs, e⟩ := h; ⟨_, e⟩) (fun a d' D H1 H2 h b n => let ⟨e1, xs, e⟩ := h; ⟨e1, xs, b _ _ e n⟩) (fun y d od H' hm bt hr' Q2 k2 => ?_) fun d8 rb H11 s11 n11 e11 p11 => ?_
      · obtain ⟨i, hi⟩ := List.mem_iff_getElem?.mp ha
        obtain ⟨row, _, _, hd⟩ := pair_at hG10.e hi
        exact ⟨_, hd⟩
      · obtain ⟨d0, hv, hm0⟩ := refK_in (rs := ra) (y := y) (List.mem_map.mpr ⟨_, hm, rfl⟩)
        have ed : d0 = d := Option.some.inj ((lookup_of nd hm0).symm.trans (lookup_of nd hm))
        subst ed
        obtain ⟨i, hi⟩ := List.mem_iff_getElem?.mp hm
        obtain ⟨row, _, _, hd⟩ := pair_at hG10.e hi
        refine ⟨_, rfl, _, rfl, r, _, rfl, .inl ⟨_, Sum.inr y, .inr ⟨_, hr'⟩, rfl, hv.symm⟩, k2 d0 H' (Same.refl _) (.inr rfl) ⟨rfl, _, bt _ _ hd fun z => ?_⟩⟩
        rw [z, hr10] at hd
        cases hd
      obtain rfl : rb = ra := by
        have go : ∀ {ra rb : List (Str × Addr)}, Paired (fun (a b : Str × Addr) => a.1 = b.1 ∧ (b.2 = a.2 ∧ ∃ xs, H11 b.2 = some (HO.lst xs)) ∧ (H10 b.2 = none ∨ b.2 = a.2)) ra rb → rb = ra := by
          intro ra rb h
          induction h with
          | nil => rfl
          | @cons a b _ _ q _ ih => rw [ih, show b = a from Prod.ext q.1.symm q.2.1.1]
        exact go p11
      refine ⟨by show 2 ≤ sizeLine; decide, fun t12 h12 => ⟨t12, _, rfl, SqT.of upd_same, rfl, _, _, rfl, _, _, rfl, rfl, ?_⟩⟩
      have s12 : Same H11 (upd H11 t12 (.tup [dv, .ref d8])) := same_new h12
      have e12 := s12 _ _ e11
      generalize upd H11 t12 (.tup [dv, .ref d8]) = H12 at s12 e12 ⊢
      have s012 := s010.trans (s11.trans s12)
      have n8 : H d8 = none := s010.free n11
      have hd12 := hd.keep (s11.trans s12)
      obtain ⟨hE, hN⟩ := lack_ed (p := p) hmk hj
      have way : (∃ ea er, dv = .ref ea ∧ lackO p ((true, a) :: ar.map fun u => (false, u)) = some er) ∨ (dv = .non ∧ lackO p ((true, a) :: ar.map fun u => (false, u)) = none) := by
        generalize lackO p ((true, a) :: ar.map fun u => (false, u)) = o at hd12
        cases hd12 with
        | no => exact .inr ⟨rfl, rfl⟩
        | er _ _ => exact .inl ⟨_, _, rfl, rfl⟩
      rcases way with ⟨ea, er, rfl, hlk⟩ | ⟨rfl, hlk⟩
      · have he := hE er hlk
        refine ⟨_, rfl, _, rfl, iteT ⟨_, rfl, _, rfl, by show 2 ≤ sizeLine; decide, fun t ht => ?_⟩⟩
        have s13 : Same H12 (upd H12 t (.tup [.ref ea, .ref pl])) := same_new ht
        rw [hlk] at hd12
        refine q _ _ (s012.trans s13) ⟨t, pl, .ref ea, rfl, SqT.of upd_same, ?_, ?_⟩
        · rw [he]
          exact hd12.keep s13
        · rw [he]
          exact ⟨r, u, _, hG.keep (s012.trans s13), (s012.trans s13) _ _ hrd, o1, o2, o3, o4⟩
      refine ⟨_, rfl, _, rfl, iteF ?_⟩
      obtain ⟨y, rfl, hy, hcase⟩ := hN hlk
      have hxs : x = .str y := by cases hx; rfl
      subst hxs
      have hl12 := (s59.trans (s10.trans (s11.trans s12))) _ _ hl5
      obtain ⟨dy, hvy, hmy⟩ := refK_in (rs := rb) (y := y) (by rw [hG.keys]; exact hy)
      rcases hcase with ⟨rfl, rfl, he⟩ | ⟨z, rfl, hz, hcase⟩
      · refine ⟨_, rfl, rfl, _, rfl, iteT ?_⟩
        refine ⟨_, rfl, d8, rfl, ?_, _, rfl, l2, _, _, _, rfl, rfl, SqL.of hl12, atI_nat (j := 0) rfl, refK rb, Sum.inr y, _, e12, rfl, hvy, ?_⟩
        · exact .inl ⟨_, .inl e12⟩
        rw [refK_dropK]
        have s13 : Same H10 (upd H12 d8 (.dK (refK (dropRow rb y)))) := fun b o e => by
          rw [upd_ne (ne_of_none e n11)]
          exact (s11.trans s12) _ _ e
        have e13 : (upd H12 d8 (.dK (refK (dropRow rb y)))) d8 = some (.dK (refK (dropRow rb y))) := upd_same
        generalize upd H12 d8 (.dK (refK (dropRow rb y))) = H13 at s13 e13 ⊢
        have s013 := s010.trans s13
        intro p1 hp1
        refine ⟨_, rfl, _, rfl, upd_same, [(kR, V.ref d8), (kU, V.ref u)], rfl, by show 2 ≤ 15; decide, by show 2 ≤ sizeLine; decide, fun t ht => ?_⟩
        rw [two_merge] at ht ⊢
        have kk : Same H13 (upd (upd H13 p1 (.dK [])) p1 (.dK [(kR, V.ref d8), (kU, V.ref u)])) := fun b o e => by
          rw [upd_ne (ne_of_none e hp1), upd_ne (ne_of_none e hp1)]
          exact e
        have h1 : (upd (upd H13 p1 (.dK [])) p1 (.dK [(kR, V.ref d8), (kU, V.ref u)])) p1 = some (.dK [(kR, V.ref d8), (kU, V.ref u)]) := upd_same
        generalize upd (upd H13 p1 (.dK [])) p1 (.dK [(kR, V.ref d8), (kU, V.ref u)]) = H14 at kk h1 ht ⊢
        have s15 : Same H14 (upd H14 t (.tup [.non, .ref p1])) := same_new ht
        have sB := kk.trans s15
        have sA := s013.trans sB
        refine q _ _ sA ⟨t, p1, .non, rfl, SqT.of upd_same, by rw [he]; exact .no, ?_⟩
        rw [he]
        exact ⟨d8, u, dropRow rb y, ⟨s15 _ _ h1, .inl (sB _ _ e13), pair_dropS (fun _ _ z => z.1) (Paired.mapP hG.e fun _ _ z => ⟨z.1, sA _ _ z.2⟩), sA _ _ hG.u⟩, sB _ _ e13, hfr _ (s013.free hp1), hfr _ n8, o3, fun z hz => o4 z (List.mem_filter.mp hz).1⟩
      · have h23 : j = 2 ∨ j = 3 := by
          rcases hcase with ⟨h, _⟩ | ⟨h, _⟩
          · exact .inl h
          · exact .inr h
        obtain ⟨x2, rfl⟩ : ∃ x2, xr = [x2] := by
          cases hxr with
          | cons h t => cases t; exact ⟨_, rfl⟩
        have hx2 : AV K H5 x2 (.nm z) := by
          cases hxr with
          | cons h t => exact h
        have hx2' : x2 = .str z := by cases hx2; rfl
        subst hx2'
        have w3 : ¬ V.str (wordS j) = V.str "remove_equation" := by
          rcases h23 with rfl | rfl <;> decide
        refine ⟨_, rfl, by rcases h23 with rfl | rfl <;> rfl, _, rfl, ?_⟩
        rw [decide_eq_false w3]
        refine iteF ?_
        have hG12 := hG.keep s012
        obtain ⟨i, hi⟩ := List.mem_iff_getElem?.mp hmy
        obtain ⟨⟨y', row⟩, hrow, hy', hdy⟩ := pair_at hG12.e hi
        have hy' : y' = y := hy'
        subst hy'
        have hmr := List.mem_of_getElem? hrow
        have erow : rowOf p.rows y' = row := by unfold rowOf; rw [lookup_of hw.k hmr]; rfl
        rw [erow] at hcase
        have hlz : z.length ≤ 1000 := name_len (hw.nu z hz)
        have ix0 : ∀ {H' : Hp} {σ : L2.St} {Q' : VK}, Same H12 H' → σ[3]? = some (some (.ref l2)) → Q' (.str y') H' → tOp (rIxL K) (tVar 3) (tC (V.int 0)) σ H' Q' := fun {H' σ Q'} s e k => ⟨_, e, l2, _, _, _, rfl, rfl, SqL.of (s _ _ hl12), atI_nat (j := 0) rfl, k⟩
        have ix1 : ∀ {H' : Hp} {σ : L2.St} {Q' : VK}, Same H12 H' → σ[3]? = some (some (.ref l2)) → Q' (.str z) H' → tOp (rIxL K) (tVar 3) (tC (V.int 1)) σ H' Q' := fun {H' σ Q'} s e k => ⟨_, e, l2, _, _, _, rfl, rfl, SqL.of (s _ _ hl12), atI_nat (j := 1) rfl, k⟩
        have dgy : ∀ {H' : Hp}, Same H12 H' → DGet H' r (V.str y') (some (V.ref dy)) := fun {H'} s => .inl ⟨_, Sum.inr y', .inl (s _ _ (s012 _ _ hrd)), rfl, hvy.symm⟩
        refine ix1 (Same.refl _) rfl ⟨_, rfl, ix0 (Same.refl _) rfl ⟨r, _, rfl, dgy (Same.refl _), dy, row, .nm z, rfl, .inl (SqL.of hdy), .nm hlz, ?_⟩⟩
        have hb : (if false = true then !Arg.inT row (.nm z) else Arg.inT row (.nm z)) = decide (z ∈ row) := rfl
        rw [hb]
        have er : ∀ (k : Nat) (wd : Str), wd = erWord k → k = 3 ∨ k = 4 → edP p e = .error (k, .tuple [.str y', .str z]) → ∀ (t1 t2 t3 : Addr), H12 t1 = none → (upd H12 t1 (.tup [.str y', .str z])) t2 = none → (upd (upd H12 t1 (.tup [.str y', .str z])) t2 (.tup [.str wd, .ref t1])) t3 = none →
            Q (.ref t3) (upd (upd (upd H12 t1 (.tup [.str y', .str z])) t2 (.tup [.str wd, .ref t1])) t3 (.tup [.ref t2, .ref pl])) := fun k wd hwd hk hed t1 t2 t3 a1 a2 a3 => by
          subst hwd
          have z1 : Same H12 (upd H12 t1 (.tup [.str y', .str z])) := same_new a1
          have q1 : SqT K (upd H12 t1 (.tup [.str y', .str z])) t1 [.str y', .str z] := SqT.of upd_same
          generalize upd H12 t1 (.tup [.str y', .str z]) = G1 at z1 q1 a2 a3 ⊢
          have z2 : Same G1 (upd G1 t2 (.tup [.str (erWord k), .ref t1])) := same_new a2
          have q2 : SqT K (upd G1 t2 (.tup [.str (erWord k), .ref t1])) t2 [.str (erWord k), .ref t1] := SqT.of upd_same
          generalize upd G1 t2 (.tup [.str (erWord k), .ref t1]) = G2 at z2 q2 a3 ⊢
          have z3 : Same G2 (upd G2 t3 (.tup [.ref t2, .ref pl])) := same_new a3
          have sA := s012.trans ((z1.trans z2).trans z3)
          refine q _ _ sA ⟨t3, pl, .ref t2, rfl, SqT.of upd_same, ?_, ?_⟩
          · rw [hed]
            exact .er (er := (k, .tuple [.str y', .str z])) (SqT.keep q2 z3) (fl_two (SqT.keep (SqT.keep q1 z2) z3))
          · rw [hed]
            exact ⟨r, u, _, hG.keep sA, sA _ _ hrd, o1, o2, o3, o4⟩
        have fin : ∀ (l : Addr) (zs : List Str) (Hc : Hp), Same H12 Hc → H12 l = none → Hc l = some (.lst (zs.map V.str)) → edP p e = .ok { p with rows := setRow p.rows y' zs } → (∀ q o, H10 q = some o → (upd Hc d8 (.dK (refK (setRow rb y' l)))) q = some o) → ∀ (p1 : Addr), (upd Hc d8 (.dK (refK (setRow rb y' l)))) p1 = none → ∀ t : Addr, (upd (upd (upd Hc d8 (.dK (refK (setRow rb y' l)))) p1 (.dK [])) p1 (.dK [(kR, V.ref d8), (kU, V.ref u)])) t = none →
            Q (.ref t) (upd (upd (upd (upd Hc d8 (.dK (refK (setRow rb y' l)))) p1 (.dK [])) p1 (.dK [(kR, V.ref d8), (kU, V.ref u)])) t (.tup [.non, .ref p1])) := fun l zs Hc sc hn hl hed s13 p1 hp1 t ht => by
          have ld : l ≠ d8 := fun w => by rw [w, e12] at hn; cases hn
          have e13 : (upd Hc d8 (.dK (refK (setRow rb y' l)))) d8 = some (.dK (refK (setRow rb y' l))) := upd_same
          have l13 : (upd Hc d8 (.dK (refK (setRow rb y' l)))) l = some (.lst (zs.map V.str)) := by rw [upd_ne ld]; exact hl
          generalize upd Hc d8 (.dK (refK (setRow rb y' l))) = H13 at s13 e13 l13 hp1 ht ⊢
          have s013 := s010.trans s13
          have kk : Same H13 (upd (upd H13 p1 (.dK [])) p1 (.dK [(kR, V.ref d8), (kU, V.ref u)])) := fun b o e => by
            rw [upd_ne (ne_of_none e hp1), upd_ne (ne_of_none e hp1)]
            exact e
          have h1 : (upd (upd H13 p1 (.dK [])) p1 (.dK [(kR, V.ref d8), (kU, V.ref u)])) p1 = some (.dK [(kR, V.ref d8), (kU, V.ref u)]) := upd_same
          generalize upd (upd H13 p1 (.dK [])) p1 (.dK [(kR, V.ref d8), (kU, V.ref u)]) = H14 at kk h1 ht ⊢
          have s15 : Same H14 (upd H14 t (.tup [.non, .ref p1])) := same_new ht
          have sB := kk.trans s15
          have sA := s013.trans sB
          refine q _ _ sA ⟨t, p1, .non, rfl, SqT.of upd_same, by rw [hed]; exact .no, ?_⟩
          rw [hed]
          refine ⟨d8, u, setRow rb y' l, ⟨s15 _ _ h1, .inl (sB _ _ e13), pair_setS (fun _ _ z => z.1) ⟨rfl, sB _ _ l13⟩ (Paired.mapP hG.e fun _ _ z => ⟨z.1, sA _ _ z.2⟩), sA _ _ hG.u⟩, sB _ _ e13, hfr _ (s013.free hp1), hfr _ n8, o3, fun z hz => ?_⟩
          rcases setRow_memA hz with m | m
          · exact o4 z m
          · rw [m]
            exact hfr _ (s012.free hn)
        have hky : y' ∈ rb.map (·.1) := by rw [hG.keys]; exact hy
        have put13 : ∀ {Hc : Hp} (l : Addr), Same H12 Hc → ∀ q o, H10 q = some o → (upd Hc d8 (.dK (refK (setRow rb y' l)))) q = some o := fun {Hc} l sc b o e => by
          rw [upd_ne (ne_of_none e n11)]
          exact sc _ _ ((s11.trans s12) _ _ e)
        have hlr : row.length ≤ 24 := hw.row hmr
        have cutL : ∀ (Q' : VK) (σ : L2.St), σ[4]? = some (some (.ref r)) → σ[3]? = some (some (.ref l2)) → σ.length = 13 → ((wipe σ [12]).length = 13) → (∀ D H', Same H12 H' → H12 D = none → H' D = some (.lst ((row.filter fun x => !decide (x = z)).map V.str)) → Q' (.ref D) H') →
            tLc (iList K (tDGet (tVar 4) (tOp (rIxL K) (tVar 3) (tC (V.int 0))))) (gName 12) (tTest (tOp rNe (tVar 12) (tOp (rIxL K) (tVar 3) (tC (V.int 1))))) (tVar 12) [12] σ H12 Q' := fun Q' σ g4 g3 gl gw k => by
          refine filt_lc (K := K) (nm := 12) (zs := row) (fun x => !decide (x = z)) (by rw [gl]; decide) (Nat.le_trans hlr (by decide)) (fun Q2 k2 => ⟨_, g4, ix0 (Same.refl _) g3 ⟨r, _, rfl, dgy (Same.refl _), k2 dy H12 (Same.refl _) (SqL.of hdy)⟩⟩) (fun x H' Q2 hx s' q' => ?_) k
          have g12 : ((wipe σ [12]).set 12 (some (V.str x)))[12]? = some (some (V.str x)) := by
            rw [List.getElem?_set_self]
            rw [gw]
            decide
          refine ⟨_, g12, ix1 s' ?_ ⟨rfl, _, rfl, ?_⟩⟩
          · rw [List.getElem?_set_ne (by decide)]
            show (σ.set 12 none)[3]? = _
            rw [List.getElem?_set_ne (by decide)]
            exact g3
          · rw [show (!decide (V.str x = V.str z)) = !decide (x = z) from by
              by_cases w : x = z
              · rw [w, decide_eq_true rfl, decide_eq_true rfl]
              · rw [decide_eq_false w, decide_eq_false fun v => w (V.str.inj v)]]
            exact q'
        rcases hcase with ⟨rfl, he⟩ | ⟨rfl, he⟩
        · have wd : decide (V.str (wordS 2) = V.str "add_entry") = true := decide_eq_true rfl
          by_cases hm : z ∈ row
          · rw [if_pos hm] at he
            refine ⟨_, rfl, _, rfl, rfl, rfl, _, rfl, ?_⟩
            rw [dec_bl, wd, decide_eq_true hm]
            refine iteT ⟨_, rfl, _, rfl, iteT (ix0 (Same.refl _) rfl (ix1 (Same.refl _) rfl ⟨by show 2 ≤ sizeLine; decide, fun t1 a1 => ⟨by show 2 ≤ sizeLine; decide, fun t2 a2 => ⟨_, rfl, by show 2 ≤ sizeLine; decide, fun t3 a3 => ?_⟩⟩⟩))⟩
            exact er 3 _ rfl (.inl rfl) he t1 t2 t3 a1 a2 a3
          · rw [if_neg hm] at he
            refine ⟨_, rfl, _, rfl, rfl, rfl, _, rfl, ?_⟩
            rw [dec_bl, wd, decide_eq_false hm]
            refine iteF ?_
            dsimp only [tNext, tSeq, tAsg]
            refine cutL _ _ rfl rfl rfl rfl fun D H13 s13 hDn hD => ?_
            have eD : (row.filter fun x => !decide (x = z)) = row := List.filter_eq_self.mpr fun x hx => by rw [decide_eq_false (show ¬ x = z from fun v => hm (by rw [← v]; exact hx))]; rfl
            rw [eD] at hD
            refine ⟨_, rfl, _, rfl, iteF ⟨_, rfl, ix1 s13 rfl ⟨by show 1 ≤ sizeLine; decide, fun l14 h14 => ⟨D, l14, _, _, rfl, rfl, (same_new h14) _ _ hD, upd_same, by show (row.map V.str).length + 1 ≤ sizeLine; rw [List.length_map, sizeLine_eq]; omega, fun l15 h15 => ?_⟩⟩⟩⟩
            have s14 : Same H13 (upd H13 l14 (.lst [.str z])) := same_new h14
            generalize upd H13 l14 (.lst [.str z]) = G1 at s14 h15 ⊢
            have s15 : Same G1 (upd G1 l15 (.lst (row.map V.str ++ [.str z]))) := same_new h15
            have e15 : (upd G1 l15 (.lst (row.map V.str ++ [.str z]))) l15 = some (.lst ((row ++ [z]).map V.str)) := by rw [upd_same, List.map_append]; rfl
            have hn15 : H12 l15 = none := (s13.trans s14).free h15
            generalize upd G1 l15 (.lst (row.map V.str ++ [.str z])) = Hc at s15 e15 ⊢
            have sc := (s13.trans s14).trans s15
            refine ⟨_, rfl, ix0 sc rfl ⟨d8, _, rfl, DPut.k (k := Sum.inr y') (sc _ _ e12) (by rw [refK_len, sizeLine_eq]; omega), ?_⟩⟩
            rw [refK_put hky]
            intro p1 hp1
            refine ⟨_, rfl, _, rfl, upd_same, [(kR, V.ref d8), (kU, V.ref u)], rfl, by show 2 ≤ 15; decide, by show 2 ≤ sizeLine; decide, fun t ht => ?_⟩
            rw [two_merge] at ht ⊢
            exact fin l15 (row ++ [z]) Hc sc hn15 e15 he (put13 l15 sc) p1 hp1 t ht
        · have wd : decide (V.str (wordS 3) = V.str "add_entry") = false := by decide
          by_cases hm : z ∈ row
          · rw [if_pos hm] at he
            refine ⟨_, rfl, _, rfl, rfl, rfl, _, rfl, ?_⟩
            rw [dec_bl, wd, decide_eq_true hm]
            refine iteF ?_
            dsimp only [tNext, tSeq, tAsg]
            refine cutL _ _ rfl rfl rfl rfl fun D H13 s13 hDn hD => ?_
            refine ⟨_, rfl, _, rfl, iteT ⟨_, rfl, ?_⟩⟩
            refine ⟨_, rfl, ix0 s13 rfl ⟨d8, _, rfl, DPut.k (k := Sum.inr y') (s13 _ _ e12) (by rw [refK_len, sizeLine_eq]; omega), ?_⟩⟩
            rw [refK_put hky]
            intro p1 hp1
            refine ⟨_, rfl, _, rfl, upd_same, [(kR, V.ref d8), (kU, V.ref u)], rfl, by show 2 ≤ 15; decide, by show 2 ≤ sizeLine; decide, fun t ht => ?_⟩
            rw [two_merge] at ht ⊢
            exact fin D _ H13 s13 hDn hD he (put13 D s13) p1 hp1 t ht
          · rw [if_neg hm] at he
            refine ⟨_, rfl, _, rfl, rfl, rfl, _, rfl, ?_⟩
            rw [dec_bl, wd, decide_eq_false hm]
            refine iteT ⟨_, rfl, _, rfl, iteF (ix0 (Same.refl _) rfl (ix1 (Same.refl _) rfl ⟨by show 2 ≤ sizeLine; decide, fun t1 a1 => ⟨by show 2 ≤ sizeLine; decide, fun t2 a2 => ⟨_, rfl, by show 2 ≤ sizeLine; decide, fun t3 a3 => ?_⟩⟩⟩))⟩
            exact er 4 _ rfl (.inr rfl) he t1 t2 t3 a1 a2 a3
    match j, hmk with
    | 0, hmk => exact iteT ⟨_, rfl, _, rfl, _, rfl, addj (by decide)⟩
    | 1, hmk => exact iteT ⟨_, rfl, _, rfl, _, rfl, addj (by decide)⟩
    | 2, hmk => exact absurd (.inl rfl) hj
    | 3, hmk => exact absurd (.inr (.inl rfl)) hj
    | 4, hmk => exact absurd (.inr (.inr rfl)) hj
    | 5, hmk =>
      obtain ⟨x, a, rfl, hx, he⟩ := ed4 (.inr rfl) hmk hav5
      have he : e = .rmU a := he
      subst he
      clear addj
      refine iteF ⟨_, rfl, rfl, _, rfl, ?_⟩
      rw [decide_eq_true (show V.str (wordS 5) = V.str "remove_unknown" from rfl)]
      refine iteT ?_
      refine ⟨_, rfl, _, rfl, l2, _, _, _, rfl, rfl, SqL.of hl5, atI_nat (j := 0) rfl, by show 2 ≤ sizeLine; decide, fun t6 h6 => ⟨by show 1 ≤ sizeLine; decide, fun l7 h7 => ?_⟩⟩
      have s6 : Same H5 (upd H5 t6 (.tup [.str kUn, x])) := same_new h6
      have e6 : SqT K (upd H5 t6 (.tup [.str kUn, x])) t6 [.str (itK false), x] := SqT.of upd_same
      have h7 : (upd H5 t6 (.tup [.str kUn, x])) l7 = none := h7
      show spLack K _ (upd (upd H5 t6 (.tup [.str kUn, x])) l7 (.lst [.ref t6])) _ E0
      generalize upd H5 t6 (.tup [.str kUn, x]) = H6 at s6 e6 h7 ⊢
      have s7 : Same H6 (upd H6 l7 (.lst [.ref t6])) := same_new h7
      have e7 : (upd H6 l7 (.lst [.ref t6])) l7 = some (.lst [.ref t6]) := upd_same
      generalize upd H6 l7 (.lst [.ref t6]) = H7 at s7 e7 ⊢
      have s67 := s6.trans s7
      refine ⟨pl, l7, p, [.ref t6], [(false, a)], rfl, ⟨r, u, ra, hG5.keep s67⟩, e7, .cons (.mk (SqT.keep e6 s7) (hx.keep s67)) .nil, fun dv H8 s8 hd => ?_⟩
      obtain ⟨f1, f2⟩ := rmU_facts hw a
      have s08 := (sall.trans s67).trans s8
      have way : (∃ ea, dv = .ref ea ∧ ∃ er, lackO p [(false, a)] = some er) ∨ (dv = .non ∧ lackO p [(false, a)] = none ∧ ∃ y, a = .nm y ∧ x = .str y) := by
        cases hlk : lackO p [(false, a)] with
        | some er =>
          rw [hlk] at hd
          cases hd with
          | er _ _ => exact .inl ⟨_, rfl, _, rfl⟩
        | none =>
          rw [hlk] at hd
          cases hd
          rw [lackO_one] at hlk
          cases hx with
          | nm l => exact .inr ⟨rfl, rfl, _, rfl, rfl⟩
          | od f n => cases hlk
      have hL : (p.us.filter fun z => match lackO p [(false, a)] with
          | some _ => true
          | none => !decide (V.str z = x)) = leftU p a := by
        unfold leftU
        rcases way with ⟨_, _, er, h⟩ | ⟨_, h, y, rfl, rfl⟩
        · rw [h]
          exact List.filter_eq_self.mpr fun _ _ => rfl
        · rw [h]
      have hG8 := hG.keep s08
      have hl8 := (s67.trans s8) _ _ hl5
      dsimp only [gName, tNext, tSeq, tAsg]
      refine filt_lc (K := K) (nm := 11) (zs := p.us) (fun z => match lackO p [(false, a)] with
          | some _ => true
          | none => !decide (V.str z = x)) (by show 11 < 13; decide) (by have := hw.lu; omega) (fun Q' k => ⟨_, rfl, k u H8 (Same.refl _) (SqL.of hG8.u)⟩) (fun z H' Q' hz s' q' => ?_) fun D H9 s9 hDn hD => ?_
      · rcases way with ⟨ea, rfl, er, h⟩ | ⟨rfl, h, y, rfl, rfl⟩
        · rw [h] at q'
          exact ⟨_, rfl, _, rfl, iteT q'⟩
        · rw [h] at q'
          exact ⟨_, rfl, _, rfl, iteF ⟨_, rfl, _, rfl, l2, _, _, _, rfl, rfl, SqL.of (s' _ _ hl8), atI_nat (j := 0) rfl, rfl, _, rfl, q'⟩⟩
      rw [hL] at hD
      generalize hLd : leftU p a = L at hD f2
      have s09 := s08.trans s9
      have hG9 := hG.keep s09
      have hr9 := s09 _ _ hrd
      have nd : (ra.map (·.1)).Nodup := by rw [hG.keys]; exact hw.k
      have lra : ra.length ≤ 24 := by rw [hG.len]; exact hw.lk
      refine dict_rows (K := K) (σ := [some (.ref pl), some (.ref eq), some (.str (wordS 5)), some (.ref l2), some (.ref r), some (.ref u), some dv, some (.ref D), none, none, none, none, none]) (fun a d' H => ∃ zs, (a.1, zs) ∈ p.rows ∧ H d' = some (.lst ((zs.filter fun z => decide (z ∈ L)).map V.str))) (sl := 4) (nm := 11) (ra := ra) (by show 11 < 13; decide) rfl (by decide) hr9 nd (by omega) (fun a ha => ?_) (fun a d' H' h => let ⟨_, _, e⟩ := h; ⟨_, e⟩) (fun a d' D H1 H2 h b n => let ⟨zs, e1, e⟩ := h; ⟨zs, e1, b _ _ e n⟩) (fun y d od H' hm bt hr' Q2 k2 => ?_) fun d8 rb H10 s10 n10 e10 p10 => ?_
      · obtain ⟨i, hi⟩ := List.mem_iff_getElem?.mp ha
        obtain ⟨row, _, _, hd⟩ := pair_at hG9.e hi
        exact ⟨_, hd⟩
      · obtain ⟨d0, hv, hm0⟩ := refK_in (rs := ra) (y := y) (List.mem_map.mpr ⟨_, hm, rfl⟩)
        have ed : d0 = d := Option.some.inj ((lookup_of nd hm0).symm.trans (lookup_of nd hm))
        subst ed
        obtain ⟨i, hi⟩ := List.mem_iff_getElem?.mp hm
        obtain ⟨⟨y', zs⟩, hrow, hy', hd⟩ := pair_at hG9.e hi
        have hy' : y' = y := hy'
        subst hy'
        have hmr := List.mem_of_getElem? hrow
        have hd' : H' d0 = some (.lst (zs.map V.str)) := bt _ _ hd fun z => by rw [z, hr9] at hd; cases hd
        have rD : D ≠ r := fun z => by rw [z, hr9] at hD; cases hD
        refine filt_lc (K := K) (nm := 12) (zs := zs) (fun z => decide (z ∈ L)) (by show 12 < 13; decide) (Nat.le_trans (hw.row hmr) (by decide)) (fun Q' k => ⟨_, rfl, _, rfl, r, _, rfl, .inl ⟨_, Sum.inr y', .inr ⟨_, hr'⟩, rfl, hv.symm⟩, k d0 H' (Same.refl _) (SqL.of hd')⟩) (fun z H'' Q' hz s' q' => ?_) fun D' H'' s'' hn' hl' => k2 D' H'' s'' (.inl hn') ⟨zs, hmr, hl'⟩
        exact ⟨_, rfl, _, rfl, D, L, .nm z, rfl, .inl (SqL.of (s' _ _ (bt _ _ hD rD))), .nm (name_len (hw.nu z ((hw.r _ hmr).2 z hz))), _, rfl, q'⟩
      have s010 := s09.trans s10
      refine ⟨_, rfl, fun p1 hp1 => ⟨_, rfl, _, rfl, upd_same, [(kR, V.ref d8), (kU, V.ref D)], rfl, by show 2 ≤ 15; decide, by show 2 ≤ sizeLine; decide, fun t ht => ?_⟩⟩
      rw [two_merge] at ht ⊢
      have kk : Same H10 (upd (upd H10 p1 (.dK [])) p1 (.dK [(kR, V.ref d8), (kU, V.ref D)])) := fun b o e => by
        rw [upd_ne (ne_of_none e hp1), upd_ne (ne_of_none e hp1)]
        exact e
      have h1 : (upd (upd H10 p1 (.dK [])) p1 (.dK [(kR, V.ref d8), (kU, V.ref D)])) p1 = some (.dK [(kR, V.ref d8), (kU, V.ref D)]) := upd_same
      generalize upd (upd H10 p1 (.dK [])) p1 (.dK [(kR, V.ref d8), (kU, V.ref D)]) = H11 at kk h1 ht ⊢
      have s12 : Same H11 (upd H11 t (.tup [dv, .ref p1])) := same_new ht
      have sB := kk.trans s12
      have sA := s010.trans sB
      rw [← f1] at hd
      refine q _ _ sA ⟨t, p1, dv, rfl, SqT.of upd_same, hd.keep ((s9.trans s10).trans sB), ?_⟩
      rw [f2]
      refine ⟨d8, D, rb, ⟨s12 _ _ h1, .inl (sB _ _ e10), ?_, sB _ _ (s10 _ _ hD)⟩, sB _ _ e10, hfr _ (s010.free hp1), hfr _ (s09.free n10), hfr _ (s08.free hDn), fun z hz => ?_⟩
      · refine pair_mapL (pair_comp hG.e p10) fun row b hrow ⟨a1, ha1, ⟨q1, q2⟩, q3, ⟨zs, q4, q5⟩, q6⟩ => ⟨q1.trans q3, ?_⟩
        have : zs = row.2 := Option.some.inj ((lookup_of hw.k q4).symm.trans (lookup_of hw.k (show (a1.1, row.2) ∈ p.rows by rw [← q1]; exact hrow)))
        rw [this] at q5
        exact sB _ _ q5
      · obtain ⟨a1, ha1, _, _, q⟩ := pair_memR p10 hz
        rcases q with e | e
        · exact hfr _ (s09.free e)
        · rw [e]
          exact o4 a1 ha1
    | n + 6, hmk => cases as <;> cases hmk
end
end Bo
set_option Elab.async false
set_option linter.all false
set_option maxRecDepth 100000
set_option maxHeartbeats 8000000
namespace Bo
open PySem PySem.Spec PyProof.Rows L2
def prs (p : Pl) : List PrT := (srt p.keys).flatMap fun y => (srt (rowOf p.rows y)).map fun x => (y, x)
def accE (R : List (Str × List Str)) : List PrT := R.flatMap fun r => r.2.map fun x => (r.1, x)
theorem leP_left {y a b : Str} : leP (y, a) (y, b) = leT a b := if_pos rfl
theorem prs_pw {p : Pl} (hw : PlWf p) : (prs p).Pairwise fun a b => leP a b = true := by
  unfold prs
  rw [List.pairwise_flatMap]
  refine ⟨fun y _ => List.pairwise_map.mpr ((srt_pair _).imp fun {a b} h => by rw [leP_left]; exact h), ?_⟩
  have nd : (srt p.keys).Nodup := (srt_perm p.keys).nodup_iff.mpr hw.k
  refine ((srt_pair p.keys).and nd).imp fun {a b} h x hx z hz => ?_
  obtain ⟨x', _, rfl⟩ := List.mem_map.mp hx
  obtain ⟨z', _, rfl⟩ := List.mem_map.mp hz
  show (if a = b then _ else leT a b) = true
  rw [if_neg h.2]
  exact h.1
theorem flat_perm {α β : Type} {f g : α → List β} : ∀ {l : List α}, (∀ a ∈ l, (f a).Perm (g a)) → (l.flatMap f).Perm (l.flatMap g)
  | [], _ => List.Perm.refl _
  | a :: l, h => by
    rw [List.flatMap_cons, List.flatMap_cons]
    exact (h a List.mem_cons_self).append (flat_perm fun b hb => h b (List.mem_cons_of_mem _ hb))
theorem prs_perm {p : Pl} (hw : PlWf p) : (accE p.rows).Perm (prs p) := by
  unfold accE prs
  have h1 : (p.rows.flatMap fun r => r.2.map fun x => (r.1, x)).Perm (p.rows.flatMap fun r => (srt (rowOf p.rows r.1)).map fun x => (r.1, x)) := by
    refine flat_perm fun r hr => ?_
    have e : rowOf p.rows r.1 = r.2 := by
      unfold rowOf
      rw [lookup_of hw.k (show (r.1, r.2) ∈ p.rows from hr)]
      rfl
    rw [e]
    exact (srt_perm r.2).symm.map _
  refine h1.trans ?_
  have h2 : (p.keys.flatMap fun y => (srt (rowOf p.rows y)).map fun x => (y, x)) = p.rows.flatMap fun r => (srt (rowOf p.rows r.1)).map fun x => (r.1, x) := by
    unfold Pl.keys
    rw [List.flatMap_map]
  rw [← h2]
  exact List.Perm.flatMap_right _ (srt_perm p.keys).symm
theorem accE_len {p : Pl} (hw : PlWf p) : ∀ {R : List (Str × List Str)}, (∀ r ∈ R, r ∈ p.rows) → (accE R).length ≤ 24 * R.length
  | [], _ => Nat.zero_le _
  | r :: R, h => by
    have ih := accE_len hw (R := R) fun z hz => h z (List.mem_cons_of_mem _ hz)
    have h1 : r.2.length ≤ 24 := hw.row (h r List.mem_cons_self)
    have e : accE (r :: R) = (r.2.map fun x => (r.1, x)) ++ accE R := rfl
    rw [e, List.length_append, List.length_map, List.length_cons]
    omega
theorem intK_one (l : List Str) : intK (l.map fun x => (x, (1 : Int))) = l.map fun x => ((Sum.inr x : Key), V.int 1) := by
  unfold intK
  rw [List.map_map]
  rfl
abbrev EnR (H : Hp) (q : Addr) (e : PrT) : Prop := H q = some (.tup [.str e.1, .str e.2])
def spEO (K : PySem.W.Frag) (CC : Addr) : Sp := fun vs H Q _ => ∃ (c : Addr) (p : Pl), vs = [.ref c] ∧ CtIn K CC H c (ctP p) ∧ PlWf p ∧ ∀ (t : Addr) (qs : List Addr) (H' : Hp), Same H H' → SqT K H' t (qs.map V.ref) → Paired (EnR H') qs (prs p) → Q (.ref t) H'
section
variable {P : Program} {w : World} {K : PySem.W.Frag} {mg : Str → Option Value} {base : Heap} {CC fCI CS fSI fTk : Addr}
theorem ok_eo {f : Addr} {fd : FuncData} (F : Fun K "entries_of" "entries_of" sEO f fd) (TC : CtT K mg CC fCI) (TP : TxtP mg) : FnOk P w K mg base CX0 1 f fd ["contents"] (spEO K CC) := by
  refine F.ok scEO (fun vs H Q E h => ?_) (fun cdv A outer s H vs Q E hr h => ?_)
  · obtain ⟨c, p, rfl, _⟩ := h
    rfl
  · obtain ⟨c, p, rfl, ⟨d1, ac, ar, ak, rs, C⟩, hw, q⟩ := h
    refine ⟨_, pss_one (ps_ret (pe_callTy call_tuple_of (by rfl) TP.tup (by decide +kernel) (pa_cons (pe_callB cr_sortedPT (by rfl) TP.srt (by decide +kernel) (pa_cons
      (pe_lc2 (wi1 := iKeys (tDGet (tFld K (tVar 0) "rows") (tVar 1))) (own := [("equation", 1), ("unknown", 2)]) (vs1 := [2]) (g := gName 1) (tt := tYes) (g1 := gName 2) (tt1 := tYes) rfl scEO.nd (pi_keys (pe_fld (pv 0) rfl)) (blkOk_by (N := ["contents", "equation", "unknown"]) (sc := defScope sEO) (by decide +kernel)) (by decide)
        (fun _ _ _ _ _ => pg_name (i := 1) scEO.nd rfl (Or.inl rfl)) (fun _ _ _ _ _ => pts_nil)
        (fun _ _ _ _ _ => pi_keys (pe_dget (hu_of hr) (pe_fld (pv 0) rfl) (pv 1) (fun _ _ => rfl))) (fun _ _ _ _ _ => pg_name (i := 2) scEO.nd rfl (Or.inl rfl)) (fun _ _ _ _ _ => pts_nil)
        (fun _ _ _ _ _ => pe_tup (pa_cons (pv 1) (pa_cons (pv 2) pa_nil)))) pa_nil)) pa_nil))), ?_⟩
    have hks : rs.map (·.1) = p.keys := (pair_keys (fun p q z => z.1) C.p).trans (ctP_keys p)
    obtain ⟨or, hr0⟩ := C.r
    refine ⟨_, rfl, c, CC, d1, _, _, rfl, C.i, TC.cl, TC.n2, ctF_r _ _ _, ar, or, rfl, .inl ⟨_, hr0, fun D hD => ?_⟩⟩
    have lrs : rs.length = p.rows.length := by
      have := congrArg List.length hks
      rw [List.length_map] at this
      rw [this]
      exact List.length_map _
    have rl : (refK rs).length = p.rows.length := by rw [refK_len, lrs]
    refine ⟨fun i m H' => (m = (refK rs).length - i ∧ i ≤ (refK rs).length) ∧ Same H H' ∧ ∃ qs : List Addr, H' D = some (.lst (qs.map V.ref)) ∧ Paired (fun q e => EnR H' q e ∧ q ≠ D) qs (accE (p.rows.take i)), ⟨_, ⟨rfl, Nat.zero_le _⟩, same_new hD, [], upd_same, .nil⟩, fun i m H1 hwi => ?_⟩
    obtain ⟨⟨rfl, hi⟩, sm, qs, hqs, pq⟩ := hwi
    have e1 : H1 ar = some (.frz or (.dK (refK rs))) := sm _ _ hr0
    rcases Nat.lt_or_ge i (refK rs).length with lt | ge
    · refine .inr ⟨walk_keys.goes i _ lt e1, fun H' => Same H H' ∧ ∃ qs : List Addr, H' D = some (.lst (qs.map V.ref)) ∧ Paired (fun q e => EnR H' q e ∧ q ≠ D) qs (accE (p.rows.take (i + 1))), fun H' e => ⟨(refK rs).length - (i + 1), by omega, ⟨rfl, lt⟩, e⟩, fun x H' y => ?_⟩
      obtain ⟨rfl, k, v, hkv, rfl⟩ := walk_keys.yields i _ x H' lt e1 y
      obtain ⟨z, d, hz, rfl, rfl⟩ := refK_at hkv
      obtain ⟨d2, hv, hm⟩ := refK_in (rs := rs) (y := z) (List.mem_map.mpr ⟨_, List.mem_of_getElem? hz, rfl⟩)
      have ed : d2 = d := by
        have nd : (rs.map (·.1)).Nodup := by rw [hks]; exact hw.k
        exact Option.some.inj ((lookup_of nd hm).symm.trans (lookup_of nd (List.mem_of_getElem? hz)))
      subst ed
      obtain ⟨rowC, hrowC, hrn, od2, hd2⟩ := pair_at C.p hz
      obtain ⟨row, hrow, rfl⟩ : ∃ row, p.rows[i]? = some row ∧ (row.1, row.2.map fun x => (x, (1 : Int))) = rowC := by
        have h : (p.rows.map fun r => (r.1, r.2.map fun x => (x, (1 : Int))))[i]? = some rowC := hrowC
        rw [List.getElem?_map] at h
        exact Option.map_eq_some_iff.mp h
      have hrn : row.1 = z := hrn
      rw [show intK (row.1, row.2.map fun x => (x, (1 : Int))).2 = row.2.map fun x => ((Sum.inr x : Key), V.int 1) from intK_one _] at hd2
      have hmr := List.mem_of_getElem? hrow
      have hl24 : row.2.length ≤ 24 := hw.row hmr
      have eacc : accE (p.rows.take (i + 1)) = accE (p.rows.take i) ++ row.2.map fun x => (z, x) := by
        rw [take_snoc hrow]
        unfold accE
        rw [List.flatMap_append, List.flatMap_cons, List.flatMap_nil, List.append_nil, hrn]
      rw [eacc]
      have lacc : (accE (p.rows.take i)).length ≤ 24 * 24 := by
        have l1 := accE_len hw (R := p.rows.take i) fun r hr => List.mem_of_mem_take hr
        have l2 := hw.lk
        rw [List.length_take] at l1
        have : 24 * min i p.rows.length ≤ 24 * 24 := Nat.mul_le_mul_left _ (by omega)
        omega
      refine ⟨rfl, iteT (B := True) ?_⟩
      refine ⟨_, rfl, c, CC, d1, _, _, rfl, sm _ _ C.i, TC.cl, TC.n2, ctF_r _ _ _, _, rfl, ar, _, rfl, .inl ⟨_, Sum.inr z, .inr ⟨or, e1⟩, rfl, hv.symm⟩, d2, od2, rfl, .inl ⟨_, sm _ _ hd2, ?_⟩⟩
      refine ⟨fun j k H' => (k = row.2.length - j ∧ j ≤ row.2.length) ∧ Same H H' ∧ ∃ qs : List Addr, H' D = some (.lst (qs.map V.ref)) ∧ Paired (fun q e => EnR H' q e ∧ q ≠ D) qs (accE (p.rows.take i) ++ (row.2.take j).map fun x => (z, x)), ⟨_, ⟨rfl, Nat.zero_le _⟩, sm, qs, hqs, by rw [List.take_zero, List.map_nil, List.append_nil]; exact pq⟩, fun j k H2 hwj => ?_⟩
      obtain ⟨⟨rfl, hj⟩, sm2, qs2, hqs2, pq2⟩ := hwj
      have e2 : H2 d2 = some (.frz od2 (.dK (row.2.map fun x => ((Sum.inr x : Key), V.int 1)))) := sm2 _ _ hd2
      have lk : (row.2.map fun x => ((Sum.inr x : Key), V.int 1)).length = row.2.length := List.length_map _
      rcases Nat.lt_or_ge j row.2.length with ltj | gej
      · refine .inr ⟨walk_keys.goes j _ (by rw [lk]; exact ltj) e2, fun H' => Same H H' ∧ ∃ qs : List Addr, H' D = some (.lst (qs.map V.ref)) ∧ Paired (fun q e => EnR H' q e ∧ q ≠ D) qs (accE (p.rows.take i) ++ (row.2.take (j + 1)).map fun x => (z, x)), fun H' e => ⟨row.2.length - (j + 1), by omega, ⟨rfl, ltj⟩, e⟩, fun x H' y => ?_⟩
        obtain ⟨rfl, k, v, hkv, rfl⟩ := walk_keys.yields j _ x H' (by rw [lk]; exact ltj) e2 y
        rw [List.getElem?_map] at hkv
        obtain ⟨u, hu, e⟩ := Option.map_eq_some_iff.mp hkv
        cases e
        refine ⟨rfl, iteT (B := True) ⟨_, rfl, _, rfl, by show 2 ≤ sizeLine; decide, fun t ht => ?_⟩⟩
        have s3 : Same H' (upd H' t (.tup [.str z, .str u])) := same_new ht
        have et : (upd H' t (.tup [.str z, .str u])) t = some (.tup [.str z, .str u]) := upd_same
        have tD : t ≠ D := fun w => by rw [w, hqs2] at ht; cases ht
        have l2 := Paired.length pq2
        rw [List.length_append, List.length_map, List.length_take] at l2
        refine ⟨_, s3 _ _ hqs2, by rw [List.length_map, sizeLine_eq]; omega, ?_, qs2 ++ [t], ?_, ?_⟩
        · intro b o e
          have nb : b ≠ D := fun w => by rw [w, hD] at e; cases e
          rw [upd_ne nb]
          exact s3 _ _ (sm2 _ _ e)
        · rw [upd_same, List.map_append]
          rfl
        · rw [take_snoc hu, List.map_append, ← List.append_assoc]
          exact pair_snoc (Paired.mapP pq2 fun q e h => ⟨(upd_ne h.2).trans (s3 _ _ h.1), h.2⟩) ⟨(upd_ne tD).trans et, tD⟩
      · obtain rfl : j = row.2.length := Nat.le_antisymm hj gej
        rw [List.take_length] at pq2
        refine .inl ⟨?_, sm2, qs2, hqs2, pq2⟩
        have hst := (walk_keys (kvs := row.2.map fun x => ((Sum.inr x : Key), V.int 1))).stops H2 e2
        rw [lk] at hst
        exact hst
    · obtain rfl : i = (refK rs).length := Nat.le_antisymm hi ge
      rw [rl, List.take_length] at pq
      refine .inl ⟨walk_keys.stops _ e1, ?_⟩
      refine ⟨D, qs, accE p.rows, rfl, SqL.of hqs, Paired.mapP pq fun _ _ h => h.1, fun qs' ps' p' perm pw pr hn => ?_⟩
      have s4 := sm.trans (same_new (o := .lst (qs'.map V.ref)) hn)
      have s4' : Same H1 (upd H1 p' (.lst (qs'.map V.ref))) := same_new hn
      refine ⟨p', _, rfl, .inl ⟨SqL.of upd_same, fun t ht => ?_⟩⟩
      have ep : ps' = prs p := prs_one pw (prs_pw hw) (perm.trans (prs_perm hw))
      rw [ep] at pr
      have s5 := same_new (o := .tup (qs'.map V.ref)) ht
      exact q t qs' _ (s4.trans s5) (SqT.of upd_same) (Paired.mapP pr fun _ _ h => s5 _ _ (s4' _ _ h))
def spEnV (K : PySem.W.Frag) (CC CS : Addr) : Sp := fun vs H Q _ => ∃ (s : Addr) (p : Pl) (n : Nat), vs = [.ref s] ∧ Sv K CC CS H s (ctP p) n ∧ PlWf p ∧ ∀ (t : Addr) (qs : List Addr) (H' : Hp), Same H H' → SqT K H' t (qs.map V.ref) → Paired (EnR H') qs (prs p) → Q (.ref t) H'
theorem ok_enV {f fO : Addr} {fd fdO : FuncData} (F : Fun K "entries" "System.entries" sEns f fd) (T : SysT K mg CS fSI fTk) (GO : FnOk P w K mg base CX0 1 fO fdO ["contents"] (spEO K CC)) (mO : mg "entries_of" = some (.ref fO)) (kO : PySem.W.keepIn K (.ref fO) = true) (bO : Binds K fdO ["contents"] []) :
    FnOk P w K mg base CX0 2 f fd ["self"] (spEnV K CC CS) := by
  refine F.ok scEns (fun vs H Q E h => ?_) (fun cdv A outer s H vs Q E hr h => ?_)
  · obtain ⟨s, p, n, rfl, _⟩ := h
    rfl
  · obtain ⟨s, p, n, rfl, ⟨dx, c, b, h, bs, Yi, Yb, rfl, C⟩, hw, q⟩ := h
    refine ⟨_, pss_one (ps_ret (pe_call GO hr rfl mO kO bO .nil pass0 (pa_cons (pe_fld (pv 0) rfl) pa_nil))), ?_⟩
    exact ⟨_, rfl, s, CS, dx, _, _, rfl, Yi, T.cl, T.n1, syF_c _ _ _, c, p, rfl, C, hw, q⟩
end
end Bo
set_option Elab.async false
set_option linter.all false
set_option maxRecDepth 100000
set_option maxHeartbeats 8000000
namespace Bo
open PySem PySem.Spec PyProof.Rows L2
theorem pair_app {α β : Type} {F : α → β → Prop} : ∀ {l l' : List α} {m m' : List β}, Paired F l m → Paired F l' m' → Paired F (l ++ l') (m ++ m')
  | _, _, _, _, .nil, h => h
  | _, _, _, _, .cons q t, h => .cons q (pair_app t h)
theorem pairs_lc {K : PySem.W.Frag} {σ : L2.St} {H : Hp} {Q : VK} {n0 nm : Nat} {y : Str} {te0 : TE} {zs : List Str} (hσ : nm < σ.length) (hn : n0 ≠ nm) (e0 : σ[n0]? = some (some (V.str y))) (ln : zs.length ≤ 1000)
    (h0 : ∀ Q' : VK, (∀ lw H', Same H H' → SqL K H' lw (zs.map V.str) → Q' (.ref lw) H') → te0 σ H Q')
    (k : ∀ D H' qs, Same H H' → H D = none → H' D = some (.lst (qs.map V.ref)) → Paired (fun q e => EnR H' q e ∧ H q = none) qs (zs.map fun x => (y, x)) → Q (.ref D) H') :
    tLc (iList K te0) (gName nm) tYes (tTup (tCons (tVar n0) (tCons (tVar nm) tNil))) [nm] σ H Q := by
  refine h0 _ fun lw H1 s1 hl => ⟨lw, rfl, ⟨_, hl⟩, fun D hD => ?_⟩
  refine lc_list (xs := zs.map V.str) (fun i H' => But D H1 H' ∧ ∃ qs : List Addr, H' D = some (.lst (qs.map V.ref)) ∧ Paired (fun q e => EnR H' q e ∧ q ≠ D ∧ H q = none) qs ((zs.take i).map fun x => (y, x))) ⟨fun _ _ e n => (upd_ne n).trans e, [], upd_same, .nil⟩ (fun i H' _ e => SqL.keep hl (e.1.fresh hD)) ?_ ?_
  · rintro i v H' hv ⟨bt, qs, hys, hp⟩
    rw [List.getElem?_map] at hv
    obtain ⟨x, hx, rfl⟩ := Option.map_eq_some_iff.mp hv
    have li := (List.getElem?_eq_some_iff.mp hx).1
    have g1 : ((wipe σ [nm]).set nm (some (V.str x)))[nm]? = some (some (V.str x)) := by
      rw [List.getElem?_set_self]
      show nm < (σ.set nm none).length
      rw [List.length_set]
      exact hσ
    have g0 : ((wipe σ [nm]).set nm (some (V.str x)))[n0]? = some (some (V.str y)) := by
      rw [List.getElem?_set_ne hn.symm]
      show (σ.set nm none)[n0]? = _
      rw [List.getElem?_set_ne hn.symm]
      exact e0
    refine ⟨?_, iteT (B := True) ?_⟩
    · show ((σ.set nm none).set nm (some (V.str x))).set nm none = σ.set nm none
      rw [List.set_set, List.set_set]
    refine ⟨_, g0, _, g1, by show 2 ≤ sizeLine; decide, fun t ht => ?_⟩
    have s4 : Same H' (upd H' t (.tup [.str y, .str x])) := same_new ht
    have et : (upd H' t (.tup [.str y, .str x])) t = some (.tup [.str y, .str x]) := upd_same
    have tD : t ≠ D := fun z => by rw [z, hys] at ht; cases ht
    have tn : H t = none := (s1.trans (bt.fresh hD)).free ht
    refine ⟨_, s4 _ _ hys, ?_, ?_⟩
    · have l1 := Paired.length hp
      rw [List.length_map, List.length_take] at l1
      rw [List.length_map, sizeLine_eq]
      omega
    refine ⟨bt.tr ((But.of s4).tr fun _ _ e n => (upd_ne n).trans e), qs ++ [t], by rw [upd_same, List.map_append]; rfl, ?_⟩
    rw [take_snoc hx, List.map_append]
    exact pair_snoc (Paired.mapP hp fun q v z => ⟨(upd_ne z.2.1).trans (s4 _ _ z.1), z.2⟩) ⟨(upd_ne tD).trans et, tD, tn⟩
  · rintro H' ⟨bt, qs, hys, hp⟩
    rw [List.length_map, List.take_length] at hp
    refine k D H' _ (s1.trans (bt.fresh hD)) ?_ hys (Paired.mapP hp fun _ _ z => ⟨z.1, z.2.2⟩)
    cases z : H D with
    | none => rfl
    | some o => rw [s1 _ _ z] at hD; cases hD
def spTold' (K : PySem.W.Frag) : Sp := fun vs H Q _ => ∃ (pl : Addr) (p : Pl), vs = [.ref pl] ∧ Pl0 H pl p ∧ PlWf p ∧
  ∀ (q t1 t2 t3 : Addr) (qs : List Addr) (H' : Hp), Same H H' → H' q = some (.lst [.ref t1, .ref t2, .ref t3]) → SqT K H' t1 ((srt p.keys).map V.str) → SqT K H' t2 ((srt p.us).map V.str) → SqT K H' t3 (qs.map V.ref) → Paired (EnR H') qs (prs p) → Q (.ref q) H'
section
variable {P : Program} {w : World} {K : PySem.W.Frag} {mg : Str → Option Value} {base : Heap} {CC fCI CS fSI fTk : Addr}
theorem ok_told' {f : Addr} {fd : FuncData} (F : Fun K "_law_told" "_law_told" sTold f fd) (T : TxtP mg) : FnOk P w K mg base CX0 1 f fd ["_law_plain"] (spTold' K) := by
  refine F.ok scTo (fun vs H Q E h => ?_) (fun cdv A outer s H vs Q E hr h => ?_)
  · obtain ⟨pl, p, rfl, _⟩ := h
    rfl
  · obtain ⟨pl, p, rfl, ⟨r, u, ra, hP⟩, hw, k⟩ := h
    have hu := hu_of hr
    refine ⟨_, pss_cons (ps_set (i := 1) scTo.nd rfl (.inl rfl) (pe_lst pa_nil))
      (pss_cons (ps_for PassesOwn.never rfl (pi_list (pe_callB (call_sortedD rfl) (by rfl) T.srt (by decide +kernel) (pa_cons (pe_dget hu (pv 0) pe_str (fun _ _ => rfl)) pa_nil))) (pg_name (i := 2) scTo.nd rfl (.inr rfl))
        (pss_one (ps_expr (pe_bm PySem.F.plainAttrs_list PySem.F.slot_list_extend PySem.F.type_list_extend mt_extend (pv 1) (pa_cons
          (pe_lc (own := [("_law_one", 3)]) (g := gName 3) (tt := tYes) (te := tTup (tCons (tVar 2) (tCons (tVar 3) tNil))) rfl scTo.nd (pi_list (pe_callB cr_sortedS (by rfl) T.srt (by decide +kernel) (pa_cons (pe_dget hu (pe_dget hu (pv 0) pe_str (fun _ _ => rfl)) (pv 2) (fun _ _ => rfl)) pa_nil))) (blkOk_by (N := ["_law_plain", "_law_pairs", "_law_name", "_law_one"]) (sc := defScope sTold) (by decide +kernel)) (fun _ _ _ _ _ => pg_name (i := 3) scTo.nd rfl (Or.inl rfl))
            (fun _ _ _ _ _ => pts_nil) (fun _ _ _ _ _ => pe_tup (pa_cons (pv 2) (pa_cons (pv 3) pa_nil)))) pa_nil)))))
      (pss_one (ps_ret (pe_lst (pa_cons (pe_callTy call_tuple_of (by rfl) T.tup (by decide +kernel) (pa_cons (pe_callB (call_sortedD rfl) (by rfl) T.srt (by decide +kernel) (pa_cons (pe_dget hu (pv 0) pe_str (fun _ _ => rfl)) pa_nil)) pa_nil))
        (pa_cons (pe_callTy call_tuple_of (by rfl) T.tup (by decide +kernel) (pa_cons (pe_callB cr_sortedS (by rfl) T.srt (by decide +kernel) (pa_cons (pe_dget hu (pv 0) pe_str (fun _ _ => rfl)) pa_nil)) pa_nil))
        (pa_cons (pe_callTy call_tuple_of (by rfl) T.tup (by decide +kernel) (pa_cons (pv 1) pa_nil)) pa_nil))))))), ?_⟩
    refine ⟨by decide, fun l hl => ?_⟩
    have s1 : Same H (upd H l (.lst [])) := same_new hl
    have el : (upd H l (.lst [])) l = some (.lst []) := upd_same
    generalize upd H l (.lst []) = H1 at s1 el ⊢
    have hP1 := hP.keep s1
    have kl : (ra.map (·.1)).length = p.rows.length := by rw [hP.keys, List.length_map]
    have lk := hw.lk
    have lu := hw.lu
    have kk : ra.map (·.1) = p.keys := hP.keys
    refine ⟨_, rfl, pl, _, rfl, hP1.gr, r, refK ra, ra.map (·.1), rfl, hP1.r, refK_keys ra, by omega, fun zs p0 hp1 hp2 hp3 => ⟨p0, rfl, ⟨_, SqL.of upd_same⟩, ?_⟩⟩
    have ez : zs = srt p.keys := by rw [srt_of hp1 hp2, kk]
    have s2 : Same H1 (upd H1 p0 (.lst (zs.map V.str))) := same_new hp3
    have ep : (upd H1 p0 (.lst (zs.map V.str))) p0 = some (.lst (zs.map V.str)) := upd_same
    have lp : p0 ≠ l := (ne_of_none el hp3).symm
    have n0 : ∀ {q : Addr} {o : HO}, H q = some o → q ≠ l := fun e => ne_of_none e hl
    generalize upd H1 p0 (.lst (zs.map V.str)) = H2 at s2 ep ⊢
    have s02 := s1.trans s2
    subst ez
    have hsame : ∀ {H' : Hp}, But l H2 H' → Same H H' := fun bt b o e => bt _ _ (s02 _ _ e) (n0 e)
    refine for_list (xs := (srt p.keys).map V.str) (fun i σ H' => (∃ z, σ = [some (.ref pl), some (.ref l), z, none]) ∧ But l H2 H' ∧ ∃ qs : List Addr, H' l = some (.lst (qs.map V.ref)) ∧ Paired (fun q e => EnR H' q e ∧ q ≠ l) qs (((srt p.keys).take i).flatMap fun y => (srt (rowOf p.rows y)).map fun x => (y, x)) ∧ qs.length ≤ 24 * i) ⟨⟨_, rfl⟩, fun b o e _ => e, [], s2 _ _ el, .nil, Nat.zero_le _⟩ (fun i σ H' _ q => SqL.of (q.2.1 _ _ ep lp)) ?_ ?_
    · rintro i x σ H3 hx ⟨⟨z, rfl⟩, bt, qs, hqs, pq, lq⟩
      rw [List.getElem?_map] at hx
      obtain ⟨y, hy, rfl⟩ := Option.map_eq_some_iff.mp hx
      have hP3 := hP.keep (hsame bt)
      have hyk : y ∈ p.keys := srt_mem.mp (List.mem_of_getElem? hy)
      obtain ⟨d, row, hv, hmr, hd⟩ := hP3.row (show y ∈ p.rows.map (·.1) from hyk)
      have erow : rowOf p.rows y = row := by unfold rowOf; rw [lookup_of hw.k hmr]; rfl
      have lr : row.length ≤ 24 := hw.row hmr
      have li : i < 24 := by
        have := (List.getElem?_eq_some_iff.mp hy).1
        rw [srt_len] at this
        have e : p.keys.length = p.rows.length := List.length_map _
        omega
      refine ⟨_, rfl, .inl ⟨rfl, _, SqL.of hqs⟩, ?_⟩
      refine pairs_lc (K := K) (n0 := 2) (nm := 3) (y := y) (zs := srt row) (by show 3 < 4; decide) (by decide) rfl (by rw [srt_len]; omega) (fun Q' k2 => ⟨_, rfl, pl, _, rfl, hP3.gr, _, rfl, r, _, rfl, .inl ⟨_, Sum.inr y, hP3.r, rfl, hv.symm⟩, d, row, rfl, SqL.of hd, by omega, fun ns p1 hn1 hn2 hp => ?_⟩) fun D H4 qs4 s4 hDn hD p4 => ?_
      · rw [srt_of hn1 hn2]
        exact k2 p1 _ (same_new hp) (SqL.of upd_same)
      have l4 := Paired.length p4
      rw [List.length_map, srt_len] at l4
      refine ⟨l, D, _, _, rfl, rfl, s4 _ _ hqs, hD, by rw [List.length_map, List.length_map, sizeLine_eq]; omega, ⟨_, rfl⟩, ?_, qs ++ qs4, by rw [upd_same, List.map_append], ?_, by rw [List.length_append]; omega⟩
      · intro b o e n
        rw [upd_ne n]
        exact s4 _ _ (bt _ _ e n)
      · rw [take_snoc hy, List.flatMap_append, List.flatMap_cons, List.flatMap_nil, List.append_nil, erow]
        have nl : ∀ {q : Addr}, H3 q = none → q ≠ l := fun e z => by rw [z, hqs] at e; cases e
        exact pair_app (Paired.mapP pq fun q e z => ⟨(upd_ne z.2).trans (s4 _ _ z.1), z.2⟩) (Paired.mapP p4 fun q e z => ⟨(upd_ne (nl z.2)).trans z.1, nl z.2⟩)
    · rintro σ H3 ⟨⟨z, rfl⟩, bt, qs, hqs, pq, lq⟩
      rw [List.length_map, List.take_length] at pq
      have s03 := hsame bt
      have hP3 := hP.keep s03
      refine ⟨_, rfl, pl, _, rfl, hP3.gr, r, refK ra, ra.map (·.1), rfl, hP3.r, refK_keys ra, by omega, fun ws p1 h1 h2 h3 => ⟨p1, _, rfl, .inl ⟨SqL.of upd_same, fun t1 ht1 => ?_⟩⟩⟩
      have s4 : Same H3 (upd (upd H3 p1 (.lst (ws.map V.str))) t1 (.tup (ws.map V.str))) := (same_new h3).trans (same_new ht1)
      have q1 : SqT K (upd (upd H3 p1 (.lst (ws.map V.str))) t1 (.tup (ws.map V.str))) t1 (ws.map V.str) := SqT.of upd_same
      generalize upd (upd H3 p1 (.lst (ws.map V.str))) t1 (.tup (ws.map V.str)) = H4 at s4 q1 ⊢
      have hP4 := hP3.keep s4
      have ew : ws = srt p.keys := by rw [srt_of h1 h2, kk]
      refine ⟨_, rfl, pl, _, rfl, hP4.gu, u, p.us, rfl, SqL.of hP4.u, by omega, fun ys p2 g1 g2 g3 => ⟨p2, _, rfl, .inl ⟨SqL.of upd_same, fun t2 ht2 => ?_⟩⟩⟩
      have s5 : Same H4 (upd (upd H4 p2 (.lst (ys.map V.str))) t2 (.tup (ys.map V.str))) := (same_new g3).trans (same_new ht2)
      have q2 : SqT K (upd (upd H4 p2 (.lst (ys.map V.str))) t2 (.tup (ys.map V.str))) t2 (ys.map V.str) := SqT.of upd_same
      generalize upd (upd H4 p2 (.lst (ys.map V.str))) t2 (.tup (ys.map V.str)) = H5 at s5 q2 ⊢
      refine ⟨_, rfl, l, _, rfl, .inl ⟨SqL.of (s5 _ _ (s4 _ _ hqs)), fun t3 ht3 => ⟨by show 3 ≤ sizeLine; decide, fun q hq => ?_⟩⟩⟩
      have s6 := (same_new (o := .tup (qs.map V.ref)) ht3).trans (same_new (o := .lst [.ref t1, .ref t2, .ref t3]) hq)
      rw [ew] at q1
      rw [srt_of g1 g2] at q2
      exact k q t1 t2 t3 qs _ (s03.trans (s4.trans (s5.trans s6))) upd_same (SqT.keep (SqT.keep q1 s5) s6) (SqT.keep q2 s6) (SqT.of (same_new hq _ _ upd_same)) (Paired.mapP pq fun _ _ z => s6 _ _ (s5 _ _ (s4 _ _ z.1)))
end
def prD (e : PrT) : PyData := .tuple [.str e.1, .str e.2]
def tellD (p : Pl) : PyData := .list [.tuple ((srt p.keys).map PyData.str), .tuple ((srt p.us).map PyData.str), .tuple ((prs p).map prD)]
theorem prs_dp {K : PySem.W.Frag} {H : Hp} : ∀ {qs : List Addr} {es : List PrT}, Paired (EnR H) qs es → DpAll K H (qs.map V.ref) (es.map prD)
  | _, _, .nil => .nil
  | _, _, .cons q t => .cons (.tup (SqT.of q) (.cons (.str _) (.cons (.str _) .nil))) (prs_dp t)
theorem tellD_dp {K : PySem.W.Frag} {H : Hp} {q t1 t2 t3 : Addr} {qs : List Addr} {p : Pl} (h : H q = some (.lst [.ref t1, .ref t2, .ref t3])) (h1 : SqT K H t1 ((srt p.keys).map V.str)) (h2 : SqT K H t2 ((srt p.us).map V.str)) (h3 : SqT K H t3 (qs.map V.ref)) (h4 : Paired (EnR H) qs (prs p)) : Dp K H (.ref q) (tellD p) :=
  .lst (SqL.of h) (.cons (.tup h1 (strsD_dp _)) (.cons (.tup h2 (strsD_dp _)) (.cons (.tup h3 (prs_dp h4)) .nil)))
theorem prs_ok : ∀ l : List PrT, PyData.showableAll (l.map prD) = true
  | [] => rfl
  | e :: l => by
    show ((true && (true && true)) && PyData.showableAll (l.map prD)) = true
    rw [prs_ok l]
    rfl
theorem prs_depth : ∀ l : List PrT, PyData.depthAll (l.map prD) ≤ 1
  | [] => Nat.zero_le _
  | e :: l => by
    have ih := prs_depth l
    show max (max 0 (max 0 0) + 1) (PyData.depthAll (l.map prD)) ≤ 1
    omega
theorem tellD_ok (p : Pl) : (tellD p).showable = true := by
  show (PyData.showableAll ((srt p.keys).map PyData.str) && (PyData.showableAll ((srt p.us).map PyData.str) && (PyData.showableAll ((prs p).map prD) && true))) = true
  rw [strsD_ok, strsD_ok, prs_ok]
  rfl
theorem tellD_depth (p : Pl) : (tellD p).depth ≤ 60 := by
  have h := prs_depth (prs p)
  show max (PyData.depthAll ((srt p.keys).map PyData.str) + 1) (max (PyData.depthAll ((srt p.us).map PyData.str) + 1) (max (PyData.depthAll ((prs p).map prD) + 1) 0)) + 1 ≤ 60
  rw [strsD_depth, strsD_depth]
  omega
theorem prs_txt {p : Pl} (hw : PlWf p) : ∀ e ∈ prs p, TxtOk e.1 ∧ TxtOk e.2 := fun e he => by
  obtain ⟨y, hy, h⟩ := List.mem_flatMap.mp he
  obtain ⟨x, hx, rfl⟩ := List.mem_map.mp h
  have hyk := srt_mem.mp hy
  refine ⟨name_txt (hw.nk y hyk), name_txt (hw.nu x ?_)⟩
  obtain ⟨row, hr, e⟩ := List.mem_map.mp hyk
  have er : rowOf p.rows y = row.2 := by
    unfold rowOf
    rw [lookup_of hw.k (show (y, row.2) ∈ p.rows by rw [← e]; exact hr)]
    rfl
  rw [er] at hx
  exact (hw.r row hr).2 x (srt_mem.mp hx)
theorem prs_short : ∀ {l : List PrT}, (∀ e ∈ l, TxtOk e.1 ∧ TxtOk e.2) → PyData.leavesShortAll 13 (l.map prD) = true
  | [], _ => rfl
  | e :: l, h => by
    have h1 := strsD_short (l := [e.1, e.2]) fun y hy => by
      rcases List.mem_cons.mp hy with z | z
      · rw [z]; exact (h e List.mem_cons_self).1
      · rw [List.mem_singleton.mp z]; exact (h e List.mem_cons_self).2
    show (PyData.leavesShortAll 13 ([e.1, e.2].map PyData.str) && PyData.leavesShortAll 13 (l.map prD)) = true
    rw [h1, prs_short fun z hz => h z (List.mem_cons_of_mem _ hz)]
    rfl
theorem prs_weight : ∀ {l : List PrT}, (∀ e ∈ l, TxtOk e.1 ∧ TxtOk e.2) → PyData.weightAll (l.map prD) ≤ 43 * l.length
  | [], _ => Nat.le_refl _
  | e :: l, h => by
    have ih := prs_weight fun z hz => h z (List.mem_cons_of_mem _ hz)
    have h1 := strsD_weight (l := [e.1, e.2]) fun y hy => by
      rcases List.mem_cons.mp hy with z | z
      · rw [z]; exact (h e List.mem_cons_self).1
      · rw [List.mem_singleton.mp z]; exact (h e List.mem_cons_self).2
    have h1 : PyData.weightAll ([e.1, e.2].map PyData.str) ≤ 42 := h1
    show PyData.weightAll ([e.1, e.2].map PyData.str) + 1 + PyData.weightAll (l.map prD) ≤ 43 * (l.length + 1)
    omega
theorem prs_len {p : Pl} (hw : PlWf p) : (prs p).length ≤ 576 := by
  rw [← (prs_perm hw).length_eq]
  have h1 := accE_len hw (R := p.rows) fun r hr => hr
  have h2 := hw.lk
  have : 24 * p.rows.length ≤ 24 * 24 := Nat.mul_le_mul_left _ h2
  omega
theorem tellD_fits {p : Pl} (hw : PlWf p) : (tellD p).shown.length ≤ sizeLine := by
  have tk : ∀ y ∈ srt p.keys, TxtOk y := fun y hy => name_txt (hw.nk y (srt_mem.mp hy))
  have tu : ∀ y ∈ srt p.us, TxtOk y := fun y hy => name_txt (hw.nu y (srt_mem.mp hy))
  refine PyData.shown_fits (B := 13) (by decide) (by decide) ?_ ?_
  · show (PyData.leavesShortAll 13 ((srt p.keys).map PyData.str) && (PyData.leavesShortAll 13 ((srt p.us).map PyData.str) && (PyData.leavesShortAll 13 ((prs p).map prD) && true))) = true
    rw [strsD_short tk, strsD_short tu, prs_short (prs_txt hw)]
    rfl
  · have b1 := strsD_weight tk
    have b2 := strsD_weight tu
    have b3 := prs_weight (prs_txt hw)
    rw [srt_len] at b1 b2
    have l1 : p.keys.length ≤ 24 := by
      have e : p.keys.length = p.rows.length := List.length_map _
      rw [e]; exact hw.lk
    have l2 := hw.lu
    have l3 := prs_len hw
    show PyData.weightAll ((srt p.keys).map PyData.str) + 1 + (PyData.weightAll ((srt p.us).map PyData.str) + 1 + (PyData.weightAll ((prs p).map prD) + 1 + 0)) ≤ 2 ^ 20
    have e : (2 : Nat) ^ 20 = 1048576 := by decide
    omega
end Bo
set_option Elab.async false
set_option linter.all false
set_option maxRecDepth 100000
set_option maxHeartbeats 8000000
namespace Bo
open PySem PySem.Spec PyProof.Rows L2
/-- the plain system of the law: its two dicts, its lists -/
structure PGM (H : Hp) (pl r u : Addr) (p : Pl) (ra : List (Str × Addr)) : Prop where
  g : PlG H pl r u p.rows ra p.us
  d : H r = some (.dK (refK ra))
theorem PGM.keep {H H' : Hp} {pl r u : Addr} {p : Pl} {ra : List (Str × Addr)} (h : PGM H pl r u p ra) (k : Same H H') : PGM H' pl r u p ra := ⟨h.g.keep k, k _ _ h.d⟩
theorem PGM.p0 {H : Hp} {pl r u : Addr} {p : Pl} {ra : List (Str × Addr)} (h : PGM H pl r u p ra) : Pl0 H pl p := ⟨r, u, ra, h.g⟩
/-- while it is built: the dicts may still change, the lists may not -/
structure Bd (G H : Hp) (pl r u : Addr) (p : Pl) (ra : List (Str × Addr)) : Prop where
  d : H pl = some (.dK [(kR, .ref r), (kU, .ref u)])
  r : H r = some (.dK (refK ra))
  e : Paired (fun (p : Str × List Str) (q : Str × Addr) => p.1 = q.1 ∧ G q.2 = some (.lst (p.2.map V.str))) p.rows ra
  u : G u = some (.lst (p.us.map V.str))
theorem Bd.keep {G H H' : Hp} {pl r u : Addr} {p : Pl} {ra : List (Str × Addr)} (b : Bd G H pl r u p ra) (k : Same H H') : Bd G H' pl r u p ra := ⟨k _ _ b.d, k _ _ b.r, b.e, b.u⟩
theorem Bd.but {G H H' : Hp} {t pl r u : Addr} {p : Pl} {ra : List (Str × Addr)} (b : Bd G H pl r u p ra) (n1 : pl ≠ t) (n2 : r ≠ t) (k : But t H H') : Bd G H' pl r u p ra := ⟨k _ _ b.d n1, k _ _ b.r n2, b.e, b.u⟩
section
variable {K : PySem.W.Frag} {CC CS : Addr} {cs : Nat → Addr} {TT : List (Addr × Str)} {G H H' : Hp} {s t c q : Addr} {ds : List Int} {n l n' l' : Int} {p p' : Pl} {Bs Hs Hs' : List Ct}
/-- what is no instance and no list stays as it is over a call of the System -/
def KeepD (H H' : Hp) : Prop := ∀ q o, H q = some o → (∀ C d f, o ≠ .ins C d f) → (∀ xs, o ≠ .lst xs) → H' q = some o
theorem SS.op2 (L : SS K CC CS TT G H s p Bs Hs t c ds n l) : ∃ B, SyG K CC CS B H s (ctP p) Bs Hs ∧ (∀ H' p' Bs' Hs', SyG K CC CS B H' s (ctP p') Bs' Hs' → SS K CC CS TT G H' s p' Bs' Hs' t c ds n l ∧ KeepD H H') := by
  obtain ⟨B, Y1, s1, s2, k⟩ := L.Y.anew
  refine ⟨B, Y1, fun H' p' Bs' Hs' Y' => ⟨?_, fun q o e n1 n2 => Y'.same _ _ (k _ _ e n1 n2)⟩⟩
  have lst : ∀ {a : Addr} {xs : List V}, (∃ o, G a = some o) → H a = some (.lst xs) → H' a = some (.lst xs) := fun {a xs} ⟨o, e⟩ z => by
    have e1 := s2 _ _ e
    have e2 := s1 _ _ e1
    rw [z] at e2
    rw [← e2] at e1
    exact Y'.same _ _ e1
  exact ⟨Y'.under s2, ⟨Y'.same _ _ (k _ _ L.T.d (fun _ _ _ z => by cases z) fun _ z => by cases z), lst L.gc L.T.c, L.T.n, L.T.m, L.T.p0, L.T.l0⟩, (tabs_in k L.tb).ext Y'.same, L.gc, L.gt, L.no⟩
theorem Bd.op {pl r u : Addr} {p0 : Pl} {ra : List (Str × Addr)} (b : Bd G H pl r u p0 ra) (k : KeepD H H') : Bd G H' pl r u p0 ra := ⟨k _ _ b.d (fun _ _ _ z => by cases z) (fun _ z => by cases z), k _ _ b.r (fun _ _ _ z => by cases z) (fun _ z => by cases z), b.e, b.u⟩
/-- an edit that goes well -/
theorem SS.done {j : Nat} {xs : List V} {as : List Arg} {e : Ed} {Q : VK} {E : XK} (L : SS K CC CS TT G H s p Bs Hs t c ds n l) (hj : mkEd j as = some e) (hav : Paired (AV K H) xs as) (hx : xs.length ≤ 1000) (hm : Hs.length < 1000000) (hw : PlWf p) (he : edP p e = .ok p')
    (k : ∀ H' Hs', SS K CC CS TT G H' s p' Bs Hs' t c ds n l → Hs'.length ≤ Hs.length + 1 → KeepD H H' → Q .non H') : spM K CC CS cs j (.ref s :: xs) H Q E := by
  obtain ⟨B, Y1, kk⟩ := L.op2
  refine ⟨s, B, p, Bs, Hs, xs, as, e, rfl, hj, hav, hx, Y1, hm, hw, ?_⟩
  rw [he]
  intro H2 Y2
  obtain ⟨L2, kd⟩ := kk H2 p' _ _ Y2
  exact k H2 _ L2 histG_len kd
/-- a new object that is no list of the System's joins what stands -/
theorem SS.join (L : SS K CC CS TT G H s p Bs Hs t c ds n l) (L' : SS K CC CS TT G H' s p Bs Hs t c ds n' l') (es : H' s = H s) : ∃ G', SS K CC CS TT G' H' s p Bs Hs t c ds n' l' ∧ Same G G' ∧ ∀ q o, H' q = some o → H q = none → q ≠ t → (∀ ps, o ≠ .tbl ps) → G' q = some o := by
  obtain ⟨G', M, gg, key, _⟩ := L'.more L.Y es
  exact ⟨G', M, gg, fun q o a b => key q o a (.inr b)⟩
theorem SS.at_s (L : SS K CC CS TT G H s p Bs Hs t c ds n l) (k : Same H H') : H' s = H s := by
  obtain ⟨dx, c, b, h, bs, hs, A0, _⟩ := L.Y
  rw [A0.i]
  exact k _ _ A0.i
theorem SS.but_s (L : SS K CC CS TT G H s p Bs Hs t c ds n l) (k : But t H H') : H' s = H s := by
  obtain ⟨dx, c, b, h, bs, hs, A0, _⟩ := L.Y
  rw [A0.i]
  exact k _ _ A0.i fun z => by
    have := L.T.d
    rw [← z, A0.i] at this
    cases this
end
theorem nmS_map (us : List Str) : nmS (us.map Arg.nm) = us := by
  induction us with
  | nil => rfl
  | cons y us ih => exact congrArg (y :: ·) ih
/-- an equation that can be added -/
theorem addE_new {p : Pl} {y : Str} {us : List Str} (h1 : nameOk y = true) (h2 : y ∉ p.keys) (h3 : p.rows.length < 24) (h4 : ∀ x ∈ us, x ∈ p.us) (h5 : us.Nodup) : edP p (.addE (.nm y) (us.map Arg.nm)) = .ok { p with rows := p.rows ++ [(y, us)] } := by
  show newE p (.nm y) (us.map Arg.nm) = _
  unfold newE
  dsimp only
  rw [if_neg (by rw [h1]; decide), if_neg h2, if_neg (by omega)]
  have hl : lackA p.us (us.map Arg.nm) = none := lackA_all fun x hx => by
    obtain ⟨z, hz, rfl⟩ := List.mem_map.mp hx
    exact decide_eq_true (h4 z hz)
  have hc : chkU p.us (us.map Arg.nm) = none := by
    unfold chkU
    rw [hl]
    dsimp only
    rw [nmS_map, show dupT [] us = none from dupT_of (by rw [List.nil_append]; exact h5)]
    rfl
  rw [hc, nmS_map]
theorem wf_new {us : List Str} (nd : us.Nodup) (ok : ∀ y ∈ us, nameOk y = true) (l : us.length ≤ 24) : PlWf ⟨[], us⟩ := ⟨List.nodup_nil, fun _ z => (nomatch z), nd, ok, fun _ z => (nomatch z), Nat.zero_le _, l⟩
def hide1 (r : Addr) (H : Hp) : Hp := fun b => if b = r then none else H b
theorem hide1_same {r : Addr} {H : Hp} : Same (hide1 r H) H := fun b o e => by
  unfold hide1 at e
  split at e
  · cases e
  · exact e
theorem hide1_at {r b : Addr} {H : Hp} (n : b ≠ r) : hide1 r H b = H b := if_neg n
section
variable {K : PySem.W.Frag} {CC CS : Addr} {TT : List (Addr × Str)} {G H H' : Hp} {s t c : Addr} {ds : List Int} {n l : Int} {p : Pl} {Bs Hs : List Ct}
theorem SS.drop {r : Addr} (L : SS K CC CS TT G H s p Bs Hs t c ds n l) (rc : r ≠ c) : SS K CC CS TT (hide1 r G) H s p Bs Hs t c ds n l :=
  ⟨L.Y.under hide1_same, L.T, L.tb, let ⟨o, z⟩ := L.gc; ⟨o, (hide1_at rc.symm).trans z⟩, by unfold hide1; split <;> first | rfl | exact L.gt, fun b ps e => L.no b ps (hide1_same _ _ e)⟩
end
/-- a name, or an odd object -/
def TA (K : PySem.W.Frag) (t : Addr) (H : Hp) (v : V) : Prop := (∃ y, v = .str y ∧ TxtOk y) ∨ ∃ d, Thg K H v d ∧ v ≠ .ref t
theorem TA.but {K : PySem.W.Frag} {t : Addr} {H H' : Hp} {v : V} (h : TA K t H v) (b : But t H H') : TA K t H' v := h.imp id fun ⟨d, h1, h2⟩ => ⟨d, h1.but h2 b, h2⟩
theorem TA.keep {K : PySem.W.Frag} {t : Addr} {H H' : Hp} {v : V} (h : TA K t H v) (k : Same H H') : TA K t H' v := h.imp id fun ⟨d, h1, h2⟩ => ⟨d, h1.keep k, h2⟩
end Bo
set_option Elab.async false
set_option linter.all false
set_option maxRecDepth 100000
set_option maxHeartbeats 4000000
namespace Bo
open PySem PySem.Spec PyProof.Rows L2
theorem rowOf_app {R : List (Str × List Str)} {x y : Str} {z : List Str} : rowOf (R ++ [(x, z)]) y = if y ∈ R.map (·.1) then rowOf R y else if y = x then z else [] := by
  induction R with
  | nil =>
    rw [if_neg (by simp)]
    show ((List.lookup y [(x, z)]).getD [] : List Str) = _
    rw [List.lookup_cons]
    by_cases e : y = x
    · rw [if_pos e, show (y == x) = true from by simp [e]]
      rfl
    · rw [if_neg e, show (y == x) = false from by simp [e]]
      rfl
  | cons r R ih =>
    show ((List.lookup y (r :: (R ++ [(x, z)]))).getD [] : List Str) = if _ then ((List.lookup y (r :: R)).getD [] : List Str) else _
    rw [List.lookup_cons, List.lookup_cons]
    by_cases e : y = r.1
    · rw [show (y == r.1) = true from by simp [e], if_pos (show y ∈ (r :: R).map (·.1) from by rw [e]; exact List.mem_cons_self)]
    · rw [show (y == r.1) = false from by simp [e]]
      have ih : ((List.lookup y (R ++ [(x, z)])).getD [] : List Str) = _ := ih
      show ((List.lookup y (R ++ [(x, z)])).getD [] : List Str) = _
      rw [ih]
      by_cases m : y ∈ R.map (·.1)
      · rw [if_pos m, if_pos (show y ∈ (r :: R).map (·.1) from List.mem_cons_of_mem _ m)]
        rfl
      · rw [if_neg m, if_neg (show ¬ y ∈ (r :: R).map (·.1) from fun h => (List.mem_cons.mp h).elim e m)]
/-- the same but for its order -/
structure PlE (p q : Pl) : Prop where
  u : p.us.Perm q.us
  k : p.keys.Perm q.keys
  r : ∀ y ∈ p.keys, (rowOf p.rows y).Perm (rowOf q.rows y)
theorem PlE.refl (p : Pl) : PlE p p := ⟨List.Perm.refl _, List.Perm.refl _, fun _ _ => List.Perm.refl _⟩
theorem keys_len (p : Pl) : p.keys.length = p.rows.length := List.length_map _
theorem PlE.lr {p q : Pl} (h : PlE p q) : p.rows.length = q.rows.length := by rw [← keys_len, ← keys_len]; exact h.k.length_eq
inductive SimE : Ed → Prop where
  | u (y : Str) : SimE (.addU [.nm y])
  | e (y : Str) : SimE (.addE (.nm y) [])
theorem newU_one (p : Pl) (y : Str) : newU p [.nm y] = if nameOk y = false then .error (0, .str y) else if y ∈ p.us then .error (1, itemD kUn (.nm y)) else if 24 < p.us.length + 1 then .error (5, .int 24) else .ok { p with us := p.us ++ [y] } := by
  unfold newU
  cases h : nameOk y with
  | false =>
    rw [show badA [.nm y] = some (.nm y) from by
      unfold badA
      rw [List.find?_cons]
      show (match !nameOk y with | true => _ | false => _) = _
      rw [h]
      rfl]
    rfl
  | true =>
    rw [show badA [.nm y] = none from badA_all fun x hx => by rw [List.mem_singleton.mp hx]; exact h]
    dsimp only
    show (match (if y ∈ p.us then some y else dupT (p.us ++ [y]) [] : Option Str) with | some y => _ | none => _) = _
    rw [if_neg (show ¬ (true = false) from by decide)]
    by_cases m : y ∈ p.us
    · rw [if_pos m, if_pos m]
    · rw [if_neg m, if_neg m]
      rfl
theorem newE_one (p : Pl) (y : Str) : newE p (.nm y) [] = if nameOk y = false then .error (0, .str y) else if y ∈ p.keys then .error (1, itemD kEq (.nm y)) else if 24 ≤ p.rows.length then .error (5, .int 24) else .ok { p with rows := p.rows ++ [(y, [])] } := by
  unfold newE
  rw [show chkU p.us [] = none from rfl]
  rfl
theorem sim_ed {p q : Pl} {e : Ed} (h : PlE p q) (s : SimE e) : (∃ er er', edP p e = .error er ∧ edP q e = .error er') ∨ ∃ p' q', edP p e = .ok p' ∧ edP q e = .ok q' ∧ PlE p' q' := by
  cases s with
  | u y =>
    show (∃ er er', newU p [.nm y] = .error er ∧ newU q [.nm y] = .error er') ∨ ∃ p' q', newU p [.nm y] = .ok p' ∧ newU q [.nm y] = .ok q' ∧ PlE p' q'
    rw [newU_one, newU_one]
    by_cases h1 : nameOk y = false
    · rw [if_pos h1, if_pos h1]
      exact .inl ⟨_, _, rfl, rfl⟩
    rw [if_neg h1, if_neg h1]
    by_cases h2 : y ∈ p.us
    · rw [if_pos h2, if_pos (h.u.mem_iff.mp h2)]
      exact .inl ⟨_, _, rfl, rfl⟩
    rw [if_neg h2, if_neg (fun z => h2 (h.u.mem_iff.mpr z)), h.u.length_eq]
    by_cases h3 : 24 < q.us.length + 1
    · rw [if_pos h3, if_pos h3]
      exact .inl ⟨_, _, rfl, rfl⟩
    rw [if_neg h3, if_neg h3]
    exact .inr ⟨_, _, rfl, rfl, ⟨h.u.append (List.Perm.refl _), h.k, h.r⟩⟩
  | e y =>
    show (∃ er er', newE p (.nm y) [] = .error er ∧ newE q (.nm y) [] = .error er') ∨ ∃ p' q', newE p (.nm y) [] = .ok p' ∧ newE q (.nm y) [] = .ok q' ∧ PlE p' q'
    rw [newE_one, newE_one]
    by_cases h1 : nameOk y = false
    · rw [if_pos h1, if_pos h1]
      exact .inl ⟨_, _, rfl, rfl⟩
    rw [if_neg h1, if_neg h1]
    by_cases h2 : y ∈ p.keys
    · rw [if_pos h2, if_pos (h.k.mem_iff.mp h2)]
      exact .inl ⟨_, _, rfl, rfl⟩
    have h2q : y ∉ q.keys := fun z => h2 (h.k.mem_iff.mpr z)
    rw [if_neg h2, if_neg h2q, h.lr]
    by_cases h3 : 24 ≤ q.rows.length
    · rw [if_pos h3, if_pos h3]
      exact .inl ⟨_, _, rfl, rfl⟩
    rw [if_neg h3, if_neg h3]
    refine .inr ⟨_, _, rfl, rfl, ⟨h.u, ?_, fun x hx => ?_⟩⟩
    · show ((p.rows ++ [(y, ([] : List Str))]).map (fun r => r.1)).Perm ((q.rows ++ [(y, ([] : List Str))]).map (fun r => r.1))
      rw [List.map_append, List.map_append]
      exact h.k.append (List.Perm.refl _)
    · show (rowOf (p.rows ++ [(y, [])]) x).Perm (rowOf (q.rows ++ [(y, [])]) x)
      rw [rowOf_app, rowOf_app]
      by_cases m : x ∈ p.keys
      · rw [if_pos (show x ∈ p.rows.map (·.1) from m), if_pos (show x ∈ q.rows.map (·.1) from h.k.mem_iff.mp m)]
        exact h.r x m
      · rw [if_neg (show ¬ x ∈ p.rows.map (·.1) from m), if_neg (show ¬ x ∈ q.rows.map (·.1) from fun z => m (h.k.mem_iff.mpr z))]
mutual
def simT : ET → Prop
  | .ed e => SimE e
  | .att es => simL es
  | .no => True
def simL : List ET → Prop
  | [] => True
  | e :: es => simT e ∧ simL es
end
abbrev Both (a b : Option Pl) : Prop := (a = none ∧ b = none) ∨ ∃ p' q', a = some p' ∧ b = some q' ∧ PlE p' q'
mutual
theorem tryP_sim : ∀ (t : ET) (n : Nat) (p q : Pl), PlE p q → simT t → Both (tryP t n p) (tryP t n q)
  | .ed e, n, p, q, h, s => by
    unfold simT at s
    unfold tryP
    rcases sim_ed h s with ⟨a, b, e1, e2⟩ | ⟨a, b, e1, e2, e3⟩
    · rw [e1, e2]
      exact .inl ⟨rfl, rfl⟩
    · rw [e1, e2]
      exact .inr ⟨_, _, rfl, rfl, e3⟩
  | .no, n, p, q, h, s => by
    unfold tryP
    exact .inl ⟨rfl, rfl⟩
  | .att es, n, p, q, h, s => by
    unfold simT at s
    unfold tryP
    by_cases hn : n ≤ 4
    · rw [if_pos hn, if_pos hn]
      rcases tryL_sim es (n + 1) p q h s with ⟨e1, e2⟩ | ⟨a, b, e1, e2, e3⟩
      · rw [e1, e2]
        exact .inr ⟨_, _, rfl, rfl, h⟩
      · rw [e1, e2]
        exact .inr ⟨_, _, rfl, rfl, e3⟩
    · rw [if_neg hn, if_neg hn]
      exact .inl ⟨rfl, rfl⟩
theorem tryL_sim : ∀ (es : List ET) (n : Nat) (p q : Pl), PlE p q → simL es → Both (tryL es n p) (tryL es n q)
  | [], n, p, q, h, s => by
    unfold tryL
    exact .inr ⟨_, _, rfl, rfl, h⟩
  | e :: es, n, p, q, h, s => by
    unfold simL at s
    unfold tryL
    rcases tryP_sim e n p q h s.1 with ⟨e1, e2⟩ | ⟨a, b, e1, e2, e3⟩
    · rw [e1, e2]
      exact .inl ⟨rfl, rfl⟩
    · rw [e1, e2]
      exact tryL_sim es n a b e3 s.2
end
theorem appT_sim : ∀ (es : List ET) (i : Nat) (p q : Pl), PlE p q → simL es → (∃ j, appT es p i = .error j ∧ appT es q i = .error j) ∨ ∃ p' q', appT es p i = .ok p' ∧ appT es q i = .ok q' ∧ PlE p' q'
  | [], i, p, q, h, s => by
    unfold appT
    exact .inr ⟨_, _, rfl, rfl, h⟩
  | e :: es, i, p, q, h, s => by
    unfold simL at s
    unfold appT
    rcases tryP_sim e 0 p q h s.1 with ⟨e1, e2⟩ | ⟨a, b, e1, e2, e3⟩
    · rw [e1, e2]
      exact .inl ⟨_, rfl, rfl⟩
    · rw [e1, e2]
      exact appT_sim es (i + 1) a b e3 s.2
theorem appT_wf : ∀ (es : List ET) (i : Nat) (p q : Pl), PlWf p → appT es p i = .ok q → PlWf q
  | [], i, p, q, w, h => by
    unfold appT at h
    cases h
    exact w
  | e :: es, i, p, q, w, h => by
    unfold appT at h
    cases r : tryP e 0 p with
    | none => rw [r] at h; cases h
    | some a =>
      rw [r] at h
      exact appT_wf es (i + 1) a q (tryP_wf e 0 p a w r) h
theorem flat_congr {α β : Type} {f g : α → List β} : ∀ {l : List α}, (∀ a ∈ l, f a = g a) → l.flatMap f = l.flatMap g
  | [], _ => rfl
  | a :: l, h => by
    rw [List.flatMap_cons, List.flatMap_cons, h a List.mem_cons_self, flat_congr fun b hb => h b (List.mem_cons_of_mem _ hb)]
theorem PlE.prs {p q : Pl} (h : PlE p q) : prs p = prs q := by
  unfold Bo.prs
  rw [← srt_eq h.k]
  exact flat_congr fun y hy => by rw [srt_eq (h.r y (srt_mem.mp hy))]
theorem PlE.tell {p q : Pl} (h : PlE p q) : tellD p = tellD q := by
  unfold tellD
  rw [srt_eq h.k, srt_eq h.u, h.prs]
/-- an entry of the last equation -/
theorem addN_last {R : List (Str × List Str)} {us xs : List Str} {y v : Str} (h1 : y ∉ R.map (·.1)) (h2 : v ∈ us) (h3 : v ∉ xs) : edP ⟨R ++ [(y, xs)], us⟩ (.addN (.nm y) (.nm v)) = .ok ⟨R ++ [(y, xs ++ [v])], us⟩ := by
  have e1 : rowOf (R ++ [(y, xs)]) y = xs := by rw [rowOf_app, if_neg h1, if_pos rfl]
  have hy : y ∈ (⟨R ++ [(y, xs)], us⟩ : Pl).keys := by
    show y ∈ (R ++ [(y, xs)]).map (·.1)
    rw [List.map_append]
    exact List.mem_append_right _ List.mem_cons_self
  have hc : chkN ⟨R ++ [(y, xs)], us⟩ (.nm y) (.nm v) = .ok (y, v) := by
    unfold chkN
    dsimp only
    rw [if_pos hy, if_pos h2]
  unfold edP
  dsimp only
  rw [hc]
  dsimp only
  rw [e1, if_neg h3]
  have e2 : ∀ {R : List (Str × List Str)}, y ∉ R.map (·.1) → setRow (R ++ [(y, xs)]) y (xs ++ [v]) = R ++ [(y, xs ++ [v])] := by
    intro R h
    induction R with
    | nil =>
      show [if y = y then (y, xs ++ [v]) else (y, xs)] = _
      rw [if_pos rfl]
      rfl
    | cons r R ih =>
      rw [List.map_cons, List.mem_cons] at h
      have ih := ih fun z => h (.inr z)
      unfold setRow at ih ⊢
      rw [List.cons_append, List.map_cons, ih, if_neg (fun z => h (.inl z.symm))]
      rfl
  rw [e2 h1]
end Bo
set_option Elab.async false
set_option linter.all false
set_option maxRecDepth 100000
set_option maxHeartbeats 4000000
namespace Bo
open PySem PySem.Spec PyProof.Rows L2
def tDUpd (td te : TE) : TE := fun σ H Q => td σ H fun x H1 => ∃ a, x = .ref a ∧ IsD H1 a ∧ te σ H1 fun y H2 => ∃ b kvs more, y = .ref b ∧ a ≠ b ∧ H2 a = some (.dK kvs) ∧ H2 b = some (.dK more) ∧ kvs.length + more.length ≤ 1000 ∧ Q .non (upd H2 a (.dK (mergeK kvs more)))
theorem pe_dupd {X : Cx} {o e : Expr} {td te : TE} {apos cpos : Pos} (ho : PE X o td) (he : PE X e te) (m : M1 X o "update" apos e cpos) : PE X (.Call (.Attribute o "update" apos) [e] [] cpos) (tDUpd td te) := by
  refine ⟨fun pins s σ H Q I h => ?_⟩
  refine wpAny_Call_method m.base m.few m.line PySem.F.plainAttrs_dict PySem.F.slot_dict_update PySem.F.type_dict_update (thn (ho.run pins s σ H _ I h) fun u s1 ⟨x, H1, I1, rx, a, ex, d, q1⟩ => ?_)
  subst ex
  obtain rfl : u = Value.ref a := rx
  obtain ⟨t1, t2, _⟩ := isD_at I1 d
  refine ⟨t1, t2, ?_⟩
  rw [m.trees]
  refine Calls.callWith_builtin rfl (Calls.evalArgs_plain (Calls.spliced_cons (thn (he.run pins s1 σ H1 _ I1 q1) fun iv s2 ⟨y, H2, I2, ry, b, kvs, more, ey, ne, ea, eb, z, q2⟩ => Calls.spliced_nil ?_)))
  subst ey
  obtain rfl : iv = Value.ref b := ry
  obtain ⟨za, hda, vs, rel, dd⟩ := dk_of I2.hok ea
  obtain ⟨zb, hdb, ws, relb, ddb⟩ := dk_of I2.hok eb
  refine call_meetsIn PySem.F.slot_dict_update dd.typeIs PySem.F.entry_dict_update (PySem.F.args_dict_update_2 _ _) (meets_dict_update (mixKind X.prog X.w) a b ne hdb) ⟨vs, ws, dd, ddb, by rw [← rel.length, ← relb.length, sizeLine_eq]; omega, fun h' d1 d2 k => ?_⟩
  have he' : ∃ q, h'.get? a = some q := let ⟨q, _, _, hq, _⟩ := d1; ⟨q, hq⟩
  have hl := length_mergeK more kvs
  exact ⟨.non, _, d_write I2 (by rw [ea]; exact True.intro) k he' (dk_new (by rw [sizeLine_eq]; omega) hda (relb.merge rel) d1), rfl, q2⟩
def rEqT0 (K : PySem.W.Frag) : R2 := fun x y H Q => ∃ a b xs, x = .ref a ∧ y = .ref b ∧ SqT K H a xs ∧ SqT K H b [] ∧ Q (.bl xs.isEmpty) H
theorem op_eqT0 {X : Cx} (hu : X.A.units < cLine) : OpR X (compareOp .Eq) (rEqT0 X.K) := by
  intro pins s σ H x y v u Q I rx ry h
  obtain ⟨a, b, xs, rfl, rfl, ea, eb, q⟩ := h
  obtain rfl : v = Value.ref a := rx
  obtain rfl : u = Value.ref b := ry
  obtain ⟨is, r1, h1, _⟩ := I.tuple ea
  obtain ⟨js, r2, h2, _⟩ := I.tuple eb
  cases r2
  refine SeqAt.eq_tupleAt (e := fun _ => true) (items2 := #[]) h1 h2 hu (fun j _ z => absurd z (Nat.not_lt_zero j)) ⟨.bl _, H, I, ?_, q⟩
  cases r1 <;> simp <;> rfl
end Bo
set_option Elab.async false
set_option linter.all false
set_option maxRecDepth 100000
set_option maxHeartbeats 8000000
namespace Bo
open PySem PySem.Spec PyProof.Rows L2
abbrev sTried : Stmt := top 81
abbrev nTr : List Str := ["_law_plain", "_law_edit", "_law_level", "_law_here", "_law_one", "_law_counts", "_law_due", "_law_later"]
theorem PlM.keep {ok : Addr → Prop} {H H' : Hp} {pl : Addr} {p : Pl} (h : PlM ok H pl p) (k : Same H H') : PlM ok H' pl p := let ⟨r, u, ra, z, d, o⟩ := h; ⟨r, u, ra, z.keep k, k _ _ d, o⟩
/-- what it tells: the plain system after it, or None -/
def TrO (ok : Addr → Prop) (H : Hp) (v : V) : Option Pl → Prop
  | none => v = .non
  | some q => ∃ pl, v = .ref pl ∧ PlM ok H pl q
def spTr (K : PySem.W.Frag) (n : Nat) : Sp := fun vs H Q _ => ∃ (ok : Addr → Prop) (pl : Addr) (v : V) (p : Pl) (t : ET), vs = [.ref pl, v, .int n] ∧ (∀ q, H q = none → ok q) ∧ PlM ok H pl p ∧ PlWf p ∧ EvT K H v t ∧ ∀ w H', Same H H' → TrO ok H' w (tryP t n p) → Q w H'
def spTrE (K : PySem.W.Frag) (n : Nat) : Sp := fun vs H Q _ => ∃ (ok : Addr → Prop) (pl q : Addr) (p : Pl) (j : Nat) (xs : List V) (as : List Arg) (e : Ed), vs = [.ref pl, .ref q, .int n] ∧ (∀ q, H q = none → ok q) ∧ PlM ok H pl p ∧ PlWf p ∧ SqT K H q (.str (wordS j) :: xs) ∧ mkEd j as = some e ∧ Paired (AV K H) xs as ∧ (∀ x ∈ as, ArgOk x) ∧ xs.length ≤ 90 ∧ ∀ w H', Same H H' → TrO ok H' w (tryP (.ed e) n p) → Q w H'
def spTrA (K : PySem.W.Frag) (n : Nat) : Sp := fun vs H Q _ => ∃ (ok : Addr → Prop) (pl q : Addr) (p : Pl) (xs : List V) (es : List ET), vs = [.ref pl, .ref q, .int n] ∧ (∀ q, H q = none → ok q) ∧ PlM ok H pl p ∧ PlWf p ∧ SqT K H q (.str "attempt" :: xs) ∧ Paired (EvT K H) xs es ∧ xs.length ≤ 900 ∧ ∀ w H', Same H H' → TrO ok H' w (tryP (.att es) n p) → Q w H'
structure TxtT (mg : Str → Option Value) : Prop where
  isi : mg "isinstance" = none
  tup : mg "tuple" = none
  str : mg "str" = none
  len : mg "len" = none
section
variable {P : Program} {w : World} {K : PySem.W.Frag} {mg : Str → Option Value} {base : Heap}
theorem scTr : FnScope nTr ["_law_plain", "_law_edit", "_law_level"] (defScope sTried) := ⟨rfl, rfl, rfl, by decide +kernel, rfl, by decide +kernel, by decide +kernel⟩
theorem ok_trA {n : Nat} {k : Nat} {f : Addr} {fd : FuncData} (hn : n ≤ 4) (F : Fun K "_law_tried" "_law_tried" sTried f fd) (T : TxtT mg)
    (GT : FnOk P w K mg base CX0 k f fd ["_law_plain", "_law_edit", "_law_level"] (spTr K (n + 1))) (mT : mg "_law_tried" = some (.ref f)) (kT : PySem.W.keepIn K (.ref f) = true) (bT : Binds K fd ["_law_plain", "_law_edit", "_law_level"] []) :
    FnOk P w K mg base CX0 (k + 1) f fd ["_law_plain", "_law_edit", "_law_level"] (spTrA K n) := by
  refine F.ok scTr (fun vs H Q E h => ?_) (fun cdv A outer s0 H vs Q E hr h => ?_)
  · obtain ⟨ok, pl, q, p, xs, es, rfl, _⟩ := h
    rfl
  · obtain ⟨ok, pl, q, p, xs, es, rfl, hok, hP, hw, hq, hes, hl, kk⟩ := h
    have hu := hu_of hr
    have hu0 : (A.deeper (envOfC "_law_tried" (defScope sTried) s0.heap.objs.size f cdv)).units < cLine := by omega
    refine ⟨_, pss_cons (ps_if (PW.pt (pw_or (pt_not (pt_val (pe_callB call_isi (by rfl) T.isi (by decide +kernel) (pa_cons (pv 1) (pa_cons (pe_bltn (v := .ty "tuple") (by rfl) T.tup (by decide +kernel) rfl) pa_nil)))))
          (pw_or (pt_cmpR (op_eqT0 hu0) (pv 1) (pe_tup pa_nil) (nomark _))
          (pw_or1 (pt_not (pt_val (pe_callB call_isi (by rfl) T.isi (by decide +kernel) (pa_cons (pe_ix ix_tup (pv 1) pe_int (fun _ _ => rfl)) (pa_cons (pe_bltn (v := .ty "str") (by rfl) T.str (by decide +kernel) rfl) pa_nil))))))))) (pss_one ps_never) pss_nil)
      (pss_cons (ps_if (pt_cmpR op_eq (pe_ix ix_tup (pv 1) pe_int (fun _ _ => rfl)) pe_str (nomark _))
        (pss_cons (ps_set (i := 3) scTr.nd rfl (.inl rfl) (pe_ifExp (pt_cmpR op_lt (pv 2) pe_int (nomark _)) (pv 0) pe_non))
        (pss_cons (ps_for PassesOwn.never rfl (pi_tup (pe_ifExp (pt_cmpR op_lt (pv 2) pe_int (nomark _)) (pe_slice sl_tupA (pv 1) (po_some pe_int) po_none) (pe_tup pa_nil))) (pg_name (i := 4) scTr.nd rfl (.inl rfl))
          (pss_one (ps_set (i := 3) scTr.nd rfl (.inl rfl) (pe_ifExp (pt_cmp (pc_isN (pv 3))) pe_non (pe_call GT hr rfl mT kT bT .nil pass0 (pa_cons (pv 3) (pa_cons (pv 4) (pa_cons (pe_op op_add (pv 2) pe_int) pa_nil))))))))
        (pss_one (ps_ret (pe_ifExp (PW.pt (pw_and (pt_cmp (pc_isN (pv 3))) (pw_and1 (pt_cmpR op_lt (pv 2) pe_int (nomark _))))) (pv 0) (pv 3)))))) pss_nil)
      (pss_cons ps_never (pss_cons ps_never (pss_cons ps_never (pss_cons ps_never (pss_one ps_never)))))), ?_⟩
    refine ⟨_, rfl, _, _, _, _, true, rfl, .ty "tuple", sqT_ty hq, kit_ty (by decide +kernel), _, rfl, iteF ?_⟩
    refine ⟨_, rfl, by decide, fun e0 he0 => ⟨q, e0, _, rfl, rfl, SqT.keep hq (same_new he0), SqT.of upd_same, _, rfl, iteF ?_⟩⟩
    have s1 : Same H (upd H e0 (.tup [])) := same_new he0
    generalize upd H e0 (.tup []) = H1 at s1 ⊢
    have hq1 := SqT.keep hq s1
    refine ⟨_, rfl, q, _, _, _, rfl, rfl, hq1, atI_nat (j := 0) rfl, _, _, _, _, true, rfl, .ty "str", atom_ty (v := .str "attempt") rfl, kit_ty (by decide +kernel), _, rfl, iteF ?_⟩
    refine ⟨_, rfl, q, _, _, _, rfl, rfl, hq1, atI_nat (j := 0) rfl, rfl, _, rfl, ?_⟩
    rw [decide_eq_true (show V.str "attempt" = V.str "attempt" from rfl)]
    refine iteT ⟨_, rfl, _, _, rfl, rfl, _, rfl, ?_⟩
    have lt5 : decide ((n : Int) < 5) = true := decide_eq_true (by omega)
    rw [lt5]
    refine iteT ⟨_, rfl, ?_⟩
    refine ⟨_, rfl, _, _, rfl, rfl, _, rfl, ?_⟩
    rw [lt5]
    refine iteT ⟨_, rfl, _, rfl, q, _, rfl, hq1, fun h => absurd h (cut1_no _ xs), fun _ t ht => ⟨t, rfl, ⟨xs, by rw [cut1]; exact SqT.of upd_same⟩, ?_⟩⟩
    rw [cut1]
    have s2 : Same H1 (upd H1 t (.tup xs)) := same_new ht
    have et : SqT K (upd H1 t (.tup xs)) t xs := SqT.of upd_same
    generalize upd H1 t (.tup xs) = H2 at s2 et ⊢
    have s02 := s1.trans s2
    have kk2 : ∀ w H', Same H2 H' → TrO ok H' w (tryP (.att es) n p) → Q w H' := fun w H' z => kk w H' (s02.trans z)
    unfold tryP at kk2
    rw [if_pos hn] at kk2
    have hok2 : ∀ {H' : Hp}, Same H2 H' → ∀ q, H' q = none → ok q := fun s q e => hok q ((s02.trans s).free e)
    refine for_tup (xs := xs) (fun i σ H' => (∃ (v3 : V) (z4 : Option V) (o : Option Pl), σ = [some (.ref pl), some (.ref q), some (.int n), some v3, z4, none, none, none] ∧ TrO ok H' v3 o ∧ (∀ p', o = some p' → PlWf p' ∧ tryL es (n + 1) p = tryL (es.drop i) (n + 1) p') ∧ (o = none → tryL es (n + 1) p = none)) ∧ Same H2 H')
      ⟨⟨_, none, some p, rfl, ⟨pl, rfl, hP.keep s02⟩, fun p' e => by cases e; exact ⟨hw, by rw [List.drop_zero]⟩, fun e => nomatch e⟩, Same.refl H2⟩ (fun i σ H' _ p => SqT.keep et p.2) ?_ ?_
    · rintro i x σ H3 hx ⟨⟨v3, z4, o, rfl, ho, h1, h2⟩, sm⟩
      obtain ⟨e, he, fe⟩ := pairG hes hx
      have hdr : es.drop i = e :: es.drop (i + 1) := by
        obtain ⟨hi, e⟩ := List.getElem?_eq_some_iff.mp he
        rw [List.drop_eq_getElem_cons hi, e]
      cases o with
      | none =>
        cases ho
        refine ⟨_, rfl, _, rfl, iteT ?_⟩
        exact ⟨⟨_, _, none, rfl, rfl, (fun _ z => nomatch z), fun _ => h2 rfl⟩, sm⟩
      | some p' =>
        obtain ⟨pl', rfl, hP'⟩ := ho
        obtain ⟨hw', hap⟩ := h1 p' rfl
        have key : tryL es (n + 1) p = match tryP e (n + 1) p' with | none => none | some q => tryL (es.drop (i + 1)) (n + 1) q := by
          rw [hap, hdr]
          conv => lhs; unfold tryL
          all_goals (cases tryP e (n + 1) p' <;> rfl)
        refine ⟨_, rfl, _, rfl, iteF ?_⟩
        refine ⟨_, rfl, _, rfl, _, rfl, _, _, rfl, rfl, ?_⟩
        refine ⟨ok, pl', x, p', e, rfl, hok2 sm, hP', hw', EvT.keep (s02.trans sm) fe, fun w H4 s4 ho4 => ?_⟩
        refine ⟨⟨w, _, _, rfl, ho4, fun p2 e2 => ?_, fun e2 => ?_⟩, sm.trans s4⟩
        · rw [e2] at key
          exact ⟨tryP_wf e _ _ _ hw' e2, key⟩
        · rw [e2] at key
          exact key
    · rintro σ H3 ⟨⟨v3, z4, o, rfl, ho, h1, h2⟩, sm⟩
      have el := hes.length
      cases o with
      | none =>
        cases ho
        refine ⟨_, rfl, _, rfl, iteT ⟨_, rfl, _, _, rfl, rfl, _, rfl, ?_⟩⟩
        rw [lt5]
        refine iteT ⟨_, rfl, kk2 _ H3 sm ?_⟩
        rw [h2 rfl]
        exact ⟨pl, rfl, hP.keep (s02.trans sm)⟩
      | some p' =>
        obtain ⟨pl', rfl, hP'⟩ := ho
        obtain ⟨hw', hap⟩ := h1 p' rfl
        rw [el, List.drop_length] at hap
        have hap : tryL es (n + 1) p = some p' := by
          rw [hap]
          unfold tryL
          rfl
        refine ⟨_, rfl, _, rfl, iteF ?_⟩
        refine iteF ⟨_, rfl, kk2 _ H3 sm ?_⟩
        rw [hap]
        exact ⟨pl', rfl, hP'⟩
end
end Bo
set_option Elab.async false
set_option linter.all false
set_option maxRecDepth 100000
set_option maxHeartbeats 8000000
namespace Bo
open PySem PySem.Spec PyProof.Rows L2
theorem mergeK_fresh : ∀ (more kvs : List (Key × V)), ((kvs ++ more).map (·.1)).Nodup → mergeK kvs more = kvs ++ more
  | [], kvs, _ => (List.append_nil _).symm
  | m :: more, kvs, h => by
    have e : putK kvs m.1 m.2 = kvs ++ [m] := by
      unfold putK
      rw [if_neg]
      rw [List.any_eq_true]
      rintro ⟨x, hx, he⟩
      rw [List.map_append, List.map_cons, List.nodup_append] at h
      exact h.2.2 x.1 (List.mem_map.mpr ⟨x, hx, rfl⟩) m.1 List.mem_cons_self (of_decide_eq_true he)
    show mergeK (putK kvs m.1 m.2) more = _
    rw [e, mergeK_fresh more (kvs ++ [m]) (by rw [List.append_assoc]; exact h), List.append_assoc]
    rfl
abbrev kW (j : Nat) : Key := Sum.inr (wordS j)
theorem nodW : [kW 0, kW 1, kW 2, kW 3, kW 4, kW 5].Nodup := by decide +kernel
theorem merge6 (a b c d e f : V) : mergeK [(kW 0, a), (kW 1, b), (kW 2, c), (kW 3, d)] [(kW 4, e), (kW 5, f)] = [(kW 0, a), (kW 1, b), (kW 2, c), (kW 3, d), (kW 4, e), (kW 5, f)] := mergeK_fresh _ _ nodW
theorem merge4 (a b c d : V) : mergeK [] [(kW 0, a), (kW 1, b), (kW 2, c), (kW 3, d)] = [(kW 0, a), (kW 1, b), (kW 2, c), (kW 3, d)] := mergeK_fresh _ _ (nodW.sublist (by decide +kernel : List.Sublist [kW 0, kW 1, kW 2, kW 3] _))
theorem merge2 (a b : V) : mergeK [] [(kW 4, a), (kW 5, b)] = [(kW 4, a), (kW 5, b)] := mergeK_fresh _ _ (nodW.sublist (by decide +kernel : List.Sublist [kW 4, kW 5] _))
theorem neW {i j : Nat} (h : (i, j) ∈ [(0,1),(0,2),(0,3),(0,4),(0,5),(1,2),(1,3),(1,4),(1,5),(2,3),(2,4),(2,5),(3,4),(3,5),(4,5)]) : ¬ kW i = kW j := by
  simp only [List.mem_cons, Prod.mk.injEq, List.not_mem_nil, or_false] at h
  rcases h with ⟨rfl, rfl⟩ | ⟨rfl, rfl⟩ | ⟨rfl, rfl⟩ | ⟨rfl, rfl⟩ | ⟨rfl, rfl⟩ | ⟨rfl, rfl⟩ | ⟨rfl, rfl⟩ | ⟨rfl, rfl⟩ | ⟨rfl, rfl⟩ | ⟨rfl, rfl⟩ | ⟨rfl, rfl⟩ | ⟨rfl, rfl⟩ | ⟨rfl, rfl⟩ | ⟨rfl, rfl⟩ | ⟨rfl, rfl⟩ <;> decide +kernel
theorem val6 (l : Nat → V) (j : Nat) (hj : j < 6) : valV [(kW 0, l 0), (kW 1, l 1), (kW 2, l 2), (kW 3, l 3), (kW 4, l 4), (kW 5, l 5)] (kW j) = some (l j) := by
  match j, hj with
  | 0, _ => rw [valV_pos rfl]
  | 1, _ => rw [valV_neg (neW (by decide)), valV_pos rfl]
  | 2, _ => rw [valV_neg (neW (by decide)), valV_neg (neW (by decide)), valV_pos rfl]
  | 3, _ => rw [valV_neg (neW (by decide)), valV_neg (neW (by decide)), valV_neg (neW (by decide)), valV_pos rfl]
  | 4, _ => rw [valV_neg (neW (by decide)), valV_neg (neW (by decide)), valV_neg (neW (by decide)), valV_neg (neW (by decide)), valV_pos rfl]
  | 5, _ => rw [valV_neg (neW (by decide)), valV_neg (neW (by decide)), valV_neg (neW (by decide)), valV_neg (neW (by decide)), valV_neg (neW (by decide)), valV_pos rfl]
/-- the least and the greatest number of values behind each word -/
def loW : Nat → Int
  | 0 => 0
  | 1 => 1
  | 2 => 2
  | 3 => 2
  | _ => 1
def hiW : Nat → Int
  | 0 => 99
  | 1 => 99
  | 2 => 2
  | 3 => 2
  | _ => 1
theorem word_att : ∀ j, j < 6 → ¬ wordS j = Str.ofString "attempt" := by decide +kernel
theorem mkEd_lt {j : Nat} {as : List Arg} {e : Ed} (h : mkEd j as = some e) : j < 6 := by
  match j, h with
  | 0, _ => decide
  | 1, _ => decide
  | 2, _ => decide
  | 3, _ => decide
  | 4, _ => decide
  | 5, _ => decide
  | n + 6, h => cases as <;> cases h
theorem mkEd_len {j : Nat} {as : List Arg} {e : Ed} (h : mkEd j as = some e) (l : as.length ≤ 90) : loW j ≤ (as.length : Int) ∧ (as.length : Int) ≤ hiW j := by
  match j, as, h with
  | 0, xs, _ => exact ⟨by show (0 : Int) ≤ _; omega, by show _ ≤ (99 : Int); omega⟩
  | 1, x :: us, _ => exact ⟨by show (1 : Int) ≤ _; rw [List.length_cons]; omega, by show _ ≤ (99 : Int); omega⟩
  | 2, [e, u], _ => exact ⟨show (2 : Int) ≤ 2 by decide, show (2 : Int) ≤ 2 by decide⟩
  | 3, [e, u], _ => exact ⟨show (2 : Int) ≤ 2 by decide, show (2 : Int) ≤ 2 by decide⟩
  | 4, [e], _ => exact ⟨show (1 : Int) ≤ 1 by decide, show (1 : Int) ≤ 1 by decide⟩
  | 5, [u], _ => exact ⟨show (1 : Int) ≤ 1 by decide, show (1 : Int) ≤ 1 by decide⟩
section
variable {P : Program} {w : World} {K : PySem.W.Frag} {mg : Str → Option Value} {base : Heap}
theorem ok_trA5 {n : Nat} {f : Addr} {fd : FuncData} (hn : ¬ n ≤ 4) (F : Fun K "_law_tried" "_law_tried" sTried f fd) (T : TxtT mg) :
    FnOk P w K mg base CX0 1 f fd ["_law_plain", "_law_edit", "_law_level"] (spTrA K n) := by
  refine F.ok scTr (fun vs H Q E h => ?_) (fun cdv A outer s0 H vs Q E hr h => ?_)
  · obtain ⟨ok, pl, q, p, xs, es, rfl, _⟩ := h
    rfl
  · obtain ⟨ok, pl, q, p, xs, es, rfl, hok, hP, hw, hq, hes, hl, kk⟩ := h
    have hu := hu_of hr
    have hu0 : (A.deeper (envOfC "_law_tried" (defScope sTried) s0.heap.objs.size f cdv)).units < cLine := by omega
    refine ⟨_, pss_cons (ps_if (PW.pt (pw_or (pt_not (pt_val (pe_callB call_isi (by rfl) T.isi (by decide +kernel) (pa_cons (pv 1) (pa_cons (pe_bltn (v := .ty "tuple") (by rfl) T.tup (by decide +kernel) rfl) pa_nil)))))
          (pw_or (pt_cmpR (op_eqT0 hu0) (pv 1) (pe_tup pa_nil) (nomark _))
          (pw_or1 (pt_not (pt_val (pe_callB call_isi (by rfl) T.isi (by decide +kernel) (pa_cons (pe_ix ix_tup (pv 1) pe_int (fun _ _ => rfl)) (pa_cons (pe_bltn (v := .ty "str") (by rfl) T.str (by decide +kernel) rfl) pa_nil))))))))) (pss_one ps_never) pss_nil)
      (pss_cons (ps_if (pt_cmpR op_eq (pe_ix ix_tup (pv 1) pe_int (fun _ _ => rfl)) pe_str (nomark _))
        (pss_cons (ps_set (i := 3) scTr.nd rfl (.inl rfl) (pe_ifExp (pt_cmpR op_lt (pv 2) pe_int (nomark _)) (pv 0) pe_non))
        (pss_cons (ps_for PassesOwn.never rfl (pi_tup (pe_ifExp (pt_cmpR op_lt (pv 2) pe_int (nomark _)) (pe_slice sl_tupA (pv 1) (po_some pe_int) po_none) (pe_tup pa_nil))) (pg_name (i := 4) scTr.nd rfl (.inl rfl))
          (pss_one ps_never))
        (pss_one (ps_ret (pe_ifExp (PW.pt (pw_and (pt_cmp (pc_isN (pv 3))) (pw_and1 (pt_cmpR op_lt (pv 2) pe_int (nomark _))))) (pv 0) (pv 3)))))) pss_nil)
      (pss_cons ps_never (pss_cons ps_never (pss_cons ps_never (pss_cons ps_never (pss_one ps_never)))))), ?_⟩
    refine ⟨_, rfl, _, _, _, _, true, rfl, .ty "tuple", sqT_ty hq, kit_ty (by decide +kernel), _, rfl, iteF ?_⟩
    refine ⟨_, rfl, by decide, fun e0 he0 => ⟨q, e0, _, rfl, rfl, SqT.keep hq (same_new he0), SqT.of upd_same, _, rfl, iteF ?_⟩⟩
    have s1 : Same H (upd H e0 (.tup [])) := same_new he0
    generalize upd H e0 (.tup []) = H1 at s1 ⊢
    have hq1 := SqT.keep hq s1
    refine ⟨_, rfl, q, _, _, _, rfl, rfl, hq1, atI_nat (j := 0) rfl, _, _, _, _, true, rfl, .ty "str", atom_ty (v := .str "attempt") rfl, kit_ty (by decide +kernel), _, rfl, iteF ?_⟩
    refine ⟨_, rfl, q, _, _, _, rfl, rfl, hq1, atI_nat (j := 0) rfl, rfl, _, rfl, ?_⟩
    rw [decide_eq_true (show V.str "attempt" = V.str "attempt" from rfl)]
    refine iteT ⟨_, rfl, _, _, rfl, rfl, _, rfl, ?_⟩
    have lt5 : decide ((n : Int) < 5) = false := decide_eq_false (by omega)
    rw [lt5]
    refine iteF ?_
    refine ⟨_, rfl, _, _, rfl, rfl, _, rfl, ?_⟩
    rw [lt5]
    refine iteF ⟨by decide, fun t ht => ⟨t, rfl, ⟨[], SqT.of upd_same⟩, ?_⟩⟩
    have s2 : Same H1 (upd H1 t (.tup [])) := same_new ht
    have et : SqT K (upd H1 t (.tup [])) t [] := SqT.of upd_same
    generalize upd H1 t (.tup []) = H2 at s2 et ⊢
    have s02 := s1.trans s2
    unfold tryP at kk
    rw [if_neg hn] at kk
    refine for_tup (xs := []) (fun i σ H' => σ = [some (.ref pl), some (.ref q), some (.int n), some .non, none, none, none, none] ∧ H' = H2) ⟨rfl, rfl⟩ (fun i σ H' _ p => by rw [p.2]; exact et) (fun i x σ H' hx => by simp at hx) ?_
    rintro σ H3 ⟨rfl, rfl⟩
    refine ⟨_, rfl, _, rfl, iteT ⟨_, rfl, _, _, rfl, rfl, _, rfl, ?_⟩⟩
    rw [lt5]
    exact iteF ⟨_, rfl, kk _ H3 s02 rfl⟩
end
end Bo
set_option Elab.async false
set_option linter.all false
set_option maxRecDepth 100000
set_option maxHeartbeats 8000000
namespace Bo
open PySem PySem.Spec PyProof.Rows L2
section
variable {P : Program} {w : World} {K : PySem.W.Frag} {mg : Str → Option Value} {base : Heap}
theorem ok_trE {n : Nat} {f fE : Addr} {fd fdE : FuncData} (F : Fun K "_law_tried" "_law_tried" sTried f fd) (T : TxtT mg)
    (GE : FnOk P w K mg base CX0 4 fE fdE ["_law_plain", "_law_edit"] (spEdited K)) (mE : mg "_law_edited" = some (.ref fE)) (kE : PySem.W.keepIn K (.ref fE) = true) (bE : Binds K fdE ["_law_plain", "_law_edit"] []) :
    FnOk P w K mg base CX0 5 f fd ["_law_plain", "_law_edit", "_law_level"] (spTrE K n) := by
  refine F.ok scTr (fun vs H Q E h => ?_) (fun cdv A outer s0 H vs Q E hr h => ?_)
  · obtain ⟨ok, pl, q, p, j, xs, as, e, rfl, _⟩ := h
    rfl
  · obtain ⟨ok, pl, q, p, j, xs, as, e, rfl, hok, hP, hw, hq, hmk, hav, hao, hl, kk⟩ := h
    have hu := hu_of hr
    have hu0 : (A.deeper (envOfC "_law_tried" (defScope sTried) s0.heap.objs.size f cdv)).units < cLine := by omega
    refine ⟨_, pss_cons (ps_if (PW.pt (pw_or (pt_not (pt_val (pe_callB call_isi (by rfl) T.isi (by decide +kernel) (pa_cons (pv 1) (pa_cons (pe_bltn (v := .ty "tuple") (by rfl) T.tup (by decide +kernel) rfl) pa_nil)))))
          (pw_or (pt_cmpR (op_eqT0 hu0) (pv 1) (pe_tup pa_nil) (nomark _))
          (pw_or1 (pt_not (pt_val (pe_callB call_isi (by rfl) T.isi (by decide +kernel) (pa_cons (pe_ix ix_tup (pv 1) pe_int (fun _ _ => rfl)) (pa_cons (pe_bltn (v := .ty "str") (by rfl) T.str (by decide +kernel) rfl) pa_nil))))))))) (pss_one ps_never) pss_nil)
      (pss_cons (ps_if (pt_cmpR op_eq (pe_ix ix_tup (pv 1) pe_int (fun _ _ => rfl)) pe_str (nomark _)) (pss_cons ps_never (pss_cons ps_never (pss_one ps_never))) pss_nil)
      (pss_cons (ps_set (i := 5) scTr.nd rfl (.inl rfl) (pe_disp (pps_cons pe_str (pe_lst (pa_cons pe_int (pa_cons pe_int pa_nil))) (pps_cons pe_str (pe_lst (pa_cons pe_int (pa_cons pe_int pa_nil))) (pps_cons pe_str (pe_lst (pa_cons pe_int (pa_cons pe_int pa_nil))) (pps_cons pe_str (pe_lst (pa_cons pe_int (pa_cons pe_int pa_nil))) pps_nil)))) (by rfl) (by rfl) (fun z => by cases z) (by decide)))
      (pss_cons (ps_expr (pe_dupd (pv 5) (pe_disp (pps_cons pe_str (pe_lst (pa_cons pe_int (pa_cons pe_int pa_nil))) (pps_cons pe_str (pe_lst (pa_cons pe_int (pa_cons pe_int pa_nil))) pps_nil)) (by rfl) (by rfl) (fun z => by cases z) (by decide)) ⟨rfl, rfl, rfl, rfl⟩))
      (pss_cons (ps_if (PW.pt (pw_or (pt_cmp (pc_dnotin hu (pe_ix ix_tup (pv 1) pe_int (fun _ _ => rfl)) (pv 5)))
          (pw_or1 (pt_not (pt_chain op_le op_le (pe_ix ix_list (pe_dget hu (pv 5) (pe_ix ix_tup (pv 1) pe_int (fun _ _ => rfl)) (fun _ _ => rfl)) pe_int (fun _ _ => rfl)) (pe_op op_sub (pe_callB call_len_seq (by rfl) T.len PySem.boot_len (pa_cons (pv 1) pa_nil)) pe_int) (pe_ix ix_list (pe_dget hu (pv 5) (pe_ix ix_tup (pv 1) pe_int (fun _ _ => rfl)) (fun _ _ => rfl)) pe_int (fun _ _ => rfl))))))) (pss_one ps_never) pss_nil)
      (pss_cons (ps_asg (pe_call GE hr rfl mE kE bE .nil pass0 (pa_cons (pv 0) (pa_cons (pv 1) pa_nil))) (pg_tup (by rfl) (pgs_cons (pg_name (i := 6) scTr.nd rfl (.inl rfl)) (pgs_cons (pg_name (i := 7) scTr.nd rfl (.inl rfl)) pgs_nil))))
      (pss_one (ps_ret (pe_ifExp (pt_cmp (pc_isN (pv 6))) (pv 7) pe_non)))))))), ?_⟩
    refine ⟨_, rfl, _, _, _, _, true, rfl, .ty "tuple", sqT_ty hq, kit_ty (by decide +kernel), _, rfl, iteF ?_⟩
    refine ⟨_, rfl, by decide, fun e0 he0 => ⟨q, e0, _, rfl, rfl, SqT.keep hq (same_new he0), SqT.of upd_same, _, rfl, iteF ?_⟩⟩
    have s1 : Same H (upd H e0 (.tup [])) := same_new he0
    generalize upd H e0 (.tup []) = H1 at s1 ⊢
    have hq1 := SqT.keep hq s1
    refine ⟨_, rfl, q, _, _, _, rfl, rfl, hq1, atI_nat (j := 0) rfl, _, _, _, _, true, rfl, .ty "str", atom_ty (v := .str (wordS j)) rfl, kit_ty (show kitB "str" "str" = some true from by decide +kernel), _, rfl, iteF ?_⟩
    have j6 := mkEd_lt hmk
    have hatt : ¬ V.str (wordS j) = V.str "attempt" := fun e => word_att j j6 (V.str.inj e)
    refine ⟨_, rfl, q, _, _, _, rfl, rfl, hq1, atI_nat (j := 0) rfl, rfl, _, rfl, ?_⟩
    rw [decide_eq_false hatt]
    refine iteF ?_
    intro d hd
    have sd : Same H1 (upd H1 d (.dK [])) := same_new hd
    have ed : (upd H1 d (.dK [])) d = some (.dK []) := upd_same
    generalize upd H1 d (.dK []) = H2 at sd ed ⊢
    refine ⟨by show 2 ≤ sizeLine; decide, fun l0 hl0 => ?_⟩
    have s20 : Same H2 (upd H2 l0 (.lst [.int 0, .int 99])) := same_new hl0
    have e20 : (upd H2 l0 (.lst [.int 0, .int 99])) l0 = some (.lst [.int (loW 0), .int (hiW 0)]) := upd_same
    generalize upd H2 l0 (.lst [.int 0, .int 99]) = H3 at s20 e20 ⊢
    refine ⟨by show 2 ≤ sizeLine; decide, fun l1 hl1 => ?_⟩
    have s31 : Same H3 (upd H3 l1 (.lst [.int 1, .int 99])) := same_new hl1
    have e31 : (upd H3 l1 (.lst [.int 1, .int 99])) l1 = some (.lst [.int (loW 1), .int (hiW 1)]) := upd_same
    generalize upd H3 l1 (.lst [.int 1, .int 99]) = H4 at s31 e31 ⊢
    refine ⟨by show 2 ≤ sizeLine; decide, fun l2 hl2 => ?_⟩
    have s42 : Same H4 (upd H4 l2 (.lst [.int 2, .int 2])) := same_new hl2
    have e42 : (upd H4 l2 (.lst [.int 2, .int 2])) l2 = some (.lst [.int (loW 2), .int (hiW 2)]) := upd_same
    generalize upd H4 l2 (.lst [.int 2, .int 2]) = H5 at s42 e42 ⊢
    refine ⟨by show 2 ≤ sizeLine; decide, fun l3 hl3 => ?_⟩
    have s53 : Same H5 (upd H5 l3 (.lst [.int 2, .int 2])) := same_new hl3
    have e53 : (upd H5 l3 (.lst [.int 2, .int 2])) l3 = some (.lst [.int (loW 3), .int (hiW 3)]) := upd_same
    generalize upd H5 l3 (.lst [.int 2, .int 2]) = H6 at s53 e53 ⊢
    have s26 := ((s20.trans s31).trans s42).trans s53
    refine ⟨s26 _ _ ed, [(kW 0, V.ref l0), (kW 1, V.ref l1), (kW 2, V.ref l2), (kW 3, V.ref l3)], rfl, by show 4 ≤ 15; decide, ?_⟩
    rw [merge4]
    have nd : ∀ {b : Addr} {o : HO}, H1 b = some o → b ≠ d := fun e => ne_of_none e hd
    have nl : ∀ {b : Addr} {o : HO}, H6 b = some o → (∀ z, o ≠ .dK z) → b ≠ d := fun e m z => by rw [z, s26 _ _ ed] at e; exact m _ (Option.some.inj e).symm
    have b7 : But d H6 (upd H6 d (.dK [(kW 0, V.ref l0), (kW 1, V.ref l1), (kW 2, V.ref l2), (kW 3, V.ref l3)])) := fun b o e n => (upd_ne n).trans e
    have e7 : (upd H6 d (.dK [(kW 0, V.ref l0), (kW 1, V.ref l1), (kW 2, V.ref l2), (kW 3, V.ref l3)])) d = some (.dK [(kW 0, V.ref l0), (kW 1, V.ref l1), (kW 2, V.ref l2), (kW 3, V.ref l3)]) := upd_same
    have l70 := b7 _ _ (s53 _ _ (s42 _ _ (s31 _ _ e20))) (nl (s53 _ _ (s42 _ _ (s31 _ _ e20))) fun _ z => by cases z)
    have l71 := b7 _ _ (s53 _ _ (s42 _ _ e31)) (nl (s53 _ _ (s42 _ _ e31)) fun _ z => by cases z)
    have l72 := b7 _ _ (s53 _ _ e42) (nl (s53 _ _ e42) fun _ z => by cases z)
    have l73 := b7 _ _ e53 (nl e53 fun _ z => by cases z)
    have s17 : Same H1 (upd H6 d (.dK [(kW 0, V.ref l0), (kW 1, V.ref l1), (kW 2, V.ref l2), (kW 3, V.ref l3)])) := fun b o e => b7 _ _ (s26 _ _ (sd _ _ e)) (nd e)
    generalize upd H6 d (.dK [(kW 0, V.ref l0), (kW 1, V.ref l1), (kW 2, V.ref l2), (kW 3, V.ref l3)]) = H7 at e7 l70 l71 l72 l73 s17 ⊢
    refine ⟨_, rfl, d, rfl, .inl ⟨_, .inl e7⟩, ?_⟩
    intro d2 hd2
    have sd2 : Same H7 (upd H7 d2 (.dK [])) := same_new hd2
    have ed2 : (upd H7 d2 (.dK [])) d2 = some (.dK []) := upd_same
    generalize upd H7 d2 (.dK []) = H8 at sd2 ed2 ⊢
    refine ⟨by show 2 ≤ sizeLine; decide, fun l4 hl4 => ?_⟩
    have s84 : Same H8 (upd H8 l4 (.lst [.int 1, .int 1])) := same_new hl4
    have e84 : (upd H8 l4 (.lst [.int 1, .int 1])) l4 = some (.lst [.int (loW 4), .int (hiW 4)]) := upd_same
    generalize upd H8 l4 (.lst [.int 1, .int 1]) = H9 at s84 e84 ⊢
    refine ⟨by show 2 ≤ sizeLine; decide, fun l5 hl5 => ?_⟩
    have s95 : Same H9 (upd H9 l5 (.lst [.int 1, .int 1])) := same_new hl5
    have e95 : (upd H9 l5 (.lst [.int 1, .int 1])) l5 = some (.lst [.int (loW 5), .int (hiW 5)]) := upd_same
    generalize upd H9 l5 (.lst [.int 1, .int 1]) = Ha at s95 e95 ⊢
    have s8a := s84.trans s95
    refine ⟨s8a _ _ ed2, [(kW 4, V.ref l4), (kW 5, V.ref l5)], rfl, by show 2 ≤ 15; decide, ?_⟩
    rw [merge2]
    have dd2 : d ≠ d2 := ne_of_none e7 hd2
    have nl2 : ∀ {b : Addr} {o : HO}, Ha b = some o → (∀ z, o ≠ .dK z) → b ≠ d2 := fun e m z => by rw [z, s8a _ _ ed2] at e; exact m _ (Option.some.inj e).symm
    have bb : But d2 Ha (upd Ha d2 (.dK [(kW 4, V.ref l4), (kW 5, V.ref l5)])) := fun b o e n => (upd_ne n).trans e
    have eb2 : (upd Ha d2 (.dK [(kW 4, V.ref l4), (kW 5, V.ref l5)])) d2 = some (.dK [(kW 4, V.ref l4), (kW 5, V.ref l5)]) := upd_same
    have s7b : Same H7 (upd Ha d2 (.dK [(kW 4, V.ref l4), (kW 5, V.ref l5)])) := fun b o e => bb _ _ (s8a _ _ (sd2 _ _ e)) (ne_of_none e hd2)
    have lb4 := bb _ _ (s95 _ _ e84) (nl2 (s95 _ _ e84) fun _ z => by cases z)
    have lb5 := bb _ _ e95 (nl2 e95 fun _ z => by cases z)
    generalize upd Ha d2 (.dK [(kW 4, V.ref l4), (kW 5, V.ref l5)]) = Hb at eb2 s7b lb4 lb5 ⊢
    refine ⟨d2, _, _, rfl, dd2, s7b _ _ e7, eb2, by show 4 + 2 ≤ 1000; decide, ?_⟩
    rw [merge6]
    have bc : But d Hb (upd Hb d (.dK [(kW 0, V.ref l0), (kW 1, V.ref l1), (kW 2, V.ref l2), (kW 3, V.ref l3), (kW 4, V.ref l4), (kW 5, V.ref l5)])) := fun b o e n => (upd_ne n).trans e
    have ec : (upd Hb d (.dK [(kW 0, V.ref l0), (kW 1, V.ref l1), (kW 2, V.ref l2), (kW 3, V.ref l3), (kW 4, V.ref l4), (kW 5, V.ref l5)])) d = some (.dK [(kW 0, V.ref l0), (kW 1, V.ref l1), (kW 2, V.ref l2), (kW 3, V.ref l3), (kW 4, V.ref l4), (kW 5, V.ref l5)]) := upd_same
    have nl3 : ∀ {b : Addr} {o : HO}, Hb b = some o → (∀ z, o ≠ .dK z) → b ≠ d := fun e m z => by rw [z, s7b _ _ e7] at e; exact m _ (Option.some.inj e).symm
    have s1c : Same H1 (upd Hb d (.dK [(kW 0, V.ref l0), (kW 1, V.ref l1), (kW 2, V.ref l2), (kW 3, V.ref l3), (kW 4, V.ref l4), (kW 5, V.ref l5)])) := fun b o e => bc _ _ (s7b _ _ (s17 _ _ e)) (nd e)
    have at_ : ∀ i, i < 6 → ∃ li, valV [(kW 0, V.ref l0), (kW 1, V.ref l1), (kW 2, V.ref l2), (kW 3, V.ref l3), (kW 4, V.ref l4), (kW 5, V.ref l5)] (kW i) = some (.ref li) ∧ (upd Hb d (.dK [(kW 0, V.ref l0), (kW 1, V.ref l1), (kW 2, V.ref l2), (kW 3, V.ref l3), (kW 4, V.ref l4), (kW 5, V.ref l5)])) li = some (.lst [.int (loW i), .int (hiW i)]) := by
      intro i hi
      have v6 := val6 (fun i => match i with | 0 => V.ref l0 | 1 => V.ref l1 | 2 => V.ref l2 | 3 => V.ref l3 | 4 => V.ref l4 | _ => V.ref l5) i hi
      match i, hi, v6 with
      | 0, _, v6 => exact ⟨l0, v6, bc _ _ (s7b _ _ l70) (nl3 (s7b _ _ l70) fun _ z => by cases z)⟩
      | 1, _, v6 => exact ⟨l1, v6, bc _ _ (s7b _ _ l71) (nl3 (s7b _ _ l71) fun _ z => by cases z)⟩
      | 2, _, v6 => exact ⟨l2, v6, bc _ _ (s7b _ _ l72) (nl3 (s7b _ _ l72) fun _ z => by cases z)⟩
      | 3, _, v6 => exact ⟨l3, v6, bc _ _ (s7b _ _ l73) (nl3 (s7b _ _ l73) fun _ z => by cases z)⟩
      | 4, _, v6 => exact ⟨l4, v6, bc _ _ lb4 (nl3 lb4 fun _ z => by cases z)⟩
      | 5, _, v6 => exact ⟨l5, v6, bc _ _ lb5 (nl3 lb5 fun _ z => by cases z)⟩
    obtain ⟨lj, vj, elj⟩ := at_ j j6
    generalize upd Hb d (.dK [(kW 0, V.ref l0), (kW 1, V.ref l1), (kW 2, V.ref l2), (kW 3, V.ref l3), (kW 4, V.ref l4), (kW 5, V.ref l5)]) = Hc at ec s1c elj ⊢
    have hqc := SqT.keep hq1 s1c
    have s0c := s1.trans s1c
    have lxa := pair_len hav
    obtain ⟨lo1, hi1⟩ := mkEd_len hmk (by omega)
    refine ⟨_, rfl, q, _, _, _, rfl, rfl, hqc, atI_nat (j := 0) rfl, _, rfl, d, some (.ref lj), rfl, .inl ⟨_, kW j, .inl ec, rfl, vj.symm⟩, _, rfl, iteF ?_⟩
    refine ⟨_, rfl, _, rfl, q, _, _, _, rfl, rfl, hqc, atI_nat (j := 0) rfl, d, _, rfl, .inl ⟨_, kW j, .inl ec, rfl, vj.symm⟩, lj, _, _, _, rfl, rfl, SqL.of elj, atI_nat (j := 0) rfl, ?_⟩
    refine ⟨_, rfl, q, _, rfl, .inr hqc, _, _, rfl, rfl, _, _, rfl, rfl, _, rfl, ?_⟩
    have ell : ((V.str (wordS j) :: xs).length : Int) - 1 = (as.length : Int) := by rw [List.length_cons, lxa]; omega
    rw [ell, decide_eq_true lo1]
    refine iteT ?_
    refine ⟨_, rfl, _, rfl, q, _, _, _, rfl, rfl, hqc, atI_nat (j := 0) rfl, d, _, rfl, .inl ⟨_, kW j, .inl ec, rfl, vj.symm⟩, lj, _, _, _, rfl, rfl, SqL.of elj, atI_nat (j := 1) rfl, (as.length : Int), hiW j, congrArg V.int ell, rfl, true, congrArg V.bl (decide_eq_true hi1), ?_⟩
    refine iteF ?_
    refine ⟨_, rfl, _, rfl, ok, pl, q, p, j, xs, as, e, rfl, hmk, fun q e => hok q (s0c.free e), hP.keep s0c, hw, hqc, avs_keep hav s0c, hao, by omega, fun w H5 s5 ho => ?_⟩
    obtain ⟨te, pl2, dv, rfl, hte, hdv, hP2⟩ := ho
    refine ⟨te, _, rfl, hte, rfl, _, _, rfl, _, _, rfl, rfl, ?_⟩
    unfold tryP at kk
    cases r : edP p e with
    | error er =>
      rw [r] at hdv hP2 kk
      cases hdv with
      | er h f => exact ⟨_, rfl, _, rfl, iteF (kk _ _ (s0c.trans s5) rfl)⟩
    | ok q2 =>
      rw [r] at hdv hP2 kk
      cases hdv
      exact ⟨_, rfl, _, rfl, iteT ⟨_, rfl, kk _ _ (s0c.trans s5) ⟨pl2, rfl, hP2⟩⟩⟩
/-- all of it -/
theorem ok_tried {f fE : Addr} {fd fdE : FuncData} (F : Fun K "_law_tried" "_law_tried" sTried f fd) (T : TxtT mg) (mT : mg "_law_tried" = some (.ref f)) (kT : PySem.W.keepIn K (.ref f) = true) (bT : Binds K fd ["_law_plain", "_law_edit", "_law_level"] [])
    (GE : FnOk P w K mg base CX0 4 fE fdE ["_law_plain", "_law_edit"] (spEdited K)) (mE : mg "_law_edited" = some (.ref fE)) (kE : PySem.W.keepIn K (.ref fE) = true) (bE : Binds K fdE ["_law_plain", "_law_edit"] []) :
    ∀ m n : Nat, n + m = 5 → FnOk P w K mg base CX0 (5 + m) f fd ["_law_plain", "_law_edit", "_law_level"] (spTr K n) := by
  have comb : ∀ {k n : Nat}, 5 ≤ k → FnOk P w K mg base CX0 k f fd ["_law_plain", "_law_edit", "_law_level"] (spTrA K n) → FnOk P w K mg base CX0 k f fd ["_law_plain", "_law_edit", "_law_level"] (spTr K n) := by
    intro k n hk GA
    refine (((ok_trE (n := n) F T GE mE kE bE).mono hk).or GA).imp fun vs H Q E h => ?_
    obtain ⟨ok, pl, v, p, t, rfl, hok, hP, hw, hv, kk⟩ := h
    cases hv with
    | @ed q j ys e h m tx l => exact .inl ⟨ok, pl, q, p, j, _, _, e, rfl, hok, hP, hw, h, m, avT tx, argT tx, by rw [List.length_map]; exact l, kk⟩
    | @att q xs es h pp l => exact .inr ⟨ok, pl, q, p, xs, es, rfl, hok, hP, hw, h, pp, l, kk⟩
  intro m
  induction m with
  | zero =>
    intro n hn
    exact comb (Nat.le_refl _) ((ok_trA5 (by omega) F T).mono (by decide))
  | succ m ih =>
    intro n hn
    exact comb (by omega) (ok_trA (by omega) F T (ih (n + 1) (by omega)) mT kT bT)
end
end Bo
set_option Elab.async false
set_option linter.all false
set_option maxRecDepth 100000
set_option maxHeartbeats 8000000
namespace Bo
open PySem PySem.Spec PyProof.Rows L2
abbrev sApplied : Stmt := top 82
abbrev sLApply : Stmt := top 83
/-- the number of the edit that fails, or None, and the plain system -/
def ApO (K : PySem.W.Frag) (ok : Addr → Prop) (H : Hp) (v : V) (pl : Addr) : Except Nat Pl → Prop
  | .error i => ∃ tq, v = .ref tq ∧ SqT K H tq [.int (i : Int), .ref pl]
  | .ok q => ∃ tq pl', v = .ref tq ∧ SqT K H tq [.non, .ref pl'] ∧ PlM ok H pl' q
def spApplied (K : PySem.W.Frag) : Sp := fun vs H Q _ => ∃ (ok : Addr → Prop) (pl lq : Addr) (p : Pl) (xs : List V) (es : List ET), vs = [.ref pl, .ref lq] ∧ (∀ q, H q = none → ok q) ∧ PlM ok H pl p ∧ PlWf p ∧ (SqL K H lq xs ∨ SqT K H lq xs) ∧ Paired (EvT K H) xs es ∧ xs.length ≤ 900 ∧ ∀ w H', Same H H' → ApO K ok H' w pl (appT es p 0) → Q w H'
structure TxtP2 (mg : Str → Option Value) : Prop where
  rng : mg "range" = none
  len : mg "len" = none
def spLA (K : PySem.W.Frag) (CC CS : Addr) (cs : Nat → Addr) : Sp := fun vs H Q E => ∃ (s lq : Addr) (xs : List V), vs = [.ref s, .ref lq] ∧ (SqL K H lq xs ∨ SqT K H lq xs) ∧ xs.length ≤ 4 ∧ spAppA K CC CS cs (.ref s :: xs) H Q E
section
variable {P : Program} {w : World} {K : PySem.W.Frag} {mg : Str → Option Value} {base : Heap} {CC fCI CS fSI fTk : Addr} {cs : Nat → Addr}
theorem scAd : FnScope ["_law_plain", "_law_edits", "_law_here", "_law_k"] ["_law_plain", "_law_edits"] (defScope sApplied) := ⟨rfl, rfl, rfl, by decide +kernel, rfl, by decide +kernel, by decide +kernel⟩
theorem ok_applied {f fT : Addr} {fd fdT : FuncData} (F : Fun K "_law_applied" "_law_applied" sApplied f fd) (T : TxtP2 mg)
    (GT : FnOk P w K mg base CX0 10 fT fdT ["_law_plain", "_law_edit", "_law_level"] (spTr K 0)) (mT : mg "_law_tried" = some (.ref fT)) (kT : PySem.W.keepIn K (.ref fT) = true) (bT : Binds K fdT ["_law_plain", "_law_edit", "_law_level"] []) :
    FnOk P w K mg base CX0 11 f fd ["_law_plain", "_law_edits"] (spApplied K) := by
  refine F.ok scAd (fun vs H Q E h => ?_) (fun cdv A outer s0 H vs Q E hr h => ?_)
  · obtain ⟨ok, pl, lq, p, xs, es, rfl, _⟩ := h
    rfl
  · obtain ⟨ok, pl, lq, p, xs, es, rfl, hok, hP, hw, hx, hes, hl, kk⟩ := h
    refine ⟨_, pss_cons (ps_set (i := 2) scAd.nd rfl (.inl rfl) (pv 0))
      (pss_cons (ps_for PassesOwn.never rfl (pi_range1 rfl T.rng (pa_cons (pe_callB call_len_seq (by rfl) T.len PySem.boot_len (pa_cons (pv 1) pa_nil)) pa_nil)) (pg_name (i := 3) scAd.nd rfl (.inl rfl))
        (pss_cons (ps_set (i := 2) scAd.nd rfl (.inl rfl) (pe_call GT hr rfl mT kT bT .nil pass0 (pa_cons (pv 2) (pa_cons (pe_ix (IxR.or ix_list ix_tup) (pv 1) (pv 3) (fun _ _ => rfl)) (pa_cons pe_int pa_nil)))))
        (pss_one (ps_if (pt_cmp (pc_isN (pv 2))) (pss_one (ps_ret (pe_tup (pa_cons (pv 3) (pa_cons (pv 0) pa_nil))))) pss_nil))))
      (pss_one (ps_ret (pe_tup (pa_cons pe_non (pa_cons (pv 2) pa_nil)))))), ?_⟩
    have hok2 : ∀ {H' : Hp}, Same H H' → ∀ q, H' q = none → ok q := fun s q e => hok q (s.free e)
    have el := hes.length
    refine ⟨_, rfl, _, rfl, lq, xs, rfl, hx, _, rfl, by omega, by omega, ?_⟩
    rw [Int.toNat_natCast]
    refine for_range (fun i σ H' => (∃ (pl' : Addr) (z3 : Option V) (p' : Pl), σ = [some (.ref pl), some (.ref lq), some (.ref pl'), z3] ∧ PlM ok H' pl' p' ∧ PlWf p' ∧ appT es p 0 = appT (es.drop i) p' i) ∧ Same H H') ⟨⟨pl, none, p, rfl, hP, hw, by rw [List.drop_zero]⟩, Same.refl H⟩ ?_ ?_
    · rintro i σ H1 hi ⟨⟨pl', z3, p', rfl, hP', hw', hap⟩, sm⟩
      have hi : i < xs.length := hi
      obtain ⟨x, hx1⟩ : ∃ x, xs[i]? = some x := ⟨_, List.getElem?_eq_getElem hi⟩
      obtain ⟨e, he, fe⟩ := pairG hes hx1
      have hdr : es.drop i = e :: es.drop (i + 1) := by
        obtain ⟨hi, e⟩ := List.getElem?_eq_some_iff.mp he
        rw [List.drop_eq_getElem_cons hi, e]
      have key : appT es p 0 = match tryP e 0 p' with | none => .error i | some q => appT (es.drop (i + 1)) q (i + 1) := by
        rw [hap, hdr]
        conv => lhs; unfold appT
        all_goals (cases tryP e 0 p' <;> rfl)
      have at_ : atI xs ((0 : Int) + (i : Int)) = some x := by
        rw [show (0 : Int) + (i : Int) = (i : Int) by omega]
        exact atI_nat hx1
      have br : ∀ {Q' : VK}, Q' x H1 → (rIxL K (.ref lq) (.int (0 + (i : Int))) H1 Q' ∨ rIxT K (.ref lq) (.int (0 + (i : Int))) H1 Q') := fun q => hx.elim (fun z => .inl ⟨lq, xs, _, x, rfl, rfl, SqL.keep z sm, at_, q⟩) (fun z => .inr ⟨lq, xs, _, x, rfl, rfl, SqT.keep z sm, at_, q⟩)
      refine ⟨_, rfl, _, rfl, _, rfl, ?_⟩
      refine br ?_
      refine ⟨ok, pl', x, p', e, rfl, hok2 sm, hP', hw', EvT.keep sm fe, fun w H2 s2 ho => ?_⟩
      have sm2 := sm.trans s2
      cases r : tryP e 0 p' with
      | none =>
        rw [r] at key ho
        cases ho
        rw [key] at kk
        refine ⟨_, rfl, _, rfl, iteT ⟨_, rfl, _, rfl, by show 2 ≤ sizeLine; decide, fun tq htq => kk _ _ (sm2.trans (same_new htq)) ⟨tq, rfl, ?_⟩⟩⟩
        rw [show (0 : Int) + (i : Int) = (i : Int) by omega]
        exact SqT.of upd_same
      | some q =>
        rw [r] at key ho
        obtain ⟨pl2, rfl, hP2⟩ := ho
        exact ⟨_, rfl, _, rfl, iteF ⟨⟨pl2, _, q, rfl, hP2, tryP_wf e _ _ _ hw' r, key⟩, sm2⟩⟩
    · rintro σ H1 ⟨⟨pl', z3, p', rfl, hP', hw', hap⟩, sm⟩
      rw [el, List.drop_length] at hap
      have hap : appT es p 0 = .ok p' := by rw [hap]; unfold appT; rfl
      rw [hap] at kk
      exact ⟨_, rfl, by show 2 ≤ sizeLine; decide, fun tq htq => kk _ _ (sm.trans (same_new htq)) ⟨tq, pl', rfl, SqT.of upd_same, hP'.keep (same_new htq)⟩⟩
theorem scLAp : FnScope ["_law_system", "_law_edits", "_law_size", "_law_a", "_law_b", "_law_c", "_law_d"] ["_law_system", "_law_edits"] (defScope sLApply) := ⟨rfl, rfl, rfl, by decide +kernel, rfl, by decide +kernel, by decide +kernel⟩
theorem ok_lapply {f fAp : Addr} {fd : FuncData} (F : Fun K "_law_apply" "_law_apply" sLApply f fd) (T : SysT K mg CS fSI fTk) (hln : mg "len" = none) (hls : mg "list" = none) (mAp : Meth K CS "apply" fAp) (GAp : FnR P w K mg base (L2.CX P w) 22 fAp (spAppA K CC CS cs)) :
    FnOk P w K mg base (L2.CX P w) 23 f fd ["_law_system", "_law_edits"] (spLA K CC CS cs) := by
  refine F.okX scLAp (fun vs H Q E h => ?_) (fun cdv A outer s0 H vs Q E hr h => ?_)
  · obtain ⟨s, q, xs, rfl, _⟩ := h
    rfl
  · obtain ⟨s, lq, xs, rfl, hq, hl, h⟩ := h
    refine ⟨_, pss_cons (ps_set (i := 2) scLAp.nd rfl (.inl rfl) (pe_callB call_len_seq (by rfl) hln PySem.boot_len (pa_cons (pv 1) pa_nil)))
      (pss_cons (ps_asg (pe_slice sl_list (pe_op op_cat (pe_callTy call_list_of (by rfl) hls (by decide +kernel) (pa_cons (pv 1) pa_nil)) (pe_lst (pa_cons pe_non (pa_cons pe_non (pa_cons pe_non (pa_cons pe_non pa_nil)))))) po_none (po_some pe_int))
          (pg_lst (by rfl) (pgs_cons (pg_name (i := 3) scLAp.nd rfl (.inl rfl)) (pgs_cons (pg_name (i := 4) scLAp.nd rfl (.inl rfl)) (pgs_cons (pg_name (i := 5) scLAp.nd rfl (.inl rfl)) (pgs_cons (pg_name (i := 6) scLAp.nd rfl (.inl rfl)) pgs_nil))))))
      (pss_cons (ps_if (pt_cmpR op_lt (pv 2) pe_int (nomark _))
        (pss_cons (ps_if (pt_cmpR op_eq (pv 2) pe_int (nomark _)) (pss_one (ps_ret (pe_meR0 (pv 0) T.cl mAp GAp hr (passes_call (takes_of rfl rfl rfl rfl) (fun _ _ _ _ h => h))))) pss_nil)
        (pss_one (ps_ret (pe_ifExp (pt_cmpR op_eq (pv 2) pe_int (nomark _)) (pe_methR (pv 0) T.cl mAp GAp hr (passes_call (takes_of rfl rfl rfl rfl) (fun _ _ _ _ h => h)) (pa_cons (pv 3) pa_nil)) (pe_methR (pv 0) T.cl mAp GAp hr (passes_call (takes_of rfl rfl rfl rfl) (fun _ _ _ _ h => h)) (pa_cons (pv 3) (pa_cons (pv 4) pa_nil))))))) pss_nil)
      (pss_one (ps_ret (pe_ifExp (pt_cmpR op_eq (pv 2) pe_int (nomark _)) (pe_methR (pv 0) T.cl mAp GAp hr (passes_call (takes_of rfl rfl rfl rfl) (fun _ _ _ _ h => h)) (pa_cons (pv 3) (pa_cons (pv 4) (pa_cons (pv 5) pa_nil)))) (pe_methR (pv 0) T.cl mAp GAp hr (passes_call (takes_of rfl rfl rfl rfl) (fun _ _ _ _ h => h)) (pa_cons (pv 3) (pa_cons (pv 4) (pa_cons (pv 5) (pa_cons (pv 6) pa_nil)))))))))), ?_⟩
    refine ⟨_, rfl, lq, xs, rfl, hq, ?_⟩
    refine ⟨_, rfl, lq, _, rfl, hq, fun l2 h2 => ⟨by show 4 ≤ sizeLine; decide, fun l3 h3 => ?_⟩⟩
    have s2 : Same H (upd H l2 (.lst xs)) := same_new h2
    have e2 : (upd H l2 (.lst xs)) l2 = some (.lst xs) := upd_same
    generalize upd H l2 (.lst xs) = H2 at s2 e2 h3 ⊢
    have s3 : Same H2 (upd H2 l3 (.lst [.non, .non, .non, .non])) := same_new h3
    refine ⟨l2, l3, _, _, rfl, rfl, s3 _ _ e2, upd_same, by show xs.length + 4 ≤ sizeLine; rw [sizeLine_eq]; omega, fun l4 h4 => ?_⟩
    generalize upd H2 l3 (.lst [.non, .non, .non, .non]) = H3 at s3 h4 ⊢
    have s4 : Same H3 (upd H3 l4 (.lst (xs ++ [.non, .non, .non, .non]))) := same_new h4
    refine ⟨_, rfl, l4, _, rfl, SqL.of upd_same, fun l5 h5 => ?_⟩
    generalize upd H3 l4 (.lst (xs ++ [.non, .non, .non, .non])) = H4 at s4 h5 ⊢
    obtain ⟨dx, c0, b0, h0, bs0, hs0, A0, hin⟩ : ∃ dx c b h bs hs, SgAt CS H s dx c b h bs hs ∧ True := by
      obtain ⟨s', H0, p, Bs, Hs, xs', es, e1', _, _, ⟨dx, c, b, h, bs, hs, A0, _⟩, _⟩ := id h
      cases e1'
      exact ⟨dx, c, b, h, bs, hs, A0, trivial⟩
    have hs5 : Same H (upd H4 l5 (.lst (cutV (xs ++ [V.non, V.non, V.non, V.non]) none (some 4)))) := ((s2.trans s3).trans s4).trans (same_new h5)
    have hm5 := spAppA_keep h hs5
    have hl5 : (upd H4 l5 (.lst (cutV (xs ++ [V.non, V.non, V.non, V.non]) none (some 4)))) l5 = some (.lst (cutV (xs ++ [V.non, V.non, V.non, V.non]) none (some 4))) := upd_same
    generalize upd H4 l5 (.lst (cutV (xs ++ [V.non, V.non, V.non, V.non]) none (some 4))) = H5 at hs5 hm5 hl5 ⊢
    match xs, hl with
    | [], _ =>
      rw [show cutV ([] ++ [V.non, V.non, V.non, V.non]) none (some 4) = [.non, .non, .non, .non] from rfl] at hl5
      refine ⟨l5, _, rfl, SqL.of hl5, rfl, _, _, rfl, _, _, rfl, _, _, rfl, _, _, rfl, rfl, ?_⟩
      refine ⟨_, rfl, _, _, rfl, rfl, _, rfl, iteT ?_⟩
      refine ⟨_, rfl, rfl, _, rfl, iteT ?_⟩
      exact ⟨_, rfl, s, dx, _, rfl, hs5 _ _ A0.i, syF_no _ _ _ (by decide +kernel) (by decide +kernel) (by decide +kernel), hm5⟩
    | [a], _ =>
      rw [show cutV ([a] ++ [V.non, V.non, V.non, V.non]) none (some 4) = [a, .non, .non, .non] from rfl] at hl5
      refine ⟨l5, _, rfl, SqL.of hl5, rfl, _, _, rfl, _, _, rfl, _, _, rfl, _, _, rfl, rfl, ?_⟩
      refine ⟨_, rfl, _, _, rfl, rfl, _, rfl, iteT ?_⟩
      refine ⟨_, rfl, rfl, _, rfl, iteF ?_⟩
      refine ⟨_, rfl, rfl, _, rfl, iteT ?_⟩
      exact ⟨_, rfl, s, dx, _, rfl, hs5 _ _ A0.i, syF_no _ _ _ (by decide +kernel) (by decide +kernel) (by decide +kernel), _, rfl, hm5⟩
    | [a, b], _ =>
      rw [show cutV ([a, b] ++ [V.non, V.non, V.non, V.non]) none (some 4) = [a, b, .non, .non] from rfl] at hl5
      refine ⟨l5, _, rfl, SqL.of hl5, rfl, _, _, rfl, _, _, rfl, _, _, rfl, _, _, rfl, rfl, ?_⟩
      refine ⟨_, rfl, _, _, rfl, rfl, _, rfl, iteT ?_⟩
      refine ⟨_, rfl, rfl, _, rfl, iteF ?_⟩
      refine ⟨_, rfl, rfl, _, rfl, iteF ?_⟩
      exact ⟨_, rfl, s, dx, _, rfl, hs5 _ _ A0.i, syF_no _ _ _ (by decide +kernel) (by decide +kernel) (by decide +kernel), _, rfl, _, rfl, hm5⟩
    | [a, b, c], _ =>
      rw [show cutV ([a, b, c] ++ [V.non, V.non, V.non, V.non]) none (some 4) = [a, b, c, .non] from rfl] at hl5
      refine ⟨l5, _, rfl, SqL.of hl5, rfl, _, _, rfl, _, _, rfl, _, _, rfl, _, _, rfl, rfl, ?_⟩
      refine ⟨_, rfl, _, _, rfl, rfl, _, rfl, iteF ?_⟩
      refine ⟨_, rfl, rfl, _, rfl, iteT ?_⟩
      exact ⟨_, rfl, s, dx, _, rfl, hs5 _ _ A0.i, syF_no _ _ _ (by decide +kernel) (by decide +kernel) (by decide +kernel), _, rfl, _, rfl, _, rfl, hm5⟩
    | [a, b, c, d], _ =>
      rw [show cutV ([a, b, c, d] ++ [V.non, V.non, V.non, V.non]) none (some 4) = [a, b, c, d] from rfl] at hl5
      refine ⟨l5, _, rfl, SqL.of hl5, rfl, _, _, rfl, _, _, rfl, _, _, rfl, _, _, rfl, rfl, ?_⟩
      refine ⟨_, rfl, _, _, rfl, rfl, _, rfl, iteF ?_⟩
      refine ⟨_, rfl, rfl, _, rfl, iteF ?_⟩
      exact ⟨_, rfl, s, dx, _, rfl, hs5 _ _ A0.i, syF_no _ _ _ (by decide +kernel) (by decide +kernel) (by decide +kernel), _, rfl, _, rfl, _, rfl, _, rfl, hm5⟩
    | _ :: _ :: _ :: _ :: _ :: _, hl => exact absurd hl (by simp only [List.length_cons]; omega)
end
end Bo
set_option Elab.async false
set_option linter.all false
set_option maxRecDepth 100000
set_option maxHeartbeats 8000000
namespace Bo
open PySem PySem.Spec PyProof.Rows L2
abbrev sNested : Stmt := top 84
abbrev nNe : List Str := ["_law_tape", "_law_plain", "_law_deep", "_law_names_here", "_law_edit", "_law_level", "_law_before", "_law_after"]
theorem cat_att {K : PySem.W.Frag} {σ : L2.St} {H : Hp} {Q : VK} {tb : TE} (R : List V → Hp → Prop) (hR : ∀ xs H, R xs H → xs.length ≤ 1000)
    (hb : ∀ (H1 : Hp) (Q' : VK), Same H H1 → (∀ l xs H2, H2 l = some (.lst xs) → R xs H2 → (∀ q xs, SqT K H1 q xs → SqT K H2 q xs) → Q' (.ref l) H2) → tb σ H1 Q')
    (k : ∀ q xs H2 H3, R xs H2 → Same H2 H3 → SqT K H3 q (.str "attempt" :: xs) → Q (.ref q) H3) :
    tOp (rCatA K) (tTup (tCons (tC (V.str "attempt")) tNil)) (tCB (fun xs H Q => ∃ p ys, xs = [.ref p] ∧ ((SqL K H p ys ∧ ∀ l, H l = none → Q (.ref l) (upd H l (.tup ys))) ∨ (SqT K H p ys ∧ Q (.ref p) H))) (tCons tb tNil)) σ H Q := by
  refine ⟨by show 1 ≤ sizeLine; decide, fun t1 h1 => ?_⟩
  refine hb _ _ (same_new h1) fun l xs H2 hl hr hs => ⟨l, xs, rfl, .inl ⟨SqL.of hl, fun t2 h2 => ?_⟩⟩
  have e1 := hs t1 _ (SqT.of upd_same)
  have s2 := same_new (o := .tup xs) h2
  refine ⟨t1, t2, _, _, rfl, rfl, SqT.keep e1 s2, SqT.of upd_same, by rw [sizeLine_eq]; have := hR _ _ hr; show 1 + xs.length ≤ _; omega, (fun z => nomatch z), fun _ z => ?_, fun _ _ t3 h3 => ?_⟩
  · subst z
    exact k t1 [] H2 _ hr s2 (SqT.keep e1 s2)
  · exact k t3 xs H2 _ hr (s2.trans (same_new h3)) (SqT.of upd_same)
theorem rep_flat (v : V) : ∀ k : Nat, (List.replicate k [v]).flatten = List.replicate k v
  | 0 => rfl
  | k + 1 => by
    rw [List.replicate_succ, List.flatten_cons, rep_flat v k, List.replicate_succ]
    rfl
theorem rep_pair {K : PySem.W.Frag} {H : Hp} {v : V} {e : ET} (h : EvT K H v e) : ∀ k : Nat, Paired (EvT K H) (List.replicate k v) (List.replicate k e)
  | 0 => .nil
  | k + 1 => by
    rw [List.replicate_succ, List.replicate_succ]
    exact .cons h (rep_pair h k)
theorem rep_sim {e : ET} (h : simT e) : ∀ k : Nat, simL (List.replicate k e)
  | 0 => by
    show simL []
    unfold simL
    trivial
  | k + 1 => by
    rw [List.replicate_succ]
    unfold simL
    exact ⟨h, rep_sim h k⟩
theorem simL_app : ∀ {as bs : List ET}, simL as → simL bs → simL (as ++ bs)
  | [], _, _, h => h
  | a :: as, bs, h, h2 => by
    unfold simL at h
    show simL (a :: (as ++ bs))
    unfold simL
    exact ⟨h.1, simL_app h.2 h2⟩
theorem ev_u {K : PySem.W.Frag} {H : Hp} {q : Addr} {y : Str} (h : SqT K H q [.str "add_unknown", .str y]) (t : TxtOk y) : EvT K H (.ref q) (.ed (.addU [.nm y])) :=
  .ed (j := 0) (ys := [y]) h rfl (fun z hz => by rw [List.mem_singleton.mp hz]; exact t) (by show 1 ≤ 90; decide)
theorem ev_e {K : PySem.W.Frag} {H : Hp} {q : Addr} {y : Str} (h : SqT K H q [.str "add_equation", .str y]) (t : TxtOk y) : EvT K H (.ref q) (.ed (.addE (.nm y) [])) :=
  .ed (j := 1) (ys := [y]) h rfl (fun z hz => by rw [List.mem_singleton.mp hz]; exact t) (by show 1 ≤ 90; decide)
theorem sim_u (y : Str) : simT (.ed (.addU [.nm y])) := by
  unfold simT
  exact .u y
theorem sim_e (y : Str) : simT (.ed (.addE (.nm y) [])) := by
  unfold simT
  exact .e y
/-- some edits, made since -/
structure Evs (K : PySem.W.Frag) (t c : Addr) (cs : List Int) (H0 : Hp) (n m : Int) (xs : List V) (H : Hp) : Prop where
  h : ∃ (es : List ET) (n' l' : Int), Paired (EvT K H) xs es ∧ simL es ∧ xs.length ≤ 20 ∧ But t H0 H ∧ Tape H t c cs n' l' ∧ n ≤ n' ∧ n' ≤ n + m
def spNested (K : PySem.W.Frag) : Sp := fun vs H Q _ => ∃ (t c pl nq : Addr) (cs : List Int) (n l : Int) (d : Nat) (ys : List Str), vs = [.ref t, .ref pl, .int (d : Int), .ref nq] ∧ Tape H t c cs n l ∧ H nq = some (.lst (ys.map V.str)) ∧ 18 ≤ ys.length ∧ ys.length ≤ 100 ∧ (∀ y ∈ ys, TxtOk y) ∧ d ≤ 6 ∧ n + 100 < 100000000000 ∧
  ∀ (v : V) (e : ET) (n' l' : Int) (H' : Hp), EvT K H' v e → simT e → But t H H' → Tape H' t c cs n' l' → n ≤ n' → n' ≤ n + 40 → Q v H'
structure TxtNe (mg : Str → Option Value) : Prop where
  rng : mg "range" = none
  tup : mg "tuple" = none
section
variable {P : Program} {w : World} {K : PySem.W.Frag} {mg : Str → Option Value} {base : Heap}
theorem scNe : FnScope nNe ["_law_tape", "_law_plain", "_law_deep", "_law_names_here"] (defScope sNested) := ⟨rfl, rfl, rfl, by decide +kernel, rfl, by decide +kernel, by decide +kernel⟩
theorem ok_nested {f fD fP : Addr} {fd fdD fdP : FuncData} (F : Fun K "_law_nested" "_law_nested" sNested f fd) (T : TxtNe mg)
    (GD : FnOk P w K mg base CX0 1 fD fdD ["_law_tape", "_law_many"] spDraw) (mD : mg "_law_draw" = some (.ref fD)) (kD : PySem.W.keepIn K (.ref fD) = true) (bD : Binds K fdD ["_law_tape", "_law_many"] [])
    (GP : FnOk P w K mg base CX0 2 fP fdP ["_law_tape", "_law_items"] spPick) (mP : mg "_law_pick" = some (.ref fP)) (kP : PySem.W.keepIn K (.ref fP) = true) (bP : Binds K fdP ["_law_tape", "_law_items"] []) :
    FnOk P w K mg base CX0 3 f fd ["_law_tape", "_law_plain", "_law_deep", "_law_names_here"] (spNested K) := by
  refine F.ok scNe (fun vs H Q E h => ?_) (fun cdv A outer s0 H vs Q E hr h => ?_)
  · obtain ⟨t, c, pl, nq, cs, n, l, d, ys, rfl, _⟩ := h
    rfl
  · obtain ⟨t, c, pl, nq, cs, n, l, d, ys, rfl, hT, hq, ly1, ly2, tx, hd, hn, k⟩ := h
    have hr1 : Room 1 _ := hr.mono (by decide)
    refine ⟨_, pss_cons (ps_set (i := 4) scNe.nd rfl (.inl rfl) (pe_op op_catA (pe_tup (pa_cons pe_str pa_nil)) (pe_callTy call_tuple_of (by rfl) T.tup (by decide +kernel) (pa_cons (pe_op op_rep (pe_lst (pa_cons (pe_tup (pa_cons pe_str (pa_cons (pe_ix ix_list (pv 3) (pv 2) (fun _ _ => rfl)) pa_nil))) pa_nil)) (pe_call GD hr1 rfl mD kD bD .nil pass0 (pa_cons (pv 0) (pa_cons pe_int pa_nil)))) pa_nil))))
      (pss_cons (ps_for PassesOwn.never rfl (pi_range1 rfl T.rng (pa_cons (pv 2) pa_nil)) (pg_name (i := 5) scNe.nd rfl (.inl rfl))
        (pss_cons (ps_set (i := 6) scNe.nd rfl (.inl rfl) (pe_op op_rep (pe_lst (pa_cons (pe_tup (pa_cons pe_str (pa_cons (pe_ix ix_list (pv 3) (pe_op op_add (pv 5) pe_int) (fun _ _ => rfl)) pa_nil))) pa_nil)) (pe_call GD hr1 rfl mD kD bD .nil pass0 (pa_cons (pv 0) (pa_cons pe_int pa_nil)))))
        (pss_cons (ps_set (i := 7) scNe.nd rfl (.inl rfl) (pe_op op_rep (pe_lst (pa_cons (pe_tup (pa_cons pe_str (pa_cons (pe_ix ix_list (pv 3) (pe_op op_add (pv 5) pe_int) (fun _ _ => rfl)) pa_nil))) pa_nil)) (pe_call GP hr rfl mP kP bP .nil pass0 (pa_cons (pv 0) (pa_cons (pe_lst (pa_cons pe_int (pa_cons pe_int (pa_cons pe_int (pa_cons pe_int (pa_cons pe_int pa_nil)))))) pa_nil)))))
        (pss_one (ps_set (i := 4) scNe.nd rfl (.inl rfl) (pe_op op_catA (pe_tup (pa_cons pe_str pa_nil)) (pe_callTy call_tuple_of (by rfl) T.tup (by decide +kernel) (pa_cons (pe_op op_cat (pe_op op_cat (pv 6) (pe_op op_rep (pe_lst (pa_cons (pv 4) pa_nil)) (pe_call GP hr rfl mP kP bP .nil pass0 (pa_cons (pv 0) (pa_cons (pe_lst (pa_cons pe_int (pa_cons pe_int (pa_cons pe_int (pa_cons pe_int pa_nil))))) pa_nil))))) (pv 7)) pa_nil))))))))
      (pss_one (ps_ret (pv 4)))), ?_⟩
    have yat : ∀ i, i < 18 → ∃ y, (ys.map V.str)[i]? = some (.str y) ∧ TxtOk y := fun i hi => ⟨ys[i], by rw [List.getElem?_map, List.getElem?_eq_getElem (by omega)]; rfl, tx _ (List.getElem_mem _)⟩
    have nqt : nq ≠ t := ne_of hq hT.d (by intro z; cases z)
    refine cat_att (K := K) (Evs K t c cs H n 1) (fun xs H z => let ⟨_, _, _, _, _, l, _⟩ := z.h; by omega) (fun H1 Q' s1 go => ?_) ?_
    · obtain ⟨y, hy, ty⟩ := yat d (by omega)
      refine ⟨_, rfl, _, rfl, nq, _, _, _, rfl, rfl, SqL.of (s1 _ _ hq), atI_nat hy, by show 2 ≤ sizeLine; decide, fun tq htq => ⟨by show 1 ≤ sizeLine; decide, fun lq hlq => ?_⟩⟩
      have s2 : Same H1 (upd H1 tq (.tup [.str "add_unknown", .str y])) := same_new htq
      have e2 : SqT K (upd H1 tq (.tup [.str "add_unknown", .str y])) tq [.str "add_unknown", .str y] := SqT.of upd_same
      generalize upd H1 tq (.tup [.str "add_unknown", .str y]) = H2 at s2 e2 hlq ⊢
      have s3 : Same H2 (upd H2 lq (.lst [.ref tq])) := same_new hlq
      have e3 : (upd H2 lq (.lst [.ref tq])) lq = some (.lst [.ref tq]) := upd_same
      generalize upd H2 lq (.lst [.ref tq]) = H3 at s3 e3 ⊢
      have s03 := (s1.trans s2).trans s3
      have hT3 := hT.keep s03
      refine ⟨_, rfl, t, c, cs, n, l, 3, rfl, hT3, by decide, by decide, by omega, fun r n4 l4 H4 r0 r1 a4 b4 hT4 hB4 => ?_⟩
      have lqt : lq ≠ t := ne_of e3 hT3.d (by intro z; cases z)
      refine ⟨lq, r, _, rfl, rfl, hB4 _ _ e3 lqt, by omega, by omega, by rw [sizeLine_eq]; show 1 * r.toNat ≤ _; omega, fun p5 h5 => ?_⟩
      rw [rep_flat]
      have s5 : Same H4 (upd H4 p5 (.lst (List.replicate r.toNat (.ref tq)))) := same_new h5
      have f4 : ∀ q xs, SqT K H1 q xs → SqT K (upd H4 p5 (.lst (List.replicate r.toNat (.ref tq)))) q xs := fun q xs z => SqT.keep (SqT.butD hT3.d hB4 (SqT.keep z (s2.trans s3))) s5
      have ev : EvT K (upd H4 p5 (.lst (List.replicate r.toNat (.ref tq)))) (.ref tq) (.ed (.addU [.nm y])) := ev_u (SqT.keep (SqT.butD hT3.d hB4 (SqT.keep e2 s3)) s5) ty
      refine go p5 _ _ upd_same ⟨_, n4, l4, rep_pair ev _, rep_sim (sim_u y) _, by rw [List.length_replicate]; omega, ((But.of s03).tr hB4).tr (But.of s5), hT4.keep s5, a4, by omega⟩ f4
    · rintro q xs H2 H3 ⟨es, n2, l2, pe, se, lx, bt, hT2, a2, b2⟩ s3 hq3
      have ev0 : EvT K H3 (.ref q) (.att es) := .att hq3 (EvT.keeps s3 pe) (by omega)
      have sm0 : simT (.att es) := by unfold simT; exact se
      refine ⟨_, rfl, _, rfl, by omega, by omega, ?_⟩
      rw [Int.toNat_natCast]
      refine for_range (fun i σ H' => ∃ (v : V) (e : ET) (z5 z6 z7 : Option V) (n' l' : Int), σ = [some (.ref t), some (.ref pl), some (.int (d : Int)), some (.ref nq), some v, z5, z6, z7] ∧ EvT K H' v e ∧ simT e ∧ But t H H' ∧ Tape H' t c cs n' l' ∧ n ≤ n' ∧ n' ≤ n + 1 + 5 * (i : Int)) ⟨.ref q, .att es, none, none, none, n2, l2, rfl, ev0, sm0, bt.tr (But.of s3), hT2.keep s3, a2, by omega⟩ ?_ ?_
      · rintro i σ H4 hi ⟨v, e, z5, z6, z7, n4, l4, rfl, ev, sm, bt4, hT4, a4, b4⟩
        obtain ⟨y, hy, ty⟩ := yat (i + 8) (by omega)
        have hq4 := bt4 _ _ hq nqt
        have at8 : atI (ys.map V.str) ((0 : Int) + (i : Int) + 8) = some (.str y) := by
          rw [show (0 : Int) + (i : Int) + 8 = ((i + 8 : Nat) : Int) by omega]
          exact atI_nat hy
        -- before
        refine ⟨_, rfl, _, rfl, _, _, rfl, rfl, nq, _, _, _, rfl, rfl, SqL.of hq4, at8, by show 2 ≤ sizeLine; decide, fun tb htb => ⟨by show 1 ≤ sizeLine; decide, fun lb hlb => ?_⟩⟩
        have s5 : Same H4 (upd H4 tb (.tup [.str "add_unknown", .str y])) := same_new htb
        have e5 : SqT K (upd H4 tb (.tup [.str "add_unknown", .str y])) tb [.str "add_unknown", .str y] := SqT.of upd_same
        generalize upd H4 tb (.tup [.str "add_unknown", .str y]) = H5 at s5 e5 hlb ⊢
        have s6 : Same H5 (upd H5 lb (.lst [.ref tb])) := same_new hlb
        have e6 : (upd H5 lb (.lst [.ref tb])) lb = some (.lst [.ref tb]) := upd_same
        generalize upd H5 lb (.lst [.ref tb]) = H6 at s6 e6 ⊢
        have hT6 := hT4.keep (s5.trans s6)
        refine ⟨_, rfl, t, c, cs, n4, l4, 2, rfl, hT6, by decide, by decide, by omega, fun r n7 l7 H7 r0 r1 a7 b7 hT7 hB7 => ?_⟩
        have lbt : lb ≠ t := ne_of e6 hT6.d (by intro z; cases z)
        refine ⟨lb, r, _, rfl, rfl, hB7 _ _ e6 lbt, by omega, by omega, by rw [sizeLine_eq]; show 1 * r.toNat ≤ _; omega, fun p8 h8 => ?_⟩
        rw [rep_flat]
        have s8 : Same H7 (upd H7 p8 (.lst (List.replicate r.toNat (.ref tb)))) := same_new h8
        have e8 : (upd H7 p8 (.lst (List.replicate r.toNat (.ref tb)))) p8 = some (.lst (List.replicate r.toNat (.ref tb))) := upd_same
        have f8 : ∀ q xs, SqT K H4 q xs → SqT K (upd H7 p8 (.lst (List.replicate r.toNat (.ref tb)))) q xs := fun q xs z => SqT.keep (SqT.butD hT6.d hB7 (SqT.keep z (s5.trans s6))) s8
        have evb : EvT K (upd H7 p8 (.lst (List.replicate r.toNat (.ref tb)))) (.ref tb) (.ed (.addU [.nm y])) := ev_u (SqT.keep (SqT.butD hT6.d hB7 (SqT.keep e5 s6)) s8) ty
        have bt8 : But t H (upd H7 p8 (.lst (List.replicate r.toNat (.ref tb)))) := ((bt4.tr (But.of (s5.trans s6))).tr hB7).tr (But.of s8)
        have hT8 := hT7.keep s8
        generalize upd H7 p8 (.lst (List.replicate r.toNat (.ref tb))) = H8 at e8 f8 evb bt8 hT8 ⊢
        -- behind
        have hq8 := bt8 _ _ hq nqt
        refine ⟨_, rfl, _, rfl, _, _, rfl, rfl, nq, _, _, _, rfl, rfl, SqL.of hq8, at8, by show 2 ≤ sizeLine; decide, fun ta hta => ⟨by show 1 ≤ sizeLine; decide, fun la hla => ?_⟩⟩
        have s9 : Same H8 (upd H8 ta (.tup [.str "add_equation", .str y])) := same_new hta
        have e9 : SqT K (upd H8 ta (.tup [.str "add_equation", .str y])) ta [.str "add_equation", .str y] := SqT.of upd_same
        generalize upd H8 ta (.tup [.str "add_equation", .str y]) = H9 at s9 e9 hla ⊢
        have s10 : Same H9 (upd H9 la (.lst [.ref ta])) := same_new hla
        have e10 : (upd H9 la (.lst [.ref ta])) la = some (.lst [.ref ta]) := upd_same
        generalize upd H9 la (.lst [.ref ta]) = H10 at s10 e10 ⊢
        have s810 := s9.trans s10
        refine ⟨_, rfl, by show 5 ≤ sizeLine; decide, fun lc hlc => ?_⟩
        have s11 : Same H10 (upd H10 lc (.lst [.int 0, .int 0, .int 1, .int 1, .int 2])) := same_new hlc
        have e11 : (upd H10 lc (.lst [.int 0, .int 0, .int 1, .int 1, .int 2])) lc = some (.lst [.int 0, .int 0, .int 1, .int 1, .int 2]) := upd_same
        generalize upd H10 lc (.lst [.int 0, .int 0, .int 1, .int 1, .int 2]) = H11 at s11 e11 ⊢
        have s811 := s810.trans s11
        have hT11 := hT8.keep s811
        refine ⟨t, c, lc, cs, n7, l7, _, rfl, hT11, e11, (fun z => nomatch z), by show 5 ≤ 1000000; decide, by omega, fun i12 x12 n12 l12 H12 hx12 a12 b12 hT12 hB12 => ?_⟩
        obtain ⟨k12, rfl, hk12⟩ : ∃ k : Nat, x12 = .int (k : Int) ∧ k ≤ 2 := by
          match i12, hx12 with
          | 0, h => exact ⟨0, (Option.some.inj h).symm, by decide⟩
          | 1, h => exact ⟨0, (Option.some.inj h).symm, by decide⟩
          | 2, h => exact ⟨1, (Option.some.inj h).symm, by decide⟩
          | 3, h => exact ⟨1, (Option.some.inj h).symm, by decide⟩
          | 4, h => exact ⟨2, (Option.some.inj h).symm, by decide⟩
        have lat : la ≠ t := ne_of (s11 _ _ e10) hT11.d (by intro z; cases z)
        have p8t : p8 ≠ t := ne_of e8 hT8.d (by intro z; cases z)
        refine ⟨la, _, _, rfl, rfl, hB12 _ _ (s11 _ _ e10) lat, by omega, by omega, by rw [sizeLine_eq]; show 1 * (k12 : Int).toNat ≤ _; omega, fun p13 h13 => ?_⟩
        rw [rep_flat, Int.toNat_natCast]
        have s13 : Same H12 (upd H12 p13 (.lst (List.replicate k12 (.ref ta)))) := same_new h13
        have e13 : (upd H12 p13 (.lst (List.replicate k12 (.ref ta)))) p13 = some (.lst (List.replicate k12 (.ref ta))) := upd_same
        have f13 : ∀ q xs, SqT K H8 q xs → SqT K (upd H12 p13 (.lst (List.replicate k12 (.ref ta)))) q xs := fun q xs z => SqT.keep (SqT.butD hT11.d hB12 (SqT.keep z s811)) s13
        have eva : EvT K (upd H12 p13 (.lst (List.replicate k12 (.ref ta)))) (.ref ta) (.ed (.addE (.nm y) [])) := ev_e (SqT.keep (SqT.butD hT11.d hB12 (SqT.keep e9 (s10.trans s11))) s13) ty
        have bt13 : But t H (upd H12 p13 (.lst (List.replicate k12 (.ref ta)))) := ((bt8.tr (But.of s811)).tr hB12).tr (But.of s13)
        have e8' := s13 _ _ (hB12 _ _ (s811 _ _ e8) p8t)
        have hT13 := hT12.keep s13
        generalize upd H12 p13 (.lst (List.replicate k12 (.ref ta))) = H13 at e13 f13 eva bt13 e8' hT13 ⊢
        have ev13 := EvT.map (fun q xs z => f13 q xs (f8 q xs z)) ev
        have evb13 := EvT.map f13 evb
        have p13t : p13 ≠ t := ne_of e13 hT13.d (by intro z; cases z)
        -- the attempt
        refine cat_att (K := K) (Evs K t c cs H n (4 + 5 * (i : Int))) (fun xs H z => let ⟨_, _, _, _, _, l, _⟩ := z.h; by omega) (fun H14 Q' s14 go => ?_) ?_
        · refine ⟨_, rfl, _, rfl, by show 1 ≤ sizeLine; decide, fun le hle => ?_⟩
          have s15 : Same H14 (upd H14 le (.lst [v])) := same_new hle
          have e15 : (upd H14 le (.lst [v])) le = some (.lst [v]) := upd_same
          generalize upd H14 le (.lst [v]) = H15 at s15 e15 ⊢
          refine ⟨_, rfl, by show 4 ≤ sizeLine; decide, fun ld hld => ?_⟩
          have s16 : Same H15 (upd H15 ld (.lst [.int 1, .int 1, .int 1, .int 2])) := same_new hld
          have e16 : (upd H15 ld (.lst [.int 1, .int 1, .int 1, .int 2])) ld = some (.lst [.int 1, .int 1, .int 1, .int 2]) := upd_same
          generalize upd H15 ld (.lst [.int 1, .int 1, .int 1, .int 2]) = H16 at s16 e16 ⊢
          have s1316 := (s14.trans s15).trans s16
          have hT16 := hT13.keep s1316
          refine ⟨t, c, ld, cs, n12, l12, _, rfl, hT16, e16, (fun z => nomatch z), by show 4 ≤ 1000000; decide, by omega, fun i17 x17 n17 l17 H17 hx17 a17 b17 hT17 hB17 => ?_⟩
          obtain ⟨k17, rfl, hk17⟩ : ∃ k : Nat, x17 = .int (k : Int) ∧ k ≤ 2 := by
            match i17, hx17 with
            | 0, h => exact ⟨1, (Option.some.inj h).symm, by decide⟩
            | 1, h => exact ⟨1, (Option.some.inj h).symm, by decide⟩
            | 2, h => exact ⟨1, (Option.some.inj h).symm, by decide⟩
            | 3, h => exact ⟨2, (Option.some.inj h).symm, by decide⟩
          have let_ : le ≠ t := ne_of (s16 _ _ e15) hT16.d (by intro z; cases z)
          refine ⟨le, _, _, rfl, rfl, hB17 _ _ (s16 _ _ e15) let_, by omega, by omega, by rw [sizeLine_eq]; show 1 * (k17 : Int).toNat ≤ _; omega, fun p18 h18 => ?_⟩
          rw [rep_flat, Int.toNat_natCast]
          have s18 : Same H17 (upd H17 p18 (.lst (List.replicate k17 v))) := same_new h18
          have e18 : (upd H17 p18 (.lst (List.replicate k17 v))) p18 = some (.lst (List.replicate k17 v)) := upd_same
          have e8'' := s18 _ _ (hB17 _ _ (s1316 _ _ e8') p8t)
          have e13' := s18 _ _ (hB17 _ _ (s1316 _ _ e13) p13t)
          have f18 : ∀ q xs, SqT K H13 q xs → SqT K (upd H17 p18 (.lst (List.replicate k17 v))) q xs := fun q xs z => SqT.keep (SqT.butD hT16.d hB17 (SqT.keep z s1316)) s18
          have g18 : ∀ q xs, SqT K H14 q xs → SqT K (upd H17 p18 (.lst (List.replicate k17 v))) q xs := fun q xs z => SqT.keep (SqT.butD hT16.d hB17 (SqT.keep z (s15.trans s16))) s18
          have bt18 : But t H (upd H17 p18 (.lst (List.replicate k17 v))) := ((bt13.tr (But.of s1316)).tr hB17).tr (But.of s18)
          have hT18 := hT17.keep s18
          generalize upd H17 p18 (.lst (List.replicate k17 v)) = H18 at e18 e8'' e13' f18 g18 bt18 hT18 ⊢
          refine ⟨p8, p18, _, _, rfl, rfl, e8'', e18, by rw [List.length_replicate, List.length_replicate, sizeLine_eq]; omega, fun p19 h19 => ?_⟩
          have s19 : Same H18 (upd H18 p19 (.lst (List.replicate r.toNat (.ref tb) ++ List.replicate k17 v))) := same_new h19
          have e19 : (upd H18 p19 (.lst (List.replicate r.toNat (.ref tb) ++ List.replicate k17 v))) p19 = some (.lst (List.replicate r.toNat (.ref tb) ++ List.replicate k17 v)) := upd_same
          generalize upd H18 p19 (.lst (List.replicate r.toNat (.ref tb) ++ List.replicate k17 v)) = H19 at s19 e19 ⊢
          refine ⟨_, rfl, p19, p13, _, _, rfl, rfl, e19, s19 _ _ e13', by rw [List.length_append, List.length_replicate, List.length_replicate, List.length_replicate, sizeLine_eq]; omega, fun p20 h20 => ?_⟩
          have s20 := same_new (o := .lst (List.replicate r.toNat (.ref tb) ++ List.replicate k17 v ++ List.replicate k12 (.ref ta))) h20
          have s1820 := s19.trans s20
          have F : ∀ q xs, SqT K H13 q xs → SqT K (upd H19 p20 (.lst (List.replicate r.toNat (.ref tb) ++ List.replicate k17 v ++ List.replicate k12 (.ref ta)))) q xs := fun q xs z => SqT.keep (f18 q xs z) s1820
          refine go p20 _ _ upd_same ⟨_, n17, l17, pair_app (pair_app (rep_pair (EvT.map F evb13) _) (rep_pair (EvT.map F ev13) _)) (rep_pair (EvT.map F eva) _), simL_app (simL_app (rep_sim (sim_u y) _) (rep_sim sm _)) (rep_sim (sim_e y) _), by rw [List.length_append, List.length_append, List.length_replicate, List.length_replicate, List.length_replicate]; omega, bt18.tr (But.of s1820), hT18.keep s1820, by omega, by omega⟩ (fun q xs z => SqT.keep (g18 q xs z) s1820)
        · rintro q xs H20 H21 ⟨es, n20, l20, pe, se, lx, bt20, hT20, a20, b20⟩ s21 hq21
          have sm1 : simT (.att es) := by unfold simT; exact se
          exact ⟨.ref q, .att es, _, _, _, n20, l20, rfl, .att hq21 (EvT.keeps s21 pe) (by omega), sm1, bt20.tr (But.of s21), hT20.keep s21, a20, by omega⟩
      · rintro σ H4 ⟨v, e, z5, z6, z7, n4, l4, rfl, ev, sm, bt4, hT4, a4, b4⟩
        exact ⟨_, rfl, k v e n4 l4 H4 ev sm bt4 hT4 a4 (by omega)⟩
end
end Bo
set_option Elab.async false
set_option linter.all false
set_option maxRecDepth 100000
set_option maxHeartbeats 16000000
namespace Bo
open PySem L2
abbrev sDrawn : Stmt := top 79
abbrev nDr : List Str := ["_law_tape", "_law_most", "_law_pool", "_law_others", "_law_unknowns", "_law_share", "_law_rows", "_law_name", "_law_one"]
theorem strOk_of {x : Str} (h : TxtOk x) : PyData.strOk x = true := by
  show Array.all _ _ = true
  rw [← Array.all_toList, List.all_eq_true]
  intro u hu
  have := h.c u hu
  exact decide_eq_true (by omega)
theorem cut_tx {l : List Str} {n : Nat} : cutV (l.map V.str) none (some (n : Int)) = (l.take n).map V.str := by
  unfold cutV
  rw [HT.sIx_none, HT.sIx_nat, List.length_map, Nat.sub_zero, List.drop_zero, ← List.map_take]
  congr 1
  rcases Nat.le_total n l.length with h | h
  · rw [Nat.min_eq_left h]
  · rw [Nat.min_eq_right h, List.take_of_length_le (Nat.le_refl _), List.take_of_length_le h]
/-- different names -/
structure Nms (ys : List Str) : Prop where
  n : ys.Nodup
  k : ∀ y ∈ ys, nameOk y = true ∧ TxtOk y
theorem Nms.perm {xs ys : List Str} (h : Nms xs) (p : ys.Perm xs) : Nms ys := ⟨p.nodup_iff.mpr h.n, fun y hy => h.k y (p.mem_iff.mp hy)⟩
theorem Nms.sub {xs ys : List Str} (h : Nms xs) (p : ys.Sublist xs) : Nms ys := ⟨p.nodup h.n, fun y hy => h.k y (p.subset hy)⟩
theorem Nms.ok {ys : List Str} (h : Nms ys) : ∀ y ∈ ys, PyData.strOk y = true := fun y hy => strOk_of (h.k y hy).2
/-- a plain system of names -/
structure PlNm (rows : List (Str × List Str)) (us : List Str) : Prop where
  u : Nms us
  r : Nms (rows.map (·.1))
  e : ∀ p ∈ rows, p.2.Nodup ∧ ∀ y ∈ p.2, y ∈ us
theorem pair_fst {α β : Type} {F : (Str × α) → (Str × β) → Prop} (h : ∀ p q, F p q → p.1 = q.1) : ∀ {l : List (Str × α)} {m : List (Str × β)}, Paired F l m → m.map (·.1) = l.map (·.1)
  | _, _, .nil => rfl
  | _, _, .cons q t => by rw [List.map_cons, List.map_cons, pair_fst h t, h _ _ q]
/-- all but t and r -/
def But2 (t r : Addr) (H H' : Hp) : Prop := ∀ b o, H b = some o → b ≠ t → b ≠ r → H' b = some o
def spDrawn : Sp := fun vs H Q _ => ∃ (t c : Addr) (cs : List Int) (p l : Int) (m : Nat), vs = [.ref t, .int m] ∧ Tape H t c cs p l ∧ 1 ≤ m ∧ m ≤ 24 ∧ p + 3000 < 100000000000 ∧
  ∀ (pl r u : Addr) (rows : List (Str × List Str)) (ra : List (Str × Addr)) (us : List Str) (p' l' : Int) (H' : Hp), PlG H' pl r u rows ra us → H' r = some (.dK (refK ra)) → pl ≠ r → H pl = none → H r = none → H u = none → (∀ q ∈ ra, q.2 ≠ u) → PlNm rows us → rows.length ≤ m → us.length ≤ m → p ≤ p' → p' ≤ p + 3000 → Tape H' t c cs p' l' → But t H H' → Q (.ref pl) H'
section
variable {P : Program} {w : World} {K : PySem.W.Frag} {mg : Str → Option Value} {base : Heap}
theorem scDr : FnScope nDr ["_law_tape", "_law_most"] (defScope sDrawn) := ⟨rfl, rfl, rfl, by decide +kernel, rfl, by decide +kernel, by decide +kernel⟩
theorem ok_drawn {f fD fP fN fSh : Addr} {fd fdD fdP fdN fdSh : FuncData} (F : Fun K "_law_drawn" "_law_drawn" sDrawn f fd)
    (GD : FnOk P w K mg base CX0 1 fD fdD ["_law_tape", "_law_many"] spDraw) (mD : mg "_law_draw" = some (.ref fD)) (kD : PySem.W.keepIn K (.ref fD) = true) (bD : Binds K fdD ["_law_tape", "_law_many"] [])
    (GP : FnOk P w K mg base CX0 2 fP fdP ["_law_tape", "_law_items"] spPick) (mP : mg "_law_pick" = some (.ref fP)) (kP : PySem.W.keepIn K (.ref fP) = true) (bP : Binds K fdP ["_law_tape", "_law_items"] [])
    (GN : FnOk P w K mg base CX0 3 fN fdN ["_law_tape", "_law_many"] spNames) (mN : mg "_law_names" = some (.ref fN)) (kN : PySem.W.keepIn K (.ref fN) = true) (bN : Binds K fdN ["_law_tape", "_law_many"] [])
    (GS : FnOk P w K mg base CX0 2 fSh fdSh ["_law_tape", "_law_items"] (spShuf K)) (mS : mg "_law_shuffled" = some (.ref fSh)) (kS : PySem.W.keepIn K (.ref fSh) = true) (bS : Binds K fdSh ["_law_tape", "_law_items"] []) :
    FnOk P w K mg base CX0 4 f fd ["_law_tape", "_law_most"] spDrawn := by
  refine F.ok scDr (fun vs H Q E h => ?_) (fun cdv A outer s H vs Q E hr h => ?_)
  · obtain ⟨t, c, cs, p, l, m, rfl, _⟩ := h
    rfl
  · obtain ⟨t, c, cs, p, l, m, rfl, hT, hm1, hm2, hp, k⟩ := h
    have hu := hu_of hr
    have hr1 : Room 1 _ := hr.mono (by decide)
    have hr2 : Room 2 _ := hr.mono (by decide)
    refine ⟨_, pss_cons (ps_set (i := 2) scDr.nd rfl (.inl rfl) (pe_call GN hr rfl mN kN bN .nil pass0 (pa_cons (pv 0) (pa_cons (pv 1) pa_nil))))
      (pss_cons (ps_set (i := 3) scDr.nd rfl (.inl rfl) (pe_call GP hr2 rfl mP kP bP .nil pass0 (pa_cons (pv 0) (pa_cons (pe_lst (pa_cons (pv 2) (pa_cons (pe_call GN hr rfl mN kN bN .nil pass0 (pa_cons (pv 0) (pa_cons (pv 1) pa_nil))) pa_nil))) pa_nil))))
      (pss_cons (ps_asg (pe_tup (pa_cons (pe_slice sl_list (pe_call GS hr2 rfl mS kS bS .nil pass0 (pa_cons (pv 0) (pa_cons (pv 3) pa_nil))) po_none (po_some (pe_call GD hr1 rfl mD kD bD .nil pass0 (pa_cons (pv 0) (pa_cons (pe_op op_add (pv 1) pe_int) pa_nil)))))
          (pa_cons (pe_op op_add pe_int (pe_call GD hr1 rfl mD kD bD .nil pass0 (pa_cons (pv 0) (pa_cons pe_int pa_nil)))) pa_nil))) (pg_tup (by rfl) (pgs_cons (pg_name (i := 4) scDr.nd rfl (.inl rfl)) (pgs_cons (pg_name (i := 5) scDr.nd rfl (.inr rfl)) pgs_nil))))
      (pss_cons (ps_set (i := 6) scDr.nd rfl (.inl rfl) pe_dnewK)
      (pss_cons (ps_for PassesOwn.never rfl (pi_list (pe_slice sl_list (pe_call GS hr2 rfl mS kS bS .nil pass0 (pa_cons (pv 0) (pa_cons (pv 2) pa_nil))) po_none (po_some (pe_call GD hr1 rfl mD kD bD .nil pass0 (pa_cons (pv 0) (pa_cons (pe_op op_add (pv 1) pe_int) pa_nil)))))) (pg_name (i := 7) scDr.nd rfl (.inl rfl))
        (pss_one (ps_dput hu (pv 6) (pv 7)
          (pe_lc (own := [("_law_one", 8)]) (g := gName 8) rfl scDr.nd (pi_list (pe_call GS hr2 rfl mS kS bS .nil pass0 (pa_cons (pv 0) (pa_cons (pv 4) pa_nil)))) (blkOk_by (N := nDr) (sc := defScope sDrawn) (by decide +kernel)) (fun _ _ _ _ _ => pg_name (i := 8) scDr.nd rfl (Or.inl rfl))
            (fun _ _ _ _ _ => pts_one (pt_cmpR op_eq (pe_call GD hr1 rfl mD kD bD .nil pass0 (pa_cons (pv 0) (pa_cons (pv 5) pa_nil))) pe_int (nomark _))) (fun _ _ _ _ _ => pv 8)) rfl)))
      (pss_one (ps_ret (pe_disp (pps_cons pe_str (pv 6) (pps_cons pe_str (pv 4) pps_nil)) (by rfl) (by rfl) (fun z => by cases z) (by decide)))))))), ?_⟩
    refine ⟨_, rfl, _, rfl, t, c, cs, p, l, m, rfl, hT, by omega, by omega, by omega, fun q1 ys1 p1 l1 H1 n1 h1 len1 nd1 ok1 a1 b1 hT1 hB1 => ?_⟩
    refine ⟨_, rfl, _, rfl, _, rfl, _, rfl, t, c, cs, p1, l1, m, rfl, hT1, by omega, by omega, by omega, fun q2 ys2 p2 l2 H2 n2 h2 len2 nd2 ok2 a2 b2 hT2 hB2 => ?_⟩
    have q1t : q1 ≠ t := ne_of h1 hT1.d (by intro z; cases z)
    have h1' := hB2 _ _ h1 q1t
    refine ⟨by show 2 ≤ sizeLine; decide, fun q3 hq3 => ⟨t, c, q3, cs, p2, l2, _, rfl, hT2.new hq3, upd_same, by simp, by show 2 ≤ _; decide, by omega, fun i x p3 l3 H3 hx a3 b3 hT3 hB3 => ?_⟩⟩
    obtain ⟨qx, ysx, rfl, hx3, nmx, lenx⟩ : ∃ (qx : Addr) (ysx : List Str), x = .ref qx ∧ H3 qx = some (.lst (ysx.map V.str)) ∧ Nms ysx ∧ ysx.length = m := by
      have h2' : (upd H2 q3 (.lst [V.ref q1, V.ref q2])) q2 = some (.lst (ys2.map V.str)) := same_new hq3 _ _ h2
      have h1'' : (upd H2 q3 (.lst [V.ref q1, V.ref q2])) q1 = some (.lst (ys1.map V.str)) := same_new hq3 _ _ h1'
      have q2t : q2 ≠ t := ne_of h2 hT2.d (by intro z; cases z)
      match i, hx with
      | 0, hx => exact ⟨q1, ys1, (Option.some.inj hx).symm, hB3 _ _ h1'' q1t, ⟨nd1, ok1⟩, by omega⟩
      | 1, hx => exact ⟨q2, ys2, (Option.some.inj hx).symm, hB3 _ _ h2' q2t, ⟨nd2, ok2⟩, by omega⟩
    have B3 : But t H H3 := ((hB1.trans hB2).new hq3).trans hB3
    refine ⟨_, rfl, _, rfl, t, c, qx, cs, p3, l3, ysx, rfl, hT3, .inl (SqL.of hx3), nmx.ok, by omega, by omega, fun q4 ys4 p4 l4 H4 pm4 n4 h4 a4 b4 hT4 hB4 => ?_⟩
    have B4 := B3.trans hB4
    refine ⟨_, rfl, _, rfl, _, _, rfl, rfl, t, c, cs, p4, l4, (m : Int) + 1, rfl, hT4, by omega, by omega, by omega, fun r5 p5 l5 H5 r50 r51 a5 b5 hT5 hB5 => ?_⟩
    obtain ⟨n5, rfl⟩ : ∃ n : Nat, r5 = (n : Int) := ⟨r5.toNat, by omega⟩
    have q4t : q4 ≠ t := ne_of h4 hT4.d (by intro z; cases z)
    refine ⟨_, rfl, q4, _, rfl, SqL.of (hB5 _ _ h4 q4t), fun U hU => ?_⟩
    rw [cut_tx]
    have nmU : Nms (ys4.take n5) := (nmx.perm pm4).sub (List.take_sublist _ _)
    have lenU : (ys4.take n5).length ≤ m := by rw [List.length_take, pm4.length_eq, lenx]; omega
    generalize ys4.take n5 = us at nmU lenU ⊢
    have B5 := (B4.trans hB5).new (o := .lst (us.map V.str)) hU
    have hTU := hT5.new (o := .lst (us.map V.str)) hU
    have eU : (upd H5 U (.lst (us.map V.str))) U = some (.lst (us.map V.str)) := upd_same
    have Ut : U ≠ t := ne_of eU hTU.d (by intro z; cases z)
    have nU : H U = none := by
      cases z : H U with
      | none => rfl
      | some o => rw [(B4.trans hB5) U o z Ut] at hU; cases hU
    have h1U : (upd H5 U (.lst (us.map V.str))) q1 = some (.lst (ys1.map V.str)) := by
      have e : H5 q1 = some (.lst (ys1.map V.str)) := hB5 _ _ (hB4 _ _ (hB3 _ _ (same_new hq3 _ _ h1') q1t) q1t) q1t
      exact same_new hU _ _ e
    generalize upd H5 U (.lst (us.map V.str)) = G5 at B5 hTU eU h1U ⊢
    refine ⟨_, rfl, t, c, cs, p5, l5, 4, rfl, hTU, by decide, by decide, by omega, fun r6 p6 l6 H6 r60 r61 a6 b6 hT6 hB6 => ⟨_, _, rfl, rfl, by show 2 ≤ sizeLine; decide, fun tp htp => ⟨tp, _, rfl, SqT.of upd_same, rfl, _, _, rfl, _, _, rfl, rfl, ?_⟩⟩⟩
    have B6 := (B5.trans hB6).new (o := .tup [V.ref U, .int (1 + r6)]) htp
    have hT7 := hT6.new (o := .tup [V.ref U, .int (1 + r6)]) htp
    have eU7 := same_new (o := .tup [V.ref U, .int (1 + r6)]) htp _ _ (hB6 _ _ eU Ut)
    have h17 := same_new (o := .tup [V.ref U, .int (1 + r6)]) htp _ _ (hB6 _ _ h1U q1t)
    generalize upd H6 tp (.tup [V.ref U, .int (1 + r6)]) = G7 at B6 hT7 eU7 h17 ⊢
    intro r hr0
    have B7 := B6.new (o := .dK []) hr0
    have hT8 := hT7.new (o := .dK []) hr0
    have er : (upd G7 r (.dK [])) r = some (.dK (refK [])) := upd_same
    have eU8 := same_new (o := .dK []) hr0 _ _ eU7
    have h18 := same_new (o := .dK []) hr0 _ _ h17
    have rt : r ≠ t := fun z => by rw [z, hT7.d] at hr0; cases hr0
    have nr : H r = none := by
      cases z : H r with
      | none => rfl
      | some o => rw [B6 r o z rt] at hr0; cases hr0
    generalize upd G7 r (.dK []) = G8 at B7 hT8 er eU8 h18 ⊢
    refine ⟨_, rfl, _, rfl, t, c, q1, cs, p6, l6, ys1, rfl, hT8, .inl (SqL.of h18), fun y hy => strOk_of (ok1 y hy).2, by omega, by omega, fun q9 ys9 p9 l9 H9 pm9 n9 h9 a9 b9 hT9 hB9 => ?_⟩
    refine ⟨_, rfl, _, rfl, _, _, rfl, rfl, t, c, cs, p9, l9, (m : Int) + 1, rfl, hT9, by omega, by omega, by omega, fun r10 p10 l10 H10 r100 r101 a10 b10 hT10 hB10 => ?_⟩
    obtain ⟨n10, rfl⟩ : ∃ n : Nat, r10 = (n : Int) := ⟨r10.toNat, by omega⟩
    have q9t : q9 ≠ t := ne_of h9 hT9.d (by intro z; cases z)
    refine ⟨_, rfl, q9, _, rfl, SqL.of (hB10 _ _ h9 q9t), fun Z hZ => ?_⟩
    rw [cut_tx]
    have nmZ : Nms (ys9.take n10) := ((⟨nd1, ok1⟩ : Nms ys1).perm pm9).sub (List.take_sublist _ _)
    have lenZ : (ys9.take n10).length ≤ m := by rw [List.length_take, pm9.length_eq]; omega
    generalize ys9.take n10 = ns at nmZ lenZ ⊢
    have B10 := (B7.trans (hB9.trans hB10)).new (o := .lst (ns.map V.str)) hZ
    have hT11 := hT10.new (o := .lst (ns.map V.str)) hZ
    have eZ : (upd H10 Z (.lst (ns.map V.str))) Z = some (.lst (ns.map V.str)) := upd_same
    have er11 := same_new (o := .lst (ns.map V.str)) hZ _ _ ((hB9.trans hB10) _ _ er rt)
    have eU11 := same_new (o := .lst (ns.map V.str)) hZ _ _ ((hB9.trans hB10) _ _ eU8 Ut)
    generalize upd H10 Z (.lst (ns.map V.str)) = G at B10 hT11 eZ er11 eU11 ⊢
    refine ⟨Z, rfl, ⟨_, SqL.of eZ⟩, ?_⟩
    have UZ : ∀ {H' : Hp}, But2 t r G H' → H' U = some (.lst (us.map V.str)) ∧ H' Z = some (.lst (ns.map V.str)) := fun {H'} b => ⟨b _ _ eU11 Ut (ne_of eU11 er11 (by intro z; cases z)), b _ _ eZ (ne_of eZ hT11.d (by intro z; cases z)) (ne_of eZ er11 (by intro z; cases z))⟩
    refine for_list (xs := ns.map V.str) (fun i σ H' => ∃ (rows : List (Str × List Str)) (ra : List (Str × Addr)) (z7 : Option V) (p' l' : Int), σ = [some (.ref t), some (.int (m : Int)), some (.ref q1), some (.ref qx), some (.ref U), some (.int (1 + r6)), some (.ref r), z7, none] ∧ H' r = some (.dK (refK ra)) ∧
        Paired (fun (p : Str × List Str) (q : Str × Addr) => p.1 = q.1 ∧ H' q.2 = some (.lst (p.2.map V.str))) rows ra ∧ rows.map (·.1) = ns.take i ∧ (∀ p ∈ rows, p.2.Nodup ∧ ∀ y ∈ p.2, y ∈ us) ∧ (∀ q ∈ ra, q.2 ≠ U) ∧ p10 ≤ p' ∧ p' ≤ p10 + 60 * (i : Int) ∧ Tape H' t c cs p' l' ∧ But2 t r G H')
      ⟨[], [], none, p10, l10, rfl, er11, .nil, rfl, (fun _ z => nomatch z), (fun _ z => nomatch z), by omega, by omega, hT11, fun _ _ e _ _ => e⟩ (fun i σ H' _ ⟨_, _, _, _, _, _, _, _, _, _, _, _, _, _, b⟩ => SqL.of (UZ b).2) ?_ ?_
    · rintro i x σ H12 hx ⟨rows, ra, z7, p12, l12, rfl, er12, pr12, ks12, ok12, nu12, a12, b12, hT12, B12⟩
      rw [List.getElem?_map] at hx
      obtain ⟨y, hy, rfl⟩ := Option.map_eq_some_iff.mp hx
      have hi : i < ns.length := (List.getElem?_eq_some_iff.mp hy).1
      obtain ⟨eU12, eZ12⟩ := UZ B12
      have lra : ra.length ≤ 24 := by
        have e1 := congrArg List.length ks12
        have e2 := pair_len pr12
        rw [List.length_map, List.length_take] at e1
        omega
      refine ⟨_, rfl, _, rfl, t, c, U, cs, p12, l12, us, rfl, hT12, .inl (SqL.of eU12), nmU.ok, by omega, by omega, fun qq yy p13 l13 H13 pm13 n13 h13 a13 b13 hT13 hB13 => ⟨qq, rfl, ⟨_, SqL.of h13⟩, fun D hD => ?_⟩⟩
      have Dt : D ≠ t := fun z => by rw [z, hT13.d] at hD; cases hD
      have Dc : c ≠ D := ne_of_none hT13.c hD
      have qqt : qq ≠ t := ne_of h13 hT13.d (by intro z; cases z)
      refine lc_list (xs := yy.map V.str) (fun j H' => ∃ (vs : List Str) (p' l' : Int), H' D = some (.lst (vs.map V.str)) ∧ vs.Sublist (yy.take j) ∧ p13 ≤ p' ∧ p' ≤ p13 + (j : Int) ∧ Tape H' t c cs p' l' ∧ But t H13 H')
        ⟨[], p13, l13, upd_same, List.nil_sublist _, by omega, by omega, hT13.new hD, fun b o e _ => same_new hD _ _ e⟩ (fun j H' _ ⟨_, _, _, _, _, _, _, _, b⟩ => SqL.of (b _ _ h13 qqt)) ?_ ?_
      · rintro j x H14 hx ⟨vs, p14, l14, eD, sb, a14, b14, hT14, hB14⟩
        rw [List.getElem?_map] at hx
        obtain ⟨v, hv, rfl⟩ := Option.map_eq_some_iff.mp hx
        have hj : j < yy.length := (List.getElem?_eq_some_iff.mp hv).1
        have lyy := pm13.length_eq
        refine ⟨rfl, _, rfl, _, rfl, t, c, cs, p14, l14, 1 + r6, rfl, hT14, by omega, by omega, by omega, fun r15 p15 l15 H15 r150 r151 a15 b15 hT15 hB15 => ⟨rfl, _, rfl, ite2 (fun hc => ?_) (fun hc => ?_)⟩⟩
        · have eD15 := hB15 _ _ eD Dt
          refine ⟨_, rfl, vs.map V.str, eD15, by have := sb.length_le; rw [List.length_take] at this; rw [List.length_map, sizeLine_eq]; omega, vs ++ [v], p15, l15, by rw [upd_same, List.map_append]; rfl, ?_, by omega, by omega, hT15.off Dt Dc, fun b o e n => ?_⟩
          · rw [take_snoc hv]
            exact List.Sublist.append sb (List.Sublist.refl _)
          · rw [upd_ne (ne_of_none e hD)]
            exact hB15 _ _ (hB14 _ _ e n) n
        · exact ⟨vs, p15, l15, hB15 _ _ eD Dt, sb.trans (List.take_sublist_take_left (Nat.le_succ j)), by omega, by omega, hT15, hB14.trans hB15⟩
      · rintro H14 ⟨vs, p14, l14, eD, sb, a14, b14, hT14, hB14⟩
        rw [List.length_map, List.take_length] at sb
        have er13 := hB13 _ _ er12 rt
        have er14 := hB14 _ _ er13 rt
        have rD : r ≠ D := ne_of_none er13 hD
        have lyy := pm13.length_eq
        have yn : y ∉ ra.map (·.1) := by
          have e : ra.map (·.1) = ns.take i := by
            rw [← ks12]
            exact pair_fst (fun _ _ z => z.1) pr12
          rw [e]
          intro z
          obtain ⟨j, hj⟩ := List.mem_iff_getElem?.mp z
          rw [List.getElem?_take] at hj
          split at hj
          · exact absurd ((List.getElem?_inj (by omega) nmZ.n).mp (hj.trans hy.symm)) (by omega)
          · cases hj
        refine ⟨_, rfl, _, rfl, r, _, rfl, DPut.k (k := Sum.inr y) er14 (by rw [refK_len, sizeLine_eq]; omega), ?_⟩
        rw [putK_new _ (refK_out yn)]
        have eR : refK ra ++ [((Sum.inr y : Key), V.ref D)] = refK (ra ++ [(y, D)]) := by
          unfold refK
          rw [List.map_append]
          rfl
        rw [eR]
        refine ⟨rows ++ [(y, vs)], ra ++ [(y, D)], _, p14, l14, rfl, upd_same, ?_, ?_, ?_, ?_, by omega, ?_, ?_, ?_⟩
        · refine Paired.snoc (Paired.mapP pr12 fun a b z => ⟨z.1, ?_⟩) ⟨rfl, ?_⟩
          · have e1 := hB14 _ _ (hB13 _ _ z.2 (ne_of z.2 hT12.d (by intro z; cases z))) (ne_of z.2 hT12.d (by intro z; cases z))
            rw [upd_ne (ne_of z.2 er12 (by intro z; cases z))]
            exact e1
          · rw [upd_ne rD.symm]
            exact eD
        · rw [List.map_append, take_snoc hy, ks12]
          rfl
        · intro p hp
          rcases List.mem_append.mp hp with e | e
          · exact ok12 p e
          · rw [List.mem_singleton.mp e]
            exact ⟨sb.nodup (pm13.nodup_iff.mpr nmU.n), fun z hz => pm13.mem_iff.mp (sb.subset hz)⟩
        · intro q hq
          rcases List.mem_append.mp hq with e | e
          · exact nu12 q e
          · rw [List.mem_singleton.mp e]
            exact fun z => by
              have e1 := hB13 _ _ eU12 Ut
              rw [← (show D = U from z), hD] at e1
              cases e1
        · have : yy.length ≤ 24 := by omega
          rw [List.length_map] at b14
          omega
        · exact ⟨by rw [upd_ne rt.symm]; exact hT14.d, by rw [upd_ne (ne_of hT14.c er14 (by intro z; cases z))]; exact hT14.c, hT14.n, hT14.m, hT14.p0, hT14.l0⟩
        · intro b o e n1 n2
          rw [upd_ne n2]
          exact hB14 _ _ (hB13 _ _ (B12 _ _ e n1 n2) n1) n1
    · rintro σ H12 ⟨rows, ra, z7, p12, l12, rfl, er12, pr12, ks12, ok12, nu12, a12, b12, hT12, B12⟩
      rw [List.length_map, List.take_length] at ks12
      rw [List.length_map] at b12
      obtain ⟨eU12, eZ12⟩ := UZ B12
      have hHt : But t H H12 := fun b o e n => B12 _ _ (B10 _ _ e n) n fun z => by rw [z, nr] at e; cases e
      intro pl hpl
      have nplt : pl ≠ t := fun z => by rw [z, hT12.d] at hpl; cases hpl
      refine ⟨_, rfl, _, rfl, upd_same, [(kR, V.ref r), (kU, V.ref U)], rfl, by show 2 ≤ 15; decide, ?_⟩
      rw [two_merge, upd_upd]
      have s13 : Same H12 (upd H12 pl (.dK [(kR, V.ref r), (kU, V.ref U)])) := same_new hpl
      have lr : rows.length ≤ m := by
        have e1 := congrArg List.length ks12
        rw [List.length_map] at e1
        omega
      refine k pl r U rows ra us p12 l12 _ ⟨upd_same, .inl (s13 _ _ er12), Paired.mapP pr12 fun _ _ z => ⟨z.1, s13 _ _ z.2⟩, s13 _ _ eU12⟩ (s13 _ _ er12) (fun z => by rw [z, er12] at hpl; cases hpl) ?_ nr nU nu12 ⟨nmU, by rw [ks12]; exact nmZ, ok12⟩ lr lenU (by omega) ?_ (hT12.keep s13) (hHt.new hpl)
      · cases z : H pl with
        | none => rfl
        | some o => rw [hHt pl o z nplt] at hpl; cases hpl
      · have : ns.length ≤ 24 := by omega
        omega
end
end Bo
set_option Elab.async false
set_option linter.all false
set_option maxRecDepth 100000
set_option maxHeartbeats 8000000
namespace Bo
open PySem PySem.Spec PyProof.Rows L2
theorem addU_one {p : Pl} {y : Str} (h1 : nameOk y = true) (h2 : y ∉ p.us) (h3 : p.us.length < 24) : edP p (.addU [.nm y]) = .ok { p with us := p.us ++ [y] } := by
  show newU p [.nm y] = _
  unfold newU
  rw [show badA [.nm y] = none from badA_all fun x hx => by rw [List.mem_singleton.mp hx]; exact h1]
  dsimp only
  rw [show dupT p.us (nmS [.nm y]) = none from by
    show (if y ∈ p.us then some y else dupT (p.us ++ [y]) []) = none
    rw [if_neg h2]
    rfl]
  dsimp only
  rw [if_neg (show ¬ 24 < p.us.length + (nmS [.nm y]).length by show ¬ 24 < p.us.length + 1; omega)]
  rfl
/-- what is due speaks of texts, of either kind -/
inductive TxD : Option Er → Prop where
  | no : TxD none
  | nm (j : Nat) {y : Str} (h : TxtOk y) : TxD (some (j, .str y))
  | it (j : Nat) {k y : Str} (hk : k = kUn ∨ k = kEq) (h : TxtOk y) : TxD (some (j, .tuple [.str k, .str y]))
  | lim (j : Nat) : TxD (some (j, .int 24))
theorem wordD_ok (j : Nat) : PyData.strOk (erWord j) = true := by
  unfold erWord
  split <;> decide +kernel
theorem TxD.shaped {o : Option Er} (h : TxD o) : SeqAt.shaped (dueD o) = true := by
  cases h with
  | no => rfl
  | nm j h =>
    show ((PyData.strOk (erWord j) && (PyData.strOk _ && true)) && decide _) = true
    rw [wordD_ok, name_strOk h]
    rfl
  | it j hk h =>
    have k1 : ∀ {k : Str}, k = kUn ∨ k = kEq → PyData.strOk k = true := fun h => by rcases h with rfl | rfl <;> decide +kernel
    show ((PyData.strOk (erWord j) && ((PyData.strOk _ && (PyData.strOk _ && true)) && true)) && decide _) = true
    rw [wordD_ok, name_strOk h, k1 hk]
    rfl
  | lim j =>
    show ((PyData.strOk (erWord j) && (true && true)) && decide _) = true
    rw [wordD_ok]
    rfl
theorem TxD.eqv {o : Option Er} (h : TxD o) : PyData.eqv (dueD o) (dueD o) = true := by
  cases h <;> simp [dueD, PyData.eqv, PyData.eqvAll]
end Bo
set_option Elab.async false
set_option linter.all false
set_option maxRecDepth 100000
set_option maxHeartbeats 8000000
namespace Bo
open PySem PySem.Spec PyProof.Rows L2
abbrev sBuilt : Stmt := top 80
theorem _root_.Bo.SS.under {K : PySem.W.Frag} {CC CS : Addr} {TT : List (Addr × Str)} {G G' H H0 : Hp} {s t c : Addr} {ds : List Int} {n l n0 l0 : Int} {p p0 : Pl} {Bs Hs Bs0 Hs0 : List Ct} (L : SS K CC CS TT G' H s p Bs Hs t c ds n l) (L0 : SS K CC CS TT G H0 s p0 Bs0 Hs0 t c ds n0 l0) (k : Same G G') : SS K CC CS TT G H s p Bs Hs t c ds n l :=
  ⟨L.Y.under k, L.T, L.tb, L0.gc, L0.gt, L0.no⟩
theorem plwf_of {rows : List (Str × List Str)} {us : List Str} (h : PlNm rows us) (l1 : rows.length ≤ 24) (l2 : us.length ≤ 24) : PlWf ⟨rows, us⟩ := ⟨h.r.n, fun y hy => (h.r.k y hy).1, h.u.n, fun y hy => (h.u.k y hy).1, fun r hr => h.e r hr, l1, l2⟩
def spBuilt (K : PySem.W.Frag) (CC CS : Addr) (TT : List (Addr × Str)) : Sp := fun vs H Q _ => ∃ (t c s : Addr) (ds : List Int) (n l : Int) (G : Hp) (pl r u : Addr) (q : Pl) (ra : List (Str × Addr)), vs = [.ref t, .ref s, .ref pl] ∧ SS K CC CS TT G H s ⟨[], []⟩ [] [] t c ds n l ∧ PGM G pl r u q ra ∧ PlWf q ∧ n + 3000 < 100000000000 ∧
  ∀ (p : Pl) (Hs : List Ct) (n' l' : Int) (H' : Hp), SS K CC CS TT G H' s p [] Hs t c ds n' l' → PlE p q → PlWf p → Hs.length ≤ 1000 → n ≤ n' → n' ≤ n + 3000 → Q (.ref s) H'
section
variable {P : Program} {w : World} {K : PySem.W.Frag} {mg : Str → Option Value} {base : Heap} {CC fCI CN fIN CS fSI fTk : Addr} {cs ms : Nat → Addr} {ds : Nat → FuncData}
theorem passE0 {X : Cx} : Passes (L2.CX X.prog X.w) X E0 := fun _ _ _ _ _ _ _ ⟨_, _, _, _, _, _, _, _, _, _, _, _, he⟩ => he.elim
theorem scBu : FnScope ["_law_tape", "_law_system", "_law_plain", "_law_name", "_law_one"] ["_law_tape", "_law_system", "_law_plain"] (defScope sBuilt) := ⟨rfl, rfl, rfl, by decide +kernel, rfl, by decide +kernel, by decide +kernel⟩
theorem ok_built {TT : List (Addr × Str)} {f fSh : Addr} {fd fdSh : FuncData} (F : Fun K "_law_built" "_law_built" sBuilt f fd) (T : SysT K mg CS fSI fTk) (hl : mg "list" = none) (M : Meths P w K mg base CC CS cs ms ds)
    (GS : FnOk P w K mg base CX0 2 fSh fdSh ["_law_tape", "_law_items"] (spShuf K)) (mS : mg "_law_shuffled" = some (.ref fSh)) (kS : PySem.W.keepIn K (.ref fSh) = true) (bS : Binds K fdSh ["_law_tape", "_law_items"] []) :
    FnOk P w K mg base CX0 10 f fd ["_law_tape", "_law_system", "_law_plain"] (spBuilt K CC CS TT) := by
  refine F.ok scBu (fun vs H Q E h => ?_) (fun cdv A outer s0 H vs Q E hr h => ?_)
  · obtain ⟨t, c, s, dd, n, l, G, pl, r, u, q, ra, rfl, _⟩ := h
    rfl
  · obtain ⟨t, c, s, dd, n, l, G, pl, r, u, q, ra, rfl, L, PG, hw, hn, k⟩ := h
    have hu := hu_of hr
    have hr2 : Room 2 _ := hr.mono (by decide)
    have hr7 : Room 7 _ := hr.mono (by decide)
    have hr9 : Room 9 _ := hr.mono (by decide)
    refine ⟨_, pss_cons (ps_for PassesOwn.never rfl (pi_list (pe_call GS hr2 rfl mS kS bS .nil pass0 (pa_cons (pv 0) (pa_cons (pe_dget hu (pv 2) pe_str (fun _ _ => rfl)) pa_nil)))) (pg_name (i := 3) scBu.nd rfl (.inl rfl))
        (pss_one (ps_expr (pe_methR (pv 1) T.cl M.m0 M.G0 hr7 passE0 (pa_cons (pv 3) pa_nil)))))
      (pss_cons (ps_for PassesOwn.never rfl (pi_list (pe_call GS hr2 rfl mS kS bS .nil pass0 (pa_cons (pv 0) (pa_cons (pe_callTy (call_listD rfl) (by rfl) hl (by decide +kernel) (pa_cons (pe_dget hu (pv 2) pe_str (fun _ _ => rfl)) pa_nil)) pa_nil)))) (pg_name (i := 3) scBu.nd rfl (.inl rfl))
        (pss_cons (ps_expr (pe_methR (pv 1) T.cl M.m1 M.G1 hr9 passE0 (pa_cons (pv 3) pa_nil)))
        (pss_one (ps_for PassesOwn.never rfl (pi_list (pe_call GS hr2 rfl mS kS bS .nil pass0 (pa_cons (pv 0) (pa_cons (pe_dget hu (pe_dget hu (pv 2) pe_str (fun _ _ => rfl)) (pv 3) (fun _ _ => rfl)) pa_nil)))) (pg_name (i := 4) scBu.nd rfl (.inl rfl))
          (pss_one (ps_expr (pe_meth (pv 1) T.cl M.m2 M.G2 hr9 M.b2 .nil passE0 (pa_cons (pv 3) (pa_cons (pv 4) pa_nil)))))))))
      (pss_one (ps_ret (pv 1)))), ?_⟩
    have lu := hw.lu
    have lk := hw.lk
    have tu : ∀ y ∈ q.us, TxtOk y := fun y hy => name_txt (hw.nu y hy)
    have tk : ∀ y ∈ q.keys, TxtOk y := fun y hy => name_txt (hw.nk y hy)
    have PH := PG.g.keep L.Y.same
    refine ⟨_, rfl, _, rfl, pl, _, rfl, PH.gu, t, c, u, dd, n, l, q.us, rfl, L.T, .inl (SqL.of PH.u), fun y hy => name_strOk (tu y hy), by omega, by omega, fun q1 ys1 n1 l1 H1 pm1 hq1n hq1 a1 b1 hT1 hB1 => ⟨q1, rfl, ⟨_, SqL.of hq1⟩, ?_⟩⟩
    have L1 := L.draw hB1 hT1
    obtain ⟨G1, M1, gg1, key1⟩ := L.join L1 (L.but_s hB1)
    have gq1 := key1 _ _ hq1 hq1n (ne_of hq1 hT1.d (by intro z; cases z)) (fun _ z => by cases z)
    have PG1 := PG.keep gg1
    have nd1 : ys1.Nodup := pm1.nodup_iff.mpr hw.u
    have ok1 : ∀ y ∈ ys1, nameOk y = true := fun y hy => hw.nu y (pm1.mem_iff.mp hy)
    have len1 := pm1.length_eq
    have wfI : ∀ i, PlWf ⟨[], ys1.take i⟩ := fun i => wf_new ((List.take_sublist _ _).nodup nd1) (fun y hy => ok1 y (List.mem_of_mem_take hy)) (by rw [List.length_take]; omega)
    refine for_list (xs := ys1.map V.str) (fun i σ H' => ∃ (z3 : Option V) (Hs : List Ct), σ = [some (.ref t), some (.ref s), some (.ref pl), z3, none] ∧ SS K CC CS TT G1 H' s ⟨[], ys1.take i⟩ [] Hs t c dd n1 l1 ∧ Hs.length ≤ i)
      ⟨none, [], rfl, by rw [List.take_zero]; exact M1, Nat.zero_le _⟩ (fun i σ H' _ ⟨_, _, _, Y, _⟩ => SqL.of (Y.Y.same _ _ gq1)) ?_ ?_
    · rintro i x σ H2 hx ⟨z3, Hs, rfl, L2, lh⟩
      rw [List.getElem?_map] at hx
      obtain ⟨y, hy, rfl⟩ := Option.map_eq_some_iff.mp hx
      have hi : i < ys1.length := (List.getElem?_eq_some_iff.mp hy).1
      have ym : y ∈ ys1 := List.mem_of_getElem? hy
      have yn : y ∉ ys1.take i := fun z => by
        obtain ⟨j, hj⟩ := List.mem_iff_getElem?.mp z
        rw [List.getElem?_take] at hj
        split at hj
        · exact absurd ((List.getElem?_inj (by omega) nd1).mp (hj.trans hy.symm)) (by omega)
        · cases hj
      obtain ⟨dx, c2, b2, h2, bs2, hs2, A2, _⟩ := id L2.Y
      refine ⟨_, rfl, s, dx, _, rfl, A2.i, syF_no _ _ _ (by decide +kernel) (by decide +kernel) (by decide +kernel), _, rfl, ?_⟩
      refine L2.done (j := 0) (xs := [.str y]) (as := [.nm y]) rfl (av_txt (ys := [y]) fun z hz => by rw [List.mem_singleton.mp hz]; exact name_txt (ok1 y ym)) (by show 1 ≤ 1000; decide) (by omega) (wfI i) (addU_one (ok1 y ym) yn (by show (ys1.take i).length < 24; rw [List.length_take]; omega)) fun H3 Hs3 L3 lh3 kd3 => ?_
      refine ⟨_, Hs3, rfl, ?_, by omega⟩
      rw [take_snoc hy]
      exact L3
    rintro σ H2 ⟨z3, Hs, rfl, L2, lh⟩
    rw [List.length_map, List.take_length] at L2
    rw [List.length_map] at lh
    have PH2 := PG1.g.keep L2.Y.same
    refine ⟨_, rfl, _, rfl, pl, _, rfl, PH2.gr, r, refK ra, rfl, PH2.r, fun LL hL => ?_⟩
    have ek : (refK ra).map (fun kv => kV kv.1) = q.keys.map V.str := by
      rw [show q.keys = q.rows.map (·.1) from rfl, ← PG.g.keys]
      unfold refK
      rw [List.map_map, List.map_map]
      rfl
    rw [ek]
    have sL := same_new (o := .lst (q.keys.map V.str)) hL
    have lkk : q.keys.length = q.rows.length := keys_len q
    have LK := L2.keep sL
    refine ⟨t, c, LL, dd, n1, l1, q.keys, rfl, LK.T, .inl (SqL.of upd_same), fun y hy => name_strOk (tk y hy), by omega, by omega, fun q3 ys3 n3 l3 H3 pm3 hq3n hq3 a3 b3 hT3 hB3 => ⟨q3, rfl, ⟨_, SqL.of hq3⟩, ?_⟩⟩
    have L3 := LK.draw hB3 hT3
    obtain ⟨G3, M3, gg3, key3⟩ := LK.join L3 (LK.but_s hB3)
    have gq3 := key3 _ _ hq3 hq3n (ne_of hq3 hT3.d (by intro z; cases z)) (fun _ z => by cases z)
    have PG3 := PG1.keep gg3
    have nd3 : ys3.Nodup := pm3.nodup_iff.mpr hw.k
    have ok3 : ∀ y ∈ ys3, nameOk y = true := fun y hy => hw.nk y (pm3.mem_iff.mp hy)
    have len3 := pm3.length_eq
    have wf1 : PlWf ⟨[], ys1⟩ := wf_new nd1 ok1 (by omega)
    refine for_list (xs := ys3.map V.str) (fun i σ H' => ∃ (z3 z4 : Option V) (R : List (Str × List Str)) (Hs : List Ct) (n' l' : Int), σ = [some (.ref t), some (.ref s), some (.ref pl), z3, z4] ∧ SS K CC CS TT G3 H' s ⟨R, ys1⟩ [] Hs t c dd n' l' ∧ PlWf ⟨R, ys1⟩ ∧ R.map (·.1) = ys3.take i ∧ (∀ p ∈ R, ∃ xs, (p.1, xs) ∈ q.rows ∧ p.2.Perm xs) ∧ Hs.length ≤ 24 + 30 * i ∧ n3 ≤ n' ∧ n' ≤ n3 + 30 * (i : Int))
      ⟨z3, none, [], Hs, n3, l3, rfl, M3, wf1, rfl, (fun _ z => nomatch z), by omega, by omega, by omega⟩ (fun i σ H' _ ⟨_, _, _, _, _, _, _, Y, _⟩ => SqL.of (Y.Y.same _ _ gq3)) ?_ ?_
    · rintro i x σ H4 hx ⟨z3, z4, R, Hs4, n4, l4, rfl, L4, wf4, er, ee, lh4, a4, b4⟩
      rw [List.getElem?_map] at hx
      obtain ⟨y, hy, rfl⟩ := Option.map_eq_some_iff.mp hx
      have hi : i < ys3.length := (List.getElem?_eq_some_iff.mp hy).1
      have ym3 : y ∈ ys3 := List.mem_of_getElem? hy
      have ym : y ∈ q.keys := pm3.mem_iff.mp ym3
      have yn : y ∉ R.map (·.1) := by
        rw [er]
        intro z
        obtain ⟨j, hj⟩ := List.mem_iff_getElem?.mp z
        rw [List.getElem?_take] at hj
        split at hj
        · exact absurd ((List.getElem?_inj (by omega) nd3).mp (hj.trans hy.symm)) (by omega)
        · cases hj
      have lR : R.length = i := by
        have e1 := congrArg List.length er
        rw [List.length_map, List.length_take] at e1
        omega
      obtain ⟨dx, c2, b2, h2, bs2, hs2, A2, _⟩ := id L4.Y
      have eE : edP ⟨R, ys1⟩ (.addE (.nm y) []) = .ok ⟨R ++ [(y, [])], ys1⟩ := addE_new (p := ⟨R, ys1⟩) (us := []) (ok3 y ym3) yn (by show R.length < 24; omega) (fun _ z => nomatch z) List.nodup_nil
      refine ⟨_, rfl, s, dx, _, rfl, A2.i, syF_no _ _ _ (by decide +kernel) (by decide +kernel) (by decide +kernel), _, rfl, ?_⟩
      refine L4.done (j := 1) (xs := [.str y]) (as := [.nm y]) rfl (av_txt (ys := [y]) fun z hz => by rw [List.mem_singleton.mp hz]; exact name_txt (ok3 y ym3)) (by show 1 ≤ 1000; decide) (by omega) wf4 eE fun H5 Hs5 L5 lh5 kd5 => ?_
      have wf5 := edP_wf _ _ wf4 _ eE
      have PH5 := PG3.g.keep L5.Y.same
      obtain ⟨d, xs, hv, hm, hd⟩ := PH5.row (show y ∈ q.rows.map (·.1) from ym)
      have nx := hw.r _ hm
      have lx : xs.length ≤ 24 := hw.row hm
      refine ⟨_, rfl, _, rfl, pl, _, rfl, PH5.gr, _, rfl, r, _, rfl, .inl ⟨_, Sum.inr y, PH5.r, rfl, hv.symm⟩, t, c, d, dd, n4, l4, xs, rfl, L5.T, .inl (SqL.of hd), fun z hz => name_strOk (tu z (nx.2 z hz)), by omega, by omega, fun q6 ys6 n6 l6 H6 pm6 hq6n hq6 a6 b6 hT6 hB6 => ⟨q6, rfl, ⟨_, SqL.of hq6⟩, ?_⟩⟩
      have L6 := L5.draw hB6 hT6
      obtain ⟨G6, M6, gg6, key6⟩ := L5.join L6 (L5.but_s hB6)
      have gq6 := key6 _ _ hq6 hq6n (ne_of hq6 hT6.d (by intro z; cases z)) (fun _ z => by cases z)
      have nd6 : ys6.Nodup := pm6.nodup_iff.mpr nx.1
      have len6 := pm6.length_eq
      refine for_list (xs := ys6.map V.str) (fun j σ H' => ∃ (z4 : Option V) (Hs : List Ct), σ = [some (.ref t), some (.ref s), some (.ref pl), some (.str y), z4] ∧ SS K CC CS TT G6 H' s ⟨R ++ [(y, ys6.take j)], ys1⟩ [] Hs t c dd n6 l6 ∧ PlWf ⟨R ++ [(y, ys6.take j)], ys1⟩ ∧ Hs.length ≤ 24 + 30 * i + 1 + j)
        ⟨z4, Hs5, rfl, by rw [List.take_zero]; exact M6, by rw [List.take_zero]; exact wf5, by omega⟩ (fun i σ H' _ ⟨_, _, _, Y, _⟩ => SqL.of (Y.Y.same _ _ gq6)) ?_ ?_
      · rintro j x σ H7 hx ⟨z4, Hs7, rfl, L7, wf7, lh7⟩
        rw [List.getElem?_map] at hx
        obtain ⟨v, hv6, rfl⟩ := Option.map_eq_some_iff.mp hx
        have hj : j < ys6.length := (List.getElem?_eq_some_iff.mp hv6).1
        have vm : v ∈ q.us := nx.2 v (pm6.mem_iff.mp (List.mem_of_getElem? hv6))
        have vn : v ∉ ys6.take j := fun z => by
          obtain ⟨j2, hj2⟩ := List.mem_iff_getElem?.mp z
          rw [List.getElem?_take] at hj2
          split at hj2
          · exact absurd ((List.getElem?_inj (by omega) nd6).mp (hj2.trans hv6.symm)) (by omega)
          · cases hj2
        obtain ⟨dx7, c7, b7, h7, bs7, hs7, A7, _⟩ := id L7.Y
        have eN := addN_last (R := R) (us := ys1) (xs := ys6.take j) (y := y) (v := v) yn (pm1.mem_iff.mpr vm) vn
        refine ⟨_, rfl, s, dx7, _, rfl, A7.i, syF_no _ _ _ (by decide +kernel) (by decide +kernel) (by decide +kernel), _, rfl, _, rfl, ?_⟩
        refine L7.done (j := 2) (xs := [.str y, .str v]) (as := [.nm y, .nm v]) rfl (av_txt (ys := [y, v]) fun z hz => ?_) (by show 2 ≤ 1000; decide) (by omega) wf7 eN fun H8 Hs8 L8 lh8 kd8 => ?_
        · rcases List.mem_cons.mp hz with e | e
          · rw [e]; exact name_txt (ok3 y ym3)
          · rw [List.mem_singleton.mp e]; exact tu v vm
        · refine ⟨_, Hs8, rfl, ?_, ?_, by omega⟩
          · rw [take_snoc hv6]
            exact L8
          · rw [take_snoc hv6]
            exact edP_wf _ _ wf7 _ eN
      · rintro σ H7 ⟨z4, Hs7, rfl, L7, wf7, lh7⟩
        rw [List.length_map, List.take_length] at L7 wf7
        rw [List.length_map] at lh7
        refine ⟨_, z4, R ++ [(y, ys6)], Hs7, n6, l6, rfl, L7.under M3 gg6, wf7, ?_, ?_, by omega, by omega, by omega⟩
        · rw [List.map_append, er, take_snoc hy]
          rfl
        · intro p hp
          rcases List.mem_append.mp hp with e | e
          · exact ee p e
          · rw [List.mem_singleton.mp e]
            exact ⟨xs, hm, pm6⟩
    · rintro σ H4 ⟨z3, z4, R, Hs4, n4, l4, rfl, L4, wf4, er, ee, lh4, a4, b4⟩
      rw [List.length_map, List.take_length] at er
      rw [List.length_map] at lh4 b4
      refine ⟨_, rfl, k ⟨R, ys1⟩ Hs4 n4 l4 H4 ((L4.under M1 gg3).under L gg1) ⟨pm1, ?_, fun y hy => ?_⟩ wf4 (by omega) (by omega) (by omega)⟩
      · show (R.map (·.1)).Perm q.keys
        rw [er]
        exact pm3
      · obtain ⟨xs, h1, h2⟩ := ee _ (wf4.rowOf hy)
        rw [show rowOf q.rows y = xs from by unfold rowOf; rw [lookup_of hw.k h1]; rfl]
        exact h2
end
end Bo
set_option Elab.async false
set_option linter.all false
set_option maxRecDepth 100000
set_option maxHeartbeats 4000000
namespace Bo
open PySem PySem.Spec PyProof.Rows L2
/-- the names that are in neither kind -/
theorem lc_rest {K : PySem.W.Frag} {σ : L2.St} {H : Hp} {Q : VK} {nq pl r u : Addr} {ra : List (Str × Addr)} {rows : List (Str × List Str)} {us ys : List Str} (hσ : σ.length = 12) (e4 : σ[4]? = some (some (.ref nq))) (e3 : σ[3]? = some (some (.ref pl)))
    (hy : H nq = some (.lst (ys.map V.str))) (tx : ∀ y ∈ ys, TxtOk y) (P : PlG H pl r u rows ra us) (ln : ys.length ≤ 1000)
    (k : ∀ (D : Addr) (zs : List Str), H D = none → zs.Sublist ys → Q (.ref D) (upd H D (.lst (zs.map V.str)))) :
    tLc (iList K (tVar 4)) (gName 11) (tAnd (tTest (tOp (rInA K true) (tVar 11) (tDGet (tVar 3) (tC (V.str "unknowns"))))) (tB (tDNotIn (tVar 11) (tDGet (tVar 3) (tC (V.str "rows")))))) (tVar 11) [11] σ H Q := by
  refine ⟨_, e4, nq, rfl, ⟨_, SqL.of hy⟩, fun D hD => ?_⟩
  have kD : ∀ zs : List V, Same H (upd H D (.lst zs)) := fun zs => same_new hD
  refine lc_list (xs := ys.map V.str) (fun i H' => ∃ zs : List Str, H' = upd H D (.lst (zs.map V.str)) ∧ zs.Sublist (ys.take i)) ⟨[], rfl, List.nil_sublist _⟩ (fun i H' _ ⟨_, e, _⟩ => by rw [e]; exact SqL.of (kD _ _ _ hy)) ?_ ?_
  · rintro i v H' hv ⟨zs, rfl, sb⟩
    rw [List.getElem?_map] at hv
    obtain ⟨y, hy1, rfl⟩ := Option.map_eq_some_iff.mp hv
    have li := (List.getElem?_eq_some_iff.mp hy1).1
    have P' := P.keep (kD (zs.map V.str))
    have ty := tx y (List.mem_of_getElem? hy1)
    have h1 := ty.l
    have h2 : y.length = y.cps.toList.length := (Array.length_toList (xs := y.cps)).symm
    have w3 : (wipe σ [11])[3]? = some (some (.ref pl)) := by
      rw [show wipe σ [11] = σ.set 11 none from rfl, List.getElem?_set_ne (by decide)]
      exact e3
    have g11 : ((wipe σ [11]).set 11 (some (V.str y)))[11]? = some (some (V.str y)) := by
      rw [List.getElem?_set_self]
      show 11 < (σ.set 11 none).length
      rw [List.length_set, hσ]
      decide
    have g3 : ((wipe σ [11]).set 11 (some (V.str y)))[3]? = some (some (.ref pl)) := by
      rw [List.getElem?_set_ne (by decide)]
      exact w3
    have grow : (zs ++ [y]).Sublist (ys.take (i + 1)) := by
      rw [take_snoc hy1]
      exact sb.append (List.Sublist.refl _)
    have stay : zs.Sublist (ys.take (i + 1)) := by
      rw [take_snoc hy1]
      exact sb.trans (List.sublist_append_left _ _)
    refine ⟨?_, ?_⟩
    · show ((σ.set 11 none).set 11 (some (V.str y))).set 11 none = σ.set 11 none
      rw [List.set_set, List.set_set]
    refine ⟨_, g11, _, g3, pl, _, rfl, P'.gu, u, us, .nm y, rfl, .inl (SqL.of P'.u), .nm (by omega), _, rfl, ?_⟩
    refine ite2 (fun c => ?_) (fun c => ⟨zs, rfl, stay⟩)
    refine ⟨_, g11, _, g3, pl, _, rfl, P'.gr, r, _, rfl, .inl ⟨_, Sum.inr y, P'.r, rfl, rfl⟩, _, rfl, ?_⟩
    refine ite2 (fun c => ?_) (fun c => ⟨zs, rfl, stay⟩)
    refine ⟨_, g11, _, upd_same, ?_, zs ++ [y], ?_, grow⟩
    · have l1 := sb.length_le
      rw [List.length_take] at l1
      rw [List.length_map, sizeLine_eq]
      omega
    · rw [upd_upd, List.map_append]
      rfl
  · rintro H' ⟨zs, rfl, sb⟩
    rw [List.length_map, List.take_length] at sb
    exact k D zs hD sb
theorem EvT.putL {K : PySem.W.Frag} {H : Hp} {le : Addr} {xs : List V} {o : HO} (e : H le = some (.lst xs)) {vs : List V} {es : List ET} (h : Paired (EvT K H) vs es) : Paired (EvT K (upd H le o)) vs es :=
  EvT.map.go (fun q ws z => z.elim (fun z => .inl (z.elim (fun z => .inl ((upd_ne fun w => by rw [w, e] at z; cases z).trans z)) fun ⟨b, z⟩ => .inr ⟨b, (upd_ne fun w => by rw [w, e] at z; cases z).trans z⟩)) .inr) h
section
variable {K : PySem.W.Frag} {CC CS : Addr} {cs : Nat → Addr} {TT : List (Addr × Str)} {G H H' : Hp} {s t c q : Addr} {ds : List Int} {n l n' l' : Int} {p p' : Pl} {Bs Hs Hs' : List Ct}
theorem SS.appOk {xs : List V} {es : List ET} {Q : VK} {E : XK} (L : SS K CC CS TT G H s p Bs Hs t c ds n l) (hes : Paired (EvT K H) xs es) (hx : xs.length ≤ 1000) (hm : Hs.length < 1000000) (hw : PlWf p) (he : appT es p 0 = .ok p')
    (k : ∀ H' Hs', SS K CC CS TT G H' s p' Bs Hs' t c ds n l → Hs'.length ≤ Hs.length + 1 → KeepD H H' → Q .non H') : spAppA K CC CS cs (.ref s :: xs) H Q E := by
  obtain ⟨B, Y1, kk⟩ := L.op2
  refine ⟨s, B, p, Bs, Hs, xs, es, rfl, hes, hx, Y1, hm, hw, ?_⟩
  rw [he]
  intro H2 Y2
  obtain ⟨L2, kd⟩ := kk H2 p' _ _ Y2
  exact k H2 _ L2 histG_len kd
end
/-- None, or the number that is told -/
def atV : Except Nat Pl → V
  | .error i => .int (i : Int)
  | .ok _ => .non
theorem at_read {K : PySem.W.Frag} {σ : L2.St} {H : Hp} {Q : VK} {r : Except Nat Pl} (e7 : σ[7]? = some (some (atV r))) (k : ∀ w H', Same H H' → DueV K H' w (apO r) → Q w H') :
    tIf (tB (tIsN (tVar 7))) (tC .non) (tTup (tCons (tC (.str "failed")) (tCons (tVar 7) tNil))) σ H Q := by
  cases r with
  | ok q => exact ⟨_, e7, _, rfl, iteT (k .non H (Same.refl H) .no)⟩
  | error i => exact ⟨_, e7, _, rfl, iteF ⟨_, e7, by show 2 ≤ sizeLine; decide, fun q hq => k _ _ (same_new hq) (.er (er := (9, .int (i : Int))) (SqT.of upd_same) (.fl (.atom (v := .int (i : Int)) rfl)))⟩⟩
theorem int_fit9 : ∀ n : Nat, n < 128 → (PyData.int (n : Int)).showable = true ∧ (PyData.int (n : Int)).shown.length ≤ 10 := by decide +kernel
theorem er9s {i : Nat} (hi : i < 128) : ErOk (9, .int (i : Int)) := ⟨(int_fit9 i hi).1, by show 0 ≤ 6; decide, Nat.le_trans (int_fit9 i hi).2 (by decide), fun _ _ e => by cases e⟩
theorem appT_lt : ∀ (es : List ET) (p : Pl) (i j : Nat), appT es p i = .error j → j < i + es.length
  | [], p, i, j, h => by
    unfold appT at h
    cases h
  | e :: es, p, i, j, h => by
    unfold appT at h
    cases r : tryP e 0 p with
    | none =>
      rw [r] at h
      cases h
      rw [List.length_cons]
      omega
    | some a =>
      rw [r] at h
      have := appT_lt es a (i + 1) j h
      rw [List.length_cons]
      omega
/-- attempts, one in another -/
def deepT : Nat → ET
  | 0 => .ed (.addU [.nm "x"])
  | k + 1 => .att [deepT k]
theorem deep_1 (e : ET) (n : Nat) (p : Pl) : tryP (.att [e]) n p = if n ≤ 4 then some ((tryP e (n + 1) p).getD p) else none := by
  conv => lhs; unfold tryP
  split
  · conv => lhs; unfold tryL
    cases tryP e (n + 1) p with
    | none => rfl
    | some q =>
      dsimp only
      unfold tryL
      rfl
  · rfl
theorem nmX : nameOk "x" = true := by decide +kernel
theorem nmY : nameOk "y" = true := by decide +kernel
theorem tryX (n : Nat) : tryP (deepT 0) n ⟨[], []⟩ = some ⟨[], ["x"]⟩ := by
  unfold deepT tryP
  rw [show edP ⟨[], []⟩ (.addU [.nm "x"]) = .ok ⟨[], ["x"]⟩ from addU_one nmX (fun z => nomatch z) (by show 0 < 24; decide)]
theorem deep_try : ∀ k n : Nat, n + k ≤ 5 → tryP (deepT k) n ⟨[], []⟩ = some ⟨[], ["x"]⟩
  | 0, n, _ => tryX n
  | k + 1, n, h => by
    unfold deepT
    rw [deep_1, if_pos (by omega), deep_try k (n + 1) (by omega)]
    rfl
theorem deep_try6 : tryP (deepT 6) 0 ⟨[], []⟩ = some ⟨[], []⟩ := by
  have h5 : tryP (deepT 1) 5 ⟨[], []⟩ = none := by
    unfold deepT
    rw [deep_1, if_neg (by decide)]
  have h4 : tryP (deepT 2) 4 ⟨[], []⟩ = some ⟨[], []⟩ := by
    show tryP (.att [deepT 1]) 4 _ = _
    rw [deep_1, if_pos (by decide), h5]
    rfl
  have h3 : tryP (deepT 3) 3 ⟨[], []⟩ = some ⟨[], []⟩ := by
    show tryP (.att [deepT 2]) 3 _ = _
    rw [deep_1, if_pos (by decide), h4]
    rfl
  have h2 : tryP (deepT 4) 2 ⟨[], []⟩ = some ⟨[], []⟩ := by
    show tryP (.att [deepT 3]) 2 _ = _
    rw [deep_1, if_pos (by decide), h3]
    rfl
  have h1 : tryP (deepT 5) 1 ⟨[], []⟩ = some ⟨[], []⟩ := by
    show tryP (.att [deepT 4]) 1 _ = _
    rw [deep_1, if_pos (by decide), h2]
    rfl
  show tryP (.att [deepT 5]) 0 _ = _
  rw [deep_1, if_pos (by decide), h1]
  rfl
def deepU (k : Nat) : List Str := if k < 6 then ["x", "y"] else ["y"]
theorem deep_app (k : Nat) (hk : k < 7) : appT [deepT k, .ed (.addU [.nm "y"])] ⟨[], []⟩ 0 = .ok ⟨[], deepU k⟩ := by
  have ey : ∀ us : List Str, ("y" : Str) ∉ us → us.length < 24 → tryP (.ed (.addU [.nm "y"])) 0 ⟨[], us⟩ = some ⟨[], us ++ [("y" : Str)]⟩ := fun us h1 h2 => by
    unfold tryP
    rw [show edP ⟨[], us⟩ (.addU [.nm "y"]) = .ok ⟨[], us ++ [("y" : Str)]⟩ from addU_one nmY h1 h2]
  unfold appT
  by_cases h : k < 6
  · rw [deep_try k 0 (by omega)]
    dsimp only
    unfold appT
    rw [ey ["x"] (by decide +kernel) (by decide)]
    dsimp only
    unfold appT deepU
    rw [if_pos h]
    rfl
  · obtain rfl : k = 6 := by omega
    rw [deep_try6]
    dsimp only
    unfold appT
    rw [ey [] (fun z => nomatch z) (by decide)]
    dsimp only
    unfold appT deepU
    rw [if_neg h]
    rfl
theorem PGM.hide {H : Hp} {t c pl r u : Addr} {cs : List Int} {n l : Int} {p : Pl} {ra : List (Str × Addr)} (T : Tape H t c cs n l) (h : PGM H pl r u p ra) (n1 : pl ≠ t) (n2 : r ≠ t) : PGM (hideG t H) pl r u p ra := by
  have hl : ∀ {b : Addr} {xs : List V}, H b = some (.lst xs) → hideG t H b = some (.lst xs) := fun e => hideG_at e (ne_of e T.d (by intro z; cases z)) (fun _ z => by cases z)
  have d2 : hideG t H r = some (.dK (refK ra)) := hideG_at h.d n2 (fun _ z => by cases z)
  exact ⟨⟨hideG_at h.g.d n1 (fun _ z => by cases z), .inl d2, Paired.mapP h.g.e fun _ _ z => ⟨z.1, hl z.2⟩, hl h.g.u⟩, d2⟩
end Bo
set_option Elab.async false
set_option linter.all false
set_option maxRecDepth 100000
set_option maxHeartbeats 8000000
namespace Bo
open PySem PySem.Spec PyProof.Rows L2
def spStandsE (K : PySem.W.Frag) (CC CS : Addr) : Sp := fun vs H Q _ => ∃ (s pl : Addr) (p q : Pl) (n : Nat), vs = [.ref s, .ref pl] ∧ Sv K CC CS H s (ctP p) n ∧ Pl0 H pl q ∧ PlWf p ∧ PlWf q ∧ PlE p q ∧ ∀ H', Same H H' → Q (.bl true) H'
section
variable {P : Program} {w : World} {K : PySem.W.Frag} {mg : Str → Option Value} {base : Heap} {CC fCI CS fSI fTk : Addr}
theorem ok_standsE {f fT pE gE pU gU pN gN : Addr} {fd fdT fdE fdU fdN : FuncData} (F : Fun K "_law_stands" "_law_stands" sStands f fd) (T : SysT K mg CS fSI fTk) (hrep : mg "repr" = none) (PT : PropW K CS pE gE pU gU pN gN)
    (GT : FnOk P w K mg base CX0 1 fT fdT ["_law_plain"] (spTold' K)) (mT : mg "_law_told" = some (.ref fT)) (kT : PySem.W.keepIn K (.ref fT) = true) (bT : Binds K fdT ["_law_plain"] [])
    (GE : FnOk P w K mg base CX0 1 gE fdE ["self"] (spEqsV K CC CS)) (bE : Binds K fdE ["self"] []) (GU : FnOk P w K mg base CX0 1 gU fdU ["self"] (spUnsV K CC CS)) (bU : Binds K fdU ["self"] []) (GN : FnOk P w K mg base CX0 2 gN fdN ["self"] (spEnV K CC CS)) (bN : Binds K fdN ["self"] []) :
    FnQ P w K mg base CX0 4 f fd ["_law_system", "_law_plain"] (spStandsE K CC CS) := by
  refine fun_okQ0 F scSt (fun vs H Q E h => ?_) (fun cdv A outer s H vs Q E hq h => ?_)
  · obtain ⟨s, pl, p, q0, n, rfl, _⟩ := h
    rfl
  · obtain ⟨s, pl, p, q0, n, rfl, V, hP, hw, hw0, pe, k⟩ := h
    have et := pe.tell
    have hr := hq.room
    have hr1 : Room 1 _ := hr.mono (by decide)
    have hr2 : Room 2 _ := hr.mono (by decide)
    refine ⟨_, pss_one (ps_ret (pe_cmpR op_eq (pe_callB (call_reprQ hq) (by rfl) hrep (by decide +kernel) (pa_cons (pe_lst
        (pa_cons (pe_prop (pv 0) T.cl PT.e GE hr2 bE .nil pass0 rfl) (pa_cons (pe_prop (pv 0) T.cl PT.u GU hr2 bU .nil pass0 rfl) (pa_cons (pe_prop (pv 0) T.cl PT.n GN hr bN .nil pass0 rfl) pa_nil)))) pa_nil))
      (pe_callB (call_reprQ hq) (by rfl) hrep (by decide +kernel) (pa_cons (pe_call GT hr1 rfl mT kT bT .nil pass0 (pa_cons (pv 1) pa_nil)) pa_nil)) (nomark _))), ?_⟩
    obtain ⟨dx, c, b, h, bs, Yi, _⟩ := V.ex
    have lkk : (ctP p).rows.length < 64 := by
      have e : (ctP p).rows.length = p.rows.length := List.length_map _
      have := hw.lk
      omega
    refine ⟨_, rfl, s, dx, _, rfl, Yi, s, _, n, rfl, V, lkk, fun t1 H1 s1 q1 => ?_⟩
    refine ⟨_, rfl, s, dx, _, rfl, s1 _ _ Yi, s, _, n, rfl, V.keep s1, fun t2 q2 => ?_⟩
    refine ⟨_, rfl, s, dx, _, rfl, s1 _ _ Yi, s, p, n, rfl, V.keep s1, hw, fun t3 qs H2 s2 q3 p3 => ⟨by show 3 ≤ sizeLine; decide, fun q hq0 => ?_⟩⟩
    have s3 : Same H2 (upd H2 q (.lst [.ref t1, .ref t2, .ref t3])) := same_new hq0
    rw [ctP_keys] at q1
    refine ⟨.ref q, tellD p, rfl, tellD_dp upd_same (SqT.keep (SqT.keep q1 s2) s3) (SqT.keep (SqT.keep q2 s2) s3) (SqT.keep q3 s3) (Paired.mapP p3 fun _ _ z => s3 _ _ z), tellD_ok _, tellD_depth _, tellD_fits hw, ?_⟩
    have s4 := (s1.trans s2).trans s3
    refine ⟨_, rfl, pl, q0, rfl, hP.keep s4, hw0, fun q' t4 t5 t6 qs' H3 s5 hq' w1 w2 w3 w4 => ?_⟩
    refine ⟨.ref q', tellD p, rfl, by rw [et]; exact tellD_dp hq' w1 w2 w3 w4, tellD_ok _, tellD_depth _, tellD_fits hw, rfl, ?_⟩
    rw [decide_eq_true rfl]
    exact k _ (s4.trans s5)
end
end Bo
set_option Elab.async false
set_option linter.all false
set_option maxRecDepth 100000
set_option maxHeartbeats 4000000
namespace Bo
open PySem PySem.Spec PyProof.Rows L2
end Bo
set_option Elab.async false
set_option linter.all false
set_option maxRecDepth 100000
set_option maxHeartbeats 4000000
namespace Bo
open PySem PySem.Spec PyProof.Rows L2
theorem SqT.kd {K : PySem.W.Frag} {H H1 : Hp} {a : Addr} {xs : List V} (e : KeepD H H1) (h : SqT K H a xs) : SqT K H1 a xs :=
  h.elim (fun z => .inl (z.elim (fun z => .inl (e _ _ z (fun _ _ _ q => by cases q) fun _ q => by cases q)) fun ⟨o, z⟩ => .inr ⟨o, e _ _ z (fun _ _ _ q => by cases q) fun _ q => by cases q⟩)) .inr
theorem Flat.kd {K : PySem.W.Frag} {H H1 : Hp} {v : V} {d : PyData} (e : KeepD H H1) (n : ∀ l, d ≠ .list l) (h : Flat K H v d) : Flat K H1 v d := by
  cases h with
  | atom h => exact .atom h
  | tup h x l => exact .tup (SqT.kd e h) x l
  | lst h x l => exact absurd rfl (n _)
  | dct h x nd l => exact .dct (e _ _ h (fun _ _ _ z => by cases z) fun _ z => by cases z) x nd l
end Bo
set_option Elab.async false
set_option linter.all false
set_option maxRecDepth 100000
set_option maxHeartbeats 8000000
namespace Bo
open PySem PySem.Spec PyProof.Rows L2
abbrev sLaw : Stmt := top 85
abbrev nL : List Str := ["_law_script", "_law_tape", "_law_turn", "_law_plain", "_law_names_here", "_law_system", "_law_edits", "_law_at", "_law_later", "_law_deep", "_law_level", "_law_name"]
structure TxtW (mg : Str → Option Value) : Prop where
  len : mg "len" = none
  rng : mg "range" = none
  min_ : mg "min" = none
  rep : mg "repr" = none
section
variable {P : Program} {w : World} {K : PySem.W.Frag} {mg : Str → Option Value} {base : Heap} {CC fCI CS fSI fTk : Addr} {cs : Nat → Addr}
theorem scL : FnScope nL ["_law_script"] (defScope sLaw) := ⟨rfl, rfl, rfl, by decide +kernel, rfl, by decide +kernel, by decide +kernel⟩
theorem ok_law {CB : Addr} {f c PT fB fN fD fP fE fDr fBu fSt fNe fAd fLA fAp pU gU : Addr} {q : Str} {TT : List (Addr × Str)} {fd fdB fdN fdD fdP fdE fdDr fdBu fdSt fdNe fdAd fdLA fdSI fdU : FuncData} (F : FunC K "law" "law" sLaw f fd c) (TB : LamX.TabB base mg c PT) (hqe : qLam "law" = q) (hin : (PT, q) ∈ TT) (huq : ∀ p ∈ TT, p.1 = PT → p.2 = q)
    (T : SysT K mg CS fSI fTk) (TE : ErrA K mg CB cs) (TX : TxtW mg)
    (GS : FnOk P w K mg base CX0 3 fSI fdSI ["self"] (spSInitG K CC CS)) (bS : Binds K fdSI ["self"] [])
    (GB : FnOk P w K mg base CX0 1 fB fdB ["_law_script"] (spBegin K)) (mB : mg "_law_begin" = some (.ref fB)) (kB : PySem.W.keepIn K (.ref fB) = true) (bB : Binds K fdB ["_law_script"] [])
    (GN : FnOk P w K mg base CX0 3 fN fdN ["_law_tape", "_law_many"] spNames) (mN : mg "_law_names" = some (.ref fN)) (kN : PySem.W.keepIn K (.ref fN) = true) (bN : Binds K fdN ["_law_tape", "_law_many"] [])
    (GD : FnOk P w K mg base CX0 1 fD fdD ["_law_tape", "_law_many"] spDraw) (mD : mg "_law_draw" = some (.ref fD)) (kD : PySem.W.keepIn K (.ref fD) = true) (bD : Binds K fdD ["_law_tape", "_law_many"] [])
    (GP : FnOk P w K mg base CX0 2 fP fdP ["_law_tape", "_law_items"] spPick) (mP : mg "_law_pick" = some (.ref fP)) (kP : PySem.W.keepIn K (.ref fP) = true) (bP : Binds K fdP ["_law_tape", "_law_items"] [])
    (FE : Fun K "_law_error" "_law_error" sErr fE fdE) (mE : mg "_law_error" = some (.ref fE)) (bE : Binds K fdE ["_law_call"] [])
    (GDr : FnOk P w K mg base CX0 4 fDr fdDr ["_law_tape", "_law_most"] spDrawn) (mDr : mg "_law_drawn" = some (.ref fDr)) (kDr : PySem.W.keepIn K (.ref fDr) = true) (bDr : Binds K fdDr ["_law_tape", "_law_most"] [])
    (GBu : FnOk P w K mg base CX0 10 fBu fdBu ["_law_tape", "_law_system", "_law_plain"] (spBuilt K CC CS TT)) (mBu : mg "_law_built" = some (.ref fBu)) (kBu : PySem.W.keepIn K (.ref fBu) = true) (bBu : Binds K fdBu ["_law_tape", "_law_system", "_law_plain"] [])
    (GNe : FnOk P w K mg base CX0 3 fNe fdNe ["_law_tape", "_law_plain", "_law_deep", "_law_names_here"] (spNested K)) (mNe : mg "_law_nested" = some (.ref fNe)) (kNe : PySem.W.keepIn K (.ref fNe) = true) (bNe : Binds K fdNe ["_law_tape", "_law_plain", "_law_deep", "_law_names_here"] [])
    (GAd : FnOk P w K mg base CX0 11 fAd fdAd ["_law_plain", "_law_edits"] (spApplied K)) (mAd : mg "_law_applied" = some (.ref fAd)) (kAd : PySem.W.keepIn K (.ref fAd) = true) (bAd : Binds K fdAd ["_law_plain", "_law_edits"] [])
    (GLA : FnOk P w K mg base (L2.CX P w) 23 fLA fdLA ["_law_system", "_law_edits"] (spLA K CC CS cs)) (mLA : mg "_law_apply" = some (.ref fLA)) (kLA : PySem.W.keepIn K (.ref fLA) = true) (bLA : Binds K fdLA ["_law_system", "_law_edits"] [])
    (mAp : Meth K CS "apply" fAp) (GAp : FnR P w K mg base (L2.CX P w) 22 fAp (spAppA K CC CS cs))
    (GSt : FnQ P w K mg base CX0 4 fSt fdSt ["_law_system", "_law_plain"] (spStandsE K CC CS)) (mSt : mg "_law_stands" = some (.ref fSt)) (kSt : PySem.W.keepIn K (.ref fSt) = true) (bSt : Binds K fdSt ["_law_system", "_law_plain"] [])
    (PTu : PropOf K CS "unknowns" pU gU) (GU : FnOk P w K mg base CX0 1 gU fdU ["self"] (spUnsV K CC CS)) (bU : Binds K fdU ["self"] []) :
    FnQ P w K mg base CX0 28 f fd ["_law_script"] (spLaw K TT) := by
  obtain ⟨oc, od, kV, doc, pm, an, ct, osl, rfl, lk, hcd⟩ := F.ex
  obtain ⟨oc2, od2, kV2, doc2, pm2, an2, cdv2, ct2, osl2, rfl, lkE, hcdE⟩ := FE.ex
  refine fnq_of lk hcd scL (fun vs H Q E h => ?_) (fun A outer s0 H vs Q E hq h => ?_)
  · obtain ⟨a, ns, rfl, _⟩ := h
    rfl
  · obtain ⟨a, ns, rfl, hS, hl, hP, k⟩ := h
    have hr := hq.room
    have hu := hu_of hr
    have hu64 : (A.deeper (PyProof.Rows.envOfC "law" (defScope sLaw) s0.heap.objs.size f (.ref c))).units + 64 < cLine := by have := hr.un; omega
    have hr1 : Room 1 _ := hr.mono (by decide)
    have hr2 : Room 2 _ := hr.mono (by decide)
    have hr3 : Room 3 _ := hr.mono (by decide)
    have hr4 : Room 4 _ := hr.mono (by decide)
    have hr10 : Room 10 _ := hr.mono (by decide)
    have hr11 : Room 11 _ := hr.mono (by decide)
    have hr22 : Room 22 _ := hr.mono (by decide)
    have hq4 : Quiet 4 _ := hq.mono (by decide)
    have hqe' : (cxOf CX0 P w K mg base nL "law" (defScope sLaw) f (.ref c) A outer s0 H E).nox.env.qual ++ "<lambda>" = q := hqe
    suffices z : ∃ tz, PSs (cxOf CX0 P w K mg base nL "law" (defScope sLaw) f (.ref c) A outer s0 H E).nox (defBody sLaw) tz ∧ tz { nx := fun _ H' => Q .non H', rt := Q } (L2.start nL [.ref a]) H from let ⟨t, h1, h2⟩ := z; ⟨t, h1.nox, h2⟩
    refine ⟨_, pss_cons (ps_set (i := 1) scL.nd rfl (.inl rfl) (pe_call GB hr1 rfl mB kB bB .nil pass0 (pa_cons (pv 0) pa_nil)))
      (pss_cons (ps_for PassesOwn.never rfl (pi_range1 rfl TX.rng (pa_cons (pe_op op_add pe_int (pe_callB (call_min2 rfl) (by rfl) TX.min_ (by decide +kernel) (pa_cons pe_int (pa_cons (pe_callB call_len_seq (by rfl) TX.len PySem.boot_len (pa_cons (pv 0) pa_nil)) pa_nil)))) pa_nil)) (pg_name (i := 2) scL.nd rfl (.inl rfl))
        (pss_cons (ps_asg (pe_tup (pa_cons (pe_call GDr hr4 rfl mDr kDr bDr .nil pass0 (pa_cons (pv 1) (pa_cons pe_int pa_nil))) (pa_cons (pe_call GN hr3 rfl mN kN bN .nil pass0 (pa_cons (pv 1) (pa_cons pe_int pa_nil))) pa_nil))) (pg_tup (by rfl) (pgs_cons (pg_name (i := 3) scL.nd rfl (.inr rfl)) (pgs_cons (pg_name (i := 4) scL.nd rfl (.inl rfl)) pgs_nil))))
        (pss_cons (ps_set (i := 5) scL.nd rfl (.inr rfl) (pe_call GBu hr10 rfl mBu kBu bBu .nil pass0 (pa_cons (pv 1) (pa_cons (pe_make0 T.mkC GS hr4 rfl T.g bS .nil pass0) (pa_cons (pv 3) pa_nil)))))
        (pss_cons (ps_setLc (i := 4) (own := [("_law_name", 11)]) (g := gName 11) (tt := tAnd (tTest (tOp (rInA K true) (tVar 11) (tDGet (tVar 3) (tC (V.str "unknowns"))))) (tB (tDNotIn (tVar 11) (tDGet (tVar 3) (tC (V.str "rows")))))) (te := tVar 11) rfl scL.nd rfl rfl rfl (pi_list (pv 4)) (blkOk_by (N := nL) (sc := defScope sLaw) (by decide +kernel)) (fun _ _ _ _ _ => pg_name (i := 11) scL.nd rfl (Or.inl rfl))
          (fun _ _ _ _ _ => pts_one (PW.pt (pw_and (pt_cmpR (op_notInA hu64) (pv 11) (pe_dget hu (pv 3) pe_str (fun _ _ => rfl)) (by rfl)) (pw_and1 (pt_cmp (pc_dnotin hu (pv 11) (pe_dget hu (pv 3) pe_str (fun _ _ => rfl)))))))) (fun _ _ _ _ _ => pv 11))
        (pss_cons (ps_if (pt_cmpR op_lt (pe_callB call_len_seq (by rfl) TX.len PySem.boot_len (pa_cons (pv 4) pa_nil)) pe_int (nomark _)) (pss_one ps_continue) pss_nil)
        (pss_cons (ps_set (i := 6) scL.nd rfl (.inr rfl) (pe_lst (pa_cons (pe_call GNe hr3 rfl mNe kNe bNe .nil pass0 (pa_cons (pv 1) (pa_cons (pv 3) (pa_cons (pe_call GD hr1 rfl mD kD bD .nil pass0 (pa_cons (pv 1) (pa_cons pe_int pa_nil))) (pa_cons (pv 4) pa_nil))))) (pa_cons (pe_tup (pa_cons pe_str (pa_cons (pe_ix ix_list (pv 4) pe_int (fun _ _ => rfl)) pa_nil))) pa_nil))))
        (C8.pss_cut (ps_if (pt_cmpR op_eq (pe_call GD hr1 rfl mD kD bD .nil pass0 (pa_cons (pv 1) (pa_cons pe_int pa_nil))) pe_int (nomark _))
            (pss_one (ps_expr (pe_bm PySem.F.plainAttrs_list PySem.F.slot_list_append PySem.F.type_list_append mt_append (pv 6) (pa_cons (pe_call GP hr2 rfl mP kP bP .nil pass0 (pa_cons (pv 1) (pa_cons (pe_lst (pa_cons (pe_tup (pa_cons pe_str (pa_cons (pe_ix ix_list (pv 4) pe_int (fun _ _ => rfl)) pa_nil))) (pa_cons (pe_tup (pa_cons pe_str (pa_cons (pe_ix ix_list (pv 4) pe_int (fun _ _ => rfl)) pa_nil))) (pa_cons (pe_tup (pa_cons pe_str pa_nil)) pa_nil)))) pa_nil))) pa_nil)))) pss_nil)
        (pss_cons (ps_asg (pe_call GAd hr11 rfl mAd kAd bAd .nil pass0 (pa_cons (pv 3) (pa_cons (pv 6) pa_nil))) (pg_tup (by rfl) (pgs_cons (pg_name (i := 7) scL.nd rfl (.inl rfl)) (pgs_cons (pg_name (i := 8) scL.nd rfl (.inl rfl)) pgs_nil))))
        (pss_cons (ps_if (pt_cmpR op_ne (pe_callB (call_reprDue hq) (by rfl) TX.rep (by decide +kernel) (pa_cons (LamX.pe_lamcall (T := TT) (TT := TTa K cs) (k := 23) (t := fun E => tCall (spLA K CC CS cs) [] E (tCons (tVar 5) (tCons (tVar 6) tNil))) rfl mE FE.kp lkE hcdE bE scErr rfl (.inl rfl) (err_givesA TE) TB rfl (by rw [hqe']; exact hin) (fun p hp h => by rw [hqe']; exact huq p hp h) (hr.mono (by decide)) (LamX.lamS_by (sc := defScope sLaw) (by decide +kernel)) rfl (fun _ _ _ _ _ => rfl)
            (fun A2 outer2 s2 H2 E2 f2 c2 hr7 => pe_call GLA hr7 rfl mLA kLA bLA .nil (passes_call (takes_of rfl rfl rfl rfl) (fun _ _ _ _ h => h)) (pa_cons (pv 5) (pa_cons (pv 6) pa_nil)))) pa_nil)) (pe_callB (call_reprDue hq) (by rfl) TX.rep (by decide +kernel) (pa_cons (pe_ifExp (pt_cmp (pc_isN (pv 7))) pe_non (pe_tup (pa_cons pe_str (pa_cons (pv 7) pa_nil)))) pa_nil)) (nomark _)) (pss_one (ps_ret pe_bl)) pss_nil)
        (pss_one (ps_if (pt_not (pt_val (pe_callQ GSt hq4 rfl mSt kSt bSt .nil pass0 (pa_cons (pv 5) (pa_cons (pv 8) pa_nil))))) (pss_one (ps_ret pe_bl)) pss_nil)))))))))))
      (pss_cons (ps_set (i := 9) scL.nd rfl (.inl rfl) (pe_tup (pa_cons pe_str (pa_cons pe_str pa_nil))))
      (pss_cons (ps_for PassesOwn.never rfl (pi_range1 rfl TX.rng (pa_cons pe_int pa_nil)) (pg_name (i := 10) scL.nd rfl (.inl rfl))
        (pss_cons (ps_set (i := 5) scL.nd rfl (.inr rfl) (pe_make0 T.mkC GS hr4 rfl T.g bS .nil pass0))
        (pss_cons (ps_if (pt_cmp (pc_notN (pe_methR (pv 5) T.cl mAp GAp hr22 passE0 (pa_cons (pv 9) (pa_cons (pe_tup (pa_cons pe_str (pa_cons pe_str pa_nil))) pa_nil))))) (pss_one (ps_ret pe_bl)) pss_nil)
        (pss_cons (ps_if (pt_cmpR (op_neD hu64) (pe_prop (pv 5) T.cl PTu GU hr2 bU .nil pass0 rfl) (pe_ifExp (pt_cmpR op_lt (pv 10) pe_int (nomark _)) (pe_tup (pa_cons pe_str (pa_cons pe_str pa_nil))) (pe_tup (pa_cons pe_str pa_nil))) (nomark _)) (pss_one (ps_ret pe_bl)) pss_nil)
        (pss_one (ps_set (i := 9) scL.nd rfl (.inl rfl) (pe_tup (pa_cons pe_str (pa_cons (pv 9) pa_nil)))))))))
      (pss_one (ps_ret pe_bl))))), ?_⟩
    refine ⟨_, rfl, a, ns, rfl, hS, hl, fun t c0 cs0 H1 _ _ hT1 sm => ?_⟩
    have hTb1 := hP.ext sm
    refine ⟨_, rfl, a, _, rfl, .inl (SqL.keep hS sm), _, _, rfl, _, _, rfl, rfl, _, rfl, by split <;> omega, by split <;> omega, ?_⟩
    have hnt : (2 + (if ((ns.map V.int).length : Int) < 4 then ((ns.map V.int).length : Int) else 4)).toNat ≤ 6 := by split <;> omega
    generalize (2 + (if ((ns.map V.int).length : Int) < 4 then ((ns.map V.int).length : Int) else 4)).toNat = nt at hnt ⊢
    refine for_range (fun i σ H' => ∃ (z2 z3 z4 z5 z6 z7 z8 z9 z10 z11 : Option V) (n l : Int), σ = [some (.ref a), some (.ref t), z2, z3, z4, z5, z6, z7, z8, z9, z10, z11] ∧ Tape H' t c0 cs0 n l ∧ LamX.Tabs TT H' ∧ n ≤ 7000 * (i : Int)) ⟨_, _, _, _, _, _, _, _, _, _, 0, 0, rfl, hT1, hTb1, by omega⟩ ?_ ?_
    · rintro i σ H2 hi ⟨z2, z3, z4, z5, z6, z7, z8, z9, z10, z11, n, l, rfl, hT, hTb, hn⟩
      have hi : i < nt := hi
      refine ⟨_, rfl, t, c0, cs0, n, l, 3, rfl, hT, by decide, by decide, by omega, fun pl r u rows ra us n3 l3 H3 P3 r3 plr pln rn un uu nm lr lu a3 b3 hT3 hB3 => ?_⟩
      have hTb3 := tabs_but hB3 hT.d hTb
      refine ⟨_, rfl, t, c0, cs0, n3, l3, 26, rfl, hT3, by decide, by decide, by omega, fun nq ys n4 l4 H4 nqn hq4 lys ndys okys a4 b4 hT4 hB4 => ⟨by show 2 ≤ sizeLine; decide, fun tp htp => ⟨tp, _, rfl, SqT.of upd_same, rfl, _, _, rfl, _, _, rfl, rfl, ?_⟩⟩⟩
      have hTb4 := tabs_but hB4 hT3.d hTb3
      have plt : pl ≠ t := fun z => by rw [z, hT.d] at pln; cases pln
      have rt : r ≠ t := fun z => by rw [z, hT.d] at rn; cases rn
      have wfq : PlWf ⟨rows, us⟩ := plwf_of nm (by omega) (by omega)
      have ntl : ∀ {b : Addr} {xs : List V}, H3 b = some (.lst xs) → H4 b = some (.lst xs) := fun {b xs} e => hB4 _ _ e (ne_of e hT3.d (by intro z; cases z))
      have PG4 : PGM H4 pl r u ⟨rows, us⟩ ra := ⟨⟨hB4 _ _ P3.d plt, .inl (hB4 _ _ r3 rt), Paired.mapP P3.e fun _ _ z => ⟨z.1, ntl z.2⟩, ntl P3.u⟩, hB4 _ _ r3 rt⟩
      have s5 : Same H4 (upd H4 tp (.tup [.ref pl, .ref nq])) := same_new htp
      have PG5 := PG4.keep s5
      have hT5 := hT4.keep s5
      have hTb5 := hTb4.ext s5
      have hq5 := s5 _ _ hq4
      generalize upd H4 tp (.tup [.ref pl, .ref nq]) = H5 at s5 PG5 hT5 hTb5 hq5 ⊢
      have ty : ∀ y ∈ ys, TxtOk y := fun y hy => (okys y hy).2
      refine ⟨_, rfl, fun s dx0 g1 g2 g3 => ⟨s, dx0, rfl, upd_same, fun cq bq hq' H6 kk e1 e0 e2 Y0 C0 => ⟨rfl, _, rfl, ?_⟩⟩⟩
      have Y6 := sg_of (K := K) (CC := CC) g1 g2 kk e1 e0 e2 Y0 C0
      have L6 : SS K CC CS TT (hideG t H5) H6 s ⟨[], []⟩ [] [] t c0 cs0 n4 l4 := SS.start (by rw [ctP0]; exact Y6) hT5 hTb5
      have PGh := PGM.hide hT5 PG5 plt rt
      have gq : hideG t H5 nq = some (.lst (ys.map V.str)) := hideG_at hq5 (ne_of hq5 hT5.d (by intro z; cases z)) (fun _ z => by cases z)
      generalize hideG t H5 = G at L6 PGh gq
      refine ⟨t, c0, s, cs0, n4, l4, G, pl, r, u, ⟨rows, us⟩, ra, rfl, L6, PGh, wfq, by omega, fun p Hs n7 l7 H7 L7 pe wfp lhs a7 b7 => ?_⟩
      have PH7 := PGh.g.keep L7.Y.same
      dsimp only [gName, tSeq, tAsg]
      refine lc_rest (K := K) (by rfl) (by rfl) (by rfl) (L7.Y.same _ _ gq) ty PH7 (by omega) fun D zs hD sb => ?_
      have s8 : Same H7 (upd H7 D (.lst (zs.map V.str))) := same_new hD
      have eD : (upd H7 D (.lst (zs.map V.str))) D = some (.lst (zs.map V.str)) := upd_same
      generalize upd H7 D (.lst (zs.map V.str)) = H8 at s8 eD ⊢
      have L8 := L7.keep s8
      refine ⟨_, rfl, D, _, rfl, .inl (SqL.of eD), _, _, rfl, rfl, _, rfl, ?_⟩
      refine ite2 (fun _ => ?_) (fun h18 => ?_)
      · exact ⟨_, _, _, _, _, _, _, _, _, _, n7, l7, rfl, L8.T, L8.tb, by omega⟩
      have ly18 : 18 ≤ zs.length := by
        have : ¬ ((zs.map V.str).length : Int) < 18 := fun z => h18 (decide_eq_true z)
        rw [List.length_map] at this
        omega
      have lyz : zs.length ≤ 26 := Nat.le_trans sb.length_le (by omega)
      have tzs : ∀ y ∈ zs, TxtOk y := fun y hy => ty y (sb.subset hy)
      have yat : ∀ i, i < 18 → ∃ y, (zs.map V.str)[i]? = some (.str y) ∧ TxtOk y := fun i hi => ⟨zs[i], by rw [List.getElem?_map, List.getElem?_eq_getElem (by omega)]; rfl, tzs _ (List.getElem_mem _)⟩
      have Dt : D ≠ t := ne_of eD L8.T.d (by intro z; cases z)
      refine ⟨_, rfl, _, rfl, _, rfl, t, c0, cs0, n7, l7, 7, rfl, L8.T, by decide, by decide, by omega, fun dp n9 l9 H9 dp0 dp1 a9 b9 hT9 hB9 => ?_⟩
      obtain ⟨d9, rfl⟩ : ∃ d : Nat, dp = (d : Int) := ⟨dp.toNat, by omega⟩
      have L9 := L8.draw hB9 hT9
      have eD9 := hB9 _ _ eD Dt
      refine ⟨_, rfl, t, c0, pl, D, cs0, n9, l9, d9, zs, rfl, hT9, eD9, ly18, by omega, tzs, by omega, by omega, fun v1 e1' n10 l10 H10 ev1 sm1 bt10 hT10 a10 b10 => ?_⟩
      have L10 := L9.draw bt10 hT10
      have eD10 := bt10 _ _ eD9 Dt
      obtain ⟨y16, hy16, ty16⟩ := yat 16 (by decide)
      obtain ⟨y17, hy17, ty17⟩ := yat 17 (by decide)
      refine ⟨_, rfl, D, _, _, _, rfl, rfl, SqL.of eD10, atI_nat (j := 16) hy16, by show 2 ≤ sizeLine; decide, fun t2 ht2 => ⟨by show 2 ≤ sizeLine; decide, fun le hle => ?_⟩⟩
      have s11 : Same H10 (upd H10 t2 (.tup [.str "add_unknown", .str y16])) := same_new ht2
      have e11 : SqT K (upd H10 t2 (.tup [.str "add_unknown", .str y16])) t2 [.str "add_unknown", .str y16] := SqT.of upd_same
      generalize upd H10 t2 (.tup [.str "add_unknown", .str y16]) = H11 at s11 e11 hle ⊢
      have L11 := L10.keep s11
      have s12 : Same H11 (upd H11 le (.lst [v1, .ref t2])) := same_new hle
      have e12 : (upd H11 le (.lst [v1, .ref t2])) le = some (.lst [v1, .ref t2]) := upd_same
      generalize upd H11 le (.lst [v1, .ref t2]) = H12 at s12 e12 ⊢
      have L12 := L11.keep s12
      have eD12 := s12 _ _ (s11 _ _ eD10)
      have pes12 : Paired (EvT K H12) [v1, .ref t2] [e1', .ed (.addU [.nm y16])] := .cons (EvT.keep (s11.trans s12) ev1) (.cons (EvT.keep s12 (ev_u e11 ty16)) .nil)
      have ses12 : simL [e1', .ed (.addU [.nm y16])] := by
        unfold simL
        refine ⟨sm1, ?_⟩
        unfold simL
        refine ⟨sim_u _, ?_⟩
        unfold simL
        trivial
      refine ⟨fun σ H' => ∃ (xs : List V) (es : List ET) (n' l' : Int) (z7 z8 z9 z10 z11 : Option V), σ = [some (.ref a), some (.ref t), some (.int (0 + (i : Int))), some (.ref pl), some (.ref D), some (.ref s), some (.ref le), z7, z8, z9, z10, z11] ∧ H' le = some (.lst xs) ∧ Paired (EvT K H') xs es ∧ simL es ∧ xs.length ≤ 3 ∧ SS K CC CS TT G H' s p [] Hs t c0 cs0 n' l' ∧ n' ≤ n10 + 5, ?_, ?_⟩
      · refine ⟨_, rfl, t, c0, cs0, n10, l10, 2, rfl, L12.T, by decide, by decide, by omega, fun r13 n13 l13 H13 _ _ a13 b13 hT13 hB13 => ⟨rfl, _, rfl, ?_⟩⟩
        have L13 := L12.draw hB13 hT13
        have let_ : le ≠ t := ne_of e12 L12.T.d (by intro z; cases z)
        have e13 := hB13 _ _ e12 let_
        have eD13 := hB13 _ _ eD12 Dt
        have pes13 : Paired (EvT K H13) [v1, .ref t2] [e1', .ed (.addU [.nm y16])] := EvT.map.go (fun q ws z => SqT.butD L12.T.d hB13 z) pes12
        refine ite2 (fun _ => ?_) (fun _ => ?_)
        · refine ⟨_, rfl, .inl ⟨rfl, _, SqL.of e13⟩, _, rfl, ?_⟩
          refine ⟨_, rfl, D, _, _, _, rfl, rfl, SqL.of eD13, atI_nat (j := 16) hy16, by show 2 ≤ sizeLine; decide, fun ta hta => ?_⟩
          have sa : Same H13 (upd H13 ta (.tup [.str "add_unknown", .str y16])) := same_new hta
          have ea : SqT K (upd H13 ta (.tup [.str "add_unknown", .str y16])) ta [.str "add_unknown", .str y16] := SqT.of upd_same
          generalize upd H13 ta (.tup [.str "add_unknown", .str y16]) = Ha at sa ea ⊢
          refine ⟨_, rfl, D, _, _, _, rfl, rfl, SqL.of (sa _ _ eD13), atI_nat (j := 17) hy17, by show 2 ≤ sizeLine; decide, fun tb htb => ?_⟩
          have sb' : Same Ha (upd Ha tb (.tup [.str "add_equation", .str y17])) := same_new htb
          have eb : SqT K (upd Ha tb (.tup [.str "add_equation", .str y17])) tb [.str "add_equation", .str y17] := SqT.of upd_same
          generalize upd Ha tb (.tup [.str "add_equation", .str y17]) = Hb at sb' eb ⊢
          refine ⟨by show 1 ≤ sizeLine; decide, fun tc htc => ?_⟩
          have sc : Same Hb (upd Hb tc (.tup [.str "attempt"])) := same_new htc
          have ec : SqT K (upd Hb tc (.tup [.str "attempt"])) tc [.str "attempt"] := SqT.of upd_same
          generalize upd Hb tc (.tup [.str "attempt"]) = Hc at sc ec ⊢
          refine ⟨by show 3 ≤ sizeLine; decide, fun lp hlp => ?_⟩
          have sd : Same Hc (upd Hc lp (.lst [.ref ta, .ref tb, .ref tc])) := same_new hlp
          have ed : (upd Hc lp (.lst [.ref ta, .ref tb, .ref tc])) lp = some (.lst [.ref ta, .ref tb, .ref tc]) := upd_same
          generalize upd Hc lp (.lst [.ref ta, .ref tb, .ref tc]) = Hd at sd ed ⊢
          have s13d := ((sa.trans sb').trans sc).trans sd
          have Ld := L13.keep s13d
          refine ⟨t, c0, lp, cs0, n13, l13, _, rfl, Ld.T, ed, (fun z => nomatch z), by show 3 ≤ 1000000; decide, by omega, fun ix x n14 l14 H14 hx a14 b14 hT14 hB14 => ?_⟩
          have L14 := Ld.draw hB14 hT14
          have e14 := hB14 _ _ (s13d _ _ e13) let_
          have f14 : ∀ q ws, SqT K Hd q ws → SqT K H14 q ws := fun q ws z => SqT.butD Ld.T.d hB14 z
          obtain ⟨ex, evx, smx⟩ : ∃ ex, EvT K H14 x ex ∧ simT ex := by
            match ix, hx with
            | 0, h =>
              cases (Option.some.inj h)
              exact ⟨_, EvT.map f14 (EvT.keep ((sb'.trans sc).trans sd) (ev_u ea ty16)), sim_u _⟩
            | 1, h =>
              cases (Option.some.inj h)
              exact ⟨_, EvT.map f14 (EvT.keep (sc.trans sd) (ev_e eb ty17)), sim_e _⟩
            | 2, h =>
              cases (Option.some.inj h)
              refine ⟨.att [], .att (xs := []) (f14 _ _ (SqT.keep ec sd)) .nil (by decide), ?_⟩
              unfold simT simL
              trivial
          have pes14 : Paired (EvT K H14) [v1, .ref t2] [e1', .ed (.addU [.nm y16])] := EvT.map.go (fun q ws z => f14 q ws (SqT.keep z s13d)) pes13
          have es14 : H14 s = H11 s := by rw [Ld.but_s hB14, L13.at_s s13d, L12.but_s hB13, L11.at_s s12]
          refine ⟨le, _, _, rfl, rfl, e14, by show 2 < sizeLine; decide, ?_⟩
          refine ⟨[v1, .ref t2] ++ [x], [e1', .ed (.addU [.nm y16])] ++ [ex], n14, l14, _, _, _, _, _, rfl, upd_same, EvT.putL e14 (pair_app pes14 (.cons evx .nil)), simL_app ses12 (by unfold simL; refine ⟨smx, ?_⟩; unfold simL; trivial), by show 3 ≤ 3; decide, L14.put L11.Y es14 e14 hle, by omega⟩
        · exact ⟨_, _, n13, l13, _, _, _, _, _, rfl, e13, pes13, ses12, by show 2 ≤ 3; decide, L13, by omega⟩
      · rintro σ H15 ⟨xs, es, n15, l15, z7, z8, z9, z10, z11, rfl, ele, pes, ses, lxs, L15, b15⟩
        have P15 := PGh.keep L15.Y.same
        have oG : ∀ {q : Addr} {o : HO}, G q = some o → OkN G H15 q := fun z => .inl ⟨_, z⟩
        have oRa : ∀ q ∈ ra, OkN G H15 q.2 := by
          have go : ∀ {rows : List (Str × List Str)} {ra : List (Str × Addr)}, Paired (fun (p : Str × List Str) (q : Str × Addr) => p.1 = q.1 ∧ G q.2 = some (.lst (p.2.map V.str))) rows ra → ∀ q ∈ ra, OkN G H15 q.2 := by
            intro rows ra h
            induction h with
            | nil => exact fun _ z => nomatch z
            | cons z _ ih =>
              intro q hq
              rcases List.mem_cons.mp hq with w | w
              · rw [w]
                exact oG z.2
              · exact ih q w
          exact go PGh.g.e
        have PM15 : PlM (OkN G H15) H15 pl ⟨rows, us⟩ := ⟨r, u, ra, P15.g, P15.d, oG PGh.g.d, oG PGh.d, oG PGh.g.u, oRa⟩
        refine ⟨_, rfl, _, rfl, OkN G H15, pl, le, ⟨rows, us⟩, xs, es, rfl, fun q z => .inr z, PM15, wfq, .inl (SqL.of ele), pes, by omega, fun w16 H16 s16 ho => ?_⟩
        have lps := pair_len pes
        obtain ⟨tq, pl16, q16, rfl, htq, PM16, pe16, wf16, wfp16⟩ : ∃ tq pl16 q16, w16 = .ref tq ∧ SqT K H16 tq [atV (appT es p 0), .ref pl16] ∧ PlM (OkN G H15) H16 pl16 q16 ∧ PlE (apP p (appT es p 0)) q16 ∧ PlWf q16 ∧ PlWf (apP p (appT es p 0)) := by
          rcases appT_sim es 0 p ⟨rows, us⟩ pe ses with ⟨j, e1, e2⟩ | ⟨p', q', e1, e2, e3⟩
          · rw [e2] at ho
            rw [e1]
            obtain ⟨tq, rfl, h2⟩ := ho
            exact ⟨tq, pl, ⟨rows, us⟩, rfl, h2, PM15.keep s16, pe, wfq, wfp⟩
          · rw [e2] at ho
            rw [e1]
            obtain ⟨tq, pl', rfl, h2, h3⟩ := ho
            exact ⟨tq, pl', q', rfl, h2, h3, e3, appT_wf es 0 _ _ wfq e2, appT_wf es 0 _ _ wfp e1⟩
        have ok8 : ∀ er, apO (appT es p 0) = some er → ErOk er := fun er z => by
          cases h : appT es p 0 with
          | error j =>
            rw [h] at z
            cases z
            have := appT_lt es p 0 j h
            exact er9s (by omega)
          | ok q => rw [h] at z; cases z
        refine ⟨tq, _, rfl, htq, rfl, _, _, rfl, _, _, rfl, rfl, ?_⟩
        have L16 := L15.keep s16
        obtain ⟨G17, M17, gg17, key17, _⟩ := L16.more L15.Y (L15.at_s s16)
        have ntk : ∀ q, OkN G H15 q → q ≠ t := fun q o => okN_ne o L15.gt L15.T.d
        obtain ⟨r16, u16, ra16, hP16, hd16, o1, o2, o3, o4⟩ := PM16
        have P17 : PGM G17 pl16 r16 u16 q16 ra16 := ⟨plg_in key17 ntk hP16 o1 o2 o3 o4, key17 _ _ hd16 o2 (ntk _ o2) (fun _ z => by cases z)⟩
        refine ⟨M17.tb, fun H18 eN18 T18 => ?_⟩
        have L18 := M17.ext eN18 T18
        refine ⟨_, rfl, _, rfl, s, le, xs, rfl, .inl (SqL.of (eN18 _ _ (s16 _ _ ele) fun _ z => by cases z)), by omega, ?_⟩
        refine L18.appA (EvT.map.go (fun q ws z => SqT.ext eN18 (SqT.keep z s16)) pes) (by omega) (by omega) wfp fun v20 H20 Hs20 L20 lh20 hd20 => ?_
        refine ⟨v20, _, rfl, hd20, ok8, ?_⟩
        refine at_read (r := appT es p 0) rfl fun w2 H21 s21 hd21 => ⟨w2, _, rfl, hd21, ok8, rfl, _, rfl, ?_⟩
        rw [decide_eq_true rfl]
        refine iteF ?_
        have L21 := L20.keep s21
        refine ⟨_, rfl, _, rfl, s, pl16, apP p (appT es p 0), q16, _, rfl, L21.Y.sv, (P17.keep L21.Y.same).p0, wfp16, wf16, pe16, fun H22 s22 => ⟨_, rfl, iteF ?_⟩⟩
        exact ⟨_, _, _, _, _, _, _, _, _, _, n15, l15, rfl, (L21.keep s22).T, (L21.keep s22).tb, by omega⟩
    · rintro σ H2 ⟨z2, z3, z4, z5, z6, z7, z8, z9, z10, z11, n, l, rfl, hT, hTb, hn⟩
      refine ⟨by show 2 ≤ sizeLine; decide, fun t0 ht0 => ?_⟩
      have s3 : Same H2 (upd H2 t0 (.tup [.str "add_unknown", .str "x"])) := same_new ht0
      have e3 : SqT K (upd H2 t0 (.tup [.str "add_unknown", .str "x"])) t0 [.str "add_unknown", .str "x"] := SqT.of upd_same
      generalize upd H2 t0 (.tup [.str "add_unknown", .str "x"]) = H3 at s3 e3 ⊢
      refine ⟨7, rfl, by decide, by decide, ?_⟩
      refine for_range (fun i σ H' => ∃ (z2 z3 z4 z5 z6 z7 z8 z10 z11 : Option V) (v : V), σ = [some (.ref a), some (.ref t), z2, z3, z4, z5, z6, z7, z8, some v, z10, z11] ∧ EvT K H' v (deepT i) ∧ Tape H' t c0 cs0 n l ∧ LamX.Tabs TT H') ⟨_, _, _, _, _, _, _, _, _, _, rfl, ev_u e3 (name_txt nmX), hT.keep s3, hTb.ext s3⟩ ?_ ?_
      · rintro i σ H4 hi ⟨z2, z3, z4, z5, z6, z7, z8, z10, z11, v, rfl, ev, hT4, hTb4⟩
        have hi : i < 7 := hi
        refine fun s dx0 g1 g2 g3 => ⟨s, dx0, rfl, upd_same, fun cq bq hq' H5 kk e1 e0 e2 Y0 C0 => ⟨rfl, ?_⟩⟩
        have Y5 := sg_of (K := K) (CC := CC) g1 g2 kk e1 e0 e2 Y0 C0
        have L5 : SS K CC CS TT (hideG t H4) H5 s ⟨[], []⟩ [] [] t c0 cs0 n l := SS.start (by rw [ctP0]; exact Y5) hT4 hTb4
        have s45 := Y5.same
        obtain ⟨dx5, cA5, bA5, hA5, bsA5, hsA5, A5, _⟩ := id L5.Y
        refine ⟨_, rfl, s, dx5, _, rfl, A5.i, syF_no _ _ _ (by decide +kernel) (by decide +kernel) (by decide +kernel), _, rfl, by show 2 ≤ sizeLine; decide, fun t6 ht6 => ?_⟩
        have s56 : Same H5 (upd H5 t6 (.tup [.str "add_unknown", .str "y"])) := same_new ht6
        have e6 : SqT K (upd H5 t6 (.tup [.str "add_unknown", .str "y"])) t6 [.str "add_unknown", .str "y"] := SqT.of upd_same
        generalize upd H5 t6 (.tup [.str "add_unknown", .str "y"]) = H6 at s56 e6 ⊢
        have L6 := L5.keep s56
        have ev6 := EvT.keep (s45.trans s56) ev
        refine L6.appOk (E := E0) (.cons ev6 (.cons (ev_u e6 (name_txt nmY)) .nil)) (by show 2 ≤ 1000; decide) (by show 0 < 1000000; decide) (wf_new List.nodup_nil (fun _ z => nomatch z) (Nat.zero_le _)) (deep_app i hi) fun H7 Hs7 L7 lh7 kd7 => ?_
        refine ⟨_, rfl, iteF ?_⟩
        have ev7 := EvT.map (fun q ws z => SqT.kd kd7 z) ev6
        obtain ⟨dx7, cA7, bA7, hA7, bsA7, hsA7, A7, _⟩ := id L7.Y
        have sdu : srt (deepU i) = deepU i := by
          unfold deepU
          split
          · exact (srt_of (List.Perm.refl _) (by decide +kernel)).symm
          · exact (srt_of (List.Perm.refl _) (by decide +kernel)).symm
        refine ⟨_, rfl, s, dx7, _, rfl, A7.i, s, _, _, rfl, L7.Y.sv, fun t8 q8 => ?_⟩
        have q8 : SqT K H7 t8 ((deepU i).map V.str) := by
          have q8 : SqT K H7 t8 ((srt (deepU i)).map V.str) := q8
          rw [sdu] at q8
          exact q8
        refine ⟨_, rfl, _, _, rfl, rfl, _, rfl, ?_⟩
        by_cases h6 : i < 6
        · rw [decide_eq_true (show (0 : Int) + (i : Int) < 6 by omega)]
          have eu : deepU i = (["x", "y"] : List Str) := if_pos h6
          rw [eu] at q8
          refine iteT ⟨by show 2 ≤ sizeLine; decide, fun t9 ht9 => ?_⟩
          have s9 : Same H7 (upd H7 t9 (.tup ((["x", "y"] : List Str).map V.str))) := same_new ht9
          have e9 : SqT K (upd H7 t9 (.tup ((["x", "y"] : List Str).map V.str))) t9 ((["x", "y"] : List Str).map V.str) := SqT.of upd_same
          refine ⟨.tuple ((["x", "y"] : List Str).map PyData.str), .tuple ((["x", "y"] : List Str).map PyData.str), .tup (SqT.keep q8 s9) (strsD_dp _), .tup e9 (strsD_dp _), by decide +kernel, by decide +kernel, _, rfl, ?_⟩
          rw [SeqAt.eqv_refl _ (by decide +kernel)]
          refine iteF ⟨_, rfl, by show 2 ≤ sizeLine; decide, fun ta hta => ?_⟩
          have L9 := L7.keep (s9.trans (same_new (o := .tup [.str "attempt", v]) hta))
          exact ⟨_, _, _, _, _, _, _, _, _, .ref ta, rfl, .att (SqT.of upd_same) (.cons (EvT.keep (s9.trans (same_new hta)) ev7) .nil) (by show 1 ≤ 900; decide), L9.T, L9.tb⟩
        · rw [decide_eq_false (show ¬ (0 : Int) + (i : Int) < 6 by omega)]
          have eu : deepU i = (["y"] : List Str) := if_neg h6
          rw [eu] at q8
          refine iteF ⟨by show 1 ≤ sizeLine; decide, fun t9 ht9 => ?_⟩
          have s9 : Same H7 (upd H7 t9 (.tup ((["y"] : List Str).map V.str))) := same_new ht9
          have e9 : SqT K (upd H7 t9 (.tup ((["y"] : List Str).map V.str))) t9 ((["y"] : List Str).map V.str) := SqT.of upd_same
          refine ⟨.tuple ((["y"] : List Str).map PyData.str), .tuple ((["y"] : List Str).map PyData.str), .tup (SqT.keep q8 s9) (strsD_dp _), .tup e9 (strsD_dp _), by decide +kernel, by decide +kernel, _, rfl, ?_⟩
          rw [SeqAt.eqv_refl _ (by decide +kernel)]
          refine iteF ⟨_, rfl, by show 2 ≤ sizeLine; decide, fun ta hta => ?_⟩
          have L9 := L7.keep (s9.trans (same_new (o := .tup [.str "attempt", v]) hta))
          exact ⟨_, _, _, _, _, _, _, _, _, .ref ta, rfl, .att (SqT.of upd_same) (.cons (EvT.keep (s9.trans (same_new hta)) ev7) .nil) (by show 1 ≤ 900; decide), L9.T, L9.tb⟩
      · rintro σ H4 ⟨z2, z3, z4, z5, z6, z7, z8, z10, z11, v, rfl, ev, hT4, hTb4⟩
        exact k _
end
end Bo
set_option Elab.async false
set_option linter.all false
set_option maxRecDepth 100000
set_option maxHeartbeats 2000000
namespace Hy
open PySem PySem.Spec PyProof.Rows L2 He
/-- a def: where it stands, its name, its qualified name, its statement -/
structure DefP where
  at_ : PySem.W.Frag → Addr
  name : Str
  qual : Str
  st : Stmt
def obsP (K : PySem.W.Frag) (d : DefP) : FnW := match K.lookup (d.at_ K) with
  | some ⟨_, _, .func fd, _⟩ => some (fd.name, fd.qualname, fd.params, fd.body, fd.scope, fd.globals, fd.closure, fd.builtins)
  | _ => none
def DefP.val (d : DefP) : FnW := some (d.name, d.qual, defArgs d.st, .stmts (defBody d.st), defScope d.st, mainGlobals, [], builtinsNs)
def noneV : Value → Bool
  | .none => true
  | _ => false
def DefP.ok (K : PySem.W.Frag) (d : DefP) : Bool := PySem.W.keepIn K (.ref (d.at_ K)) && (match K.lookup (d.at_ K) with
  | some ⟨_, _, .func fd, _⟩ => PySem.W.codeIn K fd.code d.qual && noneV fd.defaults
  | _ => false)
theorem DefP.fun_ {K : PySem.W.Frag} {d : DefP} (e : obsP K d = d.val) (c : d.ok K = true) : ∃ fd, Fun K d.name d.qual d.st (d.at_ K) fd := by
  obtain ⟨kp, c2⟩ := ba c
  unfold obsP at e
  cases q : K.lookup (d.at_ K) with
  | none =>
    rw [q] at c2
    cases c2
  | some o =>
    obtain ⟨oc, od, dt, osl⟩ := o
    rw [q] at c2 e
    cases dt with
    | func fd =>
      obtain ⟨n1, n2, n3, n4, n5, n6, n7, n8, n9, n10, n11, n12, n13, n14, n15⟩ := fd
      have e2 : (some (n1, n2, n3, n4, n5, n6, n7, n15) : FnW) = some (d.name, d.qual, defArgs d.st, .stmts (defBody d.st), defScope d.st, mainGlobals, [], builtinsNs) := e
      simp only [Option.some.injEq, Prod.mk.injEq] at e2
      obtain ⟨h1, h2, h3, h4, h5, h6, h7, h8⟩ := e2
      subst h1 h2 h3 h4 h5 h6 h7 h8
      obtain ⟨k1, k2⟩ := ba (show (PySem.W.codeIn K n13 d.qual && noneV n8) = true from c2)
      cases n8 with
      | none => exact ⟨_, L2.fun_mk q k1 kp⟩
      | _ => cases k2
    | _ => cases c2
/-- the law's code object, its table -/
def cOf (K : PySem.W.Frag) (f : Addr) : Addr := match K.lookup f with
  | some ⟨_, _, .func fd, _⟩ => (match fd.code with
    | .ref c => c
    | _ => 0)
  | _ => 0
theorem funC_of {K : PySem.W.Frag} {x qual : Str} {st : Stmt} {f : Addr} {fd : FuncData} (F : Fun K x qual st f fd) : Bo.FunC K x qual st f fd (cOf K f) := by
  obtain ⟨oc, od, kV, doc, pm, an, cdv, ct, osl, rfl, lk, hcd⟩ := F.ex
  obtain ⟨c, rfl⟩ := codeIn_ref hcd
  have e : cOf K f = c := by
    unfold cOf
    rw [lk]
  rw [e]
  exact ⟨⟨oc, od, kV, doc, pm, an, ct, osl, rfl, lk, hcd⟩⟩
/-- a property's function -/
def pa (K : PySem.W.Frag) (p : Addr) : Addr := match PySem.W.recIn K p "property" with
  | some (.ref g :: _) => g
  | _ => 0
def paB (K : PySem.W.Frag) (p : Addr) : Bool := match PySem.W.recIn K p "property" with
  | some (.ref _ :: _) => true
  | _ => false
theorem pa_ok {K : PySem.W.Frag} {p : Addr} (h : paB K p = true) : ∃ rest, PySem.W.recIn K p "property" = some (.ref (pa K p) :: rest) := by
  unfold paB at h
  split at h
  · rename_i g rest e
    refine ⟨rest, ?_⟩
    unfold pa
    rw [e]
  · cases h
/-- a global that is an int, a text -/
def intB (K : PySem.W.Frag) (x : Str) (i : Int) : Bool := match PySem.W.nsIn K mainGlobals x with
  | some (some (.int j _)) => decide (j = i)
  | _ => false
theorem intB_ok {K : PySem.W.Frag} {x : Str} {i : Int} (h : intB K x i = true) : ∃ t, PySem.W.nsIn K mainGlobals x = some (some (.int i t)) := by
  unfold intB at h
  split at h
  · rename_i j t e
    have := of_decide_eq_true h
    subst this
    exact ⟨t, e⟩
  · cases h
def strB (K : PySem.W.Frag) (x z : Str) : Bool := match PySem.W.nsIn K mainGlobals x with
  | some (some (.str y _)) => decide (y = z)
  | _ => false
theorem strB_ok {K : PySem.W.Frag} {x z : Str} (h : strB K x z = true) : ∃ t, PySem.W.nsIn K mainGlobals x = some (some (.str z t)) := by
  unfold strB at h
  split at h
  · rename_i j t e
    have := of_decide_eq_true h
    subst this
    exact ⟨t, e⟩
  · cases h
/-- an error class with an __init__ of its own -/
def oexB (K : PySem.W.Frag) (C : Addr) : Bool := match K.lookup C with
  | some ⟨.type "type", _, .cls cd, sl⟩ => (match cd.mro, sl.toList with
    | .ref C' :: bm, [_, _, _, _, some (.builtin n), _] => C' == C && (n == "ValueError.__new__" && (!cd.hasDel && (cd.hasDict && PySem.HandSPX.refsVE bm)))
    | _, _ => false)
  | _ => false
theorem oexB_ok {K : PySem.W.Frag} {C : Addr} (h : oexB K C = true) : ∃ nm q N bs bm sn sub ab col dd k0 k1 k2 k3 k5, K.lookup C = some (excClassObj nm q C N bs bm true sn sub ab col dd k0 k1 k2 k3 k5 "ValueError.__new__") ∧ PySem.HandSPX.refsVE bm = true := by
  unfold oexB at h
  split at h
  · rename_i dd cd sl ho
    split at h
    · rename_i C' bm k0 k1 k2 k3 n k5 hm hs
      simp only [Bool.and_eq_true, beq_iff_eq, Bool.not_eq_true'] at h
      obtain ⟨rfl, rfl, hdel, hd, hr⟩ := h
      obtain ⟨nm, bs, mro, ns, qn, hd', sn, sub, ab, col, del⟩ := cd
      dsimp only at hm hdel hd hr
      subst hm hdel hd
      have hsl : sl = #[k0, k1, k2, k3, some (.builtin "ValueError.__new__"), k5] := by
        obtain ⟨l⟩ := sl
        simp only at hs
        rw [hs]
      subst hsl
      exact ⟨nm, qn, ns, bs, bm, sn, sub, ab, col, dd, k0, k1, k2, k3, k5, ho, hr⟩
    · cases h
  · cases h
/-- what is looked at: with the statics, for a class's own attributes -/
def newN : Nat → List Addr → List Addr → Nat × List Addr
  | m, acc, [] => (m, acc)
  | m, acc, a :: r => match Nat.beq (Nat.land (Nat.shiftRight m a) 1) 1 with
    | true => newN m acc r
    | false => newN (Nat.lor m (Nat.shiftLeft 1 a)) (a :: acc) r
def asW (g : Addr → Option Obj) : Nat → Nat → List Addr → List Addr
  | 0, _, fr => fr
  | n + 1, m, fr => match newN m [] (fr.flatMap fun a => match g a with
      | some o => refsD o
      | none => []) with
    | (m', fr') => fr ++ asW g n m' fr'
def asC (g : Addr → Option Obj) (n : Nat) : List Addr := cStatics :: asW g n (Nat.lor (Nat.shiftLeft 1 cStatics) (Nat.shiftLeft 1 mainGlobals)) [mainGlobals]
abbrev AlY : Type := Bool × List FnW
def tabB (g : Addr → Option Obj) (K : PySem.W.Frag) (c : Addr) : Bool := PySem.W.codeHdIn K c (tabOf K c) && (match g (tabOf K c) with
  | some o => emptyTab o
  | none => false)
def obsK (ds : List DefP) (ex : List (PySem.W.Frag → Bool)) (ts : List Str) (g : Addr → Option Obj) (K : PySem.W.Frag) : AlY := ((ex.all fun f => f K) && ((ds.all fun d => d.ok K) && ts.all fun x => tabB g K (cOf K (ga K x))), ds.map fun d => obsP K d)
def obsY (n : Nat) (ds : List DefP) (ex : List (PySem.W.Frag → Bool)) (ts : List Str) (g : Addr → Option Obj) : AlY := obsK ds ex ts g (frT g (asC g n))
def valY (ds : List DefP) : AlY := (true, ds.map DefP.val)
structure SaysY (ds : List DefP) (ex : List (PySem.W.Frag → Bool)) (ts : List Str) (h : Heap) (K : PySem.W.Frag) : Prop where
  d : ∀ (i : Nat) (d : DefP), ds[i]? = some d → ∃ fd, Fun K d.name d.qual d.st (d.at_ K) fd
  e : ∀ (i : Nat) (f : PySem.W.Frag → Bool), ex[i]? = some f → f K = true
  hd : ∀ x ∈ ts, PySem.W.codeHdIn K (cOf K (ga K x)) (tabOf K (cOf K (ga K x))) = true
  out : ∀ x ∈ ts, K.lookup (tabOf K (cOf K (ga K x))) = none
  empty : ∀ x ∈ ts, h.get? (tabOf K (cOf K (ga K x))) = some { cls := .none, data := .fields #[] }
theorem saysY_of {n : Nat} {ds : List DefP} {ex : List (PySem.W.Frag → Bool)} {ts : List Str} {h : Heap} (e : obsY n ds ex ts h.get? = valY ds) : SaysY ds ex ts h (frT h.get? (asC h.get? n)) := by
  unfold obsY obsK valY at e
  have e1 := congrArg (fun z : AlY => z.1) e
  have e2 := congrArg (fun z : AlY => z.2) e
  dsimp only at e1 e2
  obtain ⟨h1, h2⟩ := ba e1
  obtain ⟨h3, h4⟩ := ba h2
  have each : ∀ x ∈ ts, PySem.W.codeHdIn (frT h.get? (asC h.get? n)) (cOf (frT h.get? (asC h.get? n)) (ga (frT h.get? (asC h.get? n)) x)) (tabOf (frT h.get? (asC h.get? n)) (cOf (frT h.get? (asC h.get? n)) (ga (frT h.get? (asC h.get? n)) x))) = true ∧
      ∃ o, h.get? (tabOf (frT h.get? (asC h.get? n)) (cOf (frT h.get? (asC h.get? n)) (ga (frT h.get? (asC h.get? n)) x))) = some o ∧ emptyTab o = true := fun x hx => by
    have h4 := List.all_eq_true.mp h4 x hx
    obtain ⟨h5, h6⟩ := ba h4
    refine ⟨h5, ?_⟩
    split at h6
    · rename_i o q
      exact ⟨o, q, h6⟩
    · cases h6
  refine ⟨fun i d hi => ?_, fun i f hi => List.all_eq_true.mp h1 f (List.mem_of_getElem? hi), fun x hx => (each x hx).1, fun x hx => ?_, fun x hx => ?_⟩
  · have e3 : (ds.map fun d => obsP (frT h.get? (asC h.get? n)) d)[i]? = (ds.map DefP.val)[i]? := by rw [e2]
    rw [List.getElem?_map, List.getElem?_map, hi] at e3
    exact DefP.fun_ (Option.some.inj e3) (List.all_eq_true.mp h3 d (List.mem_of_getElem? hi))
  · obtain ⟨_, o, q, z⟩ := each x hx
    exact frT_none q z
  · obtain ⟨_, o, q, z⟩ := each x hx
    rw [q, emptyTab_eq z]
def hookY (n : Nat) (ds : List DefP) (ex : List (PySem.W.Frag → Bool)) (ts : List Str) : PySem.W.Hook where
  α := AlY
  obs := fun s => obsY n ds ex ts s.heap.get?
  val := fun _ => valY ds
  says := fun _ h => ∃ K : PySem.W.Frag, K.In h ∧ SaysY ds ex ts h K
  of := fun _ _ e => ⟨_, frT_in, saysY_of e⟩
  keeps := fun _ _ _ ⟨K, hK, c⟩ k => ⟨K, PySem.W.Frag.In.keeps hK k, ⟨c.d, c.e, c.hd, c.out, fun x hx => k _ _ (c.empty x hx)⟩⟩
theorem obsY_eq {n : Nat} {ds : List DefP} {ex : List (PySem.W.Frag → Bool)} {ts : List Str} {g : Addr → Option Obj} {s : Shared} (h : ∀ a, g a = s.heap.get? a) : obsY n ds ex ts g = (hookY n ds ex ts).obs s := by
  have e : g = s.heap.get? := funext h
  rw [e] <;> rfl
/-- the walk's end by such a Hook: one table, a law that asks repr -/
theorem walkTQE {l : PySem.W.OpenLaw} {n k : Nat} {q : Program} {loose : List Str} {XP : (Str → Option Value) → Heap → Prop} {YP : World → Heap → Prop} {d : DefRec} {x : Str} (most : l.most = some n) (few : n ≤ sizeLine) (defs : d.params.defaults = []) (room : Room k callerA)
    (F : ∀ (w : World) (mg : Str → Option Value) (fa : Addr) (h : Heap), YP w h → h.Ns mainGlobals mg → mg d.name = some (.ref fa) →
      ∃ (K : PySem.W.Frag) (fd : FuncData) (Ts : List (Addr × Addr)) (sp : Sp), K.In h ∧ (∀ p ∈ Ts, Bo.OneTab K h p.1 p.2) ∧ (∀ (s : Shared) (u : Value), BindsTo s fd ⟨[u], []⟩ [(x, u)]) ∧
        (∀ (H : Hp) (a : Addr) (ns : List Int), ns.length ≤ n → (∀ p ∈ Ts, H p.2 = some (.tbl #[])) → SqL K H a (ns.map V.int) → sp [.ref a] H (fun v _ => v = .bl true) E0) ∧
        ∀ base : Heap, K.In base → base.Ns mainGlobals mg → (∀ p ∈ Ts, LamX.TabB base mg p.1 p.2) → Bo.FnQ l.prog w K mg base CX0 k fa fd [x] sp) :
    PySem.W.WalkO q loose XP YP l.row.toRowW d [] (fun f vs => PySem.call f vs) := by
  refine Att.attach_call most defs fun w s₀ s₁ mg mb fa o pm cd doc a vs ns G Y ho hd hcd hmg hobj hints hlen hg => ?_
  obtain ⟨K, fd, Ts, sp, KX, tab, hb, hsp, hF⟩ := F w mg fa _ Y G.T.g hmg
  exact Bo.law_tabsQ KX G.T.g G.T.b G.T.builtins G.T.nolimit hg tab G.T.bmain hobj hints (Nat.le_trans hlen few) (Bo.quiet_caller room) hF hb fun H h1 h2 => hsp H a ns hlen h1 h2
end Hy
set_option Elab.async false
set_option linter.all false
set_option maxRecDepth 100000
set_option maxHeartbeats 16000000
namespace Bo
open PySem L2
def uqB (TT : List (Addr × Str)) : Bool := TT.all fun p => TT.all fun q => (p.1 != q.1) || (p.2 == q.2)
theorem uq_of {TT : List (Addr × Str)} {T : Addr} {x : Str} (h : uqB TT = true) (m : (T, x) ∈ TT) : ∀ p ∈ TT, p.1 = T → p.2 = x := fun p hp e => by
  have h1 := List.all_eq_true.mp (List.all_eq_true.mp h p hp) _ m
  rw [Bool.or_eq_true] at h1
  rcases h1 with z | z
  · exact absurd e (by simpa using z)
  · exact eq_of_beq z
/-- what the written part says of an error's class -/
def errB (K : PySem.W.Frag) (C : Addr) : Bool := decide (PySem.W.findIn K (.ref C) "__getattribute__" = some (some (.builtin "BaseException.__getattribute__"))) && (decide (PySem.W.findIn K (.ref C) "__getattr__" = some none) &&
  (decide (PySem.W.subIn K (.ref C) (.type "BaseException") = some true) && (PySem.W.hasDictIn K C && (decide (PySem.W.findIn K (.ref C) "__class__" = some (some (.builtin "object.__class__"))) &&
  (decide (PySem.W.specialIn K (.builtin "object.__class__") "__get__" = some (some (.builtin "getset_descriptor.__get__"))) && (decide (PySem.W.takesIn K (.builtin "object.__class__") = some true) && (decide (PySem.W.mroIn K C (.type "object") = some true) &&
  (decide (PySem.W.typeIn K (.ref C) = some (.type "type")) && (PySem.W.keepIn K (.ref C) && decide (PySem.W.findIn K (.ref C) "__setattr__" = some (some (.builtin "object.__setattr__"))))))))))))
structure ErrF (K : PySem.W.Frag) (C : Addr) : Prop where
  ex : ExcC K C
  xf : XfC K C
  ty : PySem.W.typeIn K (.ref C) = some (.type "type")
  kp : PySem.W.keepIn K (.ref C) = true
  sa : PySem.W.findIn K (.ref C) "__setattr__" = some (some (.builtin "object.__setattr__"))
theorem errF_of {K : PySem.W.Frag} {C : Addr} (h : errB K C = true) : ErrF K C := by
  unfold errB at h
  simp only [Bool.and_eq_true, decide_eq_true_eq] at h
  obtain ⟨d1, d2, d3, d4, d5, d6, d7, d8, d9, d10, d11⟩ := h
  exact ⟨⟨d1, d2, d3, d4, d5, d6, d7, d8⟩, ⟨d1, d2, d3, d4⟩, d9, d10, d11⟩
def OexL (K : PySem.W.Frag) (C : Addr) : Prop := ∃ nm q N bs bm sn sub ab col dd k0 k1 k2 k3 k5, K.lookup C = some (excClassObj nm q C N bs bm true sn sub ab col dd k0 k1 k2 k3 k5 "ValueError.__new__") ∧ PySem.HandSPX.refsVE bm = true
def errsB (K : PySem.W.Frag) (B : Addr) (cs : List Addr) : Bool := (List.range 11).all fun j => errB K (cs.getD j 0) && (decide (PySem.W.exmOne K (.ref (cs.getD j 0)) (.ref B) = some true) && (decide (PySem.W.kitOne K (.ref (cs.getD j 0)) (.type "ValueError") = some true) && decide (PySem.W.findIn K (.ref (cs.getD j 0)) (erFld j) = some none)))
def kitsB (K : PySem.W.Frag) (cs : List Addr) : Bool := (List.range 11).all fun i => (List.range 11).all fun j => decide (PySem.W.kitOne K (.ref (cs.getD j 0)) (.ref (cs.getD i 0)) = some (decide (i = j)))
theorem errA_of {K : PySem.W.Frag} {mg : Str → Option Value} {B : Addr} {cs : List Addr} (h1 : errsB K B cs = true) (h2 : kitsB K cs = true) (gB : mg "BlockorderError" = some (.ref B)) (gV : mg "ValueError" = none) (isi : mg "isinstance" = none)
    (g0 : mg "InvalidName" = some (.ref (cs.getD 0 0))) (g1 : mg "DuplicateItem" = some (.ref (cs.getD 1 0))) (g2 : mg "UnknownItem" = some (.ref (cs.getD 2 0))) (g3 : mg "DuplicateEntry" = some (.ref (cs.getD 3 0))) (g4 : mg "UnknownEntry" = some (.ref (cs.getD 4 0))) (g5 : mg "TooLarge" = some (.ref (cs.getD 5 0)))
    (g6 : mg "NoTransaction" = some (.ref (cs.getD 6 0))) (g7 : mg "OpenTransaction" = some (.ref (cs.getD 7 0))) (g8 : mg "NothingToUndo" = some (.ref (cs.getD 8 0))) (g9 : mg "EditFailed" = some (.ref (cs.getD 9 0))) (g10 : mg "InvalidText" = some (.ref (cs.getD 10 0))) : ErrA K mg B (fun j => cs.getD j 0) := by
  have a : ∀ j, j < 11 → ErrF K (cs.getD j 0) ∧ PySem.W.exmOne K (.ref (cs.getD j 0)) (.ref B) = some true ∧ PySem.W.kitOne K (.ref (cs.getD j 0)) (.type "ValueError") = some true ∧ PySem.W.findIn K (.ref (cs.getD j 0)) (erFld j) = some none := fun j hj => by
    have h := List.all_eq_true.mp h1 j (List.mem_range.mpr hj)
    simp only [Bool.and_eq_true, decide_eq_true_eq] at h
    exact ⟨errF_of h.1, h.2.1, h.2.2.1, h.2.2.2⟩
  exact { gB := gB, ex := fun j hj => (a j hj).2.1, gV := gV, isi := isi, k := fun i j hi hj => of_decide_eq_true (List.all_eq_true.mp (List.all_eq_true.mp h2 i (List.mem_range.mpr hi)) j (List.mem_range.mpr hj)), kV := fun j hj => (a j hj).2.2.1, E := fun j hj => (a j hj).1.ex, xf := fun j hj => (a j hj).1.xf, no := fun j hj => (a j hj).2.2.2, g0 := g0, g1 := g1, g2 := g2, g3 := g3, g4 := g4, g5 := g5, g6 := g6, g7 := g7, g8 := g8, g9 := g9, g10 := g10 }
theorem errF_at {K : PySem.W.Frag} {B : Addr} {cs : List Addr} (h1 : errsB K B cs = true) (j : Nat) (hj : j < 11) : ErrF K (cs.getD j 0) := by
  have h := List.all_eq_true.mp h1 j (List.mem_range.mpr hj)
  simp only [Bool.and_eq_true] at h
  exact errF_of h.1
def linB (K : PySem.W.Frag) (C : Addr) : Bool := match PySem.W.findIn K (.ref C) "LINEAR" with | some (some (.bool b)) => !b && decide (PySem.W.specialIn K (.bool b) "__get__" = some none) | _ => false
theorem linB_ok {K : PySem.W.Frag} {C : Addr} (h : linB K C = true) : ∃ u, Con K C "LINEAR" (.bl false) u := by
  unfold linB at h
  split at h
  · rename_i b e
    rw [Bool.and_eq_true] at h
    cases b with
    | true => exact absurd h.1 (by decide)
    | false => exact ⟨_, e, rfl, of_decide_eq_true h.2, by decide +kernel⟩
  · cases h
theorem all_mk {P : Program} {w : World} {K : PySem.W.Frag} {h : Heap} {mg : Str → Option Value} {fa : Addr} (X : K.In h) (G : h.Ns mainGlobals mg) (hfa : mg "law" = some (.ref fa))
    {cB c0 c1 c2 c3 c4 c5 c6 c7 c8 c9 c10 CC CS cN fC fN fWU fCU fR fM fWT fWE fWN fON fOE fOU fCE fCn fCy fEO fAC fAD fB fD fP fNm fLN fE fUl fNw fAd fEd fLk fTo fSt fSh fAA fTr fApd fLA fDr fBu fNe fL fI0 fI1 fI2 fI3 fI4 fI5 fI9 fI10 fCI fSI fTk fAU fAE fAN fRN fRE fRU fAp pE pU pN gE gU gN TbfL : Addr} (hTbfL : h.get? TbfL = some { cls := .none, data := .fields #[] })
    (acB : PySem.W.nsIn K mainGlobals "BlockorderError" = some (some (.ref cB)))
    (ac0 : PySem.W.nsIn K mainGlobals "InvalidName" = some (some (.ref c0)))
    (ac1 : PySem.W.nsIn K mainGlobals "DuplicateItem" = some (some (.ref c1)))
    (ac2 : PySem.W.nsIn K mainGlobals "UnknownItem" = some (some (.ref c2)))
    (ac3 : PySem.W.nsIn K mainGlobals "DuplicateEntry" = some (some (.ref c3)))
    (ac4 : PySem.W.nsIn K mainGlobals "UnknownEntry" = some (some (.ref c4)))
    (ac5 : PySem.W.nsIn K mainGlobals "TooLarge" = some (some (.ref c5)))
    (ac6 : PySem.W.nsIn K mainGlobals "NoTransaction" = some (some (.ref c6)))
    (ac7 : PySem.W.nsIn K mainGlobals "OpenTransaction" = some (some (.ref c7)))
    (ac8 : PySem.W.nsIn K mainGlobals "NothingToUndo" = some (some (.ref c8)))
    (ac9 : PySem.W.nsIn K mainGlobals "EditFailed" = some (some (.ref c9)))
    (ac10 : PySem.W.nsIn K mainGlobals "InvalidText" = some (some (.ref c10)))
    (aCC : PySem.W.nsIn K mainGlobals "Contents" = some (some (.ref CC)))
    (aCS : PySem.W.nsIn K mainGlobals "System" = some (some (.ref CS)))
    (acN : PySem.W.nsIn K mainGlobals "NoEdit" = some (some (.ref cN)))
    (bfC : PySem.W.nsIn K mainGlobals "copied" = some (some (.ref fC)))
    (bfN : PySem.W.nsIn K mainGlobals "is_name" = some (some (.ref fN)))
    (bfWU : PySem.W.nsIn K mainGlobals "with_unknowns" = some (some (.ref fWU)))
    (bfCU : PySem.W.nsIn K mainGlobals "check_unknowns" = some (some (.ref fCU)))
    (bfR : PySem.W.nsIn K mainGlobals "replaced" = some (some (.ref fR)))
    (bfM : PySem.W.nsIn K mainGlobals "removed" = some (some (.ref fM)))
    (bfWT : PySem.W.nsIn K mainGlobals "with_terms" = some (some (.ref fWT)))
    (bfWE : PySem.W.nsIn K mainGlobals "with_equation" = some (some (.ref fWE)))
    (bfWN : PySem.W.nsIn K mainGlobals "with_entry" = some (some (.ref fWN)))
    (bfON : PySem.W.nsIn K mainGlobals "without_entry" = some (some (.ref fON)))
    (bfOE : PySem.W.nsIn K mainGlobals "without_equation" = some (some (.ref fOE)))
    (bfOU : PySem.W.nsIn K mainGlobals "without_unknown" = some (some (.ref fOU)))
    (bfCE : PySem.W.nsIn K mainGlobals "check_equation" = some (some (.ref fCE)))
    (bfCn : PySem.W.nsIn K mainGlobals "check_ends" = some (some (.ref fCn)))
    (bfCy : PySem.W.nsIn K mainGlobals "check_entry" = some (some (.ref fCy)))
    (bfEO : PySem.W.nsIn K mainGlobals "entries_of" = some (some (.ref fEO)))
    (bfAC : PySem.W.nsIn K mainGlobals "after_call" = some (some (.ref fAC)))
    (bfAD : PySem.W.nsIn K mainGlobals "after_edit" = some (some (.ref fAD)))
    (bfB : PySem.W.nsIn K mainGlobals "_law_begin" = some (some (.ref fB)))
    (bfD : PySem.W.nsIn K mainGlobals "_law_draw" = some (some (.ref fD)))
    (bfP : PySem.W.nsIn K mainGlobals "_law_pick" = some (some (.ref fP)))
    (bfNm : PySem.W.nsIn K mainGlobals "_law_names" = some (some (.ref fNm)))
    (bfLN : PySem.W.nsIn K mainGlobals "_law_is_name" = some (some (.ref fLN)))
    (bfE : PySem.W.nsIn K mainGlobals "_law_error" = some (some (.ref fE)))
    (bfUl : PySem.W.nsIn K mainGlobals "_law_unlike" = some (some (.ref fUl)))
    (bfNw : PySem.W.nsIn K mainGlobals "_law_new" = some (some (.ref fNw)))
    (bfAd : PySem.W.nsIn K mainGlobals "_law_added" = some (some (.ref fAd)))
    (bfEd : PySem.W.nsIn K mainGlobals "_law_edited" = some (some (.ref fEd)))
    (bfLk : PySem.W.nsIn K mainGlobals "_law_lacking" = some (some (.ref fLk)))
    (bfTo : PySem.W.nsIn K mainGlobals "_law_told" = some (some (.ref fTo)))
    (bfSt : PySem.W.nsIn K mainGlobals "_law_stands" = some (some (.ref fSt)))
    (bfSh : PySem.W.nsIn K mainGlobals "_law_shuffled" = some (some (.ref fSh)))
    (bfAA : PySem.W.nsIn K mainGlobals "after_attempt" = some (some (.ref fAA)))
    (bfTr : PySem.W.nsIn K mainGlobals "_law_tried" = some (some (.ref fTr)))
    (bfApd : PySem.W.nsIn K mainGlobals "_law_applied" = some (some (.ref fApd)))
    (bfLA : PySem.W.nsIn K mainGlobals "_law_apply" = some (some (.ref fLA)))
    (bfDr : PySem.W.nsIn K mainGlobals "_law_drawn" = some (some (.ref fDr)))
    (bfBu : PySem.W.nsIn K mainGlobals "_law_built" = some (some (.ref fBu)))
    (bfNe : PySem.W.nsIn K mainGlobals "_law_nested" = some (some (.ref fNe)))
    (bfL : PySem.W.nsIn K mainGlobals "law" = some (some (.ref fL)))
    (dfI0 : PySem.W.findIn K (.ref c0) "__init__" = some (some (.ref fI0)))
    (dfI1 : PySem.W.findIn K (.ref c1) "__init__" = some (some (.ref fI1)))
    (dfI2 : PySem.W.findIn K (.ref c2) "__init__" = some (some (.ref fI2)))
    (dfI3 : PySem.W.findIn K (.ref c3) "__init__" = some (some (.ref fI3)))
    (dfI4 : PySem.W.findIn K (.ref c4) "__init__" = some (some (.ref fI4)))
    (dfI5 : PySem.W.findIn K (.ref c5) "__init__" = some (some (.ref fI5)))
    (dfI9 : PySem.W.findIn K (.ref c9) "__init__" = some (some (.ref fI9)))
    (dfI10 : PySem.W.findIn K (.ref c10) "__init__" = some (some (.ref fI10)))
    (dfCI : PySem.W.findIn K (.ref CC) "__init__" = some (some (.ref fCI)))
    (dfSI : PySem.W.findIn K (.ref CS) "__init__" = some (some (.ref fSI)))
    (dfTk : PySem.W.findIn K (.ref CS) "_take" = some (some (.ref fTk)))
    (dfAU : PySem.W.findIn K (.ref CS) "add_unknown" = some (some (.ref fAU)))
    (dfAE : PySem.W.findIn K (.ref CS) "add_equation" = some (some (.ref fAE)))
    (dfAN : PySem.W.findIn K (.ref CS) "add_entry" = some (some (.ref fAN)))
    (dfRN : PySem.W.findIn K (.ref CS) "remove_entry" = some (some (.ref fRN)))
    (dfRE : PySem.W.findIn K (.ref CS) "remove_equation" = some (some (.ref fRE)))
    (dfRU : PySem.W.findIn K (.ref CS) "remove_unknown" = some (some (.ref fRU)))
    (dfAp : PySem.W.findIn K (.ref CS) "apply" = some (some (.ref fAp)))
    (eE : PySem.W.findIn K (.ref CS) "equations" = some (some (.ref pE)))
    (rE : ∃ rest, PySem.W.recIn K pE "property" = some (.ref gE :: rest))
    (sE : PySem.W.specialIn K (.ref pE) "__get__" = some (some (.builtin "property.__get__")) ∧ PySem.W.takesIn K (.ref pE) = some true)
    (eU : PySem.W.findIn K (.ref CS) "unknowns" = some (some (.ref pU)))
    (rU : ∃ rest, PySem.W.recIn K pU "property" = some (.ref gU :: rest))
    (sU : PySem.W.specialIn K (.ref pU) "__get__" = some (some (.builtin "property.__get__")) ∧ PySem.W.takesIn K (.ref pU) = some true)
    (eN : PySem.W.findIn K (.ref CS) "entries" = some (some (.ref pN)))
    (rN : ∃ rest, PySem.W.recIn K pN "property" = some (.ref gN :: rest))
    (sN : PySem.W.specialIn K (.ref pN) "__get__" = some (some (.builtin "property.__get__")) ∧ PySem.W.takesIn K (.ref pN) = some true)
    (hfC : ∃ fd, Fun K "copied" "copied" sCopied fC fd)
    (hfN : ∃ fd, Fun K "is_name" "is_name" sIsName fN fd)
    (hfWU : ∃ fd, Fun K "with_unknowns" "with_unknowns" sWU fWU fd)
    (hfCU : ∃ fd, Fun K "check_unknowns" "check_unknowns" sCU fCU fd)
    (hfR : ∃ fd, Fun K "replaced" "replaced" sReplaced fR fd)
    (hfM : ∃ fd, Fun K "removed" "removed" sRem fM fd)
    (hfWT : ∃ fd, Fun K "with_terms" "with_terms" sWT fWT fd)
    (hfWE : ∃ fd, Fun K "with_equation" "with_equation" sWE fWE fd)
    (hfWN : ∃ fd, Fun K "with_entry" "with_entry" sWEn fWN fd)
    (hfON : ∃ fd, Fun K "without_entry" "without_entry" sWoEn fON fd)
    (hfOE : ∃ fd, Fun K "without_equation" "without_equation" sWoE fOE fd)
    (hfOU : ∃ fd, Fun K "without_unknown" "without_unknown" sWoU fOU fd)
    (hfCE : ∃ fd, Fun K "check_equation" "check_equation" sCE fCE fd)
    (hfCn : ∃ fd, Fun K "check_ends" "check_ends" sCEnds fCn fd)
    (hfCy : ∃ fd, Fun K "check_entry" "check_entry" sCEntry fCy fd)
    (hfEO : ∃ fd, Fun K "entries_of" "entries_of" sEO fEO fd)
    (hfAC : ∃ fd, Fun K "after_call" "after_call" sAC fAC fd)
    (hfAD : ∃ fd, Fun K "after_edit" "after_edit" sAEd fAD fd)
    (hfB : ∃ fd, Fun K "_law_begin" "_law_begin" sBegin fB fd)
    (hfD : ∃ fd, Fun K "_law_draw" "_law_draw" sDraw fD fd)
    (hfP : ∃ fd, Fun K "_law_pick" "_law_pick" sPick fP fd)
    (hfNm : ∃ fd, Fun K "_law_names" "_law_names" sNames fNm fd)
    (hfLN : ∃ fd, Fun K "_law_is_name" "_law_is_name" sLName fLN fd)
    (hfE : ∃ fd, Fun K "_law_error" "_law_error" sErr fE fd)
    (hfUl : ∃ fd, Fun K "_law_unlike" "_law_unlike" sUnl fUl fd)
    (hfNw : ∃ fd, Fun K "_law_new" "_law_new" sNew fNw fd)
    (hfAd : ∃ fd, Fun K "_law_added" "_law_added" sAdded fAd fd)
    (hfEd : ∃ fd, Fun K "_law_edited" "_law_edited" sEdited fEd fd)
    (hfLk : ∃ fd, Fun K "_law_lacking" "_law_lacking" sLack fLk fd)
    (hfTo : ∃ fd, Fun K "_law_told" "_law_told" sTold fTo fd)
    (hfSt : ∃ fd, Fun K "_law_stands" "_law_stands" sStands fSt fd)
    (hfSh : ∃ fd, Fun K "_law_shuffled" "_law_shuffled" sShuf fSh fd)
    (hfAA : ∃ fd, Fun K "after_attempt" "after_attempt" sAA fAA fd)
    (hfTr : ∃ fd, Fun K "_law_tried" "_law_tried" sTried fTr fd)
    (hfApd : ∃ fd, Fun K "_law_applied" "_law_applied" sApplied fApd fd)
    (hfLA : ∃ fd, Fun K "_law_apply" "_law_apply" sLApply fLA fd)
    (hfDr : ∃ fd, Fun K "_law_drawn" "_law_drawn" sDrawn fDr fd)
    (hfBu : ∃ fd, Fun K "_law_built" "_law_built" sBuilt fBu fd)
    (hfNe : ∃ fd, Fun K "_law_nested" "_law_nested" sNested fNe fd)
    (hfI0 : ∃ fd, Fun K "__init__" "InvalidName.__init__" sEr0 fI0 fd)
    (hfI1 : ∃ fd, Fun K "__init__" "DuplicateItem.__init__" sEr1 fI1 fd)
    (hfI2 : ∃ fd, Fun K "__init__" "UnknownItem.__init__" sEr2 fI2 fd)
    (hfI3 : ∃ fd, Fun K "__init__" "DuplicateEntry.__init__" sEr3 fI3 fd)
    (hfI4 : ∃ fd, Fun K "__init__" "UnknownEntry.__init__" sEr4 fI4 fd)
    (hfI5 : ∃ fd, Fun K "__init__" "TooLarge.__init__" sEr5 fI5 fd)
    (hfI9 : ∃ fd, Fun K "__init__" "EditFailed.__init__" sEr9 fI9 fd)
    (hfI10 : ∃ fd, Fun K "__init__" "InvalidText.__init__" sEr10 fI10 fd)
    (hfCI : ∃ fd, Fun K "__init__" "Contents.__init__" sCtInit fCI fd)
    (hfSI : ∃ fd, Fun K "__init__" "System.__init__" sSInit fSI fd)
    (hfTk : ∃ fd, Fun K "_take" "System._take" sTake fTk fd)
    (hfAU : ∃ fd, Fun K "add_unknown" "System.add_unknown" sAU fAU fd)
    (hfAE : ∃ fd, Fun K "add_equation" "System.add_equation" sAE fAE fd)
    (hfAN : ∃ fd, Fun K "add_entry" "System.add_entry" sAEnX fAN fd)
    (hfRN : ∃ fd, Fun K "remove_entry" "System.remove_entry" sREn fRN fd)
    (hfRE : ∃ fd, Fun K "remove_equation" "System.remove_equation" sREq fRE fd)
    (hfRU : ∃ fd, Fun K "remove_unknown" "System.remove_unknown" sRUn fRU fd)
    (hfAp : ∃ fd, Fun K "apply" "System.apply" sApply fAp fd)
    (hE : ∃ fd, Fun K "equations" "System.equations" sEqs gE fd)
    (hU : ∃ fd, Fun K "unknowns" "System.unknowns" sUns gU fd)
    (hN : ∃ fd, Fun K "entries" "System.entries" sEns gN fd)
    (hL : ∃ fd, Fun K "law" "law" sLaw fL fd)
    (tOfL : K.lookup TbfL = none)
    (tCfL : PySem.W.codeHdIn K (Hy.cOf K fL) TbfL = true)
    (tU : uqB [(TbfL, qLam "law")] = true)
    (kCC : PySem.W.plainGet K CC Str.empty = true ∧ PySem.W.hasDictIn K CC = true ∧ PySem.W.plainOver K CC = true ∧ PySem.W.findIn K (.ref CC) "__setattr__" = some (some (.builtin "object.__setattr__")))
    (mCC : PySem.W.makesIn K CC = true ∧ PySem.W.keepIn K (.ref CC) = true)
    (kCS : PySem.W.plainGet K CS Str.empty = true ∧ PySem.W.hasDictIn K CS = true ∧ PySem.W.plainOver K CS = true ∧ PySem.W.findIn K (.ref CS) "__setattr__" = some (some (.builtin "object.__setattr__")))
    (mCS : PySem.W.makesIn K CS = true ∧ PySem.W.keepIn K (.ref CS) = true)
    (nCC0 : PySem.W.findIn K (.ref CC) "columns" = some none)
    (nCC1 : PySem.W.findIn K (.ref CC) "rows" = some none)
    (nCC2 : PySem.W.findIn K (.ref CC) "constants" = some none)
    (nCS0 : PySem.W.findIn K (.ref CS) "_contents" = some none)
    (nCS1 : PySem.W.findIn K (.ref CS) "_begun" = some none)
    (nCS2 : PySem.W.findIn K (.ref CS) "_history" = some none)
    (ifCI : PySem.W.isFn K (.ref fCI) = true)
    (ifSI : PySem.W.isFn K (.ref fSI) = true)
    (ifTk : PySem.W.isFn K (.ref fTk) = true)
    (ifAU : PySem.W.isFn K (.ref fAU) = true)
    (ifAE : PySem.W.isFn K (.ref fAE) = true)
    (ifAN : PySem.W.isFn K (.ref fAN) = true)
    (ifRN : PySem.W.isFn K (.ref fRN) = true)
    (ifRE : PySem.W.isFn K (.ref fRE) = true)
    (ifRU : PySem.W.isFn K (.ref fRU) = true)
    (ifAp : PySem.W.isFn K (.ref fAp) = true)
    (tfI0 : PySem.W.typeIn K (.ref fI0) = some (.type "function"))
    (tfI1 : PySem.W.typeIn K (.ref fI1) = some (.type "function"))
    (tfI2 : PySem.W.typeIn K (.ref fI2) = some (.type "function"))
    (tfI3 : PySem.W.typeIn K (.ref fI3) = some (.type "function"))
    (tfI4 : PySem.W.typeIn K (.ref fI4) = some (.type "function"))
    (tfI5 : PySem.W.typeIn K (.ref fI5) = some (.type "function"))
    (tfI9 : PySem.W.typeIn K (.ref fI9) = some (.type "function"))
    (tfI10 : PySem.W.typeIn K (.ref fI10) = some (.type "function"))
    (eB : errsB K cB [c0, c1, c2, c3, c4, c5, c6, c7, c8, c9, c10] = true)
    (eK : kitsB K [c0, c1, c2, c3, c4, c5, c6, c7, c8, c9, c10] = true)
    (oc0 : OexL K c0)
    (oc1 : OexL K c1)
    (oc2 : OexL K c2)
    (oc3 : OexL K c3)
    (oc4 : OexL K c4)
    (oc5 : OexL K c5)
    (oc9 : OexL K c9)
    (oc10 : OexL K c10)
    (xcN : PySem.W.excIn K cN [.type "ValueError", .type "Exception", .type "BaseException", .type "object"] "ValueError.__new__" = true)
    (ycN : errB K cN = true)
    (qcN : PySem.W.exmOne K (.ref cN) (.ref cB) = some true)
    (l_LETTERS : ∃ t, PySem.W.nsIn K mainGlobals "LETTERS" = some (some (.str lets t)))
    (l_DIGITS : ∃ t, PySem.W.nsIn K mainGlobals "DIGITS" = some (some (.str digs t)))
    (l_LONGEST_NAME : ∃ t, PySem.W.nsIn K mainGlobals "LONGEST_NAME" = some (some (.int 8 t)))
    (l_MOST : ∃ t, PySem.W.nsIn K mainGlobals "MOST" = some (some (.int 24 t)))
    (l_MOST_AROUND : ∃ t, PySem.W.nsIn K mainGlobals "MOST_AROUND" = some (some (.int 4 t)))
    (lin : linB K CS = true)
    (z_isinstance : PySem.W.nsIn K mainGlobals "isinstance" = some none)
    (z_tuple : PySem.W.nsIn K mainGlobals "tuple" = some none)
    (z_list : PySem.W.nsIn K mainGlobals "list" = some none)
    (z_dict : PySem.W.nsIn K mainGlobals "dict" = some none)
    (z_len : PySem.W.nsIn K mainGlobals "len" = some none)
    (z_str : PySem.W.nsIn K mainGlobals "str" = some none)
    (z_all : PySem.W.nsIn K mainGlobals "all" = some none)
    (z_set : PySem.W.nsIn K mainGlobals "set" = some none)
    (z_sorted : PySem.W.nsIn K mainGlobals "sorted" = some none)
    (z_enumerate : PySem.W.nsIn K mainGlobals "enumerate" = some none)
    (z_range : PySem.W.nsIn K mainGlobals "range" = some none)
    (z_repr : PySem.W.nsIn K mainGlobals "repr" = some none)
    (z_ValueError : PySem.W.nsIn K mainGlobals "ValueError" = some none)
    (z_min : PySem.W.nsIn K mainGlobals "min" = some none)
    : ∃ (fd : FuncData) (Ts : List (Addr × Addr)) (sp : Sp), (∀ p ∈ Ts, OneTab K h p.1 p.2) ∧ (∀ (s : Shared) (u : Value), BindsTo s fd ⟨[u], []⟩ [("_law_script", u)]) ∧
      (∀ (H : Hp) (a : Addr) (ns : List Int), ns.length ≤ 63 → (∀ p ∈ Ts, H p.2 = some (.tbl #[])) → SqL K H a (ns.map V.int) → sp [.ref a] H (fun v _ => v = .bl true) E0) ∧
      ∀ base : Heap, K.In base → base.Ns mainGlobals mg → (∀ p ∈ Ts, LamX.TabB base mg p.1 p.2) → FnQ P w K mg base CX0 28 fa fd ["_law_script"] sp := by
  have e := hfa.symm.trans (PySem.W.mg_of X G bfL)
  cases e
  obtain ⟨fd_fC, F_fC⟩ := hfC
  obtain ⟨fd_fN, F_fN⟩ := hfN
  obtain ⟨fd_fWU, F_fWU⟩ := hfWU
  obtain ⟨fd_fCU, F_fCU⟩ := hfCU
  obtain ⟨fd_fR, F_fR⟩ := hfR
  obtain ⟨fd_fM, F_fM⟩ := hfM
  obtain ⟨fd_fWT, F_fWT⟩ := hfWT
  obtain ⟨fd_fWE, F_fWE⟩ := hfWE
  obtain ⟨fd_fWN, F_fWN⟩ := hfWN
  obtain ⟨fd_fON, F_fON⟩ := hfON
  obtain ⟨fd_fOE, F_fOE⟩ := hfOE
  obtain ⟨fd_fOU, F_fOU⟩ := hfOU
  obtain ⟨fd_fCE, F_fCE⟩ := hfCE
  obtain ⟨fd_fCn, F_fCn⟩ := hfCn
  obtain ⟨fd_fCy, F_fCy⟩ := hfCy
  obtain ⟨fd_fEO, F_fEO⟩ := hfEO
  obtain ⟨fd_fAC, F_fAC⟩ := hfAC
  obtain ⟨fd_fAD, F_fAD⟩ := hfAD
  obtain ⟨fd_fB, F_fB⟩ := hfB
  obtain ⟨fd_fD, F_fD⟩ := hfD
  obtain ⟨fd_fP, F_fP⟩ := hfP
  obtain ⟨fd_fNm, F_fNm⟩ := hfNm
  obtain ⟨fd_fLN, F_fLN⟩ := hfLN
  obtain ⟨fd_fE, F_fE⟩ := hfE
  obtain ⟨fd_fUl, F_fUl⟩ := hfUl
  obtain ⟨fd_fNw, F_fNw⟩ := hfNw
  obtain ⟨fd_fAd, F_fAd⟩ := hfAd
  obtain ⟨fd_fEd, F_fEd⟩ := hfEd
  obtain ⟨fd_fLk, F_fLk⟩ := hfLk
  obtain ⟨fd_fTo, F_fTo⟩ := hfTo
  obtain ⟨fd_fSt, F_fSt⟩ := hfSt
  obtain ⟨fd_fSh, F_fSh⟩ := hfSh
  obtain ⟨fd_fAA, F_fAA⟩ := hfAA
  obtain ⟨fd_fTr, F_fTr⟩ := hfTr
  obtain ⟨fd_fApd, F_fApd⟩ := hfApd
  obtain ⟨fd_fLA, F_fLA⟩ := hfLA
  obtain ⟨fd_fDr, F_fDr⟩ := hfDr
  obtain ⟨fd_fBu, F_fBu⟩ := hfBu
  obtain ⟨fd_fNe, F_fNe⟩ := hfNe
  obtain ⟨fd_fI0, F_fI0⟩ := hfI0
  obtain ⟨fd_fI1, F_fI1⟩ := hfI1
  obtain ⟨fd_fI2, F_fI2⟩ := hfI2
  obtain ⟨fd_fI3, F_fI3⟩ := hfI3
  obtain ⟨fd_fI4, F_fI4⟩ := hfI4
  obtain ⟨fd_fI5, F_fI5⟩ := hfI5
  obtain ⟨fd_fI9, F_fI9⟩ := hfI9
  obtain ⟨fd_fI10, F_fI10⟩ := hfI10
  obtain ⟨fd_fCI, F_fCI⟩ := hfCI
  obtain ⟨fd_fSI, F_fSI⟩ := hfSI
  obtain ⟨fd_fTk, F_fTk⟩ := hfTk
  obtain ⟨fd_fAU, F_fAU⟩ := hfAU
  obtain ⟨fd_fAE, F_fAE⟩ := hfAE
  obtain ⟨fd_fAN, F_fAN⟩ := hfAN
  obtain ⟨fd_fRN, F_fRN⟩ := hfRN
  obtain ⟨fd_fRE, F_fRE⟩ := hfRE
  obtain ⟨fd_fRU, F_fRU⟩ := hfRU
  obtain ⟨fd_fAp, F_fAp⟩ := hfAp
  obtain ⟨fd_E, F_E⟩ := hE
  obtain ⟨fd_U, F_U⟩ := hU
  obtain ⟨fd_N, F_N⟩ := hN
  obtain ⟨fd_L, F_L⟩ := hL
  have B_fC := F_fC.binds (ps := ["thing"]) fun _ _ _ _ _ _ us hl => match us, hl with | [_], _ => rfl
  have B_fN := F_fN.binds (ps := ["thing"]) fun _ _ _ _ _ _ us hl => match us, hl with | [_], _ => rfl
  have B_fWU := F_fWU.binds (ps := ["contents", "names"]) fun _ _ _ _ _ _ us hl => match us, hl with | [_, _], _ => rfl
  have B_fCU := F_fCU.binds (ps := ["known", "unknowns"]) fun _ _ _ _ _ _ us hl => match us, hl with | [_, _], _ => rfl
  have B_fR := F_fR.binds (ps := ["table", "key", "thing"]) fun _ _ _ _ _ _ us hl => match us, hl with | [_, _, _], _ => rfl
  have B_fM := F_fM.binds (ps := ["table", "key"]) fun _ _ _ _ _ _ us hl => match us, hl with | [_, _], _ => rfl
  have B_fWT := F_fWT.binds (ps := ["contents", "name", "constant", "terms"]) fun _ _ _ _ _ _ us hl => match us, hl with | [_, _, _, _], _ => rfl
  have B_fWE := F_fWE.binds (ps := ["contents", "name", "unknowns"]) fun _ _ _ _ _ _ us hl => match us, hl with | [_, _, _], _ => rfl
  have B_fWN := F_fWN.binds (ps := ["contents", "equation", "unknown"]) fun _ _ _ _ _ _ us hl => match us, hl with | [_, _, _], _ => rfl
  have B_fON := F_fON.binds (ps := ["contents", "equation", "unknown"]) fun _ _ _ _ _ _ us hl => match us, hl with | [_, _, _], _ => rfl
  have B_fOE := F_fOE.binds (ps := ["contents", "name"]) fun _ _ _ _ _ _ us hl => match us, hl with | [_, _], _ => rfl
  have B_fOU := F_fOU.binds (ps := ["contents", "name"]) fun _ _ _ _ _ _ us hl => match us, hl with | [_, _], _ => rfl
  have B_fCE := F_fCE.binds (ps := ["contents", "equation"]) fun _ _ _ _ _ _ us hl => match us, hl with | [_, _], _ => rfl
  have B_fCn := F_fCn.binds (ps := ["contents", "equation", "unknown"]) fun _ _ _ _ _ _ us hl => match us, hl with | [_, _, _], _ => rfl
  have B_fCy := F_fCy.binds (ps := ["contents", "equation", "unknown"]) fun _ _ _ _ _ _ us hl => match us, hl with | [_, _, _], _ => rfl
  have B_fEO := F_fEO.binds (ps := ["contents"]) fun _ _ _ _ _ _ us hl => match us, hl with | [_], _ => rfl
  have B_fAC := F_fAC.binds (ps := ["contents", "word", "given"]) fun _ _ _ _ _ _ us hl => match us, hl with | [_, _, _], _ => rfl
  have B_fAD := F_fAD.binds (ps := ["contents", "edit", "linear", "around"]) fun _ _ _ _ _ _ us hl => match us, hl with | [_, _, _, _], _ => rfl
  have B_fB := F_fB.binds (ps := ["_law_script"]) fun _ _ _ _ _ _ us hl => match us, hl with | [_], _ => rfl
  have B_fD := F_fD.binds (ps := ["_law_tape", "_law_many"]) fun _ _ _ _ _ _ us hl => match us, hl with | [_, _], _ => rfl
  have B_fP := F_fP.binds (ps := ["_law_tape", "_law_items"]) fun _ _ _ _ _ _ us hl => match us, hl with | [_, _], _ => rfl
  have B_fNm := F_fNm.binds (ps := ["_law_tape", "_law_many"]) fun _ _ _ _ _ _ us hl => match us, hl with | [_, _], _ => rfl
  have B_fLN := F_fLN.binds (ps := ["_law_thing"]) fun _ _ _ _ _ _ us hl => match us, hl with | [_], _ => rfl
  have B_fE := F_fE.binds (ps := ["_law_call"]) fun _ _ _ _ _ _ us hl => match us, hl with | [_], _ => rfl
  have B_fUl := F_fUl.binds (ps := ["_law_kind", "_law_names_here", "_law_start"]) fun _ _ _ _ _ _ us hl => match us, hl with | [_, _, _], _ => rfl
  have B_fNw := F_fNw.binds (ps := ["_law_kind", "_law_names_here", "_law_known"]) fun _ _ _ _ _ _ us hl => match us, hl with | [_, _, _], _ => rfl
  have B_fAd := F_fAd.binds (ps := ["_law_plain", "_law_word", "_law_parts"]) fun _ _ _ _ _ _ us hl => match us, hl with | [_, _, _], _ => rfl
  have B_fEd := F_fEd.binds (ps := ["_law_plain", "_law_edit"]) fun _ _ _ _ _ _ us hl => match us, hl with | [_, _], _ => rfl
  have B_fLk := F_fLk.binds (ps := ["_law_plain", "_law_items"]) fun _ _ _ _ _ _ us hl => match us, hl with | [_, _], _ => rfl
  have B_fTo := F_fTo.binds (ps := ["_law_plain"]) fun _ _ _ _ _ _ us hl => match us, hl with | [_], _ => rfl
  have B_fSt := F_fSt.binds (ps := ["_law_system", "_law_plain"]) fun _ _ _ _ _ _ us hl => match us, hl with | [_, _], _ => rfl
  have B_fSh := F_fSh.binds (ps := ["_law_tape", "_law_items"]) fun _ _ _ _ _ _ us hl => match us, hl with | [_, _], _ => rfl
  have B_fAA := F_fAA.binds (ps := ["contents", "edits", "linear", "around"]) fun _ _ _ _ _ _ us hl => match us, hl with | [_, _, _, _], _ => rfl
  have B_fTr := F_fTr.binds (ps := ["_law_plain", "_law_edit", "_law_level"]) fun _ _ _ _ _ _ us hl => match us, hl with | [_, _, _], _ => rfl
  have B_fApd := F_fApd.binds (ps := ["_law_plain", "_law_edits"]) fun _ _ _ _ _ _ us hl => match us, hl with | [_, _], _ => rfl
  have B_fLA := F_fLA.binds (ps := ["_law_system", "_law_edits"]) fun _ _ _ _ _ _ us hl => match us, hl with | [_, _], _ => rfl
  have B_fDr := F_fDr.binds (ps := ["_law_tape", "_law_most"]) fun _ _ _ _ _ _ us hl => match us, hl with | [_, _], _ => rfl
  have B_fBu := F_fBu.binds (ps := ["_law_tape", "_law_system", "_law_plain"]) fun _ _ _ _ _ _ us hl => match us, hl with | [_, _, _], _ => rfl
  have B_fNe := F_fNe.binds (ps := ["_law_tape", "_law_plain", "_law_deep", "_law_names_here"]) fun _ _ _ _ _ _ us hl => match us, hl with | [_, _, _, _], _ => rfl
  have B_fI0 := F_fI0.binds (ps := ["self", "name"]) fun _ _ _ _ _ _ us hl => match us, hl with | [_, _], _ => rfl
  have B_fI1 := F_fI1.binds (ps := ["self", "item"]) fun _ _ _ _ _ _ us hl => match us, hl with | [_, _], _ => rfl
  have B_fI2 := F_fI2.binds (ps := ["self", "item"]) fun _ _ _ _ _ _ us hl => match us, hl with | [_, _], _ => rfl
  have B_fI3 := F_fI3.binds (ps := ["self", "entry"]) fun _ _ _ _ _ _ us hl => match us, hl with | [_, _], _ => rfl
  have B_fI4 := F_fI4.binds (ps := ["self", "entry"]) fun _ _ _ _ _ _ us hl => match us, hl with | [_, _], _ => rfl
  have B_fI5 := F_fI5.binds (ps := ["self", "limit"]) fun _ _ _ _ _ _ us hl => match us, hl with | [_, _], _ => rfl
  have B_fI9 := F_fI9.binds (ps := ["self", "index"]) fun _ _ _ _ _ _ us hl => match us, hl with | [_, _], _ => rfl
  have B_fI10 := F_fI10.binds (ps := ["self", "line"]) fun _ _ _ _ _ _ us hl => match us, hl with | [_, _], _ => rfl
  have B_fCI := F_fCI.binds (ps := ["self", "columns", "rows", "constants"]) fun _ _ _ _ _ _ us hl => match us, hl with | [_, _, _, _], _ => rfl
  have B_fSI := F_fSI.binds (ps := ["self"]) fun _ _ _ _ _ _ us hl => match us, hl with | [_], _ => rfl
  have B_fTk := F_fTk.binds (ps := ["self", "contents"]) fun _ _ _ _ _ _ us hl => match us, hl with | [_, _], _ => rfl
  have B_fAN := F_fAN.binds (ps := ["self", "equation", "unknown"]) fun _ _ _ _ _ _ us hl => match us, hl with | [_, _, _], _ => rfl
  have B_fRN := F_fRN.binds (ps := ["self", "equation", "unknown"]) fun _ _ _ _ _ _ us hl => match us, hl with | [_, _, _], _ => rfl
  have B_fRE := F_fRE.binds (ps := ["self", "name"]) fun _ _ _ _ _ _ us hl => match us, hl with | [_, _], _ => rfl
  have B_fRU := F_fRU.binds (ps := ["self", "name"]) fun _ _ _ _ _ _ us hl => match us, hl with | [_, _], _ => rfl
  have B_E := F_E.binds (ps := ["self"]) fun _ _ _ _ _ _ us hl => match us, hl with | [_], _ => rfl
  have B_U := F_U.binds (ps := ["self"]) fun _ _ _ _ _ _ us hl => match us, hl with | [_], _ => rfl
  have B_N := F_N.binds (ps := ["self"]) fun _ _ _ _ _ _ us hl => match us, hl with | [_], _ => rfl
  have m_fC := PySem.W.mg_of X G bfC
  have m_fN := PySem.W.mg_of X G bfN
  have m_fWU := PySem.W.mg_of X G bfWU
  have m_fCU := PySem.W.mg_of X G bfCU
  have m_fR := PySem.W.mg_of X G bfR
  have m_fM := PySem.W.mg_of X G bfM
  have m_fWT := PySem.W.mg_of X G bfWT
  have m_fWE := PySem.W.mg_of X G bfWE
  have m_fWN := PySem.W.mg_of X G bfWN
  have m_fON := PySem.W.mg_of X G bfON
  have m_fOE := PySem.W.mg_of X G bfOE
  have m_fOU := PySem.W.mg_of X G bfOU
  have m_fCE := PySem.W.mg_of X G bfCE
  have m_fCn := PySem.W.mg_of X G bfCn
  have m_fCy := PySem.W.mg_of X G bfCy
  have m_fEO := PySem.W.mg_of X G bfEO
  have m_fAC := PySem.W.mg_of X G bfAC
  have m_fAD := PySem.W.mg_of X G bfAD
  have m_fB := PySem.W.mg_of X G bfB
  have m_fD := PySem.W.mg_of X G bfD
  have m_fP := PySem.W.mg_of X G bfP
  have m_fNm := PySem.W.mg_of X G bfNm
  have m_fLN := PySem.W.mg_of X G bfLN
  have m_fE := PySem.W.mg_of X G bfE
  have m_fUl := PySem.W.mg_of X G bfUl
  have m_fNw := PySem.W.mg_of X G bfNw
  have m_fAd := PySem.W.mg_of X G bfAd
  have m_fEd := PySem.W.mg_of X G bfEd
  have m_fLk := PySem.W.mg_of X G bfLk
  have m_fTo := PySem.W.mg_of X G bfTo
  have m_fSt := PySem.W.mg_of X G bfSt
  have m_fSh := PySem.W.mg_of X G bfSh
  have m_fAA := PySem.W.mg_of X G bfAA
  have m_fTr := PySem.W.mg_of X G bfTr
  have m_fApd := PySem.W.mg_of X G bfApd
  have m_fLA := PySem.W.mg_of X G bfLA
  have m_fDr := PySem.W.mg_of X G bfDr
  have m_fBu := PySem.W.mg_of X G bfBu
  have m_fNe := PySem.W.mg_of X G bfNe
  have n_isinstance := PySem.W.mg_none_of X G z_isinstance
  have n_tuple := PySem.W.mg_none_of X G z_tuple
  have n_list := PySem.W.mg_none_of X G z_list
  have n_dict := PySem.W.mg_none_of X G z_dict
  have n_len := PySem.W.mg_none_of X G z_len
  have n_str := PySem.W.mg_none_of X G z_str
  have n_all := PySem.W.mg_none_of X G z_all
  have n_set := PySem.W.mg_none_of X G z_set
  have n_sorted := PySem.W.mg_none_of X G z_sorted
  have n_enumerate := PySem.W.mg_none_of X G z_enumerate
  have n_range := PySem.W.mg_none_of X G z_range
  have n_repr := PySem.W.mg_none_of X G z_repr
  have n_ValueError := PySem.W.mg_none_of X G z_ValueError
  have n_min := PySem.W.mg_none_of X G z_min
  obtain ⟨t_L, l_LETTERS⟩ := l_LETTERS
  have g_L := PySem.W.mg_of X G l_LETTERS
  obtain ⟨t_D, l_DIGITS⟩ := l_DIGITS
  have g_D := PySem.W.mg_of X G l_DIGITS
  obtain ⟨t_O, l_LONGEST_NAME⟩ := l_LONGEST_NAME
  have g_O := PySem.W.mg_of X G l_LONGEST_NAME
  obtain ⟨t_M, l_MOST⟩ := l_MOST
  have g_M := PySem.W.mg_of X G l_MOST
  obtain ⟨t_Q, l_MOST_AROUND⟩ := l_MOST_AROUND
  have g_Q := PySem.W.mg_of X G l_MOST_AROUND
  have g_cB := PySem.W.mg_of X G acB
  have g_c0 := PySem.W.mg_of X G ac0
  have g_c1 := PySem.W.mg_of X G ac1
  have g_c2 := PySem.W.mg_of X G ac2
  have g_c3 := PySem.W.mg_of X G ac3
  have g_c4 := PySem.W.mg_of X G ac4
  have g_c5 := PySem.W.mg_of X G ac5
  have g_c6 := PySem.W.mg_of X G ac6
  have g_c7 := PySem.W.mg_of X G ac7
  have g_c8 := PySem.W.mg_of X G ac8
  have g_c9 := PySem.W.mg_of X G ac9
  have g_c10 := PySem.W.mg_of X G ac10
  have g_CC := PySem.W.mg_of X G aCC
  have g_CS := PySem.W.mg_of X G aCS
  have g_cN := PySem.W.mg_of X G acN
  have cl_CC : Cls K CC := ⟨kCC.1, kCC.2.1, kCC.2.2.1, kCC.2.2.2⟩
  have cl_CS : Cls K CS := ⟨kCS.1, kCS.2.1, kCS.2.2.1, kCS.2.2.2⟩
  have mk_CC : Mk K CC fCI := ⟨mCC.1, dfCI, ifCI, mCC.2⟩
  have mk_CS : Mk K CS fSI := ⟨mCS.1, dfSI, ifSI, mCS.2⟩
  have M_fTk : Meth K CS "_take" fTk := ⟨dfTk, ifTk, F_fTk.kp⟩
  have M_fAU : Meth K CS "add_unknown" fAU := ⟨dfAU, ifAU, F_fAU.kp⟩
  have M_fAE : Meth K CS "add_equation" fAE := ⟨dfAE, ifAE, F_fAE.kp⟩
  have M_fAN : Meth K CS "add_entry" fAN := ⟨dfAN, ifAN, F_fAN.kp⟩
  have M_fRN : Meth K CS "remove_entry" fRN := ⟨dfRN, ifRN, F_fRN.kp⟩
  have M_fRE : Meth K CS "remove_equation" fRE := ⟨dfRE, ifRE, F_fRE.kp⟩
  have M_fRU : Meth K CS "remove_unknown" fRU := ⟨dfRU, ifRU, F_fRU.kp⟩
  have M_fAp : Meth K CS "apply" fAp := ⟨dfAp, ifAp, F_fAp.kp⟩
  have P_E : PropOf K CS "equations" pE gE := ⟨eE, sE.1, sE.2, rE⟩
  have P_U : PropOf K CS "unknowns" pU gU := ⟨eU, sU.1, sU.2, rU⟩
  have P_N : PropOf K CS "entries" pN gN := ⟨eN, sN.1, sN.2, rN⟩
  have TE : ErrA K mg cB (fun j => ([c0, c1, c2, c3, c4, c5, c6, c7, c8, c9, c10] : List Addr).getD j 0) := errA_of eB eK g_cB n_ValueError n_isinstance g_c0 g_c1 g_c2 g_c3 g_c4 g_c5 g_c6 g_c7 g_c8 g_c9 g_c10
  have ox_c0 : OexC K c0 := ⟨oc0, (errF_at eB 0 (by decide)).sa, (errF_at eB 0 (by decide)).ex.hs, (errF_at eB 0 (by decide)).ty, (errF_at eB 0 (by decide)).kp⟩
  have ox_c1 : OexC K c1 := ⟨oc1, (errF_at eB 1 (by decide)).sa, (errF_at eB 1 (by decide)).ex.hs, (errF_at eB 1 (by decide)).ty, (errF_at eB 1 (by decide)).kp⟩
  have ox_c2 : OexC K c2 := ⟨oc2, (errF_at eB 2 (by decide)).sa, (errF_at eB 2 (by decide)).ex.hs, (errF_at eB 2 (by decide)).ty, (errF_at eB 2 (by decide)).kp⟩
  have ox_c3 : OexC K c3 := ⟨oc3, (errF_at eB 3 (by decide)).sa, (errF_at eB 3 (by decide)).ex.hs, (errF_at eB 3 (by decide)).ty, (errF_at eB 3 (by decide)).kp⟩
  have ox_c4 : OexC K c4 := ⟨oc4, (errF_at eB 4 (by decide)).sa, (errF_at eB 4 (by decide)).ex.hs, (errF_at eB 4 (by decide)).ty, (errF_at eB 4 (by decide)).kp⟩
  have ox_c5 : OexC K c5 := ⟨oc5, (errF_at eB 5 (by decide)).sa, (errF_at eB 5 (by decide)).ex.hs, (errF_at eB 5 (by decide)).ty, (errF_at eB 5 (by decide)).kp⟩
  have ox_c9 : OexC K c9 := ⟨oc9, (errF_at eB 9 (by decide)).sa, (errF_at eB 9 (by decide)).ex.hs, (errF_at eB 9 (by decide)).ty, (errF_at eB 9 (by decide)).kp⟩
  have ox_c10 : OexC K c10 := ⟨oc10, (errF_at eB 10 (by decide)).sa, (errF_at eB 10 (by decide)).ex.hs, (errF_at eB 10 (by decide)).ty, (errF_at eB 10 (by decide)).kp⟩
  have bare_cN : BareC K mg "NoEdit" cN := ⟨xcN, g_cN, (errF_of ycN).kp, (errF_of ycN).ex.hs, (errF_of ycN).ty⟩
  have TC : TxtC mg := ⟨n_isinstance, n_tuple, n_list, n_dict⟩
  have TN : TxtN mg := ⟨TC, ⟨_, g_L⟩, ⟨_, g_D⟩, ⟨_, g_O⟩, n_len, n_str, n_all⟩
  have TCt : CtT K mg CC fCI := { cl := cl_CC, mkC := mk_CC, g := g_CC, n1 := nCC0, n2 := nCC1, n3 := nCC2 }
  have TX : TxtE K mg CC fCI := { toTxtN := TN, ct := TCt, set_ := n_set, srt := n_sorted, most := ⟨_, g_M⟩, enum := n_enumerate }
  have TY : SysT K mg CS fSI fTk := { cl := cl_CS, mkC := mk_CS, g := g_CS, n1 := nCS0, n2 := nCS1, n3 := nCS2, tk := M_fTk }
  have TP : TxtP mg := ⟨n_tuple, n_sorted⟩
  have TB : TxtB mg := ⟨n_len⟩
  have TSh : TxtSh mg := ⟨n_len, n_list⟩
  have TQ : TxtQ mg := ⟨n_len, n_range, n_sorted⟩
  have PT : PropW K CS pE gE pU gU pN gN := ⟨P_E, P_U, P_N⟩
  have e0 : ErrC K c0 fI0 "name" := ⟨ox_c0, dfI0, tfI0, TE.no 0 (by decide)⟩
  have e1 : ErrC K c1 fI1 "item" := ⟨ox_c1, dfI1, tfI1, TE.no 1 (by decide)⟩
  have e2 : ErrC K c2 fI2 "item" := ⟨ox_c2, dfI2, tfI2, TE.no 2 (by decide)⟩
  have e3 : ErrC K c3 fI3 "entry" := ⟨ox_c3, dfI3, tfI3, TE.no 3 (by decide)⟩
  have e4 : ErrC K c4 fI4 "entry" := ⟨ox_c4, dfI4, tfI4, TE.no 4 (by decide)⟩
  have e5 : ErrC K c5 fI5 "limit" := ⟨ox_c5, dfI5, tfI5, TE.no 5 (by decide)⟩
  have e9 : ErrC K c9 fI9 "index" := ⟨ox_c9, dfI9, tfI9, TE.no 9 (by decide)⟩
  have e10 : ErrC K c10 fI10 "line" := ⟨ox_c10, dfI10, tfI10, TE.no 10 (by decide)⟩
  refine ⟨fd_L, [(Hy.cOf K fa, TbfL)], spLaw K [(TbfL, qLam "law")], fun p hp => ?_, ?_, fun H a ns hl hT hS => ⟨a, ns, rfl, hS, hl, fun p hp => ?_, fun _ => rfl⟩, fun base hK hG hTB => ?_⟩
  · simp only [List.mem_cons, List.not_mem_nil, or_false] at hp
    rcases hp with rfl
    all_goals first | exact ⟨hTbfL, tOfL, PySem.W.codeHd_of_K X tCfL⟩
  · obtain ⟨oc, od, kV, doc, pm, an, cdv, ct, osl, rfl, _, _⟩ := F_L.ex
    exact fun s v => .of_eq rfl
  · simp only [List.mem_cons, List.not_mem_nil, or_false] at hp
    rcases hp with rfl
    all_goals first | exact LamX.TabS.nil (hT (Hy.cOf K fa, TbfL) List.mem_cons_self)
  · have TBfL := hTB (Hy.cOf K fa, TbfL) List.mem_cons_self
    have hUfL := uq_of tU (show (TbfL, qLam "law") ∈ ([(TbfL, qLam "law")] : List (Addr × Str)) from List.mem_cons_self)
    have GC : FnOk P w K mg base CX0 3 fC fd_fC ["thing"] (spCopy2 K) := ok_copy2 F_fC TC m_fC B_fC
    have GI0 := ok_er0 F_fI0 (P := P) (w := w) (base := base) GC m_fC F_fC.kp B_fC
    have GI1 := ok_er1 F_fI1 (P := P) (w := w) (base := base) GC m_fC F_fC.kp B_fC
    have GI2 := ok_er2 F_fI2 (P := P) (w := w) (base := base) GC m_fC F_fC.kp B_fC
    have GI3 := ok_er3 F_fI3 (P := P) (w := w) (base := base) GC m_fC F_fC.kp B_fC
    have GI4 := ok_er4 F_fI4 (P := P) (w := w) (base := base) GC m_fC F_fC.kp B_fC
    have GI5 := ok_er5 F_fI5 (P := P) (w := w) (base := base) GC m_fC F_fC.kp B_fC
    have GI9 := ok_er9 F_fI9 (P := P) (w := w) (base := base) GC m_fC F_fC.kp B_fC
    have GI10 := ok_er10 F_fI10 (P := P) (w := w) (base := base) GC m_fC F_fC.kp B_fC
    have TG : ErrsG P w K mg base (fun j => ([c0, c1, c2, c3, c4, c5, c6, c7, c8, c9, c10] : List Addr).getD j 0) (fun j => ([fI0, fI1, fI2, fI3, fI4, fI5, fI0, fI0, fI0, fI9, fI10] : List Addr).getD j 0) (fun j => ([fd_fI0, fd_fI1, fd_fI2, fd_fI3, fd_fI4, fd_fI5, fd_fI0, fd_fI0, fd_fI0, fd_fI9, fd_fI10] : List FuncData).getD j fd_fI0) := ⟨fun j h => by rcases (show j = 0 ∨ j = 1 ∨ j = 2 ∨ j = 3 ∨ j = 4 ∨ j = 5 ∨ j = 9 ∨ j = 10 by omega) with rfl | rfl | rfl | rfl | rfl | rfl | rfl | rfl <;> first | exact e0 | exact e1 | exact e2 | exact e3 | exact e4 | exact e5 | exact e9 | exact e10, fun j h => by rcases (show j = 0 ∨ j = 1 ∨ j = 2 ∨ j = 3 ∨ j = 4 ∨ j = 5 ∨ j = 9 ∨ j = 10 by omega) with rfl | rfl | rfl | rfl | rfl | rfl | rfl | rfl <;> first | exact GI0 | exact GI1 | exact GI2 | exact GI3 | exact GI4 | exact GI5 | exact GI9 | exact GI10, fun j h => by rcases (show j = 0 ∨ j = 1 ∨ j = 2 ∨ j = 3 ∨ j = 4 ∨ j = 5 ∨ j = 9 ∨ j = 10 by omega) with rfl | rfl | rfl | rfl | rfl | rfl | rfl | rfl <;> first | exact B_fI0 | exact B_fI1 | exact B_fI2 | exact B_fI3 | exact B_fI4 | exact B_fI5 | exact B_fI9 | exact B_fI10⟩
    have GN : FnOk P w K mg base CX0 1 fN fd_fN ["thing"] (spIsName K) := ok_isName F_fN TN
    have GCI : FnOk P w K mg base CX0 1 fCI fd_fCI ["self", "columns", "rows", "constants"] (spCtInit CC) := ok_ctInit F_fCI TCt
    have GR : FnOk P w K mg base CX0 1 fR fd_fR ["table", "key", "thing"] spReplaced := ok_replaced F_fR
    have GM : FnOk P w K mg base CX0 1 fM fd_fM ["table", "key"] spRemoved := ok_removed F_fM
    have GWU := ok_wuX F_fWU TX TE TG GN m_fN F_fN.kp B_fN GCI B_fCI
    have GCE := ok_ceX F_fCE TX TE TG
    have GCU := ok_cuX F_fCU TX TE TG
    have GCn := ok_cendsX F_fCn TX GCE m_fCE F_fCE.kp B_fCE GCU m_fCU F_fCU.kp B_fCU
    have GWT := ok_wtX F_fWT TX TE TG GN m_fN F_fN.kp B_fN GCU m_fCU F_fCU.kp B_fCU GR m_fR F_fR.kp B_fR GCI B_fCI
    have GWE := ok_weX F_fWE GWT m_fWT F_fWT.kp B_fWT
    have GCy := ok_cenX F_fCy TX TE TG GCn m_fCn F_fCn.kp B_fCn
    have GWN := ok_wenX F_fWN TX TE TG GCn m_fCn F_fCn.kp B_fCn GR m_fR F_fR.kp B_fR GCI B_fCI
    have GON := ok_woenX F_fON TX GCy m_fCy F_fCy.kp B_fCy GR m_fR F_fR.kp B_fR GM m_fM F_fM.kp B_fM GCI B_fCI
    have GOE := ok_woeX F_fOE TX GCE m_fCE F_fCE.kp B_fCE GM m_fM F_fM.kp B_fM GCI B_fCI
    have GOU := ok_wouX F_fOU TX GCU m_fCU F_fCU.kp B_fCU GM m_fM F_fM.kp B_fM GCI B_fCI
    have GTk : FnOk P w K mg base CX0 1 fTk fd_fTk ["self", "contents"] (spTakeG K CC CS) := ok_takeG F_fTk TY
    have GSI : FnOk P w K mg base CX0 3 fSI fd_fSI ["self"] (spSInitG K CC CS) := ok_sInitG F_fSI TY TCt GCI B_fCI
    have G0 := ok_m0 F_fAU TY GTk B_fTk GWU.weak m_fWU F_fWU.kp B_fWU
    have G1 := ok_m1 F_fAE TY GTk B_fTk GWE.weak m_fWE F_fWE.kp B_fWE
    have G2 := ok_m2 F_fAN TY GTk B_fTk GWN.weak m_fWN F_fWN.kp B_fWN
    have G3 := ok_m3 F_fRN TY GTk B_fTk GON.weak m_fON F_fON.kp B_fON
    have G4 := ok_m4 F_fRE TY GTk B_fTk GOE.weak m_fOE F_fOE.kp B_fOE
    have G5 := ok_m5 F_fRU TY GTk B_fTk GOU.weak m_fOU F_fOU.kp B_fOU
    have MS : Meths P w K mg base CC CS (fun j => ([c0, c1, c2, c3, c4, c5, c6, c7, c8, c9, c10] : List Addr).getD j 0) (fun j => ([fAU, fAE, fAN, fRN, fRE, fRU] : List Addr).getD j 0) (fun j => ([fd_fAU, fd_fAE, fd_fAN, fd_fRN, fd_fRE, fd_fRU] : List FuncData).getD j fd_fAU) := ⟨M_fAU, M_fAE, M_fAN, M_fRN, M_fRE, M_fRU, G0, G1, G2, G3, G4, G5, B_fAN, B_fRN, B_fRE, B_fRU⟩
    have GAC := ok_ac F_fAC TX GWU m_fWU F_fWU.kp B_fWU GWE m_fWE F_fWE.kp B_fWE GWN m_fWN F_fWN.kp B_fWN GON m_fON F_fON.kp B_fON GOE m_fOE F_fOE.kp B_fOE GOU m_fOU F_fOU.kp B_fOU
    have TA : TxtA K mg cB cN := ⟨⟨_, g_Q⟩, g_cB, bare_cN, qcN⟩
    have GTE := ok_te (fun j h => TE.ex j h) F_fAD F_fAA TC n_len TA m_fAD F_fAD.kp B_fAD m_fAA F_fAA.kp B_fAA GAC m_fAC F_fAC.kp B_fAC 5 0 rfl
    have GAp := ok_appA F_fAp TY TE n_enumerate (linB_ok lin) e9 (ok_er9H F_fI9 (ok_atomH F_fC TC) m_fC F_fC.kp B_fC) B_fI9 GTk B_fTk GTE m_fAD F_fAD.kp B_fAD
    have GEq : FnOk P w K mg base CX0 1 gE fd_E ["self"] (spEqsV K CC CS) := ok_eqsV F_E TY TCt TP
    have GUs : FnOk P w K mg base CX0 1 gU fd_U ["self"] (spUnsV K CC CS) := ok_unsV F_U TY TCt
    have GEO : FnOk P w K mg base CX0 1 fEO fd_fEO ["contents"] (spEO K CC) := ok_eo F_fEO TCt TP
    have GEn : FnOk P w K mg base CX0 2 gN fd_N ["self"] (spEnV K CC CS) := ok_enV F_N TY GEO m_fEO F_fEO.kp B_fEO
    have GB : FnOk P w K mg base CX0 1 fB fd_fB ["_law_script"] (spBegin K) := ok_begin F_fB
    have GD : FnOk P w K mg base CX0 1 fD fd_fD ["_law_tape", "_law_many"] spDraw := ok_draw F_fD TB
    have GP : FnOk P w K mg base CX0 2 fP fd_fP ["_law_tape", "_law_items"] spPick := ok_pick F_fP TB GD m_fD F_fD.kp B_fD
    have GPS : FnOk P w K mg base CX0 2 fP fd_fP ["_law_tape", "_law_items"] spPickS := ok_pickS F_fP TB GD m_fD F_fD.kp B_fD
    have GNm : FnOk P w K mg base CX0 3 fNm fd_fNm ["_law_tape", "_law_many"] spNames := ok_names F_fNm TSh n_range GD m_fD F_fD.kp B_fD GP GPS m_fP F_fP.kp B_fP
    have GLN := ok_lname (P := P) (w := w) (base := base) F_fLN TN
    have GUl := ok_unl (P := P) (w := w) (K := K) (base := base) F_fUl TQ
    have GNw := ok_new F_fNw TQ GLN m_fLN F_fLN.kp B_fLN GUl m_fUl F_fUl.kp B_fUl
    have GLk := ok_lack (P := P) (w := w) (K := K) (base := base) F_fLk TN
    have GAd := ok_added F_fAd n_dict GNw m_fNw F_fNw.kp B_fNw GLk m_fLk F_fLk.kp B_fLk GUl m_fUl F_fUl.kp B_fUl
    have GEd := ok_edited F_fEd n_list n_dict GAd m_fAd F_fAd.kp B_fAd GLk m_fLk F_fLk.kp B_fLk
    have GTo := ok_told' (P := P) (w := w) (K := K) (base := base) F_fTo TP
    have GSt : FnQ P w K mg base CX0 4 fSt fd_fSt ["_law_system", "_law_plain"] (spStandsE K CC CS) := ok_standsE F_fSt TY n_repr PT GTo m_fTo F_fTo.kp B_fTo GEq B_E GUs B_U GEn B_N
    have GSh := ok_shuf F_fSh TSh GD m_fD F_fD.kp B_fD
    have GTr := ok_tried F_fTr ⟨n_isinstance, n_tuple, n_str, n_len⟩ m_fTr F_fTr.kp B_fTr GEd m_fEd F_fEd.kp B_fEd 5 0 rfl
    have GApd := ok_applied F_fApd ⟨n_range, n_len⟩ GTr m_fTr F_fTr.kp B_fTr
    have GLA := ok_lapply F_fLA TY n_len n_list M_fAp GAp
    have GDr := ok_drawn F_fDr GD m_fD F_fD.kp B_fD GP m_fP F_fP.kp B_fP GNm m_fNm F_fNm.kp B_fNm GSh m_fSh F_fSh.kp B_fSh
    have GBu := ok_built (TT := [(TbfL, qLam "law")]) F_fBu TY n_list MS GSh m_fSh F_fSh.kp B_fSh
    have GNe := ok_nested F_fNe ⟨n_range, n_tuple⟩ GD m_fD F_fD.kp B_fD GP m_fP F_fP.kp B_fP
    exact ok_law (Hy.funC_of F_L) TBfL rfl List.mem_cons_self hUfL TY TE ⟨n_len, n_range, n_min, n_repr⟩ GSI B_fSI GB m_fB F_fB.kp B_fB GNm m_fNm F_fNm.kp B_fNm GD m_fD F_fD.kp B_fD GP m_fP F_fP.kp B_fP F_fE m_fE B_fE GDr m_fDr F_fDr.kp B_fDr GBu m_fBu F_fBu.kp B_fBu GNe m_fNe F_fNe.kp B_fNe GApd m_fApd F_fApd.kp B_fApd GLA m_fLA F_fLA.kp B_fLA M_fAp GAp GSt m_fSt F_fSt.kp B_fSt P_U GUs B_U
end Bo
set_option Elab.async false
set_option linter.all false
set_option maxRecDepth 100000
set_option maxHeartbeats 0
namespace HdX
open PySem PySem.Spec PyProof.Rows L2 Bo
abbrev R : PySem.W.OpenRow := PySem.W.OpenLaw.row PySem.Challenge.rw_blockorder_k42_whole_attempts
def names0 : List PySem.Str := ["_wall",
  "__name__",
  "copied",
  "BlockorderError",
  "InvalidName",
  "DuplicateItem",
  "UnknownItem",
  "DuplicateEntry",
  "UnknownEntry",
  "TooLarge",
  "NoTransaction",
  "OpenTransaction",
  "NothingToUndo",
  "EditFailed",
  "InvalidText",
  "InvalidNumber",
  "LETTERS",
  "DIGITS",
  "LONGEST_NAME",
  "PERCENT",
  "BOUND",
  "is_name",
  "is_integer",
  "is_text",
  "is_constant",
  "is_coefficient",
  "MOST",
  "Contents",
  "contents_of",
  "entries_of"]
def names1 : List PySem.Str := ["with_unknowns",
  "with_equation",
  "with_row",
  "with_terms",
  "with_entry",
  "without_entry",
  "without_equation",
  "without_unknown",
  "with_coefficient",
  "with_constant",
  "check_equation",
  "check_unknowns",
  "check_ends",
  "check_entry",
  "replaced",
  "removed",
  "MOST_AROUND",
  "NoEdit",
  "after_edit",
  "after_attempt",
  "after_call",
  "after_numbers",
  "written_lines",
  "linear_words",
  "contents_read",
  "with_line",
  "number_read",
  "System",
  "_law_begin",
  "_law_draw"]
def names2 : List PySem.Str := ["_law_pick",
  "_law_names",
  "_law_is_name",
  "_law_error",
  "_law_unlike",
  "_law_new",
  "_law_lacking",
  "_law_added",
  "_law_edited",
  "_law_told",
  "_law_stands",
  "_law_shuffled",
  "_law_drawn",
  "_law_built",
  "_law_tried",
  "_law_applied",
  "_law_apply",
  "_law_nested"]
def names : List PySem.Str := names0 ++ (names1 ++ (names2))
def ds0 : List Hy.DefP := [⟨fun K => (He.ga K "copied"), "copied", "copied", sCopied⟩,
  ⟨fun K => (He.ga K "is_name"), "is_name", "is_name", sIsName⟩,
  ⟨fun K => (He.ga K "with_unknowns"), "with_unknowns", "with_unknowns", sWU⟩,
  ⟨fun K => (He.ga K "check_unknowns"), "check_unknowns", "check_unknowns", sCU⟩,
  ⟨fun K => (He.ga K "replaced"), "replaced", "replaced", sReplaced⟩,
  ⟨fun K => (He.ga K "removed"), "removed", "removed", sRem⟩,
  ⟨fun K => (He.ga K "with_terms"), "with_terms", "with_terms", sWT⟩,
  ⟨fun K => (He.ga K "with_equation"), "with_equation", "with_equation", sWE⟩,
  ⟨fun K => (He.ga K "with_entry"), "with_entry", "with_entry", sWEn⟩,
  ⟨fun K => (He.ga K "without_entry"), "without_entry", "without_entry", sWoEn⟩,
  ⟨fun K => (He.ga K "without_equation"), "without_equation", "without_equation", sWoE⟩,
  ⟨fun K => (He.ga K "without_unknown"), "without_unknown", "without_unknown", sWoU⟩,
  ⟨fun K => (He.ga K "check_equation"), "check_equation", "check_equation", sCE⟩,
  ⟨fun K => (He.ga K "check_ends"), "check_ends", "check_ends", sCEnds⟩,
  ⟨fun K => (He.ga K "check_entry"), "check_entry", "check_entry", sCEntry⟩,
  ⟨fun K => (He.ga K "entries_of"), "entries_of", "entries_of", sEO⟩,
  ⟨fun K => (He.ga K "after_call"), "after_call", "after_call", sAC⟩,
  ⟨fun K => (He.ga K "after_edit"), "after_edit", "after_edit", sAEd⟩,
  ⟨fun K => (He.ga K "_law_begin"), "_law_begin", "_law_begin", sBegin⟩,
  ⟨fun K => (He.ga K "_law_draw"), "_law_draw", "_law_draw", sDraw⟩,
  ⟨fun K => (He.ga K "_law_pick"), "_law_pick", "_law_pick", sPick⟩,
  ⟨fun K => (He.ga K "_law_names"), "_law_names", "_law_names", sNames⟩,
  ⟨fun K => (He.ga K "_law_is_name"), "_law_is_name", "_law_is_name", sLName⟩,
  ⟨fun K => (He.ga K "_law_error"), "_law_error", "_law_error", sErr⟩,
  ⟨fun K => (He.ga K "_law_unlike"), "_law_unlike", "_law_unlike", sUnl⟩,
  ⟨fun K => (He.ga K "_law_new"), "_law_new", "_law_new", sNew⟩,
  ⟨fun K => (He.ga K "_law_added"), "_law_added", "_law_added", sAdded⟩,
  ⟨fun K => (He.ga K "_law_edited"), "_law_edited", "_law_edited", sEdited⟩,
  ⟨fun K => (He.ga K "_law_lacking"), "_law_lacking", "_law_lacking", sLack⟩,
  ⟨fun K => (He.ga K "_law_told"), "_law_told", "_law_told", sTold⟩]
def ds1 : List Hy.DefP := [⟨fun K => (He.ga K "_law_stands"), "_law_stands", "_law_stands", sStands⟩,
  ⟨fun K => (He.ga K "_law_shuffled"), "_law_shuffled", "_law_shuffled", sShuf⟩,
  ⟨fun K => (He.ga K "after_attempt"), "after_attempt", "after_attempt", sAA⟩,
  ⟨fun K => (He.ga K "_law_tried"), "_law_tried", "_law_tried", sTried⟩,
  ⟨fun K => (He.ga K "_law_applied"), "_law_applied", "_law_applied", sApplied⟩,
  ⟨fun K => (He.ga K "_law_apply"), "_law_apply", "_law_apply", sLApply⟩,
  ⟨fun K => (He.ga K "_law_drawn"), "_law_drawn", "_law_drawn", sDrawn⟩,
  ⟨fun K => (He.ga K "_law_built"), "_law_built", "_law_built", sBuilt⟩,
  ⟨fun K => (He.ga K "_law_nested"), "_law_nested", "_law_nested", sNested⟩,
  ⟨fun K => (He.ma K (He.ga K "InvalidName") "__init__"), "__init__", "InvalidName.__init__", sEr0⟩,
  ⟨fun K => (He.ma K (He.ga K "DuplicateItem") "__init__"), "__init__", "DuplicateItem.__init__", sEr1⟩,
  ⟨fun K => (He.ma K (He.ga K "UnknownItem") "__init__"), "__init__", "UnknownItem.__init__", sEr2⟩,
  ⟨fun K => (He.ma K (He.ga K "DuplicateEntry") "__init__"), "__init__", "DuplicateEntry.__init__", sEr3⟩,
  ⟨fun K => (He.ma K (He.ga K "UnknownEntry") "__init__"), "__init__", "UnknownEntry.__init__", sEr4⟩,
  ⟨fun K => (He.ma K (He.ga K "TooLarge") "__init__"), "__init__", "TooLarge.__init__", sEr5⟩,
  ⟨fun K => (He.ma K (He.ga K "EditFailed") "__init__"), "__init__", "EditFailed.__init__", sEr9⟩,
  ⟨fun K => (He.ma K (He.ga K "InvalidText") "__init__"), "__init__", "InvalidText.__init__", sEr10⟩,
  ⟨fun K => (He.ma K (He.ga K "Contents") "__init__"), "__init__", "Contents.__init__", sCtInit⟩,
  ⟨fun K => (He.ma K (He.ga K "System") "__init__"), "__init__", "System.__init__", sSInit⟩,
  ⟨fun K => (He.ma K (He.ga K "System") "_take"), "_take", "System._take", sTake⟩,
  ⟨fun K => (He.ma K (He.ga K "System") "add_unknown"), "add_unknown", "System.add_unknown", sAU⟩,
  ⟨fun K => (He.ma K (He.ga K "System") "add_equation"), "add_equation", "System.add_equation", sAE⟩,
  ⟨fun K => (He.ma K (He.ga K "System") "add_entry"), "add_entry", "System.add_entry", sAEnX⟩,
  ⟨fun K => (He.ma K (He.ga K "System") "remove_entry"), "remove_entry", "System.remove_entry", sREn⟩,
  ⟨fun K => (He.ma K (He.ga K "System") "remove_equation"), "remove_equation", "System.remove_equation", sREq⟩,
  ⟨fun K => (He.ma K (He.ga K "System") "remove_unknown"), "remove_unknown", "System.remove_unknown", sRUn⟩,
  ⟨fun K => (He.ma K (He.ga K "System") "apply"), "apply", "System.apply", sApply⟩,
  ⟨fun K => (Hy.pa K (He.ma K (He.ga K "System") "equations")), "equations", "System.equations", sEqs⟩,
  ⟨fun K => (Hy.pa K (He.ma K (He.ga K "System") "unknowns")), "unknowns", "System.unknowns", sUns⟩,
  ⟨fun K => (Hy.pa K (He.ma K (He.ga K "System") "entries")), "entries", "System.entries", sEns⟩]
def ds2 : List Hy.DefP := [⟨fun K => (He.ga K "law"), "law", "law", sLaw⟩]
def ds : List Hy.DefP := ds0 ++ (ds1 ++ (ds2))
def ex0 : List (PySem.W.Frag → Bool) := [fun K => decide (PySem.W.nsIn K mainGlobals "BlockorderError" = some (some (.ref (He.ga K "BlockorderError")))),
  fun K => decide (PySem.W.nsIn K mainGlobals "InvalidName" = some (some (.ref (He.ga K "InvalidName")))),
  fun K => decide (PySem.W.nsIn K mainGlobals "DuplicateItem" = some (some (.ref (He.ga K "DuplicateItem")))),
  fun K => decide (PySem.W.nsIn K mainGlobals "UnknownItem" = some (some (.ref (He.ga K "UnknownItem")))),
  fun K => decide (PySem.W.nsIn K mainGlobals "DuplicateEntry" = some (some (.ref (He.ga K "DuplicateEntry")))),
  fun K => decide (PySem.W.nsIn K mainGlobals "UnknownEntry" = some (some (.ref (He.ga K "UnknownEntry")))),
  fun K => decide (PySem.W.nsIn K mainGlobals "TooLarge" = some (some (.ref (He.ga K "TooLarge")))),
  fun K => decide (PySem.W.nsIn K mainGlobals "NoTransaction" = some (some (.ref (He.ga K "NoTransaction")))),
  fun K => decide (PySem.W.nsIn K mainGlobals "OpenTransaction" = some (some (.ref (He.ga K "OpenTransaction")))),
  fun K => decide (PySem.W.nsIn K mainGlobals "NothingToUndo" = some (some (.ref (He.ga K "NothingToUndo")))),
  fun K => decide (PySem.W.nsIn K mainGlobals "EditFailed" = some (some (.ref (He.ga K "EditFailed")))),
  fun K => decide (PySem.W.nsIn K mainGlobals "InvalidText" = some (some (.ref (He.ga K "InvalidText")))),
  fun K => decide (PySem.W.nsIn K mainGlobals "Contents" = some (some (.ref (He.ga K "Contents")))),
  fun K => decide (PySem.W.nsIn K mainGlobals "System" = some (some (.ref (He.ga K "System")))),
  fun K => decide (PySem.W.nsIn K mainGlobals "NoEdit" = some (some (.ref (He.ga K "NoEdit")))),
  fun K => decide (PySem.W.nsIn K mainGlobals "copied" = some (some (.ref (He.ga K "copied")))),
  fun K => decide (PySem.W.nsIn K mainGlobals "is_name" = some (some (.ref (He.ga K "is_name")))),
  fun K => decide (PySem.W.nsIn K mainGlobals "with_unknowns" = some (some (.ref (He.ga K "with_unknowns")))),
  fun K => decide (PySem.W.nsIn K mainGlobals "check_unknowns" = some (some (.ref (He.ga K "check_unknowns")))),
  fun K => decide (PySem.W.nsIn K mainGlobals "replaced" = some (some (.ref (He.ga K "replaced")))),
  fun K => decide (PySem.W.nsIn K mainGlobals "removed" = some (some (.ref (He.ga K "removed")))),
  fun K => decide (PySem.W.nsIn K mainGlobals "with_terms" = some (some (.ref (He.ga K "with_terms")))),
  fun K => decide (PySem.W.nsIn K mainGlobals "with_equation" = some (some (.ref (He.ga K "with_equation")))),
  fun K => decide (PySem.W.nsIn K mainGlobals "with_entry" = some (some (.ref (He.ga K "with_entry")))),
  fun K => decide (PySem.W.nsIn K mainGlobals "without_entry" = some (some (.ref (He.ga K "without_entry")))),
  fun K => decide (PySem.W.nsIn K mainGlobals "without_equation" = some (some (.ref (He.ga K "without_equation")))),
  fun K => decide (PySem.W.nsIn K mainGlobals "without_unknown" = some (some (.ref (He.ga K "without_unknown")))),
  fun K => decide (PySem.W.nsIn K mainGlobals "check_equation" = some (some (.ref (He.ga K "check_equation")))),
  fun K => decide (PySem.W.nsIn K mainGlobals "check_ends" = some (some (.ref (He.ga K "check_ends")))),
  fun K => decide (PySem.W.nsIn K mainGlobals "check_entry" = some (some (.ref (He.ga K "check_entry"))))]
def ex1 : List (PySem.W.Frag → Bool) := [fun K => decide (PySem.W.nsIn K mainGlobals "entries_of" = some (some (.ref (He.ga K "entries_of")))),
  fun K => decide (PySem.W.nsIn K mainGlobals "after_call" = some (some (.ref (He.ga K "after_call")))),
  fun K => decide (PySem.W.nsIn K mainGlobals "after_edit" = some (some (.ref (He.ga K "after_edit")))),
  fun K => decide (PySem.W.nsIn K mainGlobals "_law_begin" = some (some (.ref (He.ga K "_law_begin")))),
  fun K => decide (PySem.W.nsIn K mainGlobals "_law_draw" = some (some (.ref (He.ga K "_law_draw")))),
  fun K => decide (PySem.W.nsIn K mainGlobals "_law_pick" = some (some (.ref (He.ga K "_law_pick")))),
  fun K => decide (PySem.W.nsIn K mainGlobals "_law_names" = some (some (.ref (He.ga K "_law_names")))),
  fun K => decide (PySem.W.nsIn K mainGlobals "_law_is_name" = some (some (.ref (He.ga K "_law_is_name")))),
  fun K => decide (PySem.W.nsIn K mainGlobals "_law_error" = some (some (.ref (He.ga K "_law_error")))),
  fun K => decide (PySem.W.nsIn K mainGlobals "_law_unlike" = some (some (.ref (He.ga K "_law_unlike")))),
  fun K => decide (PySem.W.nsIn K mainGlobals "_law_new" = some (some (.ref (He.ga K "_law_new")))),
  fun K => decide (PySem.W.nsIn K mainGlobals "_law_added" = some (some (.ref (He.ga K "_law_added")))),
  fun K => decide (PySem.W.nsIn K mainGlobals "_law_edited" = some (some (.ref (He.ga K "_law_edited")))),
  fun K => decide (PySem.W.nsIn K mainGlobals "_law_lacking" = some (some (.ref (He.ga K "_law_lacking")))),
  fun K => decide (PySem.W.nsIn K mainGlobals "_law_told" = some (some (.ref (He.ga K "_law_told")))),
  fun K => decide (PySem.W.nsIn K mainGlobals "_law_stands" = some (some (.ref (He.ga K "_law_stands")))),
  fun K => decide (PySem.W.nsIn K mainGlobals "_law_shuffled" = some (some (.ref (He.ga K "_law_shuffled")))),
  fun K => decide (PySem.W.nsIn K mainGlobals "after_attempt" = some (some (.ref (He.ga K "after_attempt")))),
  fun K => decide (PySem.W.nsIn K mainGlobals "_law_tried" = some (some (.ref (He.ga K "_law_tried")))),
  fun K => decide (PySem.W.nsIn K mainGlobals "_law_applied" = some (some (.ref (He.ga K "_law_applied")))),
  fun K => decide (PySem.W.nsIn K mainGlobals "_law_apply" = some (some (.ref (He.ga K "_law_apply")))),
  fun K => decide (PySem.W.nsIn K mainGlobals "_law_drawn" = some (some (.ref (He.ga K "_law_drawn")))),
  fun K => decide (PySem.W.nsIn K mainGlobals "_law_built" = some (some (.ref (He.ga K "_law_built")))),
  fun K => decide (PySem.W.nsIn K mainGlobals "_law_nested" = some (some (.ref (He.ga K "_law_nested")))),
  fun K => decide (PySem.W.nsIn K mainGlobals "law" = some (some (.ref (He.ga K "law")))),
  fun K => decide (PySem.W.findIn K (.ref (He.ga K "InvalidName")) "__init__" = some (some (.ref (He.ma K (He.ga K "InvalidName") "__init__")))),
  fun K => decide (PySem.W.findIn K (.ref (He.ga K "DuplicateItem")) "__init__" = some (some (.ref (He.ma K (He.ga K "DuplicateItem") "__init__")))),
  fun K => decide (PySem.W.findIn K (.ref (He.ga K "UnknownItem")) "__init__" = some (some (.ref (He.ma K (He.ga K "UnknownItem") "__init__")))),
  fun K => decide (PySem.W.findIn K (.ref (He.ga K "DuplicateEntry")) "__init__" = some (some (.ref (He.ma K (He.ga K "DuplicateEntry") "__init__")))),
  fun K => decide (PySem.W.findIn K (.ref (He.ga K "UnknownEntry")) "__init__" = some (some (.ref (He.ma K (He.ga K "UnknownEntry") "__init__"))))]
def ex2 : List (PySem.W.Frag → Bool) := [fun K => decide (PySem.W.findIn K (.ref (He.ga K "TooLarge")) "__init__" = some (some (.ref (He.ma K (He.ga K "TooLarge") "__init__")))),
  fun K => decide (PySem.W.findIn K (.ref (He.ga K "EditFailed")) "__init__" = some (some (.ref (He.ma K (He.ga K "EditFailed") "__init__")))),
  fun K => decide (PySem.W.findIn K (.ref (He.ga K "InvalidText")) "__init__" = some (some (.ref (He.ma K (He.ga K "InvalidText") "__init__")))),
  fun K => decide (PySem.W.findIn K (.ref (He.ga K "Contents")) "__init__" = some (some (.ref (He.ma K (He.ga K "Contents") "__init__")))),
  fun K => decide (PySem.W.findIn K (.ref (He.ga K "System")) "__init__" = some (some (.ref (He.ma K (He.ga K "System") "__init__")))),
  fun K => decide (PySem.W.findIn K (.ref (He.ga K "System")) "_take" = some (some (.ref (He.ma K (He.ga K "System") "_take")))),
  fun K => decide (PySem.W.findIn K (.ref (He.ga K "System")) "add_unknown" = some (some (.ref (He.ma K (He.ga K "System") "add_unknown")))),
  fun K => decide (PySem.W.findIn K (.ref (He.ga K "System")) "add_equation" = some (some (.ref (He.ma K (He.ga K "System") "add_equation")))),
  fun K => decide (PySem.W.findIn K (.ref (He.ga K "System")) "add_entry" = some (some (.ref (He.ma K (He.ga K "System") "add_entry")))),
  fun K => decide (PySem.W.findIn K (.ref (He.ga K "System")) "remove_entry" = some (some (.ref (He.ma K (He.ga K "System") "remove_entry")))),
  fun K => decide (PySem.W.findIn K (.ref (He.ga K "System")) "remove_equation" = some (some (.ref (He.ma K (He.ga K "System") "remove_equation")))),
  fun K => decide (PySem.W.findIn K (.ref (He.ga K "System")) "remove_unknown" = some (some (.ref (He.ma K (He.ga K "System") "remove_unknown")))),
  fun K => decide (PySem.W.findIn K (.ref (He.ga K "System")) "apply" = some (some (.ref (He.ma K (He.ga K "System") "apply")))),
  fun K => decide (PySem.W.findIn K (.ref (He.ga K "System")) "equations" = some (some (.ref (He.ma K (He.ga K "System") "equations")))),
  fun K => Hy.paB K (He.ma K (He.ga K "System") "equations"),
  fun K => decide (PySem.W.specialIn K (.ref (He.ma K (He.ga K "System") "equations")) "__get__" = some (some (.builtin "property.__get__"))),
  fun K => decide (PySem.W.takesIn K (.ref (He.ma K (He.ga K "System") "equations")) = some true),
  fun K => decide (PySem.W.findIn K (.ref (He.ga K "System")) "unknowns" = some (some (.ref (He.ma K (He.ga K "System") "unknowns")))),
  fun K => Hy.paB K (He.ma K (He.ga K "System") "unknowns"),
  fun K => decide (PySem.W.specialIn K (.ref (He.ma K (He.ga K "System") "unknowns")) "__get__" = some (some (.builtin "property.__get__"))),
  fun K => decide (PySem.W.takesIn K (.ref (He.ma K (He.ga K "System") "unknowns")) = some true),
  fun K => decide (PySem.W.findIn K (.ref (He.ga K "System")) "entries" = some (some (.ref (He.ma K (He.ga K "System") "entries")))),
  fun K => Hy.paB K (He.ma K (He.ga K "System") "entries"),
  fun K => decide (PySem.W.specialIn K (.ref (He.ma K (He.ga K "System") "entries")) "__get__" = some (some (.builtin "property.__get__"))),
  fun K => decide (PySem.W.takesIn K (.ref (He.ma K (He.ga K "System") "entries")) = some true),
  fun K => uqB [((He.tabOf K (Hy.cOf K (He.ga K "law"))), qLam "law")],
  fun K => PySem.W.plainGet K (He.ga K "Contents") Str.empty,
  fun K => PySem.W.hasDictIn K (He.ga K "Contents"),
  fun K => PySem.W.plainOver K (He.ga K "Contents"),
  fun K => decide (PySem.W.findIn K (.ref (He.ga K "Contents")) "__setattr__" = some (some (.builtin "object.__setattr__")))]
def ex3 : List (PySem.W.Frag → Bool) := [fun K => PySem.W.makesIn K (He.ga K "Contents"),
  fun K => PySem.W.keepIn K (.ref (He.ga K "Contents")),
  fun K => PySem.W.plainGet K (He.ga K "System") Str.empty,
  fun K => PySem.W.hasDictIn K (He.ga K "System"),
  fun K => PySem.W.plainOver K (He.ga K "System"),
  fun K => decide (PySem.W.findIn K (.ref (He.ga K "System")) "__setattr__" = some (some (.builtin "object.__setattr__"))),
  fun K => PySem.W.makesIn K (He.ga K "System"),
  fun K => PySem.W.keepIn K (.ref (He.ga K "System")),
  fun K => decide (PySem.W.findIn K (.ref (He.ga K "Contents")) "columns" = some none),
  fun K => decide (PySem.W.findIn K (.ref (He.ga K "Contents")) "rows" = some none),
  fun K => decide (PySem.W.findIn K (.ref (He.ga K "Contents")) "constants" = some none),
  fun K => decide (PySem.W.findIn K (.ref (He.ga K "System")) "_contents" = some none),
  fun K => decide (PySem.W.findIn K (.ref (He.ga K "System")) "_begun" = some none),
  fun K => decide (PySem.W.findIn K (.ref (He.ga K "System")) "_history" = some none),
  fun K => PySem.W.isFn K (.ref (He.ma K (He.ga K "Contents") "__init__")),
  fun K => PySem.W.isFn K (.ref (He.ma K (He.ga K "System") "__init__")),
  fun K => PySem.W.isFn K (.ref (He.ma K (He.ga K "System") "_take")),
  fun K => PySem.W.isFn K (.ref (He.ma K (He.ga K "System") "add_unknown")),
  fun K => PySem.W.isFn K (.ref (He.ma K (He.ga K "System") "add_equation")),
  fun K => PySem.W.isFn K (.ref (He.ma K (He.ga K "System") "add_entry")),
  fun K => PySem.W.isFn K (.ref (He.ma K (He.ga K "System") "remove_entry")),
  fun K => PySem.W.isFn K (.ref (He.ma K (He.ga K "System") "remove_equation")),
  fun K => PySem.W.isFn K (.ref (He.ma K (He.ga K "System") "remove_unknown")),
  fun K => PySem.W.isFn K (.ref (He.ma K (He.ga K "System") "apply")),
  fun K => decide (PySem.W.typeIn K (.ref (He.ma K (He.ga K "InvalidName") "__init__")) = some (.type "function")),
  fun K => decide (PySem.W.typeIn K (.ref (He.ma K (He.ga K "DuplicateItem") "__init__")) = some (.type "function")),
  fun K => decide (PySem.W.typeIn K (.ref (He.ma K (He.ga K "UnknownItem") "__init__")) = some (.type "function")),
  fun K => decide (PySem.W.typeIn K (.ref (He.ma K (He.ga K "DuplicateEntry") "__init__")) = some (.type "function")),
  fun K => decide (PySem.W.typeIn K (.ref (He.ma K (He.ga K "UnknownEntry") "__init__")) = some (.type "function")),
  fun K => decide (PySem.W.typeIn K (.ref (He.ma K (He.ga K "TooLarge") "__init__")) = some (.type "function"))]
def ex4 : List (PySem.W.Frag → Bool) := [fun K => decide (PySem.W.typeIn K (.ref (He.ma K (He.ga K "EditFailed") "__init__")) = some (.type "function")),
  fun K => decide (PySem.W.typeIn K (.ref (He.ma K (He.ga K "InvalidText") "__init__")) = some (.type "function")),
  fun K => errsB K (He.ga K "BlockorderError") [(He.ga K "InvalidName"), (He.ga K "DuplicateItem"), (He.ga K "UnknownItem"), (He.ga K "DuplicateEntry"), (He.ga K "UnknownEntry"), (He.ga K "TooLarge"), (He.ga K "NoTransaction"), (He.ga K "OpenTransaction"), (He.ga K "NothingToUndo"), (He.ga K "EditFailed"), (He.ga K "InvalidText")],
  fun K => kitsB K [(He.ga K "InvalidName"), (He.ga K "DuplicateItem"), (He.ga K "UnknownItem"), (He.ga K "DuplicateEntry"), (He.ga K "UnknownEntry"), (He.ga K "TooLarge"), (He.ga K "NoTransaction"), (He.ga K "OpenTransaction"), (He.ga K "NothingToUndo"), (He.ga K "EditFailed"), (He.ga K "InvalidText")],
  fun K => Hy.oexB K (He.ga K "InvalidName"),
  fun K => Hy.oexB K (He.ga K "DuplicateItem"),
  fun K => Hy.oexB K (He.ga K "UnknownItem"),
  fun K => Hy.oexB K (He.ga K "DuplicateEntry"),
  fun K => Hy.oexB K (He.ga K "UnknownEntry"),
  fun K => Hy.oexB K (He.ga K "TooLarge"),
  fun K => Hy.oexB K (He.ga K "EditFailed"),
  fun K => Hy.oexB K (He.ga K "InvalidText"),
  fun K => PySem.W.excIn K (He.ga K "NoEdit") [.type "ValueError", .type "Exception", .type "BaseException", .type "object"] "ValueError.__new__",
  fun K => errB K (He.ga K "NoEdit"),
  fun K => decide (PySem.W.exmOne K (.ref (He.ga K "NoEdit")) (.ref (He.ga K "BlockorderError")) = some true),
  fun K => Hy.strB K "LETTERS" Bo.lets,
  fun K => Hy.strB K "DIGITS" Bo.digs,
  fun K => Hy.intB K "LONGEST_NAME" 8,
  fun K => Hy.intB K "MOST" 24,
  fun K => Hy.intB K "MOST_AROUND" 4,
  fun K => linB K (He.ga K "System"),
  fun K => decide (PySem.W.nsIn K mainGlobals "isinstance" = some none),
  fun K => decide (PySem.W.nsIn K mainGlobals "tuple" = some none),
  fun K => decide (PySem.W.nsIn K mainGlobals "list" = some none),
  fun K => decide (PySem.W.nsIn K mainGlobals "dict" = some none),
  fun K => decide (PySem.W.nsIn K mainGlobals "len" = some none),
  fun K => decide (PySem.W.nsIn K mainGlobals "str" = some none),
  fun K => decide (PySem.W.nsIn K mainGlobals "all" = some none),
  fun K => decide (PySem.W.nsIn K mainGlobals "set" = some none),
  fun K => decide (PySem.W.nsIn K mainGlobals "sorted" = some none)]
def ex5 : List (PySem.W.Frag → Bool) := [fun K => decide (PySem.W.nsIn K mainGlobals "enumerate" = some none),
  fun K => decide (PySem.W.nsIn K mainGlobals "range" = some none),
  fun K => decide (PySem.W.nsIn K mainGlobals "repr" = some none),
  fun K => decide (PySem.W.nsIn K mainGlobals "ValueError" = some none),
  fun K => decide (PySem.W.nsIn K mainGlobals "min" = some none)]
def ex : List (PySem.W.Frag → Bool) := ex0 ++ (ex1 ++ (ex2 ++ (ex3 ++ (ex4 ++ (ex5)))))
def ts : List PySem.Str := ["law"]
abbrev hk : PySem.W.Hook := Hy.hookY 6 ds ex ts
def ob (s : PySem.W.SharedT) : Hy.AlY := Hy.obsY 6 ds ex ts (HandSHeadRun.getT s)
theorem ob_eq (s : PySem.W.SharedT) : ob s = hk.obs s.abs := Hy.obsY_eq (HandSHeadRun.getT_eq s)
theorem run (w : World) : HandSHeadRun.RunEq R (PySem.W.view R.prog [85]) hk ob 40000 names w := by
  intro os
  kernel_rfl
end HdX
open PySem PySem.W PySem.Calls PyProof.Rows
theorem PySem.Challenge.cw_blockorder_k42_whole_attempts_holds : PySem.Challenge.rw_blockorder_k42_whole_attempts.Holds := by
  w_on; o_law
  refine HandSHeadRun.head_any (r := OpenLaw.row PySem.Challenge.rw_blockorder_k42_whole_attempts) (q := view (OpenLaw.row PySem.Challenge.rw_blockorder_k42_whole_attempts).prog [85]) (H := HdX.hk) (ob := HdX.ob) (M := 40000) (loose := HdX.names) (d := HandSHeadRun.topDef (OpenLaw.row PySem.Challenge.rw_blockorder_k42_whole_attempts).prog 85) (kwd := []) HdX.ob_eq
    (by kernel_rfl) (fun s => by kernel_rfl) HdX.run (by kernel_rfl) (by kernel_rfl) (by kernel_rfl) (by rfl) (by first | assumption | decide +kernel) (by decide +kernel) ⟨rfl, rfl, rfl, rfl, rfl, by decide +kernel⟩ ?hw ?hc
  case hw => w_witness2
  case hc =>
    refine Hy.walkTQE (l := PySem.Challenge.rw_blockorder_k42_whole_attempts) (n := 63) (k := 28) (x := "_law_script") rfl (by decide) (by kernel_rfl) ⟨rfl, by decide, by decide⟩ ?F
    intro w mg fa h Y G hmg0
    obtain ⟨K, KX, c⟩ := Y
    have hmg : mg ("law" : PySem.Str) = some (.ref fa) := by
      have e : (HandSHeadRun.topDef (OpenLaw.row PySem.Challenge.rw_blockorder_k42_whole_attempts).prog 85).name = ("law" : PySem.Str) := by kernel_rfl
      rw [← e]
      exact hmg0
    refine' (fun ⟨fd, T, sp, h1, h2, h3, h4⟩ => ⟨K, fd, T, sp, KX, h1, h2, h3, h4⟩) (Bo.all_mk (P := PySem.Challenge.rw_blockorder_k42_whole_attempts.prog) (w := w) (K := K) KX G hmg (cB := (He.ga K "BlockorderError")) (c0 := (He.ga K "InvalidName")) (c1 := (He.ga K "DuplicateItem")) (c2 := (He.ga K "UnknownItem")) (c3 := (He.ga K "DuplicateEntry")) (c4 := (He.ga K "UnknownEntry")) (c5 := (He.ga K "TooLarge")) (c6 := (He.ga K "NoTransaction")) (c7 := (He.ga K "OpenTransaction")) (c8 := (He.ga K "NothingToUndo")) (c9 := (He.ga K "EditFailed")) (c10 := (He.ga K "InvalidText")) (CC := (He.ga K "Contents")) (CS := (He.ga K "System")) (cN := (He.ga K "NoEdit")) (fC := (He.ga K "copied")) (fN := (He.ga K "is_name")) (fWU := (He.ga K "with_unknowns")) (fCU := (He.ga K "check_unknowns")) (fR := (He.ga K "replaced")) (fM := (He.ga K "removed")) (fWT := (He.ga K "with_terms")) (fWE := (He.ga K "with_equation")) (fWN := (He.ga K "with_entry")) (fON := (He.ga K "without_entry")) (fOE := (He.ga K "without_equation")) (fOU := (He.ga K "without_unknown")) (fCE := (He.ga K "check_equation")) (fCn := (He.ga K "check_ends")) (fCy := (He.ga K "check_entry")) (fEO := (He.ga K "entries_of")) (fAC := (He.ga K "after_call")) (fAD := (He.ga K "after_edit")) (fB := (He.ga K "_law_begin")) (fD := (He.ga K "_law_draw")) (fP := (He.ga K "_law_pick")) (fNm := (He.ga K "_law_names")) (fLN := (He.ga K "_law_is_name")) (fE := (He.ga K "_law_error")) (fUl := (He.ga K "_law_unlike")) (fNw := (He.ga K "_law_new")) (fAd := (He.ga K "_law_added")) (fEd := (He.ga K "_law_edited")) (fLk := (He.ga K "_law_lacking")) (fTo := (He.ga K "_law_told")) (fSt := (He.ga K "_law_stands")) (fSh := (He.ga K "_law_shuffled")) (fAA := (He.ga K "after_attempt")) (fTr := (He.ga K "_law_tried")) (fApd := (He.ga K "_law_applied")) (fLA := (He.ga K "_law_apply")) (fDr := (He.ga K "_law_drawn")) (fBu := (He.ga K "_law_built")) (fNe := (He.ga K "_law_nested")) (fL := (He.ga K "law")) (fI0 := (He.ma K (He.ga K "InvalidName") "__init__")) (fI1 := (He.ma K (He.ga K "DuplicateItem") "__init__")) (fI2 := (He.ma K (He.ga K "UnknownItem") "__init__")) (fI3 := (He.ma K (He.ga K "DuplicateEntry") "__init__")) (fI4 := (He.ma K (He.ga K "UnknownEntry") "__init__")) (fI5 := (He.ma K (He.ga K "TooLarge") "__init__")) (fI9 := (He.ma K (He.ga K "EditFailed") "__init__")) (fI10 := (He.ma K (He.ga K "InvalidText") "__init__")) (fCI := (He.ma K (He.ga K "Contents") "__init__")) (fSI := (He.ma K (He.ga K "System") "__init__")) (fTk := (He.ma K (He.ga K "System") "_take")) (fAU := (He.ma K (He.ga K "System") "add_unknown")) (fAE := (He.ma K (He.ga K "System") "add_equation")) (fAN := (He.ma K (He.ga K "System") "add_entry")) (fRN := (He.ma K (He.ga K "System") "remove_entry")) (fRE := (He.ma K (He.ga K "System") "remove_equation")) (fRU := (He.ma K (He.ga K "System") "remove_unknown")) (fAp := (He.ma K (He.ga K "System") "apply")) (pE := (He.ma K (He.ga K "System") "equations")) (pU := (He.ma K (He.ga K "System") "unknowns")) (pN := (He.ma K (He.ga K "System") "entries")) (gE := (Hy.pa K (He.ma K (He.ga K "System") "equations"))) (gU := (Hy.pa K (He.ma K (He.ga K "System") "unknowns"))) (gN := (Hy.pa K (He.ma K (He.ga K "System") "entries"))) (TbfL := (He.tabOf K (Hy.cOf K (He.ga K "law")))) (c.empty "law" List.mem_cons_self) ?acB ?ac0 ?ac1 ?ac2 ?ac3 ?ac4 ?ac5 ?ac6 ?ac7 ?ac8 ?ac9 ?ac10 ?aCC ?aCS ?acN ?bfC ?bfN ?bfWU ?bfCU ?bfR ?bfM ?bfWT ?bfWE ?bfWN ?bfON ?bfOE ?bfOU ?bfCE ?bfCn ?bfCy ?bfEO ?bfAC ?bfAD ?bfB ?bfD ?bfP ?bfNm ?bfLN ?bfE ?bfUl ?bfNw ?bfAd ?bfEd ?bfLk ?bfTo ?bfSt ?bfSh ?bfAA ?bfTr ?bfApd ?bfLA ?bfDr ?bfBu ?bfNe ?bfL ?dfI0 ?dfI1 ?dfI2 ?dfI3 ?dfI4 ?dfI5 ?dfI9 ?dfI10 ?dfCI ?dfSI ?dfTk ?dfAU ?dfAE ?dfAN ?dfRN ?dfRE ?dfRU ?dfAp ?eE ?rE ?sE ?eU ?rU ?sU ?eN ?rN ?sN ?hfC ?hfN ?hfWU ?hfCU ?hfR ?hfM ?hfWT ?hfWE ?hfWN ?hfON ?hfOE ?hfOU ?hfCE ?hfCn ?hfCy ?hfEO ?hfAC ?hfAD ?hfB ?hfD ?hfP ?hfNm ?hfLN ?hfE ?hfUl ?hfNw ?hfAd ?hfEd ?hfLk ?hfTo ?hfSt ?hfSh ?hfAA ?hfTr ?hfApd ?hfLA ?hfDr ?hfBu ?hfNe ?hfI0 ?hfI1 ?hfI2 ?hfI3 ?hfI4 ?hfI5 ?hfI9 ?hfI10 ?hfCI ?hfSI ?hfTk ?hfAU ?hfAE ?hfAN ?hfRN ?hfRE ?hfRU ?hfAp ?hE ?hU ?hN ?hL ?tOfL ?tCfL ?tU ?kCC ?mCC ?kCS ?mCS ?nCC0 ?nCC1 ?nCC2 ?nCS0 ?nCS1 ?nCS2 ?ifCI ?ifSI ?ifTk ?ifAU ?ifAE ?ifAN ?ifRN ?ifRE ?ifRU ?ifAp ?tfI0 ?tfI1 ?tfI2 ?tfI3 ?tfI4 ?tfI5 ?tfI9 ?tfI10 ?eB ?eK ?oc0 ?oc1 ?oc2 ?oc3 ?oc4 ?oc5 ?oc9 ?oc10 ?xcN ?ycN ?qcN ?l_LETTERS ?l_DIGITS ?l_LONGEST_NAME ?l_MOST ?l_MOST_AROUND ?lin ?z_isinstance ?z_tuple ?z_list ?z_dict ?z_len ?z_str ?z_all ?z_set ?z_sorted ?z_enumerate ?z_range ?z_repr ?z_ValueError ?z_min)
    (case acB => exact (of_decide_eq_true (c.e 0 _ rfl)))
    (case ac0 => exact (of_decide_eq_true (c.e 1 _ rfl)))
    (case ac1 => exact (of_decide_eq_true (c.e 2 _ rfl)))
    (case ac2 => exact (of_decide_eq_true (c.e 3 _ rfl)))
    (case ac3 => exact (of_decide_eq_true (c.e 4 _ rfl)))
    (case ac4 => exact (of_decide_eq_true (c.e 5 _ rfl)))
    (case ac5 => exact (of_decide_eq_true (c.e 6 _ rfl)))
    (case ac6 => exact (of_decide_eq_true (c.e 7 _ rfl)))
    (case ac7 => exact (of_decide_eq_true (c.e 8 _ rfl)))
    (case ac8 => exact (of_decide_eq_true (c.e 9 _ rfl)))
    (case ac9 => exact (of_decide_eq_true (c.e 10 _ rfl)))
    (case ac10 => exact (of_decide_eq_true (c.e 11 _ rfl)))
    (case aCC => exact (of_decide_eq_true (c.e 12 _ rfl)))
    (case aCS => exact (of_decide_eq_true (c.e 13 _ rfl)))
    (case acN => exact (of_decide_eq_true (c.e 14 _ rfl)))
    (case bfC => exact (of_decide_eq_true (c.e 15 _ rfl)))
    (case bfN => exact (of_decide_eq_true (c.e 16 _ rfl)))
    (case bfWU => exact (of_decide_eq_true (c.e 17 _ rfl)))
    (case bfCU => exact (of_decide_eq_true (c.e 18 _ rfl)))
    (case bfR => exact (of_decide_eq_true (c.e 19 _ rfl)))
    (case bfM => exact (of_decide_eq_true (c.e 20 _ rfl)))
    (case bfWT => exact (of_decide_eq_true (c.e 21 _ rfl)))
    (case bfWE => exact (of_decide_eq_true (c.e 22 _ rfl)))
    (case bfWN => exact (of_decide_eq_true (c.e 23 _ rfl)))
    (case bfON => exact (of_decide_eq_true (c.e 24 _ rfl)))
    (case bfOE => exact (of_decide_eq_true (c.e 25 _ rfl)))
    (case bfOU => exact (of_decide_eq_true (c.e 26 _ rfl)))
    (case bfCE => exact (of_decide_eq_true (c.e 27 _ rfl)))
    (case bfCn => exact (of_decide_eq_true (c.e 28 _ rfl)))
    (case bfCy => exact (of_decide_eq_true (c.e 29 _ rfl)))
    (case bfEO => exact (of_decide_eq_true (c.e 30 _ rfl)))
    (case bfAC => exact (of_decide_eq_true (c.e 31 _ rfl)))
    (case bfAD => exact (of_decide_eq_true (c.e 32 _ rfl)))
    (case bfB => exact (of_decide_eq_true (c.e 33 _ rfl)))
    (case bfD => exact (of_decide_eq_true (c.e 34 _ rfl)))
    (case bfP => exact (of_decide_eq_true (c.e 35 _ rfl)))
    (case bfNm => exact (of_decide_eq_true (c.e 36 _ rfl)))
    (case bfLN => exact (of_decide_eq_true (c.e 37 _ rfl)))
    (case bfE => exact (of_decide_eq_true (c.e 38 _ rfl)))
    (case bfUl => exact (of_decide_eq_true (c.e 39 _ rfl)))
    (case bfNw => exact (of_decide_eq_true (c.e 40 _ rfl)))
    (case bfAd => exact (of_decide_eq_true (c.e 41 _ rfl)))
    (case bfEd => exact (of_decide_eq_true (c.e 42 _ rfl)))
    (case bfLk => exact (of_decide_eq_true (c.e 43 _ rfl)))
    (case bfTo => exact (of_decide_eq_true (c.e 44 _ rfl)))
    (case bfSt => exact (of_decide_eq_true (c.e 45 _ rfl)))
    (case bfSh => exact (of_decide_eq_true (c.e 46 _ rfl)))
    (case bfAA => exact (of_decide_eq_true (c.e 47 _ rfl)))
    (case bfTr => exact (of_decide_eq_true (c.e 48 _ rfl)))
    (case bfApd => exact (of_decide_eq_true (c.e 49 _ rfl)))
    (case bfLA => exact (of_decide_eq_true (c.e 50 _ rfl)))
    (case bfDr => exact (of_decide_eq_true (c.e 51 _ rfl)))
    (case bfBu => exact (of_decide_eq_true (c.e 52 _ rfl)))
    (case bfNe => exact (of_decide_eq_true (c.e 53 _ rfl)))
    (case bfL => exact (of_decide_eq_true (c.e 54 _ rfl)))
    (case dfI0 => exact (of_decide_eq_true (c.e 55 _ rfl)))
    (case dfI1 => exact (of_decide_eq_true (c.e 56 _ rfl)))
    (case dfI2 => exact (of_decide_eq_true (c.e 57 _ rfl)))
    (case dfI3 => exact (of_decide_eq_true (c.e 58 _ rfl)))
    (case dfI4 => exact (of_decide_eq_true (c.e 59 _ rfl)))
    (case dfI5 => exact (of_decide_eq_true (c.e 60 _ rfl)))
    (case dfI9 => exact (of_decide_eq_true (c.e 61 _ rfl)))
    (case dfI10 => exact (of_decide_eq_true (c.e 62 _ rfl)))
    (case dfCI => exact (of_decide_eq_true (c.e 63 _ rfl)))
    (case dfSI => exact (of_decide_eq_true (c.e 64 _ rfl)))
    (case dfTk => exact (of_decide_eq_true (c.e 65 _ rfl)))
    (case dfAU => exact (of_decide_eq_true (c.e 66 _ rfl)))
    (case dfAE => exact (of_decide_eq_true (c.e 67 _ rfl)))
    (case dfAN => exact (of_decide_eq_true (c.e 68 _ rfl)))
    (case dfRN => exact (of_decide_eq_true (c.e 69 _ rfl)))
    (case dfRE => exact (of_decide_eq_true (c.e 70 _ rfl)))
    (case dfRU => exact (of_decide_eq_true (c.e 71 _ rfl)))
    (case dfAp => exact (of_decide_eq_true (c.e 72 _ rfl)))
    (case eE => exact (of_decide_eq_true (c.e 73 _ rfl)))
    (case rE => exact Hy.pa_ok (c.e 74 _ rfl))
    (case sE => exact ⟨(of_decide_eq_true (c.e 75 _ rfl)), (of_decide_eq_true (c.e 76 _ rfl))⟩)
    (case eU => exact (of_decide_eq_true (c.e 77 _ rfl)))
    (case rU => exact Hy.pa_ok (c.e 78 _ rfl))
    (case sU => exact ⟨(of_decide_eq_true (c.e 79 _ rfl)), (of_decide_eq_true (c.e 80 _ rfl))⟩)
    (case eN => exact (of_decide_eq_true (c.e 81 _ rfl)))
    (case rN => exact Hy.pa_ok (c.e 82 _ rfl))
    (case sN => exact ⟨(of_decide_eq_true (c.e 83 _ rfl)), (of_decide_eq_true (c.e 84 _ rfl))⟩)
    (case hfC => exact c.d 0 _ rfl)
    (case hfN => exact c.d 1 _ rfl)
    (case hfWU => exact c.d 2 _ rfl)
    (case hfCU => exact c.d 3 _ rfl)
    (case hfR => exact c.d 4 _ rfl)
    (case hfM => exact c.d 5 _ rfl)
    (case hfWT => exact c.d 6 _ rfl)
    (case hfWE => exact c.d 7 _ rfl)
    (case hfWN => exact c.d 8 _ rfl)
    (case hfON => exact c.d 9 _ rfl)
    (case hfOE => exact c.d 10 _ rfl)
    (case hfOU => exact c.d 11 _ rfl)
    (case hfCE => exact c.d 12 _ rfl)
    (case hfCn => exact c.d 13 _ rfl)
    (case hfCy => exact c.d 14 _ rfl)
    (case hfEO => exact c.d 15 _ rfl)
    (case hfAC => exact c.d 16 _ rfl)
    (case hfAD => exact c.d 17 _ rfl)
    (case hfB => exact c.d 18 _ rfl)
    (case hfD => exact c.d 19 _ rfl)
    (case hfP => exact c.d 20 _ rfl)
    (case hfNm => exact c.d 21 _ rfl)
    (case hfLN => exact c.d 22 _ rfl)
    (case hfE => exact c.d 23 _ rfl)
    (case hfUl => exact c.d 24 _ rfl)
    (case hfNw => exact c.d 25 _ rfl)
    (case hfAd => exact c.d 26 _ rfl)
    (case hfEd => exact c.d 27 _ rfl)
    (case hfLk => exact c.d 28 _ rfl)
    (case hfTo => exact c.d 29 _ rfl)
    (case hfSt => exact c.d 30 _ rfl)
    (case hfSh => exact c.d 31 _ rfl)
    (case hfAA => exact c.d 32 _ rfl)
    (case hfTr => exact c.d 33 _ rfl)
    (case hfApd => exact c.d 34 _ rfl)
    (case hfLA => exact c.d 35 _ rfl)
    (case hfDr => exact c.d 36 _ rfl)
    (case hfBu => exact c.d 37 _ rfl)
    (case hfNe => exact c.d 38 _ rfl)
    (case hfI0 => exact c.d 39 _ rfl)
    (case hfI1 => exact c.d 40 _ rfl)
    (case hfI2 => exact c.d 41 _ rfl)
    (case hfI3 => exact c.d 42 _ rfl)
    (case hfI4 => exact c.d 43 _ rfl)
    (case hfI5 => exact c.d 44 _ rfl)
    (case hfI9 => exact c.d 45 _ rfl)
    (case hfI10 => exact c.d 46 _ rfl)
    (case hfCI => exact c.d 47 _ rfl)
    (case hfSI => exact c.d 48 _ rfl)
    (case hfTk => exact c.d 49 _ rfl)
    (case hfAU => exact c.d 50 _ rfl)
    (case hfAE => exact c.d 51 _ rfl)
    (case hfAN => exact c.d 52 _ rfl)
    (case hfRN => exact c.d 53 _ rfl)
    (case hfRE => exact c.d 54 _ rfl)
    (case hfRU => exact c.d 55 _ rfl)
    (case hfAp => exact c.d 56 _ rfl)
    (case hE => exact c.d 57 _ rfl)
    (case hU => exact c.d 58 _ rfl)
    (case hN => exact c.d 59 _ rfl)
    (case hL => exact c.d 60 _ rfl)
    (case tOfL => exact c.out "law" List.mem_cons_self)
    (case tCfL => exact c.hd "law" List.mem_cons_self)
    (case tU => exact (c.e 85 _ rfl))
    (case kCC => exact ⟨(c.e 86 _ rfl), (c.e 87 _ rfl), (c.e 88 _ rfl), (of_decide_eq_true (c.e 89 _ rfl))⟩)
    (case mCC => exact ⟨(c.e 90 _ rfl), (c.e 91 _ rfl)⟩)
    (case kCS => exact ⟨(c.e 92 _ rfl), (c.e 93 _ rfl), (c.e 94 _ rfl), (of_decide_eq_true (c.e 95 _ rfl))⟩)
    (case mCS => exact ⟨(c.e 96 _ rfl), (c.e 97 _ rfl)⟩)
    (case nCC0 => exact (of_decide_eq_true (c.e 98 _ rfl)))
    (case nCC1 => exact (of_decide_eq_true (c.e 99 _ rfl)))
    (case nCC2 => exact (of_decide_eq_true (c.e 100 _ rfl)))
    (case nCS0 => exact (of_decide_eq_true (c.e 101 _ rfl)))
    (case nCS1 => exact (of_decide_eq_true (c.e 102 _ rfl)))
    (case nCS2 => exact (of_decide_eq_true (c.e 103 _ rfl)))
    (case ifCI => exact (c.e 104 _ rfl))
    (case ifSI => exact (c.e 105 _ rfl))
    (case ifTk => exact (c.e 106 _ rfl))
    (case ifAU => exact (c.e 107 _ rfl))
    (case ifAE => exact (c.e 108 _ rfl))
    (case ifAN => exact (c.e 109 _ rfl))
    (case ifRN => exact (c.e 110 _ rfl))
    (case ifRE => exact (c.e 111 _ rfl))
    (case ifRU => exact (c.e 112 _ rfl))
    (case ifAp => exact (c.e 113 _ rfl))
    (case tfI0 => exact (of_decide_eq_true (c.e 114 _ rfl)))
    (case tfI1 => exact (of_decide_eq_true (c.e 115 _ rfl)))
    (case tfI2 => exact (of_decide_eq_true (c.e 116 _ rfl)))
    (case tfI3 => exact (of_decide_eq_true (c.e 117 _ rfl)))
    (case tfI4 => exact (of_decide_eq_true (c.e 118 _ rfl)))
    (case tfI5 => exact (of_decide_eq_true (c.e 119 _ rfl)))
    (case tfI9 => exact (of_decide_eq_true (c.e 120 _ rfl)))
    (case tfI10 => exact (of_decide_eq_true (c.e 121 _ rfl)))
    (case eB => exact (c.e 122 _ rfl))
    (case eK => exact (c.e 123 _ rfl))
    (case oc0 => exact Hy.oexB_ok (c.e 124 _ rfl))
    (case oc1 => exact Hy.oexB_ok (c.e 125 _ rfl))
    (case oc2 => exact Hy.oexB_ok (c.e 126 _ rfl))
    (case oc3 => exact Hy.oexB_ok (c.e 127 _ rfl))
    (case oc4 => exact Hy.oexB_ok (c.e 128 _ rfl))
    (case oc5 => exact Hy.oexB_ok (c.e 129 _ rfl))
    (case oc9 => exact Hy.oexB_ok (c.e 130 _ rfl))
    (case oc10 => exact Hy.oexB_ok (c.e 131 _ rfl))
    (case xcN => exact (c.e 132 _ rfl))
    (case ycN => exact (c.e 133 _ rfl))
    (case qcN => exact (of_decide_eq_true (c.e 134 _ rfl)))
    (case l_LETTERS => exact Hy.strB_ok (c.e 135 _ rfl))
    (case l_DIGITS => exact Hy.strB_ok (c.e 136 _ rfl))
    (case l_LONGEST_NAME => exact Hy.intB_ok (c.e 137 _ rfl))
    (case l_MOST => exact Hy.intB_ok (c.e 138 _ rfl))
    (case l_MOST_AROUND => exact Hy.intB_ok (c.e 139 _ rfl))
    (case lin => exact (c.e 140 _ rfl))
    (case z_isinstance => exact (of_decide_eq_true (c.e 141 _ rfl)))
    (case z_tuple => exact (of_decide_eq_true (c.e 142 _ rfl)))
    (case z_list => exact (of_decide_eq_true (c.e 143 _ rfl)))
    (case z_dict => exact (of_decide_eq_true (c.e 144 _ rfl)))
    (case z_len => exact (of_decide_eq_true (c.e 145 _ rfl)))
    (case z_str => exact (of_decide_eq_true (c.e 146 _ rfl)))
    (case z_all => exact (of_decide_eq_true (c.e 147 _ rfl)))
    (case z_set => exact (of_decide_eq_true (c.e 148 _ rfl)))
    (case z_sorted => exact (of_decide_eq_true (c.e 149 _ rfl)))
    (case z_enumerate => exact (of_decide_eq_true (c.e 150 _ rfl)))
    (case z_range => exact (of_decide_eq_true (c.e 151 _ rfl)))
    (case z_repr => exact (of_decide_eq_true (c.e 152 _ rfl)))
    (case z_ValueError => exact (of_decide_eq_true (c.e 153 _ rfl)))
    (case z_min => exact (of_decide_eq_true (c.e 154 _ rfl)))
#print axioms PySem.Challenge.cw_blockorder_k42_whole_attempts_holds
