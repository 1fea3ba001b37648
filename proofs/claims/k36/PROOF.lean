import PyProof.Rows.All
import Wide.All
import OpenK.AllK
import Wide.FinOn
import HandS.ForMost
import HandS.Set
import HandS.Strs
import HandS.SetKeys
import HandS.Flow
import HandS.Wide
import HandS.Small
import HandS.Exc
import HandS.ExcOwn
import HandS.RaiseMore
import PyProof.ReprRoads
import HandS.Conv
import HandS.DictComp
import HandS.Walk
import HandS.IsInst
import HandS.ListItems
import HandS.Text
import HandS.ExcInit
import HandS.ExcIs
import HandS.ExcField
import HandS.WordsExc
import HandS.TryOnly
import HandS.Star
import HandS.Property
import PyProof.DictCopy
import PyProof.RowDictHeap
import PyProof.StrBlock2
import HandS.Codes
import PyProof.Rows.StrSigns2
import HandS.Style
import HandS.FStr
import KE.KCallOwn
import HandS.SetBool
import HandS.ClsMeth
import KE.KEqDict
import PySem.Challenge.RW_blockorder_k36_written_forms
set_option Elab.async false
set_option linter.all false
set_option maxRecDepth 100000
set_option maxHeartbeats 4000000
/-! sets of texts whose members can be walked: set(texts), add, in, len, sorted -/
namespace Bo
open PySem PySem.Spec PyProof.Rows L2
/-- the text that a set's place holds -/
def txtOf (z : Int × Value) : Str := match z.2 with | .str x _ => x | _ => Str.empty
def TxtAt (w : World) (z : Int × Value) : Prop := ∃ (x : Str) (k : Tok), z.2 = Value.str x k ∧ z.1 = hashStr w x
/-- at a stands the set of the texts xs -/
def SetTx (w : World) (a : Addr) (xs : List Str) (h : Heap) : Prop :=
  ∃ (ob : Obj) (zs : Array (Int × Value)) (gen : Nat) (tb : SetTable), (h.get? a = some ob ∧ ob.ExactSet ∧ ob.data = .set zs gen tb) ∧ (∀ z ∈ zs.toList, TxtAt w z) ∧ (zs.toList.map txtOf).Perm xs ∧ xs.Nodup ∧
    (zs.size < scanBound ∧ tb.fits zs.size = true) ∧ Ris tb.place.toList ∧ (w.params.followText "set-order" = true ∨ tb.led = true)
section
variable {P : Program} {w : World} {A : Around} {E : Value → Shared → Prop} {s : Shared} {a : Addr} {xs : List Str}
theorem txt_elems {zs : List (Int × Value)} (g : ∀ z ∈ zs, TxtAt w z) : ElemsOf (PySem.strKind P w) zs := fun z hz => by
  obtain ⟨x, k, h1, h2⟩ := g z hz
  refine ⟨⟨x, ?_, h2⟩, ?_⟩
  · rw [h1]; exact strKind_is P w x k
  · rw [h1]; rfl
theorem txt_is {z : Int × Value} (g : TxtAt w z) (x : Str) : (PySem.strKind P w).is x z.2 = true ↔ txtOf z = x := by
  obtain ⟨y, k, h1, _⟩ := g
  unfold txtOf
  rw [h1]
  constructor
  · intro h
    obtain ⟨k', h'⟩ := Value.isStrOf_shape (x := x) (v := Value.str y k) h
    injection h' with h1 _
  · rintro rfl
    exact strKind_is P w _ _
theorem txt_mem {zs : List (Int × Value)} (g : ∀ z ∈ zs, TxtAt w z) (x : Str) : x ∈ zs.map txtOf ↔ ∃ z ∈ zs, (PySem.strKind P w).is x z.2 = true := by
  rw [List.mem_map]
  exact ⟨fun ⟨z, hz, q⟩ => ⟨z, hz, (txt_is (g z hz) x).2 q⟩, fun ⟨z, hz, q⟩ => ⟨z, hz, (txt_is (g z hz) x).1 q⟩⟩
theorem SetTx.size {h : Heap} {ob : Obj} {zs : Array (Int × Value)} (p : (zs.toList.map txtOf).Perm xs) : zs.size = xs.length := by
  rw [← p.length_eq, List.length_map, Array.length_toList]
theorem SetTx.setOf {h : Heap} (R : SetTx w a xs h) : h.SetOf (PySem.strKind P w) a (fun x => decide (x ∈ xs)) xs.length := by
  obtain ⟨ob, zs, gen, tb, ⟨e1, e2, e3⟩, g, p, nd, ⟨b1, b2⟩, _, _⟩ := R
  refine ⟨ob, zs, gen, tb, e1, e2, e3, txt_elems g, fun x => ?_, b1, b2, SetTx.size (h := h) (ob := ob) p⟩
  rw [decide_eq_true_eq, ← p.mem_iff]
  exact txt_mem g x
/-- behind the table's turn -/
theorem txt_store {g : Bool → Sem Unit} (hg : ∀ (b : Bool) (s1 : Shared) (Q' : Unit → Shared → Prop), Q' () s1 → wpAny (model P w) A (g b) Q' E s1)
    {ob : Obj} {zs zs1 : Array (Int × Value)} {gen : Nat} {tb tb1 : SetTable} (e1 : s.heap.get? a = some ob) (e2 : ob.ExactSet) (e3 : ob.data = .set zs gen tb)
    (g1 : ∀ z ∈ zs1.toList, TxtAt w z) (p1 : (zs1.toList.map txtOf).Perm xs) (nd : xs.Nodup) (b1 : zs1.size < scanBound) (f1 : tb1.fits zs1.size = true) (r1 : Ris tb1.place.toList) (l1 : w.params.followText "set-order" = true ∨ tb1.led = true)
    {wd : Bool} {R : Option Bool → Shared → Prop} (hR : ∀ h', Heap.SameBut a s.heap h' → SetTx w a xs h' → R (some true) { s with heap := h' }) :
    wpAny (model P w) A (do
        storeSet a zs1 tb1
        if (!wd && tb1.tooFull) = true then do
            g (relayAll tb1 zs1 (SetTable.grown zs1.size)).2.2
            storeSet a (relayAll tb1 zs1 (SetTable.grown zs1.size)).1 (relayAll tb1 zs1 (SetTable.grown zs1.size)).2.1
            pure (some true)
          else pure (some true)) R E s := by
  have at1 := L2.store_at (es' := zs1) (t' := tb1) e1 e3
  have same1 := Heap.SameBut.update s.heap a (Obj.putSet zs1 tb1)
  refine wpAny_bind (wpAny_storeSet_of e1 e3 ?_ (fits_of_scanBound b1))
  split
  · have q1 := relayAll_perm tb1 zs1 (SetTable.grown zs1.size)
    have q2 := relayAll_fits tb1 zs1 (SetTable.grown zs1.size)
    have q3 := L2.relayAll_ris tb1 zs1 (SetTable.grown zs1.size)
    have q4 := L2.relayAll_led tb1 zs1 (SetTable.grown zs1.size)
    generalize relayAll tb1 zs1 (SetTable.grown zs1.size) = T at q1 q2 q3 q4 ⊢
    obtain ⟨zs2, tb2, gave⟩ := T
    dsimp only at q1 q2 q3 q4 ⊢
    have n2 : zs2.size = zs1.size := by rw [← Array.length_toList, q1.length_eq, Array.length_toList]
    have b2 : zs2.size < scanBound := by rw [n2]; exact b1
    refine wpAny_bind (hg _ _ _ (wpAny_bind (wpAny_storeSet_of at1 rfl (wpAny_pure (hR _ (same1.trans (Heap.SameBut.update _ a _)) ?_)) (fits_of_scanBound b2))))
    refine ⟨_, zs2, _, tb2, ⟨L2.store_at (es' := zs2) (t' := tb2) at1 rfl, e2, rfl⟩, fun z hz => g1 z (q1.mem_iff.mp hz), (q1.map txtOf).trans p1, nd, ⟨b2, q2⟩, q3, ?_⟩
    rw [q4]
    exact l1
  · exact wpAny_pure (hR _ same1 ⟨_, zs1, _, tb1, ⟨at1, e2, rfl⟩, g1, p1, nd, ⟨b1, f1⟩, r1, l1⟩)
/-- what a member's adding makes of the texts -/
def addTx (xs : List Str) (x : Str) : List Str := if x ∈ xs then xs else x :: xs
theorem addTx_nd {xs : List Str} {x : Str} (h : xs.Nodup) : (addTx xs x).Nodup := by
  unfold addTx
  split
  · exact h
  · rename_i n
    exact List.nodup_cons.mpr ⟨n, h⟩
theorem addTx_mem {xs : List Str} {x y : Str} : y ∈ addTx xs x ↔ y = x ∨ y ∈ xs := by
  unfold addTx
  split
  · rename_i h
    exact ⟨.inr, fun z => z.elim (fun e => e ▸ h) id⟩
  · exact List.mem_cons
theorem addTx_len {xs : List Str} {x : Str} : (addTx xs x).length ≤ xs.length + 1 := by
  unfold addTx
  split
  · omega
  · simp
theorem txt_addHashed {x : Str} {k : Tok} {Q : Bool → Shared → Prop} (R : SetTx w a xs s.heap) (room : xs.length + 1 < scanBound)
    (hQ : ∀ (b : Bool) (h' : Heap), Heap.SameBut a s.heap h' → SetTx w a (addTx xs x) h' → Q b { s with heap := h' }) :
    wpAny (model P w) A (setAddHashed a (.str x k) ((PySem.strKind P w).hash x)) Q E s := by
  obtain ⟨ob, zs, gen, tb, ⟨e1, e2, e3⟩, g, p, nd, ⟨b1, f1⟩, r1, l1⟩ := R
  have ky : (PySem.strKind P w).is x (.str x k) = true := strKind_is P w x k
  have sc : (Value.str x k).scannable = true := rfl
  have el : ElemsOf (PySem.strKind P w) zs.toList := txt_elems g
  have nz : zs.size = xs.length := SetTx.size (h := s.heap) (ob := ob) p
  unfold setAddHashed setAddHashedIn
  refine wpAny_holding (wpAny_bind (wpAny_setState_of e1 e3 f1 ?_))
  dsimp only
  rw [byScan_of sc b1 el]
  simp only [↓reduceIte]
  unfold setAddByScan
  refine wpAny_bind (wpAny_bind (wpAny_rule (wpAny_bind (wpAny_setScan_of ky e1 e3 f1 el ?_))))
  cases hf : List.findIdx? (fun e => (PySem.strKind P w).is x e.2) zs.toList with
  | some j =>
    dsimp only
    obtain ⟨hj, pj, _⟩ := List.findIdx?_eq_some_iff_getElem.mp hf
    have hin : x ∈ xs := p.mem_iff.mp ((txt_mem (P := P) (w := w) g x).2 ⟨zs.toList[j], List.getElem_mem hj, pj⟩)
    refine wpAny_pure (wpAny_pure (hQ _ s.heap (Heap.SameBut.refl a s.heap) ⟨ob, zs, gen, tb, ⟨e1, e2, e3⟩, g, ?_, addTx_nd nd, ⟨b1, f1⟩, r1, l1⟩))
    unfold addTx
    rw [if_pos hin]
    exact p
  | none =>
    dsimp only
    have hno : x ∉ xs := fun z => by
      obtain ⟨e, he, q⟩ := (txt_mem (P := P) (w := w) g x).1 (p.mem_iff.mpr z)
      rw [List.findIdx?_eq_none_iff.mp hf e he] at q
      cases q
    have gw : ∀ (b : Bool) {s1 : Shared} {Q' : Unit → Shared → Prop}, Q' () s1 → wpAny (model P w) A (match b with | true => rule "set.scan.the-table-gave-way" | false => pure ()) Q' E s1 :=
      fun b _ _ q => by
        cases b
        · exact wpAny_pure q
        · exact wpAny_rule q
    have q1 := layNew_perm tb zs ((PySem.strKind P w).hash x) (.str x k)
    have q2 := layNew_fits tb zs ((PySem.strKind P w).hash x) (.str x k)
    have q3 := L2.layNew_ris tb zs ((PySem.strKind P w).hash x) (.str x k) r1
    have q4 := L2.layNew_led tb zs ((PySem.strKind P w).hash x) (.str x k)
    generalize layNew tb zs ((PySem.strKind P w).hash x) (.str x k) = T at q1 q2 q3 q4 ⊢
    obtain ⟨zs1, tb1, wd, gave⟩ := T
    dsimp only at q1 q2 q3 q4 ⊢
    rw [Array.toList_push] at q1
    have pc : zs1.toList.Perm (((PySem.strKind P w).hash x, Value.str x k) :: zs.toList) := q1.trans (List.perm_append_singleton _ _)
    have px : (zs1.toList.map txtOf).Perm (addTx xs x) := by
      unfold addTx
      rw [if_neg hno]
      exact (pc.map txtOf).trans (p.cons x)
    have g1 : ∀ z ∈ zs1.toList, TxtAt w z := fun z hz => by
      rcases List.mem_cons.mp (pc.mem_iff.mp hz) with e | hz
      · rw [e]
        exact ⟨x, k, rfl, rfl⟩
      · exact g z hz
    have n1 : zs1.size = xs.length + 1 := by rw [← Array.length_toList, pc.length_eq, List.length_cons, Array.length_toList, nz]
    have bb : zs1.size < scanBound := by rw [n1]; exact room
    have ll : w.params.followText "set-order" = true ∨ tb1.led = true := l1.imp id fun z => by rw [q4]; exact z
    have fin : ∀ h', Heap.SameBut a s.heap h' → SetTx w a (addTx xs x) h' → Q true { s with heap := h' } := fun h' m r => hQ _ h' m r
    refine wpAny_bind (gw _ ?_)
    split
    · refine wpAny_bind ?_
      rw [hashByValue_scannable 8 sc]
      refine wpAny_pure (txt_store ?_ e1 e2 e3 g1 px (addTx_nd nd) bb ?_ ?_ ?_ ?_)
      · intro b s1 Q' q
        exact gw b q
      · first | (split <;> first | exact q2 | exact SetTable.fits_plain_off q2) | exact q2
      · first | (split <;> exact q3) | exact q3
      · first | (split <;> exact ll) | exact ll
      · intro h' m r
        dsimp only
        exact wpAny_pure (fin h' m r)
    · refine wpAny_bind (wpAny_pure ?_)
      simp only [↓reduceIte]
      refine txt_store ?_ e1 e2 e3 g1 px (addTx_nd nd) bb q2 q3 ll ?_
      · intro b s1 Q' q
        exact gw b q
      · intro h' m r
        dsimp only
        exact wpAny_pure (fin h' m r)
end
end Bo

set_option Elab.async false
set_option linter.all false
set_option maxRecDepth 100000
set_option maxHeartbeats 8000000
namespace Bo
open PySem PySem.Spec PyProof.Rows L2
/-- the texts of a list, each once -/
def onceTx : List Str → List Str := fun ys => ys.foldl addTx []
theorem onceTx_go_nd : ∀ (ys acc : List Str), acc.Nodup → (ys.foldl addTx acc).Nodup
  | [], _, h => h
  | y :: r, acc, h => onceTx_go_nd r (addTx acc y) (addTx_nd h)
theorem onceTx_nd (ys : List Str) : (onceTx ys).Nodup := onceTx_go_nd ys [] List.nodup_nil
theorem onceTx_go_mem {y : Str} : ∀ (ys acc : List Str), y ∈ ys.foldl addTx acc ↔ y ∈ ys ∨ y ∈ acc
  | [], acc => by simp
  | z :: r, acc => by
    rw [List.foldl_cons, onceTx_go_mem r (addTx acc z), addTx_mem, List.mem_cons]
    constructor
    · rintro (h | h | h)
      · exact .inl (.inr h)
      · exact .inl (.inl h)
      · exact .inr h
    · rintro ((h | h) | h)
      · exact .inr (.inl h)
      · exact .inl h
      · exact .inr (.inr h)
theorem onceTx_mem {ys : List Str} {y : Str} : y ∈ onceTx ys ↔ y ∈ ys := by
  unfold onceTx
  rw [onceTx_go_mem]
  simp
theorem onceTx_take {ys : List Str} {i : Nat} {y : Str} (h : ys[i]? = some y) : onceTx (ys.take (i + 1)) = addTx (onceTx (ys.take i)) y := by
  have e : ys.take (i + 1) = ys.take i ++ [y] := by
    rw [List.take_add_one, h]
    rfl
  unfold onceTx
  rw [e, List.foldl_append]
  rfl
theorem addTx_new {xs : List Str} {x : Str} (h : x ∉ xs) : addTx xs x = x :: xs := if_neg h
/-- no text twice: the same texts, turned round -/
theorem onceTx_perm : ∀ {ys : List Str}, ys.Nodup → (onceTx ys).Perm ys := by
  intro ys
  have key : ∀ (ys acc : List Str), (ys ++ acc).Nodup → (ys.foldl addTx acc).Perm (ys ++ acc) := by
    intro ys
    induction ys with
    | nil => intro acc _; exact List.Perm.refl _
    | cons y r ih =>
      intro acc h
      obtain ⟨h1, h2⟩ := List.nodup_cons.mp (show (y :: (r ++ acc)).Nodup from h)
      have hn : y ∉ acc := fun z => h1 (List.mem_append.mpr (.inr z))
      rw [List.foldl_cons, addTx_new hn]
      have h3 : (r ++ y :: acc).Nodup := (List.perm_middle.nodup_iff).mpr h
      exact (ih (y :: acc) h3).trans List.perm_middle
  intro h
  have q := key ys [] (by rw [List.append_nil]; exact h)
  rw [List.append_nil] at q
  exact q
theorem len_onceTx (ys : List Str) : (onceTx ys).length ≤ ys.length := by
  have key : ∀ (ys acc : List Str), (ys.foldl addTx acc).length ≤ ys.length + acc.length := by
    intro ys
    induction ys with
    | nil => intro acc; simp
    | cons y r ih =>
      intro acc
      have h1 := ih (addTx acc y)
      have h2 := addTx_len (xs := acc) (x := y)
      rw [List.foldl_cons, List.length_cons]
      omega
  have h := key ys []
  rw [List.length_nil, Nat.add_zero] at h
  exact h
section
variable {prog : Program} {w : World} {A : Around} {R : Result → Shared → Prop} {I : Addr} {fp wr : List Addr} {G : Array GenState → Array GenState → Prop} {n : Nat} {Pv : Nat → Value → Prop} {St : Nat → Shared → Prop}
theorem SetTx.at {xs : List Str} {a : Addr} {h h' : Heap} (R : SetTx w a xs h) (k : ∀ o, h.get? a = some o → h'.get? a = some o) : SetTx w a xs h' := by
  obtain ⟨ob, zs, gen, tb, ⟨e1, e2⟩, r⟩ := R
  exact ⟨ob, zs, gen, tb, ⟨k ob e1, e2⟩, r⟩
/-- the loop of set(..): one member a turn -/
theorem set_turns (W : WalksS prog w A.in1 I fp wr G n Pv St) (C : Addr) (hC : C ∉ fp) (ys : List Str) (hn : ys.length = n) (hb : n + 1 < scanBound) (hv : ∀ i v, Pv i v → ∃ t, v = .str (ys.getD i Str.empty) t) :
    ∀ (m i : Nat) (s : Shared), n - i = m → i ≤ n → St i s → SetTx w C (onceTx (ys.take i)) s.heap → (∀ s', Moved (C :: wr) G s s' → SetTx w C (onceTx ys) s'.heap → R (.ok (.ret .none)) s') →
      codeAny (model prog w) A (.builtin "set.update.loop" ⟨[.ref C, .ref I], []⟩) R s := by
  have hCw : C ∉ wr := fun z => hC (W.sub _ z)
  have up : ∀ b ∈ wr, b ∈ C :: wr := fun b z => List.mem_cons_of_mem _ z
  intro m
  induction m with
  | zero =>
    intro i s hm hi hst hS hR
    obtain rfl : i = n := by omega
    refine codeAny_builtin PyProof.Rows.F.entry_set_update_loop ?_
    rw [Around.under_plainId PyProof.Rows.F.plain_set_update_loop _]
    show wpAny _ A.in1 (pyNext (.ref I) >>= _) _ _ s
    refine wpAny_bind (W.done s _ _ hst fun s' mv => wpAny_pure (hR s' (mv.mono up) ?_))
    have e : ys.take i = ys := by rw [← hn, List.take_length]
    rw [e] at hS
    exact hS.at fun o ho => mv.heap C o hCw ho
  | succ m ih =>
    intro i s hm hi hst hS hR
    have hlt : i < n := by omega
    refine codeAny_builtin PyProof.Rows.F.entry_set_update_loop ?_
    rw [Around.under_plainId PyProof.Rows.F.plain_set_update_loop _]
    show wpAny _ A.in1 (pyNext (.ref I) >>= _) _ _ s
    refine wpAny_bind (W.item i s _ _ hlt hst fun v s' hP hst' mv => ?_)
    obtain ⟨t, rfl⟩ := hv i v hP
    have hy : ys[i]? = some (ys.getD i Str.empty) := by
      have hl : i < ys.length := by omega
      rw [List.getD_eq_getElem?_getD, List.getElem?_eq_getElem hl]
      rfl
    have hS' : SetTx w C (onceTx (ys.take i)) s'.heap := hS.at fun o ho => mv.heap C o hCw ho
    show wpAny _ _ (holding [Value.str (ys.getD i Str.empty) t] (setAdd C (.str (ys.getD i Str.empty) t)) >>= _) _ _ s'
    refine wpAny_bind (wpAny_holding ?_)
    unfold setAdd
    refine wpAny_holding (wpAny_bind ((PySem.strKind prog w).pyHash (k := ys.getD i Str.empty) (strKind_is _ _ _ _) ?_))
    have few : (onceTx (ys.take i)).length + 1 < scanBound := by
      have h1 := len_onceTx (ys.take i)
      rw [List.length_take] at h1
      omega
    refine txt_addHashed (P := prog) (s := { s' with toks := s'.toks + 1 }) hS' few fun _ h' sb hS2 => ?_
    rw [← onceTx_take hy] at hS2
    refine wpAny_pure ⟨plainId_quiet PyProof.Rows.F.plain_set_update_loop _, ih (i + 1) _ (by omega) hlt (W.frame _ s' _ _ hst' (Nat.le_succ _) fun b hb o e => ?_) hS2 fun s2 mv2 hS3 => ?_⟩
    · rw [sb.2 b (fun z : b = C => hC (by rw [← z]; exact hb))]
      exact e
    · refine hR s2 (Moved.trans W.gtrans ((mv.mono up).then_heap (Nat.le_succ _) fun b o hb e => ?_) mv2) hS3
      rw [sb.2 b (fun z : b = C => hb (by rw [z]; exact List.mem_cons_self))]
      exact e
end

def freshSet (w : World) : Obj := { cls := .type "set", dict := none, data := .set #[] 0 (.fresh 0 0 (!w.params.followText "set-order")) }
theorem freshSet_tx {h : Heap} (w : World) : SetTx w h.objs.size (onceTx (([] : List Str).take 0)) (h.push (freshSet w)) := by
  refine ⟨_, #[], 0, _, ⟨Heap.get?_push_size _ rfl, ⟨rfl, rfl, rfl⟩, rfl⟩, fun z hz => by simp at hz, List.Perm.refl _, List.nodup_nil, ⟨by decide, by rfl⟩, List.Pairwise.nil, ?_⟩
  show _ ∨ (!w.params.followText "set-order") = true
  cases w.params.followText "set-order"
  · exact .inr rfl
  · exact .inl rfl
section
variable {P : Program} {w : World} {A : Around} {E : Value → Shared → Prop} {s : Shared}
theorem code_setNew (a : Value) {Q : Value → Shared → Prop} (h : Q (.ref s.heap.objs.size) { s with heap := s.heap.push (freshSet w) }) :
    codeAny (model P w) A (.call (.builtin "set.__new__") ⟨[.type "set", a], []⟩) (wants Q E) s := by
  refine codeAny_of_tree ?_
  show wpAny _ A.in1 (do checkBuiltinCall "set.__new__" ⟨[.type "set", a], []⟩; again (.builtin "set.__new__" ⟨[.type "set", a], []⟩)) _ _ s
  refine wpAny_bind (wpAny_of_eq (PySem.F.newCall_set_1 a) (wpAny_pure ⟨plainId_quiet PySem.F.plain_set_new _, codeAny_builtin PySem.F.entry_set_new ?_⟩))
  rw [Around.under_plainId PySem.F.plain_set_new _]
  unfold Builtin.«set.__new__» Builtin.Frozenset.newClass
  have self := sub_set_self
  obtain ⟨hp, g, d, tk, os⟩ := s
  dsimp only
  wp_walk
  refine wpAny_askSetting (wpAny_pure ?_)
  dsimp only
  simp only [newObj]
  exact wpAny_bind (wpAny_alloc (wpAny_pure (wpAny_pure h)))
end

section
variable {prog : Program} {w : World} {A : Around} {E : Value → Shared → Prop} {s : Shared}
/-- set(ys), ys a tuple of texts -/
theorem set_of_tuple {l : Addr} {its : Array Value} {ys : List Str} {Q : Value → Shared → Prop} (hh : A.handled = none) (hl : s.heap.IsTuple l its) (hi : StrsAre its.toList ys) (hb : ys.length + 1 < scanBound)
    (hQ : ∀ (h' : Heap) (tk : Nat), SetTx w s.heap.objs.size (onceTx ys) h' → (∀ b o, b < s.heap.objs.size → s.heap.get? b = some o → h'.get? b = some o) → Q (.ref s.heap.objs.size) { s with heap := h', toks := tk }) :
    wpAny (model prog w) A (call (.type "set") [.ref l]) Q E s := by
  obtain ⟨c, tl, mro⟩ := PySem.F.called_set.mro
  have f1 := PySem.F.called_set.made
  have f2 := PySem.F.called_set.sub
  refine wpAny_call (codeAny_of_tree (?_ : wpAny _ _ (callAny (.type "set") _) _ _ _))
  refine wpAny_pure ⟨Code.quiet_builtin _ (by decide +kernel), codeAny_builtin PySem.F.entry_type_call ?_⟩
  rw [Around.under_plain (weight_type_call_type "set" [.ref l] []) rfl]
  have f3 := PySem.F.called_set.notType
  have f4 := PySem.F.called_set.canCreate
  have f5 := PySem.F.typeCall_set_1 (.ref l)
  repeat (any_goals (first | assumption | wp_step))
  refine codeAny_mono (code_setNew (.ref l) (E := E) (Q := fun v s1 => v = .ref s.heap.objs.size ∧ s1 = { s with heap := s.heap.push (freshSet w) }) ⟨rfl, rfl⟩) fun r s1 hr => ?_
  match r, hr with
  | .error e, hr => exact hr
  | .ok (.ret v), hr =>
    obtain ⟨rfl, rfl⟩ := hr
    have at0 : (s.heap.push (freshSet w)).get? s.heap.objs.size = some (freshSet w) := Heap.get?_push_size _ rfl
    have ty0 : Shared.TypeIs { s with heap := s.heap.push (freshSet w) } (.ref s.heap.objs.size) "set" := ⟨_, at0, rfl⟩
    have f6 := PySem.F.called_set.init.lookup
    have f7 := PySem.F.called_set.init.bind (.ref s.heap.objs.size)
    repeat (any_goals (first | assumption | wp_step))
    refine codeAny_mono (codeAny_call_builtin (R := wants (fun r s2 => r = .none ∧ ∃ h' tk, s2 = { s with heap := h', toks := tk } ∧ SetTx w s.heap.objs.size (onceTx ys) h' ∧
        (∀ b o, b < s.heap.objs.size → s.heap.get? b = some o → h'.get? b = some o)) E) PySem.F.called_set.init.plain PySem.F.entry_set_init (check_set_init_1 ty0 ?_)) fun r2 s2 hr2 => ?_
    · obtain ⟨⟨lc, ld, ldat, lsl⟩, hol, hcl, nl, hdl⟩ := hl
      simp only at hcl hdl
      subst hcl
      subst hdl
      have at1 : (s.heap.push (freshSet w)).get? l = some { cls := .type "tuple", dict := ld, data := .seq its nl, slots := lsl } := Heap.get?_push_of_some _ hol
      have g1 := PySem.F.sub_tuple_set
      have g2 := PySem.F.sub_tuple_frozenset
      have g3 : (Value.type "tuple" == Value.type "dict") = false := by decide
      have is1 : (s.heap.push (freshSet w)).IsTuple l its := ⟨_, at1, rfl, nl, rfl⟩
      unfold Builtin.«set.__init__» noKeywords Builtin.Frozenset.updateFrom
      generalize hPI : pyIter = PI
      wp_walk
      subst hPI
      refine wpAny_pyIter_tuple is1 (wpAny_bind (wpAny_runValue ?_))
      have lt1 : l < s.heap.objs.size := Heap.lt_size hol
      have hh3 : A.in1.in1.in1.handled = none := by simp [hh]
      have ne1 : l ≠ (s.heap.push (freshSet w)).objs.size := by
        rw [Heap.size_push]
        exact Nat.ne_of_lt (Nat.lt_succ_of_lt lt1)
      have out1 : s.heap.objs.size ∉ [(s.heap.push (freshSet w)).objs.size, l] := by
        rw [Heap.size_push]
        intro z
        rcases List.mem_cons.mp z with z | z
        · exact absurd z (Nat.ne_of_lt (Nat.lt_succ_self _))
        · exact absurd (List.mem_singleton.mp z) (Nat.ne_of_gt lt1)
      have n1 : ys.length = its.size := by rw [← StrsAre.len_eq hi, Array.length_toList]
      have val1 : ∀ (i : Nat) (v : Value), its[i]? = some v → ∃ t, v = .str (ys.getD i Str.empty) t := fun i v hv => SS.strs_at hi i v (by rw [Array.getElem?_toList]; exact hv)
      refine set_turns ((Walks.tuple hh3 _ l ne1 its).toS) s.heap.objs.size out1 ys n1 (by rw [← n1]; exact hb) val1 (its.size - 0) 0 _ rfl (Nat.zero_le _) ⟨⟨_, Heap.get?_push_size _ rfl, rfl, rfl⟩, is1.push _⟩ ?h0 ?hR
      case h0 => exact (freshSet_tx w).at fun o ho => Heap.get?_push_of_some _ ho
      case hR =>
        rintro ⟨h', g', d', tk', os'⟩ mv hS'
        obtain rfl : g' = s.gens := mv.gens
        obtain rfl : d' = s.drawn := mv.drawn
        obtain rfl : os' = s.os := mv.os
        refine wpAny_pure (?_ : wpAny _ _ (ret Value.none) _ _ _)
        refine wpAny_pure ⟨rfl, h', tk', rfl, hS', fun b o hb e => ?_⟩
        refine mv.heap b o (fun z => ?_) (Heap.get?_push_of_some _ (Heap.get?_push_of_some _ e))
        rcases List.mem_cons.mp z with z | z
        · exact absurd z (Nat.ne_of_lt hb)
        · have z := List.mem_singleton.mp z
          rw [Heap.size_push] at z
          exact absurd z (Nat.ne_of_lt (Nat.lt_succ_of_lt hb))
    · match r2, hr2 with
      | .error e, hr2 => exact hr2
      | .ok (.ret r), hr2 =>
        obtain ⟨e1, h', tk, e2, hS', hk'⟩ := hr2
        subst e1 e2
        repeat (any_goals (first | assumption | wp_step))
        exact hQ _ _ hS' hk'
end

section
variable {prog : Program} {w : World} {A : Around} {E : Value → Shared → Prop} {s : Shared}
/-- set(ys), ys a list of texts -/
theorem set_of_list {l : Addr} {its : Array Value} {ys : List Str} {Q : Value → Shared → Prop} (hh : A.handled = none) (hl : s.heap.IsList l its) (hi : StrsAre its.toList ys) (hb : ys.length + 1 < scanBound)
    (hQ : ∀ (h' : Heap) (tk : Nat), SetTx w s.heap.objs.size (onceTx ys) h' → (∀ b o, b < s.heap.objs.size → s.heap.get? b = some o → h'.get? b = some o) → Q (.ref s.heap.objs.size) { s with heap := h', toks := tk }) :
    wpAny (model prog w) A (call (.type "set") [.ref l]) Q E s := by
  obtain ⟨c, tl, mro⟩ := PySem.F.called_set.mro
  have f1 := PySem.F.called_set.made
  have f2 := PySem.F.called_set.sub
  refine wpAny_call (codeAny_of_tree (?_ : wpAny _ _ (callAny (.type "set") _) _ _ _))
  refine wpAny_pure ⟨Code.quiet_builtin _ (by decide +kernel), codeAny_builtin PySem.F.entry_type_call ?_⟩
  rw [Around.under_plain (weight_type_call_type "set" [.ref l] []) rfl]
  have f3 := PySem.F.called_set.notType
  have f4 := PySem.F.called_set.canCreate
  have f5 := PySem.F.typeCall_set_1 (.ref l)
  repeat (any_goals (first | assumption | wp_step))
  refine codeAny_mono (code_setNew (.ref l) (E := E) (Q := fun v s1 => v = .ref s.heap.objs.size ∧ s1 = { s with heap := s.heap.push (freshSet w) }) ⟨rfl, rfl⟩) fun r s1 hr => ?_
  match r, hr with
  | .error e, hr => exact hr
  | .ok (.ret v), hr =>
    obtain ⟨rfl, rfl⟩ := hr
    have at0 : (s.heap.push (freshSet w)).get? s.heap.objs.size = some (freshSet w) := Heap.get?_push_size _ rfl
    have ty0 : Shared.TypeIs { s with heap := s.heap.push (freshSet w) } (.ref s.heap.objs.size) "set" := ⟨_, at0, rfl⟩
    have f6 := PySem.F.called_set.init.lookup
    have f7 := PySem.F.called_set.init.bind (.ref s.heap.objs.size)
    repeat (any_goals (first | assumption | wp_step))
    refine codeAny_mono (codeAny_call_builtin (R := wants (fun r s2 => r = .none ∧ ∃ h' tk, s2 = { s with heap := h', toks := tk } ∧ SetTx w s.heap.objs.size (onceTx ys) h' ∧
        (∀ b o, b < s.heap.objs.size → s.heap.get? b = some o → h'.get? b = some o)) E) PySem.F.called_set.init.plain PySem.F.entry_set_init (check_set_init_1 ty0 ?_)) fun r2 s2 hr2 => ?_
    · obtain ⟨⟨lc, ld, ldat, lsl⟩, hol, hcl, nl, hdl⟩ := hl
      simp only at hcl hdl
      subst hcl
      subst hdl
      have at1 : (s.heap.push (freshSet w)).get? l = some { cls := .type "list", dict := ld, data := .seq its nl, slots := lsl } := Heap.get?_push_of_some _ hol
      have g1 := PySem.F.sub_list_set
      have g2 := PySem.F.sub_list_frozenset
      have g3 : (Value.type "list" == Value.type "dict") = false := by decide
      have is1 : (s.heap.push (freshSet w)).IsList l its := ⟨_, at1, rfl, nl, rfl⟩
      unfold Builtin.«set.__init__» noKeywords Builtin.Frozenset.updateFrom
      generalize hPI : pyIter = PI
      wp_walk
      subst hPI
      refine wpAny_pyIter_list is1 (wpAny_bind (wpAny_runValue ?_))
      have lt1 : l < s.heap.objs.size := Heap.lt_size hol
      have hh3 : A.in1.in1.in1.handled = none := by simp [hh]
      have ne1 : l ≠ (s.heap.push (freshSet w)).objs.size := by
        rw [Heap.size_push]
        exact Nat.ne_of_lt (Nat.lt_succ_of_lt lt1)
      have out1 : s.heap.objs.size ∉ [(s.heap.push (freshSet w)).objs.size, l] := by
        rw [Heap.size_push]
        intro z
        rcases List.mem_cons.mp z with z | z
        · exact absurd z (Nat.ne_of_lt (Nat.lt_succ_self _))
        · exact absurd (List.mem_singleton.mp z) (Nat.ne_of_gt lt1)
      have n1 : ys.length = its.size := by rw [← StrsAre.len_eq hi, Array.length_toList]
      have val1 : ∀ (i : Nat) (v : Value), its[i]? = some v → ∃ t, v = .str (ys.getD i Str.empty) t := fun i v hv => SS.strs_at hi i v (by rw [Array.getElem?_toList]; exact hv)
      refine set_turns ((Walks.list hh3 _ l ne1 its).toS) s.heap.objs.size out1 ys n1 (by rw [← n1]; exact hb) val1 (its.size - 0) 0 _ rfl (Nat.zero_le _) ⟨⟨_, Heap.get?_push_size _ rfl, rfl, rfl⟩, is1.push _⟩ ?h0 ?hR
      case h0 => exact (freshSet_tx w).at fun o ho => Heap.get?_push_of_some _ ho
      case hR =>
        rintro ⟨h', g', d', tk', os'⟩ mv hS'
        obtain rfl : g' = s.gens := mv.gens
        obtain rfl : d' = s.drawn := mv.drawn
        obtain rfl : os' = s.os := mv.os
        refine wpAny_pure (?_ : wpAny _ _ (ret Value.none) _ _ _)
        refine wpAny_pure ⟨rfl, h', tk', rfl, hS', fun b o hb e => ?_⟩
        refine mv.heap b o (fun z => ?_) (Heap.get?_push_of_some _ (Heap.get?_push_of_some _ e))
        rcases List.mem_cons.mp z with z | z
        · exact absurd z (Nat.ne_of_lt hb)
        · have z := List.mem_singleton.mp z
          rw [Heap.size_push] at z
          exact absurd z (Nat.ne_of_lt (Nat.lt_succ_of_lt hb))
    · match r2, hr2 with
      | .error e, hr2 => exact hr2
      | .ok (.ret r), hr2 =>
        obtain ⟨e1, h', tk, e2, hS', hk'⟩ := hr2
        subst e1 e2
        repeat (any_goals (first | assumption | wp_step))
        exact hQ _ _ hS' hk'
end
end Bo

set_option Elab.async false
set_option linter.all false
set_option maxRecDepth 100000
set_option maxHeartbeats 4000000
namespace Bo
open PySem PySem.Spec PyProof.Rows L2
/-- the set of the texts xs, as a thing of the abstract heap -/
def TxO (w : World) (a : Addr) (xs : List Str) : HO := .ext (SetTx w a xs)
theorem txO_new {P : Program} {w : World} {H : Hp} {h : Heap} {a : Addr} {xs : List Str} (R : SetTx w a xs h) : ObjOk P w H h a (TxO w a xs) := by
  refine ⟨R, ?_, fun _ _ q k => q.at k⟩
  obtain ⟨ob, _, _, _, ⟨e, _⟩, _⟩ := R
  exact ⟨ob, e⟩
section
variable {X : Cx} {pins : List (Addr × Obj)} {σ : L2.St} {H : Hp} {s : Shared} {a : Addr} {xs : List Str}
theorem txO_get (I : L2.Inv X pins σ H s) (ha : H a = some (TxO X.w a xs)) : SetTx X.w a xs s.heap := (I.hok a _ ha).1
/-- set(ys), ys a tuple of texts -/
def rSetTx (K : PySem.W.Frag) (w : World) : List V → Hp → VK → Prop := fun vs H Q => ∃ (l : Addr) (ys : List Str), vs = [.ref l] ∧ SqT K H l (ys.map V.str) ∧ ys.length + 1 < scanBound ∧ ∀ a, H a = none → Q (.ref a) (upd H a (TxO w a (onceTx ys)))
theorem cr_setTx (hc : X.calm = true) : CallR X (.type "set") (rSetTx X.K X.w) := by
  intro pins s σ H vs us Q I r h
  obtain ⟨l, ys, rfl, hq, hb, q⟩ := h
  rw [Vals.ref1 r]
  obtain ⟨its, rv, hT, _⟩ := I.tuple hq
  refine set_of_tuple (I.ok.hd hc) hT (ys := ys) (by simpa using strsAre_of rv) hb fun h' tk hS k => ?_
  have n0 : H s.heap.objs.size = none := I.hok.fresh (Nat.le_refl _)
  exact ⟨.ref s.heap.objs.size, _, I.laid (t' := tk) (a := s.heap.objs.size) (o := TxO X.w s.heap.objs.size (onceTx ys)) (h' := h') (fun b o e => k b o (Heap.lt_size e) e) (Nat.le_refl _) (txO_new hS), rfl, q _ n0⟩
/-- x in ys, x not in ys -/
def rInTx (w : World) (neg : Bool) : V → V → Hp → VK → Prop := fun x y H Q => ∃ (z : Str) (a : Addr) (xs : List Str), x = .str z ∧ y = .ref a ∧ H a = some (TxO w a xs) ∧ Q (.bl (if neg then !decide (z ∈ xs) else decide (z ∈ xs))) H
theorem op_inTx : OpR X (compareOp .In) (rInTx X.w false) := by
  intro pins s σ H x y u v Q I rx ry h
  obtain ⟨z, a, xs, rfl, rfl, ha, q⟩ := h
  obtain ⟨k, rfl⟩ := rx
  cases ry
  exact wpAny_inSet_of (knd := PySem.strKind X.prog X.w) (strKind_is _ _ _ _) rfl (txO_get I ha).setOf ⟨.bl (decide (z ∈ xs)), H, I.tok _, rfl, q⟩
theorem op_ninTx : OpR X (compareOp .NotIn) (rInTx X.w true) := by
  intro pins s σ H x y u v Q I rx ry h
  obtain ⟨z, a, xs, rfl, rfl, ha, q⟩ := h
  obtain ⟨k, rfl⟩ := rx
  cases ry
  exact wpAny_notInSet_of (knd := PySem.strKind X.prog X.w) (strKind_is _ _ _ _) rfl (txO_get I ha).setOf ⟨.bl (!decide (z ∈ xs)), H, I.tok _, rfl, q⟩
/-- len(s) -/
def rLenTx (w : World) : List V → Hp → VK → Prop := fun vs H Q => ∃ (a : Addr) (xs : List Str), vs = [.ref a] ∧ H a = some (TxO w a xs) ∧ Q (.int xs.length) H
theorem call_lenTx : CallR X (.builtin "len") (rLenTx X.w) := by
  intro pins s σ H vs us Q I r h
  obtain ⟨a, xs, rfl, ha, q⟩ := h
  rw [Vals.ref1 r]
  obtain ⟨ob, zs, gen, tb, ⟨e1, e2, e3⟩, g, p, nd, ⟨b1, f1⟩, _⟩ := txO_get I ha
  have n1 : zs.size = xs.length := SetTx.size (h := s.heap) (ob := ob) p
  have b2 : (zs.size : Int) < 2 ^ 63 := by
    have : scanBound = 4096 := rfl
    omega
  refine call_len_set e1 e2 e3 f1 b2 ⟨.int xs.length, H, I.tok _, ⟨s.toks + 1, by rw [n1]⟩, q⟩
/-- sorted(s), fewer than 64 members -/
def rSortTx (w : World) : List V → Hp → VK → Prop := fun vs H Q => ∃ (a : Addr) (xs : List Str), vs = [.ref a] ∧ H a = some (TxO w a xs) ∧ xs.length < 64 ∧
  ∀ (ys : List Str) (p : Addr), ys.Perm xs → sortedS ys = true → H p = none → Q (.ref p) (upd H p (.lst (ys.map V.str)))
theorem txts_are {w : World} : ∀ {vs : List Value}, (∀ v ∈ vs, ∃ x k, v = Value.str x k) → StrsAre vs (vs.map fun v => match v with | .str x _ => x | _ => Str.empty)
  | [], _ => .nil
  | v :: r, h => by
    obtain ⟨x, k, rfl⟩ := h v List.mem_cons_self
    exact .cons x k (txts_are (w := w) fun u hu => h u (List.mem_cons_of_mem _ hu))
theorem cr_sortTx (hc : X.calm = true) : CallR X (.builtin "sorted") (rSortTx X.w) := by
  intro pins s σ H vs us Q I r h
  obtain ⟨a, xs, rfl, ha, few, q⟩ := h
  rw [Vals.ref1 r]
  obtain ⟨ob, zs, gen, tb, ⟨e1, e2, e3⟩, g, p, nd, ⟨b1, f1⟩, r1, l1⟩ := txO_get I ha
  have n1 : zs.size = xs.length := SetTx.size (h := s.heap) (ob := ob) p
  refine Calls.call_function_entry kind_sorted plain_sorted entry_sorted (args_sorted1 _) ?_
  unfold Builtin.«sorted»
  refine wpAny_bind (m := checkCount "sorted" 1 1 _) (wpAny_pure (wpAny_bind (L2.collect_set (A := X.A.in1) (I.ok.hd hc) ⟨ob, e1, e2.1, e3⟩ f1 b1 r1 l1 fun s1 vs k1 z1 g1 o1 pm => ?_)))
  have nv : vs.length = xs.length := by rw [pm.length_eq, List.length_map, Array.length_toList]; exact n1
  have sa : StrsAre vs (vs.map fun v => match v with | .str x _ => x | _ => Str.empty) := txts_are (w := X.w) fun v hv => by
    obtain ⟨z, hz, e⟩ := List.mem_map.mp (pm.mem_iff.mp hv)
    obtain ⟨x, k, h1, _⟩ := g z hz
    exact ⟨x, k, by rw [← e]; exact h1⟩
  have pk : (vs.map fun v => match v with | .str x _ => x | _ => Str.empty).Perm xs := by
    have q1 := pm.map fun v => match v with | .str x _ => x | _ => Str.empty
    rw [List.map_map] at q1
    exact q1.trans p
  refine wpAny_bind (wpAny_newList ?_ (by rw [nv, sizeLine_eq]; omega))
  have at1 : (s1.heap.push (seqObj "list" vs.toArray 0)).get? s1.heap.objs.size = some (seqObj "list" vs.toArray 0) := Heap.get?_push_size _ rfl
  refine wpAny_bind (wpAny_holding (wpAny_call_entry slot_list_sort ⟨_, at1, rfl⟩ entry_list_sort (list_sort_treeK strKind_oneLt at1 sa.keysOf (fun v1 v2 rest e => keyKind_strs (by rw [← e]; exact sa)) (by rw [nv]; exact few) fun st hp hs => ?_) (args_list_sort _)))
  obtain ⟨ys, q1, q2, q3⟩ := sorted_out_str sa hp hs
  obtain ⟨c, hc2⟩ := sortedHeap_at (vs := vs) (out := (arrOf st).map (·.2)) at1
  refine ⟨_, rfl, wpAny_pure ⟨_, rfl, ?_⟩⟩
  have hn : H s1.heap.objs.size = none := I.hok.fresh z1
  have py : ys.Perm xs := q2.trans pk
  have nl : (ys.map V.str).length ≤ sizeLine := by rw [List.length_map, py.length_eq, sizeLine_eq]; omega
  have kp : ∀ b o, s.heap.get? b = some o → (sortedHeap (s1.heap.push (seqObj "list" vs.toArray 0)) s1.heap.objs.size vs ((arrOf st).map (·.2))).get? b = some o := fun b o e => by
    have e' := k1 b o e
    have lt := Heap.lt_size e'
    rw [sortedHeap_old (Nat.ne_of_lt lt) (by rw [size_push']; exact Nat.lt_succ_of_lt lt)]
    exact Heap.get?_push_of_some _ e'
  have J : L2.Inv X pins σ (upd H s1.heap.objs.size (.lst (ys.map V.str))) { s with heap := sortedHeap (s1.heap.push (seqObj "list" vs.toArray 0)) s1.heap.objs.size vs ((arrOf st).map (·.2)), gens := s1.gens, drawn := s1.drawn, toks := s1.toks } :=
    I.call (ch := []) (Un.laid kp z1 hn) (I.hok.laid kp z1 ⟨nl, _, c, vals_of_strs q1, hc2⟩) (by rw [g1]; exact I.bare) (fun _ z => nomatch z)
  have e : ({ s1 with heap := sortedHeap (s1.heap.push (seqObj "list" vs.toArray 0)) s1.heap.objs.size vs ((arrOf st).map (·.2)) } : Shared) = { s with heap := sortedHeap (s1.heap.push (seqObj "list" vs.toArray 0)) s1.heap.objs.size vs ((arrOf st).map (·.2)), gens := s1.gens, drawn := s1.drawn, toks := s1.toks } := by
    cases s1
    cases s
    cases o1
    rfl
  show EP X pins σ Q _ ({ s1 with heap := _ } : Shared)
  rw [e]
  exact ⟨.ref s1.heap.objs.size, _, J, rfl, q ys _ py q3 hn⟩
/-- s.add(x) -/
def tAddTx (w : World) (to : TE) (t : TA) : TE := fun σ H Q => to σ H fun x H1 => (∃ a xs, x = V.ref a ∧ H1 a = some (TxO w a xs)) ∧ t σ H1 fun vs H2 => ∃ (a : Addr) (xs : List Str) (z : Str), x = .ref a ∧ vs = [.str z] ∧ H2 a = some (TxO w a xs) ∧ xs.length + 1 < scanBound ∧ Q .non (upd H2 a (TxO w a (addTx xs z)))
theorem pe_addTx {o e : Expr} {es : List Expr} {to : TE} {t : TA} {apos cpos : Pos} (ho : PE X o to) (ha : PA X (e :: es) t) (hbase : attributeBase o "add" X.env (eval o X.env) = eval o X.env := by rfl)
    (hfew : ((backTo cpos (starEach (e :: es) X.env)).all (fun x => !x.1) && (backToKw cpos (keywordEach [] X.env)).all (fun x => x.1.isSome) && decide ((e :: es).length + ([] : List Keyword).length + (if ([] : List Keyword).isEmpty then 0 else 1) < 30)) = true := by rfl)
    (hline : (apos.endLine == cpos.line) = true := by rfl) (hs : starEach (e :: es) X.env = (false, eval e X.env) :: starEach es X.env := by rfl) (hpl : (backTo cpos (starEach es X.env)).any (·.1) = false := by rfl) :
    PE X (.Call (.Attribute o "add" apos) (e :: es) [] cpos) (tAddTx X.w to t) := by
  refine ⟨fun pins s σ H Q I h => wpAny_Call_method_late hbase hfew hline rfl (thn (ho.run pins s σ H _ I h) fun v s1 ⟨x, H1, I1, r1, ty, q1⟩ => ?_)⟩
  obtain ⟨a, xs, rfl, ha1⟩ := ty
  have st := (txO_get I1 ha1).setOf (P := X.prog)
  cases r1
  refine ⟨"set", "set.add", PySem.F.plainAttrs_set, PySem.F.slot_set_add, PySem.F.type_set_add, st.typeIs, st.noDict, ?_⟩
  have hA := ha.run cpos pins s1 σ H1 _ I1 q1
  rw [hs] at hA ⊢
  refine Calls.callWith_builtin (by show (false || (backTo cpos (starEach es X.env)).any (·.1)) = false; rw [hpl]; rfl) (Calls.evalArgs_plain (thn hA fun us s2 ⟨vs, H2, I2, r2, a', ys, z, ea, ev, ha2, room, q2⟩ => ?_))
  cases ea
  subst ev
  obtain ⟨u, rfl, k, rfl⟩ := vals1 r2
  have R2 := txO_get I2 ha2
  refine wpAny_call_entry PySem.F.slot_set_add (R2.setOf (P := X.prog)).typeIs PySem.F.entry_set_add ?_ (PySem.F.args_set_add_2 _ _)
  unfold Builtin.«set.add» Builtin.Frozenset.oneOther
  simp only [List.isEmpty_nil, bind_assoc]
  unfold Builtin.Frozenset.addrOf setAdd
  refine wpAny_bind (wpAny_pure ?_)
  try dsimp only
  refine wpAny_bind (wpAny_holding (wpAny_bind ((PySem.strKind X.prog X.w).pyHash (strKind_is X.prog X.w z k) (txt_addHashed (P := X.prog) (s := { s2 with toks := s2.toks + 1 }) R2 room fun b h' sb R3 => ?_))))
  refine wpAny_pure ⟨_, rfl, ?_⟩
  have he : ∃ u, h'.get? a = some u := by
    obtain ⟨ob, _, _, _, ⟨e, _⟩, _⟩ := R3
    exact ⟨ob, e⟩
  exact ⟨.non, _, I2.write (e := a) (x := a) (o := TxO X.w a (addTx ys z)) (t' := s2.toks + 1) (by rw [ha2]; trivial) (.inl rfl) (fun b u hb hu => (sb.2 b hb).trans hu) he (txO_new R3), rfl, q2⟩
end
end Bo

set_option Elab.async false
set_option linter.all false
set_option maxRecDepth 100000
set_option maxHeartbeats 4000000
namespace Bo
open PySem L2
def top (i : Nat) : Stmt := PySem.Challenge.pw_blockorder_k36_written_forms.main.body.getD i (.Pass ⟨0, 0, 0, 0⟩)
abbrev sBegin : Stmt := top 63
abbrev sDraw : Stmt := top 64
abbrev sPick : Stmt := top 65

/-! ### the tape -/
abbrev kC : Key := Sum.inr (Str.ofString "cells")
abbrev kP : Key := Sum.inr (Str.ofString "place")
abbrev kL : Key := Sum.inr (Str.ofString "left")
theorem ne1 : ¬ (kC = kP) := by decide +kernel
theorem ne2 : ¬ (kC = kL) := by decide +kernel
theorem ne3 : ¬ (kP = kL) := by decide +kernel
theorem same_new {H : Hp} {p : Addr} {o : HO} (h : H p = none) : Same H (upd H p o) := fun b u e => by rw [upd_ne (ne_of_none e h)]; exact e
def tapeK (c : Addr) (p l : Int) : List (Key × V) := [(kC, V.ref c), (kP, V.int p), (kL, V.int l)]
theorem tk_cells (c : Addr) (p l : Int) : valV (tapeK c p l) kC = some (V.ref c) := by
  unfold tapeK; rw [valV_pos rfl]
theorem tk_place (c : Addr) (p l : Int) : valV (tapeK c p l) kP = some (V.int p) := by
  unfold tapeK; rw [valV_neg ne1, valV_pos rfl]
theorem tk_left (c : Addr) (p l : Int) : valV (tapeK c p l) kL = some (V.int l) := by
  unfold tapeK; rw [valV_neg ne2, valV_neg ne3, valV_pos rfl]
theorem tp_place (c : Addr) (p l q : Int) : putK (tapeK c p l) kP (V.int q) = tapeK c q l := by
  unfold tapeK putK
  have e : ([(kC, V.ref c), (kP, V.int p), (kL, V.int l)].any fun kv => decide (kv.1 = kP)) = true := by
    rw [List.any_cons, List.any_cons, decide_eq_true (rfl : kP = kP), Bool.true_or, Bool.or_true]
  rw [if_pos e]
  show [if kC = kP then _ else _, if kP = kP then _ else _, if kL = kP then _ else _] = _
  rw [if_neg ne1, if_pos rfl, if_neg (Ne.symm ne3)]
theorem tp_left (c : Addr) (p l q : Int) : putK (tapeK c p l) kL (V.int q) = tapeK c p q := by
  unfold tapeK putK
  have e : ([(kC, V.ref c), (kP, V.int p), (kL, V.int l)].any fun kv => decide (kv.1 = kL)) = true := by
    rw [List.any_cons, List.any_cons, List.any_cons, decide_eq_true (rfl : kL = kL), Bool.true_or, Bool.or_true, Bool.or_true]
  rw [if_pos e]
  show [if kC = kL then _ else _, if kP = kL then _ else _, if kL = kL then _ else _] = _
  rw [if_neg ne2, if_neg ne3, if_pos rfl]
theorem tk_merge (c : Addr) (p l : Int) : mergeK [] (tapeK c p l) = tapeK c p l := by
  have e1 : putK ([] : List (Key × V)) kC (V.ref c) = [(kC, V.ref c)] := rfl
  have e2 : putK [(kC, V.ref c)] kP (V.int p) = [(kC, V.ref c), (kP, V.int p)] := putK_new _ (by rw [valV_neg ne1]; rfl)
  have e3 : putK [(kC, V.ref c), (kP, V.int p)] kL (V.int l) = tapeK c p l := putK_new _ (by rw [valV_neg ne2, valV_neg ne3]; rfl)
  show putK (putK (putK [] kC (V.ref c)) kP (V.int p)) kL (V.int l) = _
  rw [e1, e2, e3]
/-- all that was tracked but t is as it was -/
def But (t : Addr) (H H' : Hp) : Prop := ∀ b o, H b = some o → b ≠ t → H' b = some o
theorem But.refl {t : Addr} {H : Hp} : But t H H := fun _ _ e _ => e
theorem But.trans {t : Addr} {H H1 H2 : Hp} (a : But t H H1) (b : But t H1 H2) : But t H H2 := fun c o e n => b c o (a c o e n) n
theorem But.upd {t : Addr} {H H1 : Hp} {o : HO} (a : But t H H1) : But t H (upd H1 t o) := fun c u e n => by rw [upd_ne n]; exact a c u e n
theorem But.new {t q : Addr} {H H1 : Hp} {o : HO} (a : But t H H1) (h : H1 q = none) : But t H (L2.upd H1 q o) := fun c u e n => by
  have e1 := a c u e n
  rw [upd_ne (ne_of_none e1 h)]; exact e1
/-- a reader of draws stands at t -/
structure Tape (H : Hp) (t c : Addr) (cs : List Int) (p l : Int) : Prop where
  d : H t = some (.dK (tapeK c p l))
  c : H c = some (.lst (cs.map V.int))
  n : cs ≠ []
  m : cs.length ≤ 63
  p0 : 0 ≤ p
  l0 : 0 ≤ l
theorem Tape.ne {H : Hp} {t c : Addr} {cs : List Int} {p l : Int} (T : Tape H t c cs p l) : t ≠ c := ne_of T.d T.c (by intro z; cases z)
theorem Tape.keep {H H' : Hp} {t c : Addr} {cs : List Int} {p l : Int} (T : Tape H t c cs p l) (k : Same H H') : Tape H' t c cs p l := ⟨k _ _ T.d, k _ _ T.c, T.n, T.m, T.p0, T.l0⟩

theorem Tape.gl {H : Hp} {t c : Addr} {cs : List Int} {p l : Int} (T : Tape H t c cs p l) : DGet H t (V.str (Str.ofString "left")) (some (V.int l)) := tk_left c p l ▸ DGet.k (k := kL) T.d
theorem Tape.gp {H : Hp} {t c : Addr} {cs : List Int} {p l : Int} (T : Tape H t c cs p l) : DGet H t (V.str (Str.ofString "place")) (some (V.int p)) := tk_place c p l ▸ DGet.k (k := kP) T.d
theorem Tape.gc {H : Hp} {t c : Addr} {cs : List Int} {p l : Int} (T : Tape H t c cs p l) : DGet H t (V.str (Str.ofString "cells")) (some (V.ref c)) := tk_cells c p l ▸ DGet.k (k := kC) T.d
theorem Tape.pp {H : Hp} {t c : Addr} {cs : List Int} {p l : Int} (T : Tape H t c cs p l) (q : Int) : DPut H t (V.str (Str.ofString "place")) (V.int q) (upd H t (.dK (tapeK c q l))) := tp_place c p l q ▸ DPut.k (k := kP) T.d (by show 3 < sizeLine; decide)
theorem Tape.pl {H : Hp} {t c : Addr} {cs : List Int} {p l : Int} (T : Tape H t c cs p l) (q : Int) : DPut H t (V.str (Str.ofString "left")) (V.int q) (upd H t (.dK (tapeK c p q))) := tp_left c p l q ▸ DPut.k (k := kL) T.d (by show 3 < sizeLine; decide)
theorem Tape.put {H : Hp} {t c : Addr} {cs : List Int} {p l : Int} (T : Tape H t c cs p l) {p' l' : Int} (h1 : 0 ≤ p') (h2 : 0 ≤ l') : Tape (upd H t (.dK (tapeK c p' l'))) t c cs p' l' :=
  ⟨upd_same, by rw [upd_ne T.ne.symm]; exact T.c, T.n, T.m, h1, h2⟩
theorem Tape.new {H : Hp} {t c : Addr} {cs : List Int} {p l : Int} (T : Tape H t c cs p l) {q : Addr} {o : HO} (h : H q = none) : Tape (upd H q o) t c cs p l := T.keep (same_new h)
def spBegin (K : PySem.W.Frag) : Sp := fun vs H Q _ => ∃ (a : Addr) (ns : List Int), vs = [.ref a] ∧ SqL K H a (ns.map V.int) ∧ ns.length ≤ 63 ∧
  ∀ (t c : Addr) (cs : List Int) (H' : Hp), H t = none → H c = none → Tape H' t c cs 0 0 → Same H H' → Q (.ref t) H'
structure TxtB (mg : Str → Option Value) : Prop where
  len : mg "len" = none
section
variable {P : Program} {w : World} {K : PySem.W.Frag} {mg : Str → Option Value} {base : Heap}
theorem scB : FnScope ["_law_script"] ["_law_script"] (defScope sBegin) := ⟨rfl, rfl, rfl, by decide +kernel, rfl, by decide +kernel, by decide +kernel⟩
theorem ok_begin {f : Addr} {fd : FuncData} (F : Fun K "_law_begin" "_law_begin" sBegin f fd) : FnOk P w K mg base CX0 1 f fd ["_law_script"] (spBegin K) := by
  refine F.ok scB (fun vs H Q E h => ?_) (fun cdv A outer s H vs Q E hr h => ?_)
  · obtain ⟨a, ns, rfl, _⟩ := h
    rfl
  · obtain ⟨a, ns, rfl, hS, hl, k⟩ := h
    refine ⟨_, pss_one (ps_ret (pe_disp (pps_cons pe_str (pe_orT (pe_slice sl_list (pv 0) po_none (po_some pe_int)) (pe_one (pe_lst (pa_cons pe_int pa_nil)))) (pps_cons pe_str pe_int (pps_cons pe_str pe_int pps_nil))) (by rfl) (by rfl) (fun z => by cases z) (by decide))), ?_⟩
    intro t ht
    have s1 : Same H (upd H t (HO.dK [])) := same_new ht
    refine ⟨_, rfl, ⟨63, rfl, a, _, rfl, s1.seq hS, fun c hc => ?_⟩⟩
    have hcn : H c = none := s1.free hc
    have tc : t ≠ c := fun e => by rw [← e, upd_same] at hc; cases hc
    have ecut : cutV (ns.map V.int) none (some 63) = ns.map V.int := by
      unfold cutV
      rw [HT.sIx_none, Nat.sub_zero, List.drop_zero]
      have : HT.sIx (ns.map V.int).length (ns.map V.int).length (some (63 : Int)) = (ns.map V.int).length := by
        have h2 : (ns.map V.int).length ≤ 63 := by rw [List.length_map]; exact hl
        exact (HT.sIx_nat _ _ 63).trans (by omega)
      rw [this, List.take_length]
    rw [ecut]
    cases ns with
    | nil =>
      refine ⟨false, .inl ⟨[], .inl (.inl upd_same), rfl⟩, ?_⟩
      refine iteF ?_
      refine ⟨by decide, fun d hd => ?_⟩
      have td : t ≠ d := fun e => by rw [← e, upd_ne tc, upd_same] at hd; cases hd
      have cd : c ≠ d := fun e => by rw [← e, upd_same] at hd; cases hd
      have hdn : H d = none := by rw [upd_ne cd.symm, upd_ne td.symm] at hd; exact hd
      refine ⟨by rw [upd_ne td, upd_ne tc]; exact upd_same, tapeK d 0 0, rfl, by show 3 ≤ 15; decide, ?_⟩
      have em : mergeK [] (tapeK d 0 0) = tapeK d 0 0 := tk_merge d 0 0
      rw [em]
      refine k t d [0] _ ht hdn ⟨upd_same, by rw [upd_ne td.symm]; exact upd_same, by simp, by decide, by decide, by decide⟩ fun b o e => ?_
      rw [upd_ne (ne_of_none e ht), upd_ne (ne_of_none e hdn), upd_ne (ne_of_none e hcn), upd_ne (ne_of_none e ht)]
      exact e
    | cons n r =>
      refine ⟨true, .inl ⟨_, .inl (.inl upd_same), rfl⟩, ?_⟩
      refine iteT ?_
      refine ⟨by rw [upd_ne tc]; exact upd_same, tapeK c 0 0, rfl, by show 3 ≤ 15; decide, ?_⟩
      have em : mergeK [] (tapeK c 0 0) = tapeK c 0 0 := tk_merge c 0 0
      rw [em]
      refine k t c (n :: r) _ ht hcn ⟨upd_same, by rw [upd_ne tc.symm]; exact upd_same, by simp, hl, by decide, by decide⟩ fun b o e => ?_
      rw [upd_ne (ne_of_none e ht), upd_ne (ne_of_none e hcn), upd_ne (ne_of_none e ht)]
      exact e
/-- draw(tape, m) -/
def spDraw : Sp := fun vs H Q _ => ∃ (t c : Addr) (cs : List Int) (p l m : Int), vs = [.ref t, .int m] ∧ Tape H t c cs p l ∧ 0 < m ∧ m < 1073741824 ∧ p < 1000000000000 ∧
  ∀ (r p' l' : Int) (H' : Hp), 0 ≤ r → r < m → p ≤ p' → p' ≤ p + 1 → Tape H' t c cs p' l' → But t H H' → Q (.int r) H'
theorem scD : FnScope ["_law_tape", "_law_many", "_law_place", "_law_cap", "_law_cell", "_law_found"] ["_law_tape", "_law_many"] (defScope sDraw) := ⟨rfl, rfl, rfl, by decide +kernel, rfl, by decide +kernel, by decide +kernel⟩
theorem ok_draw {f : Addr} {fd : FuncData} (F : Fun K "_law_draw" "_law_draw" sDraw f fd) (T : TxtB mg) : FnOk P w K mg base CX0 1 f fd ["_law_tape", "_law_many"] spDraw := by
  refine F.ok scD (fun vs H Q E h => ?_) (fun cdv A outer s H vs Q E hr h => ?_)
  · obtain ⟨t, c, cs, p, l, m, rfl, _⟩ := h
    rfl
  · obtain ⟨t, c, cs, p, l, m, rfl, hT, hm0, hm1, hp, k⟩ := h
    have hu := hu_of hr
    refine ⟨_, pss_cons (ps_if (pt_cmpR op_lt (pe_dget hu (pv 0) pe_str (fun _ _ => rfl)) (pv 1) (nomark _))
        (pss_cons (ps_par (i := 2) (j := 3) (by rfl) scD.nd rfl rfl (by decide) rfl rfl (pa_cons (pe_dget hu (pv 0) pe_str (fun _ _ => rfl)) (pa_cons (pe_callB call_len_seq (by rfl) T.len PySem.boot_len (pa_cons (pe_dget hu (pv 0) pe_str (fun _ _ => rfl)) pa_nil)) pa_nil)) (by rfl))
        (pss_cons (ps_asg (pe_tup (pa_cons (pe_ix ix_list (pe_dget hu (pv 0) pe_str (fun _ _ => rfl)) (pe_op op_mod (pv 2) (pv 3)) (fun _ _ => rfl)) (pa_cons (pe_op op_add (pv 2) pe_int) pa_nil)))
          (pg_tup (by rfl) (pgs_cons (pg_name (i := 4) scD.nd rfl (.inl rfl)) (pgs_cons (pg_sub (pv 0) pe_str (set_dict hu)) pgs_nil))))
        (pss_cons (ps_dput hu (pv 0) pe_str (pe_op op_mod (pe_op op_pow (pe_op op_add (pe_op op_add (pe_op op_mod (pv 4) pe_int) (pe_op op_mul pe_int (pv 2))) pe_int) pe_int) (pe_op op_add (pe_op op_pow pe_int pe_int) pe_int)) rfl)
        (pss_one (ps_if (PW.pt (pw_and (pt_cmpR op_ge (pv 4) (pe_op op_pow pe_int pe_int) (nomark _)) (pw_and1 (pt_cmpR op_lt (pv 2) (pv 3) (nomark _)))))
          (pss_one (ps_dput hu (pv 0) pe_str (pe_op op_sub (pv 4) (pe_op op_pow pe_int pe_int)) rfl)) pss_nil))))) pss_nil)
      (pss_cons (ps_asg (pe_tup (pa_cons (pe_op op_mod (pe_dget hu (pv 0) pe_str (fun _ _ => rfl)) (pv 1)) (pa_cons (pe_op op_fdivW (pe_dget hu (pv 0) pe_str (fun _ _ => rfl)) (pv 1)) pa_nil)))
          (pg_tup (by rfl) (pgs_cons (pg_name (i := 5) scD.nd rfl (.inl rfl)) (pgs_cons (pg_sub (pv 0) pe_str (set_dict hu)) pgs_nil))))
      (pss_one (ps_ret (pv 5)))), ?_⟩
    refine ⟨_, rfl, t, _, rfl, hT.gl, _, rfl, _, _, rfl, rfl, _, rfl, ?_⟩
    -- behind the if: the left is what it is
    have last : ∀ (H1 : Hp) (σ : St) (p1 l1 : Int), σ[0]? = some (some (V.ref t)) → σ[1]? = some (some (V.int m)) → σ.length = 6 → Tape H1 t c cs p1 l1 → p ≤ p1 → p1 ≤ p + 1 → But t H H1 →
      (tSeq (tAsg (tTup (tCons (tOp (rI (fun _ j => 0 < j) fun i j => .int (i % j)) (tDGet (tVar 0) (tC (V.str (Str.ofString "left")))) (tVar 1)) (tCons (tOp (rI CDivW fun i j => .int (i / j)) (tDGet (tVar 0) (tC (V.str (Str.ofString "left")))) (tVar 1)) tNil))) (gTup K 2 (gCons (gName 5) (gCons (gSub (tVar 0) (tC (V.str (Str.ofString "left"))) rSetD) gNil)))) (tRet (tVar 5))) { nx := fun _ H' => Q .non H', rt := Q } σ H1 := by
      intro H1 σ p1 l1 e0 e1 el T1 a1 a2 sm
      refine ⟨_, e0, t, _, rfl, T1.gl, _, e1, _, _, rfl, rfl, hm0, _, e0, t, _, rfl, T1.gl, _, e1, _, _, rfl, rfl, wide_div (b := 40) hm0 (by omega) (by decide) (by decide), by show 2 ≤ sizeLine; decide, fun q hq => ?_⟩
      have T2 := T1.new (q := q) (o := .tup [.int (l1 % m), .int (l1 / m)]) hq
      have hr0 : 0 ≤ l1 % m := Int.emod_nonneg l1 (by omega)
      have hr1 : l1 % m < m := Int.emod_lt_of_pos l1 hm0
      have hl0 : 0 ≤ l1 / m := Int.ediv_nonneg T1.l0 (by omega)
      refine ⟨q, _, rfl, SqT.of upd_same, rfl, _, _, rfl, _, _, rfl, ?_⟩
      have g0 : (σ.set 5 (some (V.int (l1 % m))))[0]? = some (some (V.ref t)) := by rw [List.getElem?_set_ne (by decide)]; exact e0
      have g5 : (σ.set 5 (some (V.int (l1 % m))))[5]? = some (some (V.int (l1 % m))) := by rw [List.getElem?_set_self (by omega)]
      refine ⟨_, g0, t, _, rfl, T2.pl _, rfl, _, g5, ?_⟩
      exact k _ p1 _ _ hr0 hr1 a1 a2 (T2.put T1.p0 hl0) (But.upd (But.new sm hq))
    refine ite2 (fun hlt => ?_) (fun hge => ?_)
    · -- the cell is read
      have hlen : (0 : Int) < (cs.length : Int) := by
        have := List.length_pos_iff.mpr hT.n
        omega
      have hp0 := hT.p0
      have hix : ∃ cell, cs[(p % (cs.length : Int)).toNat]? = some cell := by
        have h1 : p % (cs.length : Int) < (cs.length : Int) := Int.emod_lt_of_pos _ hlen
        have h0 : 0 ≤ p % (cs.length : Int) := Int.emod_nonneg _ (by omega)
        exact ⟨_, List.getElem?_eq_getElem (by omega)⟩
      obtain ⟨cell, hcell⟩ := hix
      have hcv : atI (cs.map V.int) (p % ((cs.map V.int).length : Int)) = some (V.int cell) := by
        have h0 : 0 ≤ p % (cs.length : Int) := Int.emod_nonneg _ (by omega)
        rw [List.length_map]
        have e : p % (cs.length : Int) = ((p % (cs.length : Int)).toNat : Int) := by omega
        rw [e]
        exact atI_nat (by rw [List.getElem?_map, hcell]; rfl)
      refine ⟨_, rfl, t, _, rfl, hT.gp, _, rfl, t, _, rfl, hT.gc, c, _, rfl, .inl (SqL.of hT.c), _, _, rfl, ?_⟩
      refine ⟨_, rfl, t, _, rfl, hT.gc, _, rfl, _, rfl, _, _, rfl, rfl, by rw [List.length_map]; exact hlen, c, _, _, _, rfl, rfl, SqL.of hT.c, hcv, _, rfl, _, _, rfl, rfl, by show 2 ≤ sizeLine; decide, fun q hq => ?_⟩
      have T2 := hT.new (q := q) (o := .tup [V.int cell, .int (p + 1)]) hq
      refine ⟨q, _, rfl, SqT.of upd_same, rfl, _, _, rfl, _, _, rfl, ?_⟩
      refine ⟨_, rfl, t, _, rfl, T2.pp _, rfl, ?_⟩
      have T3 := T2.put (p' := p + 1) (l' := l) (by omega) T2.l0
      have B3 : But t H (upd (upd H q (.tup [V.int cell, .int (p + 1)])) t (.dK (tapeK c (p + 1) l))) := But.upd (But.new But.refl hq)
      -- left = (..) ** 17 .. 
      have hb0 : 0 ≤ cell % 2147483647 := Int.emod_nonneg _ (by decide)
      have hb1 : cell % 2147483647 < 2147483647 := Int.emod_lt_of_pos _ (by decide)
      refine ⟨_, rfl, _, _, rfl, rfl, (by show (0 : Int) < 2147483647; decide), _, rfl, _, _, rfl, rfl, .inl ⟨by decide, by decide⟩, _, _, rfl, rfl, _, _, rfl, rfl, _, _, rfl, rfl, ⟨by decide, by decide, by omega⟩, _, _, rfl, rfl, ⟨by decide, by decide, by decide⟩, _, _, rfl, rfl, _, _, rfl, rfl, ?_, ?_⟩
      · show (0 : Int) < 10 ^ 50 + 151
        decide
      have hbig : (0 : Int) ≤ ((cell % 2147483647 + 69621 * p + 48271) ^ Int.toNat 17) % (10 ^ Int.toNat 50 + 151) := Int.emod_nonneg _ (by show (10 : Int) ^ 50 + 151 ≠ 0; decide)
      refine ⟨_, rfl, t, _, rfl, T3.pl _, ?_⟩
      have T4 := T3.put (p' := p + 1) (l' := ((cell % 2147483647 + 69621 * p + 48271) ^ Int.toNat 17) % (10 ^ Int.toNat 50 + 151)) (by omega) hbig
      have B4 := B3.upd (o := .dK (tapeK c (p + 1) (((cell % 2147483647 + 69621 * p + 48271) ^ Int.toNat 17) % (10 ^ Int.toNat 50 + 151))))
      refine ⟨_, rfl, _, _, rfl, rfl, ⟨by decide, by decide, by decide⟩, _, _, rfl, rfl, _, rfl, ?_⟩
      refine ite2 (fun hc => ?_) (fun hc => iteF (last _ _ (p + 1) _ rfl rfl rfl T4 (by omega) (by omega) B4))
      refine ⟨_, rfl, _, rfl, _, _, rfl, rfl, _, rfl, ?_⟩
      refine ite2 (fun _ => ?_) (fun _ => last _ _ (p + 1) _ rfl rfl rfl T4 (by omega) (by omega) B4)
      refine ⟨_, rfl, _, _, rfl, rfl, ⟨by decide, by decide, by decide⟩, _, _, rfl, rfl, _, rfl, t, _, rfl, T4.pl _, ?_⟩
      have hc' : (10 : Int) ^ Int.toNat 18 ≤ cell := of_decide_eq_true hc
      exact last _ _ (p + 1) _ rfl rfl rfl (T4.put (by omega) (by omega)) (by omega) (by omega) B4.upd
    · exact last H _ p l rfl rfl rfl hT (by omega) (by omega) But.refl
/-- pick(tape, items): one of the items, which stands as before -/
def spPick : Sp := fun vs H Q _ => ∃ (t c a : Addr) (cs : List Int) (p l : Int) (xs : List V), vs = [.ref t, .ref a] ∧ Tape H t c cs p l ∧ H a = some (.lst xs) ∧ xs ≠ [] ∧ xs.length ≤ 1000000 ∧ p < 1000000000000 ∧
  ∀ (i : Nat) (x : V) (p' l' : Int) (H' : Hp), xs[i]? = some x → p ≤ p' → p' ≤ p + 1 → Tape H' t c cs p' l' → But t H H' → Q x H'
theorem scP : FnScope ["_law_tape", "_law_items"] ["_law_tape", "_law_items"] (defScope sPick) := ⟨rfl, rfl, rfl, by decide +kernel, rfl, by decide +kernel, by decide +kernel⟩
theorem ok_pick {f fD : Addr} {fd fdD : FuncData} (F : Fun K "_law_pick" "_law_pick" sPick f fd) (T : TxtB mg) (G : FnOk P w K mg base CX0 1 fD fdD ["_law_tape", "_law_many"] spDraw) (mD : mg "_law_draw" = some (.ref fD)) (kD : PySem.W.keepIn K (.ref fD) = true) (bD : Binds K fdD ["_law_tape", "_law_many"] []) :
    FnOk P w K mg base CX0 2 f fd ["_law_tape", "_law_items"] spPick := by
  refine F.ok scP (fun vs H Q E h => ?_) (fun cdv A outer s H vs Q E hr h => ?_)
  · obtain ⟨t, c, a, cs, p, l, xs, rfl, _⟩ := h
    rfl
  · obtain ⟨t, c, a, cs, p, l, xs, rfl, hT, ha, hn, hx, hp, k⟩ := h
    have hl : 0 < xs.length := List.length_pos_iff.mpr hn
    refine ⟨_, pss_one (ps_ret (pe_ix ix_list (pv 1) (pe_call G hr rfl mD kD bD .nil pass0 (pa_cons (pv 0) (pa_cons (pe_callB call_len_seq (by rfl) T.len PySem.boot_len (pa_cons (pv 1) pa_nil)) pa_nil))) (fun _ _ => rfl))), ?_⟩
    refine ⟨_, rfl, _, rfl, _, rfl, a, xs, rfl, .inl (SqL.of ha), t, c, cs, p, l, _, rfl, hT, by omega, by omega, hp, fun r p' l' H' h0 h1 a1 a2 hT' hB => ?_⟩
    have hat : a ≠ t := ne_of ha hT.d (by intro z; cases z)
    obtain ⟨i, rfl⟩ : ∃ i : Nat, r = (i : Int) := ⟨r.toNat, by omega⟩
    have hi : i < xs.length := by omega
    refine ⟨a, xs, _, _, rfl, rfl, SqL.of (hB _ _ ha hat), atI_nat (List.getElem?_eq_getElem hi), k i _ p' l' H' (List.getElem?_eq_getElem hi) a1 a2 hT' hB⟩
end
end Bo

set_option Elab.async false
set_option linter.all false
set_option maxRecDepth 100000
set_option maxHeartbeats 4000000
/-! defs that ask repr: what runs around them is known to bear no repr in progress -/
namespace Bo
open PySem PySem.Spec PyProof.Rows L2
/-- room, and no repr in progress -/
structure Quiet (k : Nat) (A : Around) : Prop where
  room : Room k A
  gd : A.guards = some []
theorem Quiet.mono {j k : Nat} {A : Around} (q : Quiet k A) (h : j ≤ k) : Quiet j A := ⟨q.room.mono h, q.gd⟩
/-- a def's promise, kept where no repr is in progress -/
structure FnQ (P : Program) (w : World) (K : PySem.W.Frag) (mg : Str → Option Value) (base : Heap) (CX : CXT) (k : Nat) (f : Addr) (fd : FuncData) (ps : List Str) (sp : Sp) : Prop where
  len : ∀ vs H Q E, sp vs H Q E → vs.length = ps.length
  run : ∀ (A : Around) (outer : List Env) (s : Shared) (H : Hp) (args : Args) (us : List Value) (vs : List V) (Q : VK) (E : XK), Quiet k A → Env0 P w K mg base A outer s H → BindsTo s fd args (ps.zip us) → Vals vs us → sp vs H Q E →
    codeAny (model P w) A (.call (.ref f) args) (CR CX outer P w H s Q E) s
theorem FnQ.of {P : Program} {w : World} {K : PySem.W.Frag} {mg : Str → Option Value} {base : Heap} {CX : CXT} {k : Nat} {f : Addr} {fd : FuncData} {ps : List Str} {sp : Sp} (F : FnOk P w K mg base CX k f fd ps sp) : FnQ P w K mg base CX k f fd ps sp :=
  ⟨F.len, fun A outer s H args us vs Q E hr => F.run A outer s H args us vs Q E hr.room⟩
section
variable {CX : CXT} {P : Program} {w : World} {K : PySem.W.Frag} {mg : Str → Option Value} {base : Heap}
theorem fnq_of {k : Nat} {f : Addr} {name qual : Str} {params : Arguments} {body : List Stmt} {scope : Scope} {dV kV doc pm cdv ct oc : Value} {an od : Option Addr}
    {osl : Array (Option Value)} {N ps : List Str} {sp : Sp} (lk : K.lookup f = some ⟨oc, od, .func (PySem.W.fnOf name qual params body scope dV kV doc pm an cdv ct), osl⟩) (hcd : PySem.W.codeIn K cdv qual = true) (S : FnScope N ps scope)
    (len : ∀ vs H Q E, sp vs H Q E → vs.length = ps.length)
    (hbody : ∀ (A : Around) (outer : List Env) (s : Shared) (H : Hp) (vs : List V) (Q : VK) (E : XK), Quiet k (A.deeper (envOfC qual scope s.heap.objs.size f cdv)) → sp vs H Q E →
      ∃ t, PSs (cxOf CX P w K mg base N qual scope f cdv A outer s H E) body t ∧ t { nx := fun _ H' => Q .non H', rt := Q } (start N vs) H) :
    FnQ P w K mg base CX (k + 1) f (PySem.W.fnOf name qual params body scope dV kV doc pm an cdv ct) ps sp := by
  refine ⟨len, fun A outer s H args us vs Q E hq0 e0 hb r hsp => ?_⟩
  have hr := hq0.room
  have hl := len _ _ _ _ hsp
  have KX : K.In s.heap := e0.mod.kin.keeps fun b o e => (e0.bs b o e).1
  have lim : s.heap.NoLimit := e0.mod.nolimit.keeps fun b o e => (e0.bs b o e).1
  have hk : ∀ y ∈ ps.zip us, scope.names.lookup y.1 = some .local ∨ (scope.names.lookup y.1 = some .cell ∧ ((cellsFrom (s.heap.objs.size + 1) scope.names []).lookup y.1).isSome = true) := fun ⟨n, v⟩ hy => by
    rcases S.par n (List.of_mem_zip hy).1 with q | q
    · exact .inl q
    · exact .inr ⟨q, PySem.W.cellsFrom_some _ _ _ (.inl q)⟩
  refine codeAny_call_function hr.depth (KX _ _ lk) rfl S.co S.gen rfl (PySem.W.codeRec_of KX hcd) (hb _ _ _ _ (wpAny_newFunctionEnv_cells S.kind hk fun env he s1 x => ?_))
  subst he
  refine ⟨lim.keeps x.toInCall.keep, codeAny_func ?_⟩
  have hq1 : Quiet k (A.deeper (envOfC qual scope s.heap.objs.size f cdv)) := ⟨hr.deeper _, hq0.gd⟩
  obtain ⟨t, ht, hq⟩ := hbody A outer s H vs Q E hq1 hsp
  have I : L2.Inv (cxOf CX P w K mg base N qual scope f cdv A outer s H E) [] (start N vs) H s1 := inv_start S hr.hd e0 hl r x
  refine wpAny_mono (ht.run [] s1 (start N vs) H _ I hq) (fun fl s' hs => ?_) fun e s' hs => hs
  cases fl with
  | ret u =>
    obtain ⟨v, σ', H', J, rv, q⟩ := hs
    exact ⟨v, H', J.os, J.bare, J.base, J.hok, rv, q⟩
  | next =>
    obtain ⟨σ', H', J, q⟩ := hs
    exact ⟨V.non, H', J.os, J.bare, J.base, J.hok, rfl, q⟩
  | brk => exact (let ⟨_, _, _, q⟩ := hs; False.elim q)
  | cont => exact (let ⟨_, _, _, q⟩ := hs; False.elim q)
/-- THE RULE for a def of the text that asks repr -/
theorem fun_okQ {x qual : Str} {st : Stmt} {f : Addr} {fd : FuncData} {N ps : List Str} {k : Nat} {sp : Sp} (F : Fun K x qual st f fd) (S : FnScope N ps (defScope st)) (len : ∀ vs H Q E, sp vs H Q E → vs.length = ps.length)
    (hbody : ∀ (cdv : Value) (A : Around) (outer : List Env) (s : Shared) (H : Hp) (vs : List V) (Q : VK) (E : XK), Quiet k (A.deeper (envOfC qual (defScope st) s.heap.objs.size f cdv)) → sp vs H Q E →
      ∃ t, PSs (cxOf CX P w K mg base N qual (defScope st) f cdv A outer s H E) (defBody st) t ∧ t { nx := fun _ H' => Q .non H', rt := Q } (start N vs) H) : FnQ P w K mg base CX (k + 1) f fd ps sp := by
  obtain ⟨oc, od, kV, doc, pm, an, cdv, ct, osl, rfl, lk, hcd⟩ := F.ex
  exact fnq_of lk hcd S len fun A outer s H vs Q E hr hsp => hbody cdv A outer s H vs Q E hr hsp
/-- .. which no exception leaves -/
theorem fun_okQ0 {x qual : Str} {st : Stmt} {f : Addr} {fd : FuncData} {N ps : List Str} {k : Nat} {sp : Sp} (F : Fun K x qual st f fd) (S : FnScope N ps (defScope st)) (len : ∀ vs H Q E, sp vs H Q E → vs.length = ps.length)
    (hbody : ∀ (cdv : Value) (A : Around) (outer : List Env) (s : Shared) (H : Hp) (vs : List V) (Q : VK) (E : XK), Quiet k (A.deeper (envOfC qual (defScope st) s.heap.objs.size f cdv)) → sp vs H Q E →
      ∃ t, PSs (cxOf CX0 P w K mg base N qual (defScope st) f cdv A outer s H E).nox (defBody st) t ∧ t { nx := fun _ H' => Q .non H', rt := Q } (start N vs) H) : FnQ P w K mg base CX0 (k + 1) f fd ps sp :=
  fun_okQ F S len fun cdv A outer s H vs Q E hq hsp => let ⟨t, h, q⟩ := hbody cdv A outer s H vs Q E hq hsp; ⟨t, h.nox, q⟩
end
section
variable {X : Cx} {CX : CXT} {k : Nat} {f C : Addr} {fd : FuncData} {ps : List Str} {ds : List Value} {dvs : List V} {sp : Sp} {E : XK} {x m : Str} {p pos apos : Pos} {e o : Expr} {es : List Expr} {ta : TE} {t : TA}
theorem run_fnQ {pins : List (Addr × Obj)} {σ : L2.St} {H : Hp} {s : Shared} {Q : VK} {us : List Value} {vs : List V} (F : FnQ X.prog X.w X.K X.mg X.base CX k f fd ps sp) (hr : Quiet k X.A) (hb : Binds X.K fd ps ds) (hd : Vals dvs ds) (hx : Passes CX X E)
    (I : L2.Inv X pins σ H s) (r : Vals vs us) (h : sp (vs ++ dvs) H Q E) : wpAny (model X.prog X.w) X.A (call (.ref f) us) (EP X pins σ Q) X.xe s := by
  have r2 : Vals (vs ++ dvs) (us ++ ds) := r.append hd
  have hl : (us ++ ds).length = ps.length := r2.length.symm.trans (F.len _ _ _ _ h)
  refine wpAny_call (codeAny_mono (F.run X.A X.stack s H ⟨us, []⟩ (us ++ ds) (vs ++ dvs) Q E hr I.env0 (hb s us I.kIn hl) r2 h) fun r s' hq => ?_)
  match r, hq with
  | .error e, hq => exact hx pins σ H s e s' I hq
  | .ok (.ret u), hq => exact I.after hq
/-- f(e, ..) of such a def -/
theorem pe_callQ (F : FnQ X.prog X.w X.K X.mg X.base CX k f fd ps sp) (hr : Quiet k X.A) (hg : Gl X x) (hm : X.mg x = some (.ref f)) (hk : PySem.W.keepIn X.K (.ref f) = true) (hb : Binds X.K fd ps ds) (hd : Vals dvs ds) (hx : Passes CX X E)
    (ha : PA X (e :: es) t) (hdb : (x == ("__debug__" : Str)) = false := by decide) (he : starEach (e :: es) X.env = (false, eval e X.env) :: starEach es X.env := by rfl) (hpl : (backTo pos (starEach es X.env)).any (·.1) = false := by rfl) :
    PE X (.Call (.Name x p) (e :: es) [] pos) (tCall sp dvs E t) :=
  ⟨fun pins s σ H Q I h => wpAny_Call_Name_kw (ld_glob I hg hm
    (PySem.W.callWith_K (h₀ := X.base) I.ok.mod.kin hk (thn (ha.run pos pins s σ H _ I h) fun us s1 ⟨vs, H1, I1, r, q⟩ => ⟨I1.kIn, run_fnQ F hr hb hd hx I1 r q⟩) he hpl) hdb)⟩
mutual
theorem dp_hasDict {K : PySem.W.Frag} {H : Hp} : ∀ (d : PyData) (v : V), Dp K H v d → d.hasDict = false
  | .none, _, _ => rfl
  | .bool _, _, _ => rfl
  | .int _, _, _ => rfl
  | .str _, _, _ => rfl
  | .list ds, _, h => by
    cases h with
    | lst _ ha => unfold PyData.hasDict; exact dp_hasDictAll ds _ ha
  | .tuple ds, _, h => by
    cases h with
    | tup _ ha => unfold PyData.hasDict; exact dp_hasDictAll ds _ ha
  | .dict _, _, h => by cases h
theorem dp_hasDictAll {K : PySem.W.Frag} {H : Hp} : ∀ (ds : List PyData) (vs : List V), DpAll K H vs ds → PyData.hasDictAll ds = false
  | [], _, _ => rfl
  | d :: ds, _, h => by
    cases h with
    | cons h1 h2 => unfold PyData.hasDictAll; rw [dp_hasDict d _ h1, dp_hasDictAll ds _ h2]; rfl
end
/-- repr(x), x data of any depth without dicts: its text -/
def rRepr (K : PySem.W.Frag) : List V → Hp → VK → Prop := fun xs H Q => ∃ (x : V) (d : PyData), xs = [x] ∧ Dp K H x d ∧ d.showable = true ∧ d.depth ≤ 60 ∧ d.shown.length ≤ sizeLine ∧ Q (.str d.shown) H
theorem call_reprQ {k : Nat} (hr : Quiet k X.A) : CallR X (.builtin "repr") (rRepr X.K) := by
  intro pins s σ H xs us Q I r h
  obtain ⟨x, d, rfl, hd, hs, hdep, hz, q⟩ := h
  obtain ⟨u, rfl, ru⟩ := vals1 r
  have hun := hr.room.un
  have hnd := dp_hasDict d x hd
  obtain ⟨as, R⟩ := Dp.reads I d x u hd ru
  have big : ∀ a, u = Value.ref a → wpAny (model X.prog X.w) X.A (call (.builtin "repr") [u]) (EP X pins σ Q) X.xe s := fun a e => by
    subst e
    refine repr_of_reads' R hs (fun z => by rw [hnd] at z; cases z) hr.gd (by omega) (fun _ _ e => e) (fun h' u tk hk => ?_) hz
    exact ⟨.str d.shown, H, I.kept (t' := tk) hk, ⟨u, rfl⟩, q⟩
  cases hd with
  | non =>
    cases (show u = Value.none from ru)
    exact P.repr_of_none ⟨.str PyData.none.shown, H, I.tok _, ⟨_, rfl⟩, q⟩
  | bl b =>
    cases (show u = Value.bool b from ru)
    refine P.repr_of_bool ⟨.str (PyData.bool b).shown, H, I.tok _, ⟨s.toks, ?_⟩, q⟩
    cases b <;> rfl
  | int i =>
    obtain ⟨t, rfl⟩ := (show ∃ t, u = Value.int i t from ru)
    exact P.repr_of_int (of_decide_eq_true hs) ⟨.str (PyData.int i).shown, H, I.tok _, ⟨_, rfl⟩, q⟩
  | str y =>
    obtain ⟨t, rfl⟩ := (show ∃ t, u = Value.str y t from ru)
    exact P.repr_of_str ⟨.str (PyData.str y).shown, H, I.tok _, ⟨_, rfl⟩, q⟩ hz
  | lst _ _ => exact big _ ru
  | tup _ _ => exact big _ ru
end
/-- THE HEAD for a law that asks repr -/
theorem law_callQ {P : Program} {w : World} {K : PySem.W.Frag} {mg mb : Str → Option Value} {CX : CXT} {k : Nat} {fa a : Addr} {fd : FuncData} {x : Str} {sp : Sp} {s₁ : Shared} {vs : List Value} {ns : List Int}
    (KX : K.In s₁.heap) (hns : s₁.heap.Ns mainGlobals mg) (hb : s₁.heap.Ns builtinsNs mb) (hbb : ∀ x : Str, x ≠ "__name__" → mb x = bootBuiltins x) (hlim : s₁.heap.NoLimit) (hg : s₁.gens = #[])
    (ha : s₁.heap.get? a = some { cls := .type "list", data := .seq vs.toArray }) (hi : IntsAre vs ns) (hl : ns.length ≤ sizeLine) (hr : Quiet k callerA)
    (F : ∀ base : Heap, K.In base → base.Ns mainGlobals mg → FnQ P w K mg base CX k fa fd [x] sp) (hbind : ∀ (s : Shared) (u : Value), BindsTo s fd ⟨[u], []⟩ [(x, u)])
    (hsp : ∀ H : Hp, Only H → SqL K H a (ns.map V.int) → sp [.ref a] H (fun v _ => v = .bl true) fun _ _ _ => False)
    (hCX : ∀ H e s', CX [] H s₁ (fun _ _ _ => False) e s' → False) :
    codeAny (model P w) callerA (.call (.ref fa) ⟨[.ref a], []⟩) (fun r s' => r = .ok (.ret (.bool true)) ∧ OldK s₁.heap s'.heap ∧ s'.os = s₁.os ∧ AllBare s'.gens) s₁ := by
  have rv := vals_ints hi
  have core : ∀ H : Hp, Only H → SqL K H a (ns.map V.int) → HOk P w H s₁.heap → (∀ b, H b ≠ none → b = a) → (H a ≠ none → K.lookup a = none) →
      codeAny (model P w) callerA (.call (.ref fa) ⟨[.ref a], []⟩) (fun r s' => r = .ok (.ret (.bool true)) ∧ OldK s₁.heap s'.heap ∧ s'.os = s₁.os ∧ AllBare s'.gens) s₁ := by
    intro H hO hS hok hA hK
    -- what is no list is not tracked
    have free : ∀ {b : Addr} {o : Obj}, s₁.heap.get? b = some o → (b = a → False) → H b = none := fun {b o} _ n => by
      cases q : H b with
      | none => rfl
      | some u => exact (n (hA b (by rw [q]; simp))).elim
    have nsK : ∀ {b : Addr} {m : Str → Option Value}, s₁.heap.Ns b m → (hidT s₁.heap H).Ns b m := fun {b m} ⟨o, es, ep, e, d, r⟩ => ⟨o, es, ep, hidT_get e (free e fun z => by
      subst z
      rw [ha] at e
      cases e
      have d' : Data.seq vs.toArray _ = Data.dict es ep := d
      cases d'), d, r⟩
    have hKb : K.In (hidT s₁.heap H) := fun b o e => hidT_get (KX b o e) (by
      cases q : H b with
      | none => rfl
      | some u =>
        have z : b = a := hA b (by rw [q]; simp)
        subst z
        rw [hK (by rw [q]; simp)] at e
        cases e)
    have hM : Mod K mg (hidT s₁.heap H) := ⟨hKb, nsK hns, ⟨mb, nsK hb, hbb⟩, let ⟨mc, h1, h2⟩ := hlim; ⟨mc, nsK h1, h2⟩⟩
    have e0 : Env0 P w K mg (hidT s₁.heap H) callerA [] s₁ H := ⟨rfl, hM, fun b o e => of_hidT e, Nat.le_of_eq (hidT_size _ _), trivial, fun b hb => absurd (show b ∈ ([] : List Addr) from hb) (by simp), hok, .of_eq hg⟩
    refine codeAny_mono ((F _ hKb (nsK hns)).run callerA [] s₁ H ⟨[.ref a], []⟩ [.ref a] [.ref a] _ _ hr e0 (hbind s₁ (.ref a)) (.cons rfl .nil) (hsp H hO hS)) fun r s' h => ?_
    match r, h with
    | .error e, h => exact (hCX H e s' h).elim
    | .ok (.ret u), ⟨v, H', os, bare, un, hok', r', q⟩ =>
      obtain rfl : v = .bl true := q
      obtain rfl : u = Value.bool true := r'
      refine ⟨rfl, OldK.of_keep fun b o e => ?_, os, bare⟩
      rcases hO b with z | ⟨ob, xs, z⟩
      · exact un.keep b o e z (by intro z; exact absurd (show b ∈ ([] : List Addr) from z) (by simp)) (by simp)
      · obtain ⟨e1, _⟩ := hok b _ z
        obtain ⟨e2, _⟩ := hok' b _ (un.frzs b ob _ z)
        rw [e] at e1
        cases e1
        exact e2
  cases hk : K.lookup a with
  | some o =>
    have e := KX a o hk
    rw [ha] at e
    cases e
    exact core (fun _ => none) (fun _ => .inl rfl) (.inr ⟨_, vs.toArray, _, hk, rfl, rfl, rfl, by rw [List.size_toArray, hi.length]; exact hl, by simpa using rv⟩) (fun b u z => nomatch (show (none : Option HO) = some u from z)) (fun b z => absurd rfl z) fun z => absurd rfl z
  | none =>
    refine core (fun b => if b = a then some (.frz { cls := .type "list", data := .seq vs.toArray } (.lst (ns.map V.int))) else none) (fun b => ?_) (.inl (.inr ⟨{ cls := .type "list", data := .seq vs.toArray }, if_pos rfl⟩)) (fun b u z => ?_) (fun b z => ?_) fun _ => hk
    · by_cases hb : b = a
      · exact .inr ⟨_, _, if_pos hb⟩
      · exact .inl (if_neg hb)
    · by_cases hb : b = a
      · cases (if_pos hb).symm.trans z
        subst hb
        exact ⟨ha, by rw [List.length_map]; exact hl, vs, _, rv, ha⟩
      · cases (if_neg hb).symm.trans z
    · by_cases hb : b = a
      · exact hb
      · exact absurd (if_neg hb) z
theorem quiet_caller {k : Nat} (h : Room k callerA) : Quiet k callerA := ⟨h, rfl⟩
theorem walkQ {l : PySem.W.OpenLaw} {n k : Nat} {q : Program} {loose : List Str} {XP : (Str → Option Value) → Heap → Prop} {YP : World → Heap → Prop} {d : DefRec} {K : Params → PySem.W.Frag} {CX : World → CXT} {sp : World → Sp} {x : Str}
    (hn : l.most = some n) (hn2 : n ≤ sizeLine) (hdf : d.params.defaults = []) (hr : Room k callerA)
    (hY : ∀ (w : World) (h : Heap), YP w h → (K w.params).In h)
    (F : ∀ (w : World) (mg : Str → Option Value) (fa : Addr) (h : Heap), (K w.params).In h → h.Ns mainGlobals mg → mg d.name = some (.ref fa) →
      ∃ fd : FuncData, (∀ (s : Shared) (u : Value), BindsTo s fd ⟨[u], []⟩ [(x, u)]) ∧
        ∀ base : Heap, (K w.params).In base → base.Ns mainGlobals mg → FnQ l.prog w (K w.params) mg base (CX w) k fa fd [x] (sp w))
    (hsp : ∀ (w : World) (H : Hp) (a : Addr) (ns : List Int), ns.length ≤ n → Only H → SqL (K w.params) H a (ns.map V.int) → sp w [.ref a] H (fun v _ => v = .bl true) fun _ _ _ => False)
    (hCX : ∀ (w : World) (H : Hp) (s : Shared) (e : Value) (s' : Shared), CX w [] H s (fun _ _ _ => False) e s' → False) :
    PySem.W.WalkO q loose XP YP l.row.toRowW d [] (fun f vs => PySem.call f vs) := by
  refine Att.attach_call hn hdf fun w s₀ s₁ mg mb fa o pm cd doc a vs ns G Y ho hd hcd hmg hobj hints hlen hg => ?_
  have KX := hY w _ Y
  obtain ⟨fd, hb, hF⟩ := F w mg fa _ KX G.T.g hmg
  exact law_callQ KX G.T.g G.T.b G.T.builtins G.T.nolimit hg hobj hints (Nat.le_trans hlen hn2) (quiet_caller hr) hF hb (fun H hO hS => hsp w H a ns hlen hO hS) fun H e s' => hCX w H s₁ e s'
end Bo

set_option Elab.async false
set_option linter.all false
set_option maxRecDepth 100000
set_option maxHeartbeats 8000000
namespace Bo
open PySem PySem.Spec PyProof.Rows L2
/-! ### a thing that is known from now on: it is never written again -/
def tFz (t : TE) : TE := fun σ H Q => t σ H fun x H1 => ∃ d u, x = .ref d ∧ H1 d = some u ∧ Mut (some u) ∧ ∀ od, Q x (upd H1 d (.frz od u))
theorem pe_fz {X : Cx} {e : Expr} {t : TE} (h : PE X e t) : PE X e (tFz t) :=
  ⟨fun pins s σ H Q I hw => thn (h.run pins s σ H _ I hw) fun v s1 ⟨x, H1, I1, r, d, u, ex, hd, mu, q⟩ => by
    obtain ⟨od, I2⟩ := I1.lock hd mu
    exact ⟨x, _, I2, r, q od⟩⟩
def Fz (H : Hp) (a : Addr) (u : HO) : Prop := ∃ o, H a = some (.frz o u)
theorem Fz.rd {H : Hp} {a : Addr} {u : HO} (h : Fz H a u) : Rd H a u := .inr h
theorem Fz.keep {H H' : Hp} {a : Addr} {u : HO} (h : Fz H a u) (k : Same H H') : Fz H' a u := by
  obtain ⟨o, e⟩ := h
  exact ⟨o, k _ _ e⟩
theorem Rd.keep {H H' : Hp} {a : Addr} {u : HO} (h : Rd H a u) (k : Same H H') : Rd H' a u := h.elim (fun e => .inl (k _ _ e)) fun ⟨o, e⟩ => .inr ⟨o, k _ _ e⟩
theorem SqT.keep {K : PySem.W.Frag} {H H' : Hp} {a : Addr} {xs : List V} (h : SqT K H a xs) (k : Same H H') : SqT K H' a xs := h.elim (fun e => .inl (Rd.keep e k)) .inr
theorem SqL.keep {K : PySem.W.Frag} {H H' : Hp} {a : Addr} {xs : List V} (h : SqL K H a xs) (k : Same H H') : SqL K H' a xs := h.elim (fun e => .inl (Rd.keep e k)) .inr
theorem same_fz {H H1 : Hp} {d : Addr} {u w : HO} (k : Same H H1) (h : H d = none) : Same H (upd H1 d w) := fun b o e => by rw [upd_ne (ne_of_none e h)]; exact k _ _ e
/-- a comprehension that makes a dict -/
theorem dc_go {J : It} {n : Nat} {G : Hp → Prop} {Y : Nat → Hp → V → Hp → Prop} (w : L2.Walk J n G Y) {g : TG} {tt : TT} {tk tv : TE} {vs : List Nat} {σ : L2.St} {H1 : Hp} {D : Addr} {Qd : Hp → Prop} (Pv : Nat → Hp → Prop) (h0 : Pv 0 (upd H1 D (.dK [])))
    (hG : ∀ i H, i ≤ n → Pv i H → G H) (hs : ∀ i x H H', i < n → Pv i H → Y i H x H' → g x (wipe σ vs) H' fun σ2 H2 => wipe σ2 vs = wipe σ vs ∧ tt σ2 H2 fun b H3 =>
      if b = true then tk σ2 H3 fun y H4 => tv σ2 H4 fun z H5 => ∃ kvs k, y = kV k ∧ H5 D = some (.dK kvs) ∧ kvs.length < sizeLine ∧ Pv (i + 1) (upd H5 D (.dK (putK kvs k z))) else Pv (i + 1) H3) (hd : ∀ H, Pv n H → Qd H) :
    ∃ W : Nat → Nat → Hp → Prop, (∃ m, W 0 m (upd H1 D (.dK []))) ∧ ∀ i m H, W i m H → (J.stop i H ∧ Qd H) ∨ (J.go i H ∧ ∃ Nx : Hp → Prop, (∀ H', Nx H' → ∃ m', m' < m ∧ W (i + 1) m' H') ∧ ∀ x H', J.yld i H x H' → g x (wipe σ vs) H' fun σ2 H2 => wipe σ2 vs = wipe σ vs ∧ tt σ2 H2 fun b H3 =>
        if b = true then tk σ2 H3 fun y H4 => tv σ2 H4 fun z H5 => ∃ kvs k, y = kV k ∧ H5 D = some (.dK kvs) ∧ kvs.length < sizeLine ∧ Nx (upd H5 D (.dK (putK kvs k z))) else Nx H3) := by
  refine ⟨fun i m H => (m = n - i ∧ i ≤ n) ∧ Pv i H, ⟨n, ⟨rfl, Nat.zero_le _⟩, h0⟩, fun i m H hw => ?_⟩
  obtain ⟨⟨hm, hi⟩, p⟩ := hw
  have g1 := hG i H hi p
  rcases Nat.lt_or_ge i n with lt | ge
  · refine .inr ⟨w.goes i H lt g1, Pv (i + 1), fun H' p' => ⟨n - (i + 1), by omega, ⟨rfl, lt⟩, p'⟩, fun x H' y => hs i x H H' lt p (w.yields i H x H' lt g1 y)⟩
  · obtain rfl : i = n := Nat.le_antisymm hi ge
    exact .inl ⟨w.stops H g1, hd H p⟩
/-! ### flat data: an atom; a tuple or a list of atoms; a dict with texts as keys and atoms as values -/
def atomV : V → Bool
  | .non => true
  | .bl _ => true
  | .int _ => true
  | .str _ => true
  | _ => false
def tyA : V → String
  | .non => "NoneType"
  | .bl _ => "bool"
  | .int _ => "int"
  | _ => "str"
theorem atom_ty {K : PySem.W.Frag} {H : Hp} : ∀ {v : V}, atomV v = true → TyX K H v (.type (tyA v))
  | .non, _ => .base .non
  | .bl _, _ => .base (.bl _)
  | .int _, _ => .base (.int _)
  | .str _, _ => .base (.str _)
theorem atom_no {v : V} (h : atomV v = true) (K : PySem.W.Frag) {c : String} (hc : c = "tuple" ∨ c = "list" ∨ c = "dict") : PySem.W.kitOne K (.type (tyA v)) (.type c) = some false := by
  cases v with
  | non => rcases hc with rfl | rfl | rfl <;> exact kit_ty (by decide +kernel)
  | bl b => rcases hc with rfl | rfl | rfl <;> exact kit_ty (a := "bool") (by decide +kernel)
  | int i => rcases hc with rfl | rfl | rfl <;> exact kit_ty (a := "int") (by decide +kernel)
  | str x => rcases hc with rfl | rfl | rfl <;> exact kit_ty (a := "str") (by decide +kernel)
  | _ => cases h
def dataA : V → PyData
  | .bl b => .bool b
  | .int i => .int i
  | .str x => .str x
  | _ => .none
def Atoms (xs : List V) : Prop := ∀ x ∈ xs, atomV x = true
def strK (ps : List (Str × V)) : List (Key × V) := ps.map fun p => (Sum.inr p.1, p.2)
def strD (ps : List (Str × V)) : List (PyData × PyData) := ps.map fun p => (.str p.1, dataA p.2)
inductive Flat (K : PySem.W.Frag) (H : Hp) : V → PyData → Prop where
  | atom {v : V} (h : atomV v = true) : Flat K H v (dataA v)
  | tup {a : Addr} {xs : List V} (h : SqT K H a xs) (x : Atoms xs) (l : xs.length ≤ 1000) : Flat K H (.ref a) (.tuple (xs.map dataA))
  | lst {a : Addr} {xs : List V} (h : H a = some (.lst xs)) (x : Atoms xs) (l : xs.length ≤ 1000) : Flat K H (.ref a) (.list (xs.map dataA))
  | dct {a : Addr} {ps : List (Str × V)} (h : H a = some (.dK (strK ps))) (x : Atoms (ps.map (·.2))) (nd : (ps.map (·.1)).Nodup) (l : ps.length ≤ 1000) : Flat K H (.ref a) (.dict (strD ps))
theorem Flat.keep {K : PySem.W.Frag} {H H' : Hp} {v : V} {d : PyData} (h : Flat K H v d) (k : Same H H') : Flat K H' v d := by
  cases h with
  | atom h => exact .atom h
  | tup h x l => exact .tup (SqT.keep h k) x l
  | lst h x l => exact .lst (k _ _ h) x l
  | dct h x nd l => exact .dct (k _ _ h) x nd l
theorem take_snoc {α : Type} : ∀ {l : List α} {i : Nat} {x : α}, l[i]? = some x → l.take (i + 1) = l.take i ++ [x]
  | [], i, x, h => by simp at h
  | a :: l, 0, x, h => by simp at h; simp [h]
  | a :: l, i + 1, x, h => by simpa using take_snoc (l := l) (i := i) (x := x) (by simpa using h)
end Bo

set_option Elab.async false
set_option linter.all false
set_option maxRecDepth 100000
set_option maxHeartbeats 8000000
namespace Bo
open PySem L2
abbrev sCopied : Stmt := top 2
structure TxtC (mg : Str → Option Value) : Prop where
  isi : mg "isinstance" = none
  tup : mg "tuple" = none
  lst : mg "list" = none
  dct : mg "dict" = none
def spAtom : Sp := fun vs H Q _ => ∃ v, vs = [v] ∧ atomV v = true ∧ Q v H
section
variable {P : Program} {w : World} {K : PySem.W.Frag} {mg : Str → Option Value} {base : Heap}
theorem scC : FnScope ["thing", "inner", "key"] ["thing"] (defScope sCopied) := ⟨rfl, rfl, rfl, by decide +kernel, rfl, by decide +kernel, by decide +kernel⟩
theorem ok_atom {f : Addr} {fd : FuncData} (F : Fun K "copied" "copied" sCopied f fd) (T : TxtC mg) : FnOk P w K mg base CX0 1 f fd ["thing"] spAtom := by
  refine F.ok scC (fun vs H Q E h => ?_) (fun cdv A outer s H vs Q E hr h => ?_)
  · obtain ⟨v, rfl, _⟩ := h
    rfl
  · obtain ⟨v, rfl, hv, q⟩ := h
    refine ⟨_, pss_cons (ps_if (pt_val (pe_callB call_isi (by rfl) T.isi (by decide +kernel) (pa_cons (pv 0) (pa_cons (pe_bltn (v := .ty "tuple") (by rfl) T.tup (by decide +kernel) rfl) pa_nil)))) (pss_one ps_never) pss_nil)
      (pss_cons (ps_if (pt_val (pe_callB call_isi (by rfl) T.isi (by decide +kernel) (pa_cons (pv 0) (pa_cons (pe_bltn (v := .ty "list") (by rfl) T.lst (by decide +kernel) rfl) pa_nil)))) (pss_one ps_never) pss_nil)
      (pss_cons (ps_if (pt_val (pe_callB call_isi (by rfl) T.isi (by decide +kernel) (pa_cons (pv 0) (pa_cons (pe_bltn (v := .ty "dict") (by rfl) T.dct (by decide +kernel) rfl) pa_nil)))) (pss_one ps_never) pss_nil)
      (pss_one (ps_ret (pv 0))))), ?_⟩
    refine ⟨_, rfl, v, _, _, _, false, rfl, .ty "tuple", atom_ty hv, atom_no hv K (.inl rfl), _, rfl, iteF ?_⟩
    refine ⟨_, rfl, v, _, _, _, false, rfl, .ty "list", atom_ty hv, atom_no hv K (.inr (.inl rfl)), _, rfl, iteF ?_⟩
    refine ⟨_, rfl, v, _, _, _, false, rfl, .ty "dict", atom_ty hv, atom_no hv K (.inr (.inr rfl)), _, rfl, iteF ?_⟩
    exact ⟨_, rfl, q⟩
theorem sqT_ty {H : Hp} {a : Addr} {xs : List V} (h : SqT K H a xs) : TyX K H (.ref a) (.type "tuple") := by
  rcases h with (h | ⟨o, h⟩) | ⟨o, its, n, h, c, _⟩
  · exact .base (.tup h)
  · exact .fTuple h
  · exact .kTuple h c
/-- a tuple of atoms: a new tuple of the same -/
def spTupA (K : PySem.W.Frag) : Sp := fun vs H Q _ => ∃ (a : Addr) (xs : List V), vs = [.ref a] ∧ SqT K H a xs ∧ Atoms xs ∧ xs.length ≤ 1000 ∧ ∀ (b : Addr) (H' : Hp), Same H H' → H b = none → H' b = some (.tup xs) → Q (.ref b) H'
theorem ok_tupA {f : Addr} {fd : FuncData} (F : Fun K "copied" "copied" sCopied f fd) (T : TxtC mg) (mC : mg "copied" = some (.ref f)) (bC : Binds K fd ["thing"] []) : FnOk P w K mg base CX0 2 f fd ["thing"] (spTupA K) := by
  have G : FnOk P w K mg base CX0 1 f fd ["thing"] spAtom := ok_atom F T
  refine F.ok scC (fun vs H Q E h => ?_) (fun cdv A outer s H vs Q E hr h => ?_)
  · obtain ⟨a, xs, rfl, _⟩ := h
    rfl
  · obtain ⟨a, xs, rfl, ha, hat, hl, k⟩ := h
    refine ⟨_, pss_cons (ps_if (pt_val (pe_callB call_isi (by rfl) T.isi (by decide +kernel) (pa_cons (pv 0) (pa_cons (pe_bltn (v := .ty "tuple") (by rfl) T.tup (by decide +kernel) rfl) pa_nil)))) (pss_one (ps_ret (pe_callTy call_tuple_of (by rfl) T.tup (by decide +kernel)
          (pa_cons (pe_lc (own := [("inner", 1)]) (g := gName 1) (tt := tYes) rfl scC.nd (pi_tup (pv 0)) (blkOk_by (N := ["thing", "inner", "key"]) (sc := defScope sCopied) (by decide +kernel)) (fun _ _ _ _ _ => pg_name (i := 1) scC.nd rfl (Or.inl rfl)) (fun _ _ _ _ _ => pts_nil) (fun _ _ _ _ _ => pe_call G hr rfl mC F.kp bC .nil pass0 (pa_cons (pv 1) pa_nil))) pa_nil)))) pss_nil)
      (pss_cons ps_never (pss_cons ps_never (pss_one ps_never))), ?_⟩
    refine ⟨_, rfl, _, _, _, _, true, rfl, .ty "tuple", sqT_ty ha, kit_ty (by decide +kernel), _, rfl, iteT ?_⟩
    refine ⟨_, rfl, a, rfl, ⟨xs, ha⟩, fun D hD => ?_⟩
    refine lc_tup (xs := xs) (fun i H' => H' = upd H D (.lst (xs.take i))) rfl (fun i H' _ e => by subst e; exact SqT.keep ha (same_new hD)) ?_ ?_
    · intro i x H' hx e
      subst e
      refine ⟨rfl, iteT (B := True) ⟨x, rfl, x, rfl, hat x (List.mem_of_getElem? hx), xs.take i, upd_same, ?_, ?_⟩⟩
      · rw [sizeLine_eq, List.length_take]; omega
      · rw [upd_upd, ← take_snoc hx]
    · intro H' e
      subst e
      rw [List.take_length]
      refine ⟨D, xs, rfl, .inl ⟨SqL.of upd_same, fun b hb => ?_⟩⟩
      have bD : b ≠ D := fun z => by rw [z, upd_same] at hb; cases hb
      have hbn : H b = none := by rw [upd_ne bD] at hb; exact hb
      exact k b _ ((same_new hD).trans (same_new hb)) hbn upd_same
/-- a list of atoms: a new list of the same -/
def spLstA : Sp := fun vs H Q _ => ∃ (a : Addr) (xs : List V), vs = [.ref a] ∧ H a = some (.lst xs) ∧ Atoms xs ∧ xs.length ≤ 1000 ∧ ∀ (b : Addr) (H' : Hp), Same H H' → H b = none → H' b = some (.lst xs) → Q (.ref b) H'
theorem ok_lstA {f : Addr} {fd : FuncData} (F : Fun K "copied" "copied" sCopied f fd) (T : TxtC mg) (mC : mg "copied" = some (.ref f)) (bC : Binds K fd ["thing"] []) : FnOk P w K mg base CX0 2 f fd ["thing"] spLstA := by
  have G : FnOk P w K mg base CX0 1 f fd ["thing"] spAtom := ok_atom F T
  refine F.ok scC (fun vs H Q E h => ?_) (fun cdv A outer s H vs Q E hr h => ?_)
  · obtain ⟨a, xs, rfl, _⟩ := h
    rfl
  · obtain ⟨a, xs, rfl, ha, hat, hl, k⟩ := h
    refine ⟨_, pss_cons (ps_if (pt_val (pe_callB call_isi (by rfl) T.isi (by decide +kernel) (pa_cons (pv 0) (pa_cons (pe_bltn (v := .ty "tuple") (by rfl) T.tup (by decide +kernel) rfl) pa_nil)))) (pss_one ps_never) pss_nil)
      (pss_cons (ps_if (pt_val (pe_callB call_isi (by rfl) T.isi (by decide +kernel) (pa_cons (pv 0) (pa_cons (pe_bltn (v := .ty "list") (by rfl) T.lst (by decide +kernel) rfl) pa_nil)))) (pss_one (ps_ret
          (pe_lc (own := [("inner", 1)]) (g := gName 1) (tt := tYes) rfl scC.nd (pi_list (pv 0)) (blkOk_by (N := ["thing", "inner", "key"]) (sc := defScope sCopied) (by decide +kernel)) (fun _ _ _ _ _ => pg_name (i := 1) scC.nd rfl (Or.inl rfl)) (fun _ _ _ _ _ => pts_nil) (fun _ _ _ _ _ => pe_call G hr rfl mC F.kp bC .nil pass0 (pa_cons (pv 1) pa_nil))))) pss_nil)
      (pss_cons ps_never (pss_one ps_never))), ?_⟩
    refine ⟨_, rfl, _, _, _, _, false, rfl, .ty "tuple", .base (.lst ha), kit_ty (by decide +kernel), _, rfl, iteF ?_⟩
    refine ⟨_, rfl, _, _, _, _, true, rfl, .ty "list", .base (.lst ha), kit_ty (by decide +kernel), _, rfl, iteT ?_⟩
    refine ⟨_, rfl, a, rfl, ⟨xs, SqL.of ha⟩, fun D hD => ?_⟩
    refine lc_list (xs := xs) (fun i H' => H' = upd H D (.lst (xs.take i))) rfl (fun i H' _ e => by subst e; exact SqL.of (same_new hD _ _ ha)) ?_ ?_
    · intro i x H' hx e
      subst e
      refine ⟨rfl, iteT (B := True) ⟨x, rfl, x, rfl, hat x (List.mem_of_getElem? hx), xs.take i, upd_same, ?_, ?_⟩⟩
      · rw [sizeLine_eq, List.length_take]; omega
      · rw [upd_upd, ← take_snoc hx]
    · intro H' e
      subst e
      rw [List.take_length]
      exact k D _ (same_new hD) hD upd_same
theorem strK_get {ps : List (Str × V)} {i : Nat} {k : Key} {v : V} (h : (strK ps)[i]? = some (k, v)) : ∃ x, ps[i]? = some (x, v) ∧ k = Sum.inr x := by
  unfold strK at h
  rw [List.getElem?_map] at h
  obtain ⟨p, hp, e⟩ := Option.map_eq_some_iff.mp h
  cases e
  exact ⟨p.1, hp, rfl⟩
theorem strK_val {ps : List (Str × V)} (nd : (ps.map (·.1)).Nodup) {i : Nat} {x : Str} {v : V} (h : ps[i]? = some (x, v)) : valV (strK ps) (Sum.inr x) = some v := by
  induction ps generalizing i with
  | nil => simp at h
  | cons p r ih =>
    obtain ⟨n1, n2⟩ := List.nodup_cons.mp (show (p.1 :: r.map (·.1)).Nodup from nd)
    cases i with
    | zero =>
      simp at h
      subst h
      exact valV_pos (p := (Sum.inr x, v)) rfl
    | succ i =>
      have h' : r[i]? = some (x, v) := by simpa using h
      have hne : ¬ (Sum.inr p.1 : Key) = Sum.inr x := fun e => by
        cases e
        exact n1 (List.mem_map.mpr ⟨_, List.mem_of_getElem? h', rfl⟩)
      exact (valV_neg (p := (Sum.inr p.1, p.2)) hne).trans (ih n2 h')
theorem strK_put {ps : List (Str × V)} (nd : (ps.map (·.1)).Nodup) {i : Nat} {x : Str} {v : V} (h : ps[i]? = some (x, v)) : putK (strK (ps.take i)) (Sum.inr x) v = strK (ps.take (i + 1)) := by
  have hn : valV (strK (ps.take i)) (Sum.inr x) = none := by
    have key : ∀ qs : List (Str × V), x ∉ qs.map (·.1) → valV (strK qs) (Sum.inr x) = none := by
      intro qs
      induction qs with
      | nil => intro _; rfl
      | cons q r ih =>
        intro hx
        have hne : ¬ (Sum.inr q.1 : Key) = Sum.inr x := fun e => by
          cases e
          exact hx List.mem_cons_self
        exact (valV_neg (p := (Sum.inr q.1, q.2)) hne).trans (ih fun z => hx (List.mem_cons_of_mem _ z))
    refine key _ fun z => ?_
    rw [List.map_take] at z
    have hi : (ps.map (·.1))[i]? = some x := by rw [List.getElem?_map, h]; rfl
    obtain ⟨j, hj, e⟩ := List.getElem_of_mem z
    rw [List.length_take] at hj
    rw [List.getElem_take] at e
    obtain ⟨hl, e2⟩ := List.getElem?_eq_some_iff.mp hi
    have := (List.pairwise_iff_getElem.mp nd) j i (by omega) hl (by omega)
    exact this (e.trans e2.symm)
  rw [putK_new _ hn, take_snoc h]
  unfold strK
  rw [List.map_append]
  rfl
/-- a dict of atoms: a new dict of the same -/
def spDctA : Sp := fun vs H Q _ => ∃ (a : Addr) (ps : List (Str × V)), vs = [.ref a] ∧ H a = some (.dK (strK ps)) ∧ Atoms (ps.map (·.2)) ∧ (ps.map (·.1)).Nodup ∧ ps.length ≤ 1000 ∧ ∀ (b : Addr) (H' : Hp), Same H H' → H b = none → H' b = some (.dK (strK ps)) → Q (.ref b) H'
theorem ok_dctA {f : Addr} {fd : FuncData} (F : Fun K "copied" "copied" sCopied f fd) (T : TxtC mg) (mC : mg "copied" = some (.ref f)) (bC : Binds K fd ["thing"] []) : FnOk P w K mg base CX0 2 f fd ["thing"] spDctA := by
  have G : FnOk P w K mg base CX0 1 f fd ["thing"] spAtom := ok_atom F T
  refine F.ok scC (fun vs H Q E h => ?_) (fun cdv A outer s H vs Q E hr h => ?_)
  · obtain ⟨a, ps, rfl, _⟩ := h
    rfl
  · obtain ⟨a, ps, rfl, ha, hat, nd, hl, k⟩ := h
    refine ⟨_, pss_cons (ps_if (pt_val (pe_callB call_isi (by rfl) T.isi (by decide +kernel) (pa_cons (pv 0) (pa_cons (pe_bltn (v := .ty "tuple") (by rfl) T.tup (by decide +kernel) rfl) pa_nil)))) (pss_one ps_never) pss_nil)
      (pss_cons (ps_if (pt_val (pe_callB call_isi (by rfl) T.isi (by decide +kernel) (pa_cons (pv 0) (pa_cons (pe_bltn (v := .ty "list") (by rfl) T.lst (by decide +kernel) rfl) pa_nil)))) (pss_one ps_never) pss_nil)
      (pss_cons (ps_if (pt_val (pe_callB call_isi (by rfl) T.isi (by decide +kernel) (pa_cons (pv 0) (pa_cons (pe_bltn (v := .ty "dict") (by rfl) T.dct (by decide +kernel) rfl) pa_nil)))) (pss_one (ps_ret
          (pe_lock (pe_dc (own := [("key", 2)]) (g := gName 2) (tt := tYes) rfl scC.nd (pi_keys (pv 0)) (blkOk_by (N := ["thing", "inner", "key"]) (sc := defScope sCopied) (by decide +kernel)) (fun _ _ _ _ _ => pg_name (i := 2) scC.nd rfl (Or.inl rfl)) (fun _ _ _ _ _ => pts_nil) (fun _ _ _ _ _ => pv 2) (fun _ _ _ _ _ => pe_call G hr rfl mC F.kp bC .nil pass0 (pa_cons (pe_dget (hu_of hr) (pv 0) (pv 2) (fun _ _ => rfl)) pa_nil)))))) pss_nil)
      (pss_one ps_never))), ?_⟩
    refine ⟨_, rfl, _, _, _, _, false, rfl, .ty "tuple", .base (.dK ha), kit_ty (by decide +kernel), _, rfl, iteF ?_⟩
    refine ⟨_, rfl, _, _, _, _, false, rfl, .ty "list", .base (.dK ha), kit_ty (by decide +kernel), _, rfl, iteF ?_⟩
    refine ⟨_, rfl, _, _, _, _, true, rfl, .ty "dict", .base (.dK ha), kit_ty (by decide +kernel), _, rfl, iteT ?_⟩
    refine ⟨a, _, ha, True.intro, fun od => ?_⟩
    refine ⟨_, rfl, a, od, rfl, .inl ⟨_, upd_same, fun D hD => ?_⟩⟩
    have aD : D ≠ a := fun z => by rw [z, upd_same] at hD; cases hD
    have nD : H D = none := by rw [upd_ne aD] at hD; exact hD
    refine dc_go (walk_keys (kvs := strK ps)) (fun i H' => H' = upd (upd H a (.frz od (.dK (strK ps)))) D (.dK (strK (ps.take i)))) rfl (fun i H' _ e => by subst e; rw [upd_ne aD.symm]; exact upd_same) ?_ ?_
    · intro i x H1 H' hi e y
      subst e
      obtain ⟨eH, kk, v, hkv, rfl⟩ := y
      subst eH
      obtain ⟨z, hz, rfl⟩ := strK_get hkv
      refine ⟨rfl, iteT (B := True) ⟨_, rfl, _, rfl, _, rfl, a, v, rfl, ?_, v, rfl, hat v (List.mem_map.mpr ⟨_, List.mem_of_getElem? hz, rfl⟩), strK (ps.take i), Sum.inr z, rfl, upd_same, ?_, ?_⟩⟩
      · exact .inl ⟨_, Sum.inr z, .inr ⟨od, by rw [upd_ne aD.symm]; exact upd_same⟩, rfl, (strK_val nd hz).symm⟩
      · unfold strK
        rw [sizeLine_eq, List.length_map, List.length_take]; omega
      · rw [upd_upd, strK_put nd hz]
    · intro H' e
      subst e
      have hlen : (strK ps).length = ps.length := by unfold strK; rw [List.length_map]
      rw [hlen, List.take_length]
      refine ⟨by rw [upd_ne aD.symm]; exact upd_same, ?_⟩
      refine k D _ (fun b o e => ?_) nD (by rw [upd_ne aD, upd_same])
      by_cases hb : b = a
      · subst hb
        rw [ha] at e
        cases e
        exact upd_same
      · rw [upd_ne hb, upd_ne (ne_of_none e nD), upd_ne hb]
        exact e
def spCopy (K : PySem.W.Frag) : Sp := fun vs H Q _ => ∃ (v : V) (d : PyData), vs = [v] ∧ Flat K H v d ∧ ∀ v' H', Same H H' → Flat K H' v' d → Q v' H'
theorem ok_copy {f : Addr} {fd : FuncData} (F : Fun K "copied" "copied" sCopied f fd) (T : TxtC mg) (mC : mg "copied" = some (.ref f)) (bC : Binds K fd ["thing"] []) : FnOk P w K mg base CX0 2 f fd ["thing"] (spCopy K) := by
  have G1 : FnOk P w K mg base CX0 2 f fd ["thing"] spAtom := (ok_atom F T).mono (by decide)
  have G2 : FnOk P w K mg base CX0 2 f fd ["thing"] (spTupA K) := ok_tupA F T mC bC
  have G3 : FnOk P w K mg base CX0 2 f fd ["thing"] spLstA := ok_lstA F T mC bC
  have G4 : FnOk P w K mg base CX0 2 f fd ["thing"] spDctA := ok_dctA F T mC bC
  refine ⟨fun vs H Q E h => ?_, fun A outer s H args us vs Q E hr he hb hv hs => ?_⟩
  · obtain ⟨v, d, rfl, _⟩ := h
    rfl
  · obtain ⟨v, d, rfl, hp, k⟩ := hs
    cases id hp with
    | atom h => exact G1.run A outer s H args us _ Q E hr he hb hv ⟨v, rfl, h, k v H (Same.refl H) hp⟩
    | tup h x l => exact G2.run A outer s H args us _ Q E hr he hb hv ⟨_, _, rfl, h, x, l, fun b H' sm _ e => k _ H' sm (.tup (SqT.of e) x l)⟩
    | lst h x l => exact G3.run A outer s H args us _ Q E hr he hb hv ⟨_, _, rfl, h, x, l, fun b H' sm _ e => k _ H' sm (.lst e x l)⟩
    | dct h x nd l => exact G4.run A outer s H args us _ Q E hr he hb hv ⟨_, _, rfl, h, x, nd, l, fun b H' sm _ e => k _ H' sm (.dct e x nd l)⟩
end
end Bo

set_option Elab.async false
set_option linter.all false
set_option maxRecDepth 100000
set_option maxHeartbeats 8000000
namespace Bo
open PySem L2
abbrev sIsName : Stmt := top 21
def lets : Str := Str.ofString "abcdefghijklmnopqrstuvwxyz"
def digs : Str := Str.ofString "0123456789"
def isLet (c : Nat) : Bool := decide (c ∈ lets.cps.toList)
def isSign (c : Nat) : Bool := decide (c ∈ lets.cps.toList) || decide (c ∈ digs.cps.toList)
/-- x is a name -/
def nameOk (x : Str) : Bool := decide (1 ≤ x.cps.toList.length) && (decide (x.cps.toList.length ≤ 8) && ((x.cps.toList.head?.any isLet) && x.cps.toList.all isSign))
def nameV : V → Bool
  | .str x => nameOk x
  | _ => false
structure TxtN (mg : Str → Option Value) : Prop extends TxtC mg where
  let_ : ∃ t, mg "LETTERS" = some (.str lets t)
  dig : ∃ t, mg "DIGITS" = some (.str digs t)
  lon : ∃ t, mg "LONGEST_NAME" = some (.int 8 t)
  len : mg "len" = none
  str_ : mg "str" = none
  all_ : mg "all" = none
/-- v is no text, of one of the kinds of flat data -/
theorem flat_ty {K : PySem.W.Frag} {H : Hp} {v : V} {d : PyData} (h : Flat K H v d) : (∃ x, v = .str x) ∨ ∃ t : Value, TyX K H v t ∧ PySem.W.kitOne K t (.type "str") = some false := by
  cases h with
  | atom h =>
    cases v with
    | str x => exact .inl ⟨x, rfl⟩
    | non => exact .inr ⟨_, .base .non, kit_ty (by decide +kernel)⟩
    | bl b => exact .inr ⟨_, .base (.bl b), kit_ty (by decide +kernel)⟩
    | int i => exact .inr ⟨_, .base (.int i), kit_ty (by decide +kernel)⟩
    | _ => cases h
  | tup h x l => exact .inr ⟨_, sqT_ty h, kit_ty (by decide +kernel)⟩
  | lst h x l => exact .inr ⟨_, .base (.lst h), kit_ty (by decide +kernel)⟩
  | dct h x nd l => exact .inr ⟨_, .base (.dK h), kit_ty (by decide +kernel)⟩
theorem nameV_no {v : V} (h : ∀ x, v ≠ .str x) : nameV v = false := by
  cases v with
  | str x => exact absurd rfl (h x)
  | _ => rfl
/-- is_name(thing) -/
def spIsName (K : PySem.W.Frag) : Sp := fun vs H Q _ => ∃ (v : V) (d : PyData), vs = [v] ∧ Flat K H v d ∧ (∀ x, v = .str x → x.length ≤ 1000) ∧ ∀ H', Same H H' → Q (.bl (nameV v)) H'
section
variable {P : Program} {w : World} {K : PySem.W.Frag} {mg : Str → Option Value} {base : Heap}
theorem scN : FnScope ["thing", "sign"] ["thing"] (defScope sIsName) := ⟨rfl, rfl, rfl, by decide +kernel, rfl, by decide +kernel, by decide +kernel⟩
theorem ok_isName {f : Addr} {fd : FuncData} (F : Fun K "is_name" "is_name" sIsName f fd) (T : TxtN mg) : FnOk P w K mg base CX0 1 f fd ["thing"] (spIsName K) := by
  obtain ⟨t1, mL⟩ := T.let_
  obtain ⟨t2, mD⟩ := T.dig
  obtain ⟨t3, mO⟩ := T.lon
  refine F.ok scN (fun vs H Q E h => ?_) (fun cdv A outer s H vs Q E hr h => ?_)
  · obtain ⟨v, d, rfl, _⟩ := h
    rfl
  · obtain ⟨v, d, rfl, hf, hz, k⟩ := h
    refine ⟨_, pss_cons (ps_if (PW.pt (pw_or (pt_not (pt_val (pe_callB call_isi (by rfl) T.isi (by decide +kernel) (pa_cons (pv 0) (pa_cons (pe_bltn (v := .ty "str") (by rfl) T.str_ (by decide +kernel) rfl) pa_nil)))))
          (pw_or1 (pt_not (pt_chain op_le op_le pe_int (pe_callB call_len_str (by rfl) T.len PySem.boot_len (pa_cons (pv 0) pa_nil)) (pe_glob (v := .int 8) (by rfl) mO ⟨_, rfl⟩)))))) (pss_one (ps_ret pe_bl)) pss_nil)
      (pss_one (ps_ret (pe_and (pe_cmpR op_in_sign (pe_ix ix_str (pv 0) pe_int (fun _ _ => rfl)) (pe_glob (v := .str lets) (by rfl) mL ⟨_, rfl⟩) (by rfl))
        (pe_one (pe_callB (cr_all rfl) (by rfl) T.all_ (by decide +kernel) (pa_cons (pe_lc (own := [("sign", 1)]) (g := gName 1) (tt := tYes) rfl scN.nd (pi_str (pv 0)) (blkOk_by (N := ["thing", "sign"]) (sc := defScope sIsName) (by decide +kernel)) (fun _ _ _ _ _ => pg_name (i := 1) scN.nd rfl (Or.inl rfl)) (fun _ _ _ _ _ => pts_nil)
          (fun _ _ _ _ _ => pe_or (pe_cmpR op_in_sign (pv 1) (pe_glob (v := .str lets) (by rfl) mL ⟨_, rfl⟩) (by rfl)) (pe_one (pe_cmpR op_in_sign (pv 1) (pe_glob (v := .str digs) (by rfl) mD ⟨_, rfl⟩) (by rfl))))) pa_nil)))))), ?_⟩
    rcases flat_ty hf with ⟨x, rfl⟩ | ⟨t, ty, kn⟩
    · have hl := hz x rfl
      refine ⟨_, rfl, _, _, _, _, true, rfl, .ty "str", .base (.str x), kit_ty (by decide +kernel), _, rfl, iteF ?_⟩
      refine ⟨_, rfl, x, rfl, by rw [sizeLine_eq]; omega, _, _, rfl, rfl, _, rfl, ?_⟩
      have lenE : x.cps.toList.length = x.length := by show _ = x.cps.size; exact Array.length_toList
      have bad : (1 ≤ x.cps.toList.length ∧ x.cps.toList.length ≤ 8 → False) → Q (.bl false) H := fun hb => by
        have e : nameV (.str x) = false := by
          show (decide _ && (decide _ && _)) = false
          by_cases h1 : 1 ≤ x.cps.toList.length
          · rw [decide_eq_false (fun h2 => hb ⟨h1, h2⟩), Bool.false_and, Bool.and_false]
          · rw [decide_eq_false h1, Bool.false_and]
        rw [← e]
        exact k H (Same.refl H)
      refine ite2 (fun h1 => ?_) (fun h1 => ⟨_, rfl, iteT (bad fun z => h1 (decide_eq_true (by omega)))⟩)
      have h1 : (1 : Int) ≤ x.length := of_decide_eq_true h1
      refine ⟨_, _, rfl, rfl, _, rfl, ite2 (fun h2 => bad fun z => ?_) (fun h2 => ?_)⟩
      · rw [decide_eq_true (show ((x.length : Nat) : Int) ≤ 8 by omega)] at h2
        cases h2
      have h2 : (x.length : Int) ≤ 8 := by
        by_cases z : (x.length : Int) ≤ 8
        · exact z
        · exact absurd (by rw [decide_eq_false z]; rfl) h2
      obtain ⟨c, hc⟩ : ∃ c, x.cps.toList[0]? = some c := ⟨_, List.getElem?_eq_getElem (by omega)⟩
      have hhd : x.cps.toList.head? = some c := by
        rw [List.head?_eq_getElem?]
        exact hc
      have val : nameV (.str x) = (isLet c && x.cps.toList.all isSign) := by
        show (decide _ && (decide _ && _)) = _
        rw [decide_eq_true (show 1 ≤ x.cps.toList.length by omega), decide_eq_true (show x.cps.toList.length ≤ 8 by omega), hhd, Bool.true_and, Bool.true_and]
        rfl
      refine ⟨_, rfl, x, 0, c, rfl, rfl, by rw [sizeLine_eq]; omega, atI_nat (j := 0) hc, c, lets, rfl, rfl, _, rfl, ite2 (fun h3 => ?_) (fun h3 => ?_)⟩
      · refine ⟨_, rfl, x, rfl, fun D hD => ?_⟩
        refine lc_it walk_str (fun i H' => H' = upd H D (.lst ((x.cps.toList.take i).map fun c => V.bl (isSign c)))) rfl (fun _ _ _ _ => True.intro) ?_ ?_
        · intro i v H1 H' hi e y
          subst e
          obtain ⟨eH, c', hc', rfl⟩ := y
          subst eH
          have hc2 : x.cps.toList[i]? = some c' := by rw [Array.getElem?_toList]; exact hc'
          have fin : ∀ b : Bool, b = isSign c' → ∃ acc, (upd H D (.lst ((x.cps.toList.take i).map fun c => V.bl (isSign c)))) D = some (.lst acc) ∧ acc.length < sizeLine ∧ upd (upd H D (.lst ((x.cps.toList.take i).map fun c => V.bl (isSign c)))) D (.lst (acc ++ [V.bl b])) = upd H D (.lst ((x.cps.toList.take (i + 1)).map fun c => V.bl (isSign c))) := fun b hb => by
            refine ⟨_, upd_same, by rw [sizeLine_eq, List.length_map, List.length_take]; omega, ?_⟩
            rw [upd_upd, take_snoc hc2, List.map_append, hb]
            rfl
          refine ⟨rfl, iteT (B := True) ⟨_, rfl, c', lets, rfl, rfl, _, rfl, ite2 (fun h4 => fin true ?_) (fun h4 => ⟨_, rfl, c', digs, rfl, rfl, fin _ ?_⟩)⟩⟩
          · show true = (decide _ || _)
            rw [h4]
            rfl
          · show _ = (decide (c' ∈ lets.cps.toList) || _)
            rw [decide_eq_false (fun z => h4 (decide_eq_true z)), Bool.false_or]
        · intro H' e
          subst e
          have en : x.cps.toList.take x.cps.size = x.cps.toList := by
            rw [← Array.length_toList, List.take_length]
          refine ⟨D, x.cps.toList.map isSign, rfl, SqL.of ?_, ?_⟩
          · rw [en, List.map_map]
            exact upd_same
          · have e2 : ((x.cps.toList.map isSign).all id) = nameV (.str x) := by
              rw [val, List.all_map]
              show _ = (decide (c ∈ lets.cps.toList) && _)
              rw [h3, Bool.true_and]
              rfl
            rw [e2, en]
            exact k _ (same_new hD)
      · have e : nameV (.str x) = false := by
          rw [val]
          show (decide (c ∈ lets.cps.toList) && _) = false
          rw [decide_eq_false (fun z => h3 (decide_eq_true z)), Bool.false_and]
        rw [← e]
        exact k H (Same.refl H)
    · have hno : nameV v = false := nameV_no fun x e => by
        subst e
        cases ty with
        | base h =>
          cases h
          rw [show PySem.W.kitOne K (.type "str") (.type "str") = some true from kit_ty (by decide +kernel)] at kn
          cases kn
      refine ⟨_, rfl, v, _, _, _, false, rfl, .ty "str", ty, kn, _, rfl, iteT (iteT ?_)⟩
      rw [← hno]
      exact k H (Same.refl H)
end
end Bo

set_option Elab.async false
set_option linter.all false
set_option maxRecDepth 100000
set_option maxHeartbeats 8000000
namespace Bo
open PySem L2
/-! ### an error's __init__: self.f = copied(f) -/
def spInit (K : PySem.W.Frag) (f : Str) : Sp := fun vs H Q _ => ∃ (a C : Addr) (v : V) (d : PyData), vs = [.ref a, v] ∧ H a = some (exo a C none) ∧ OexC K C ∧ PySem.W.findIn K (.ref C) f = some none ∧ Flat K H v d ∧
  ∀ (v' : V) (dx : Addr) (H' : Hp), (∀ b o, H b = some o → b ≠ a → H' b = some o) → H' a = some (exo a C (some dx)) → H' dx = some (exd dx [(f, v')]) → H dx = none → dx ≠ a → Flat K (del H' a) v' d → Q .non H'
theorem Flat.step {K : PySem.W.Frag} {H H' : Hp} {v : V} {d : PyData} (h : Flat K H v d) (kt : ∀ a xs, SqT K H a xs → SqT K H' a xs) (kl : ∀ a xs, H a = some (.lst xs) → H' a = some (.lst xs)) (kd : ∀ a kvs, H a = some (.dK kvs) → H' a = some (.dK kvs)) : Flat K H' v d := by
  cases h with
  | atom h => exact .atom h
  | tup h x l => exact .tup (kt _ _ h) x l
  | lst h x l => exact .lst (kl _ _ h) x l
  | dct h x nd l => exact .dct (kd _ _ h) x nd l
theorem exo_lst {e C : Addr} {d : Option Addr} {xs : List V} : exo e C d ≠ .lst xs := fun z => by cases (show HO.ext _ = HO.lst xs from z)
theorem exo_dK {e C : Addr} {d : Option Addr} {xs : List (Key × V)} : exo e C d ≠ .dK xs := fun z => by cases (show HO.ext _ = HO.dK xs from z)
theorem sqT_off {K : PySem.W.Frag} {H H' : Hp} {a : Addr} (k : ∀ b o, H b = some o → b ≠ a → H' b = some o) (ha : ∀ xs, H a ≠ some (.tup xs)) (hf : ∀ o xs, H a ≠ some (.frz o (.tup xs))) {b : Addr} {xs : List V} (h : SqT K H b xs) : SqT K H' b xs := by
  rcases h with (h | ⟨o, h⟩) | h
  · exact .inl (.inl (k _ _ h fun z => ha xs (z ▸ h)))
  · exact .inl (.inr ⟨o, k _ _ h fun z => hf o xs (z ▸ h)⟩)
  · exact .inr h
theorem init_read {K : PySem.W.Frag} {a C : Addr} {f : Str} {v : V} {d : PyData} {H : Hp} {Q : VK} (ha : H a = some (exo a C none)) (T : OexC K C) (hno : PySem.W.findIn K (.ref C) f = some none) (hp : Flat K H v d)
    (k : ∀ (v' : V) (dx : Addr) (H' : Hp), (∀ b o, H b = some o → b ≠ a → H' b = some o) → H' a = some (exo a C (some dx)) → H' dx = some (exd dx [(f, v')]) → H dx = none → dx ≠ a → Flat K (del H' a) v' d → Q .non H') :
    tOst K f (tVar 0) (tCall (spCopy K) [] E0 (tCons (tVar 1) tNil)) { nx := fun _ H' => Q .non H', rt := Q } [some (.ref a), some v] H := by
  refine ⟨v, rfl, v, d, rfl, hp, fun v' H1 sm hp' => ⟨_, rfl, a, C, rfl, T, hno, .inl ⟨sm _ _ ha, fun dx hdx ne => ?_⟩⟩⟩
  have keepO : ∀ b o, H1 b = some o → b ≠ a → (del (upd (upd H1 dx (exd dx [(f, v')])) a (exo a C (some dx))) a) b = some o := fun b o e ba => by
    rw [del_ne ba, upd_ne ba, upd_ne (ne_of_none e hdx)]
    exact e
  have ea := sm _ _ ha
  refine k v' dx _ (fun b o e ba => ?_) upd_same (by rw [upd_ne ne]; exact upd_same) (sm.free hdx) ne (hp'.step (fun b xs h => sqT_off keepO (fun xs e => ?_) (fun o xs e => ?_) h) (fun b xs e => keepO b _ e (at_ne ea e exo_lst)) fun b xs e => keepO b _ e (at_ne ea e exo_dK))
  · rw [upd_ne ba, upd_ne (ne_of_none (sm _ _ e) hdx)]
    exact sm _ _ e
  · rw [ea] at e
    exact exo_tup (Option.some.inj e)
  · rw [ea] at e
    exact exo_frz (Option.some.inj e)
section
variable {P : Program} {w : World} {K : PySem.W.Frag} {mg : Str → Option Value} {base : Heap}
abbrev sI5 : Stmt := inClass (top 5) 0
theorem scI5 : FnScope ["self", "name"] ["self", "name"] (defScope sI5) := ⟨rfl, rfl, rfl, by decide +kernel, rfl, by decide +kernel, by decide +kernel⟩
theorem ok_i5 {f fC : Addr} {fd fdC : FuncData} (F : Fun K "__init__" "InvalidName.__init__" sI5 f fd) (G : FnOk P w K mg base CX0 2 fC fdC ["thing"] (spCopy K)) (mC : mg "copied" = some (.ref fC)) (kC : PySem.W.keepIn K (.ref fC) = true) (bC : Binds K fdC ["thing"] []) :
    FnOk P w K mg base CX0 3 f fd ["self", "name"] (spInit K "name") := by
  refine F.ok scI5 (fun vs H Q E h => ?_) (fun cdv A outer s H vs Q E hr h => ?_)
  · obtain ⟨a, C, v, d, rfl, _⟩ := h
    rfl
  · obtain ⟨a, C, v, d, rfl, ha, T, hno, hp, k⟩ := h
    exact ⟨_, pss_one (ps_ost (pv 0) (pe_call G hr rfl mC kC bC .nil pass0 (pa_cons (pv 1) pa_nil))), init_read ha T hno hp k⟩
end
/-- what the written part says of an error class with one field -/
structure ErrC (K : PySem.W.Frag) (C fI : Addr) (f : Str) : Prop where
  o : OexC K C
  i : PySem.W.findIn K (.ref C) "__init__" = some (some (.ref fI))
  t : PySem.W.typeIn K (.ref fI) = some (.type "function")
  no : PySem.W.findIn K (.ref C) f = some none
/-- the error of the class at C, its field data d, is let out -/
def Thrown (K : PySem.W.Frag) (E : XK) (H : Hp) (C : Addr) (f : Str) (d : PyData) : Prop := ∀ (dx : Addr) (v : V) (H' : Hp), Same H H' → H' dx = some (.xd [(f, v)]) → Flat K H' v d → E (.ref C) (some dx) H'
theorem Thrown.later {K : PySem.W.Frag} {E : XK} {H H1 : Hp} {C : Addr} {f : Str} {d : PyData} (h : Thrown K E H C f d) (k : Same H H1) : Thrown K E H1 C f d := fun dx v H' k' e1 e2 => h dx v H' (k.trans k') e1 e2
/-- the reading of raise C(v) -/
theorem raise_read {K : PySem.W.Frag} {E : XK} {H : Hp} {C fI : Addr} {f : Str} {d : PyData} {v : V} (T : ErrC K C fI f) (hf : Flat K H v d) (h : Thrown K E H C f d) :
    [v].length ≤ 1000 ∧ ∀ a, H a = none → spInit K f (.ref a :: ([v] ++ [])) (upd H a (exo a C none)) (fun v H2 => v = .non ∧ ∃ (d : Addr) (fs : List (Str × V)), H2 a = some (exo a C (some d)) ∧ H2 d = some (exd d fs) ∧ H d = none ∧ E (.ref C) (some d) (upd (del H2 a) d (.xd fs))) (fun _ _ _ => False) := by
  refine ⟨by show 1 ≤ 1000; decide, fun a ha => ⟨a, C, v, d, rfl, upd_same, T.o, T.no, hf.keep (same_new ha), fun v' dx H' k e1 e2 e3 e4 e5 => ⟨rfl, dx, _, e1, e2, ?_, h dx v' _ (fun b o e => ?_) upd_same (e5.step ?_ ?_ ?_)⟩⟩⟩
  · rw [upd_ne e4] at e3
    exact e3
  · have ba := ne_of_none e ha
    have nd : b ≠ dx := fun z => by
      rw [upd_ne e4, ← z] at e3
      rw [e] at e3
      cases e3
    rw [upd_ne nd, del_ne ba]
    exact k b o (by rw [upd_ne ba]; exact e) ba
  · have hx : del H' a dx = some (exd dx [(f, v')]) := by rw [del_ne e4]; exact e2
    exact fun b xs q => sqT_off (fun c o e n => by rw [upd_ne n]; exact e) (fun xs e => by rw [hx] at e; exact exd_tup (Option.some.inj e)) (fun o xs e => by rw [hx] at e; cases (show HO.ext _ = HO.frz _ _ from Option.some.inj e)) q
  · have hx : del H' a dx = some (exd dx [(f, v')]) := by rw [del_ne e4]; exact e2
    exact fun b xs q => by
      have n : b ≠ dx := fun z => by rw [z, hx] at q; cases (show HO.ext _ = HO.lst _ from Option.some.inj q)
      rw [upd_ne n]; exact q
  · have hx : del H' a dx = some (exd dx [(f, v')]) := by rw [del_ne e4]; exact e2
    exact fun b xs q => by
      have n : b ≠ dx := fun z => by rw [z, hx] at q; cases (show HO.ext _ = HO.dK _ from Option.some.inj q)
      rw [upd_ne n]; exact q
end Bo

set_option Elab.async false
set_option linter.all false
set_option maxRecDepth 100000
set_option maxHeartbeats 8000000
namespace Bo
open PySem PySem.Spec PyProof.Rows L2
section
variable {X : Cx}
/-- d.copy(), d a dict that may be known -/
def tDCopy (to : TE) : TE := fun σ H Q => to σ H fun x H1 => ∃ a kvs, x = .ref a ∧ Rd H1 a (.dK kvs) ∧ ∀ p, H1 p = none → Q (.ref p) (upd H1 p (.dK kvs))
theorem pe_dcopy {o : Expr} {to : TE} {apos cpos : Pos} (ho : PE X o to) (hbase : attributeBase o "copy" X.env (eval o X.env) = eval o X.env := by rfl) (hline : (apos.endLine == cpos.line) = true := by rfl) :
    PE X (.Call (.Attribute o "copy" apos) [] [] cpos) (tDCopy to) := by
  refine ⟨fun pins s σ H Q I h => wpAny_Call_method0_late hbase hline (thn (ho.run pins s σ H _ I h) fun v s1 ⟨x, H1, I1, r1, a, kvs, ex, hd, q⟩ => ?_)⟩
  subst ex
  obtain rfl : v = Value.ref a := r1
  obtain ⟨z, sysn, vs, rel, dd⟩ := dk_rd I1.hok hd
  obtain ⟨ob, es, ep, ho1, hex, _⟩ := id dd
  refine ⟨"dict", "dict.copy", PySem.F.plainAttrs_dict, PySem.F.slot_dict_copy, PySem.F.type_dict_copy, ⟨ob, ho1, hex.1⟩, fun b e => ?_, Calls.callWith_builtin rfl (PySem.evalArgs_none ?_)⟩
  · cases e
    exact ⟨ob, ho1, hex.2.1⟩
  refine call_meetsIn PySem.F.slot_dict_copy ⟨ob, ho1, hex.1⟩ PySem.F.entry_dict_copy (PySem.F.args_dict_copy_1 _) (meets_dict_copy (mixKind X.prog X.w) a sysn) ⟨vs, dd, by rw [← rel.length]; exact z, fun h' d1 d2 k => ?_⟩
  exact ⟨.ref s1.heap.objs.size, _, I1.laid (t' := s1.toks) (a := s1.heap.objs.size) (o := .dK kvs) k (Nat.le_refl _) (dk_new z (beq_eq_false_iff_ne.mpr (Ne.symm (Nat.ne_of_lt I1.big))) rel d1), rfl, q _ (I1.hok.fresh (Nat.le_refl _))⟩
/-- len(d), d a dict that may be known -/
theorem call_lenR : CallR X (.builtin "len") (fun xs H Q => ∃ a kvs, xs = [V.ref a] ∧ Rd H a (.dK kvs) ∧ Q (.int kvs.length) H) := by
  intro pins s σ H xs us Q I r h
  obtain ⟨a, kvs, rfl, ha, q⟩ := h
  obtain ⟨u, rfl, ru⟩ := vals1 r
  cases ru
  exact d_len I ha fun t s' I' => ⟨.int kvs.length, H, I', ⟨t, rfl⟩, q⟩
end
/-! ### what a system consists of -/
structure Ct where
  cols : List Str
  rows : List (Str × List (Str × Int))
  cons : List (Str × Int)
def refK (rs : List (Str × Addr)) : List (Key × V) := rs.map fun p => (Sum.inr p.1, V.ref p.2)
def intK (l : List (Str × Int)) : List (Key × V) := l.map fun p => (Sum.inr p.1, V.int p.2)
theorem putF_len (f : Str) (v : V) : ∀ fs : List (Str × V), (putF f v fs).length ≤ fs.length + 1
  | [] => Nat.le_refl _
  | (g, x) :: r => by
    show (if g = f then _ else _ : List (Str × V)).length ≤ _
    split
    · simp
    · have := putF_len f v r
      simp only [List.length_cons]
      omega
/-- the fields of Contents -/
def ctF (ac ar ak : Addr) : List (Str × V) := putF "constants" (.ref ak) (putF "rows" (.ref ar) (putF "columns" (.ref ac) []))
theorem ctF_c (ac ar ak : Addr) : (ctF ac ar ak).lookup ("columns" : Str) = some (.ref ac) := by
  unfold ctF
  rw [lookup_putF, if_neg (by decide +kernel), lookup_putF, if_neg (by decide +kernel), lookup_putF, if_pos rfl]
theorem ctF_r (ac ar ak : Addr) : (ctF ac ar ak).lookup ("rows" : Str) = some (.ref ar) := by
  unfold ctF
  rw [lookup_putF, if_neg (by decide +kernel), lookup_putF, if_pos rfl]
theorem ctF_k (ac ar ak : Addr) : (ctF ac ar ak).lookup ("constants" : Str) = some (.ref ak) := by
  unfold ctF
  rw [lookup_putF, if_pos rfl]
/-- at a stands a Contents with the state S -/
structure CtAt (K : PySem.W.Frag) (CC : Addr) (H : Hp) (a : Addr) (S : Ct) (dx ac ar ak : Addr) (rs : List (Str × Addr)) : Prop where
  i : H a = some (.ins CC dx (ctF ac ar ak))
  c : SqT K H ac (S.cols.map V.str)
  r : Fz H ar (.dK (refK rs))
  p : Paired (fun (p : Str × List (Str × Int)) (q : Str × Addr) => p.1 = q.1 ∧ Fz H q.2 (.dK (intK p.2))) S.rows rs
  k : Fz H ak (.dK (intK S.cons))
def CtIn (K : PySem.W.Frag) (CC : Addr) (H : Hp) (a : Addr) (S : Ct) : Prop := ∃ dx ac ar ak rs, CtAt K CC H a S dx ac ar ak rs
theorem CtAt.keep {K : PySem.W.Frag} {CC : Addr} {H H' : Hp} {a : Addr} {S : Ct} {dx ac ar ak : Addr} {rs : List (Str × Addr)} (h : CtAt K CC H a S dx ac ar ak rs) (m : Same H H') : CtAt K CC H' a S dx ac ar ak rs :=
  ⟨m _ _ h.i, SqT.keep h.c m, h.r.keep m, Paired.mapP h.p fun p q z => ⟨z.1, z.2.keep m⟩, h.k.keep m⟩
theorem CtIn.keep {K : PySem.W.Frag} {CC : Addr} {H H' : Hp} {a : Addr} {S : Ct} (h : CtIn K CC H a S) (m : Same H H') : CtIn K CC H' a S :=
  let ⟨dx, ac, ar, ak, rs, z⟩ := h; ⟨dx, ac, ar, ak, rs, z.keep m⟩
/-- what the written part says of a class without more -/
structure ClsT (K : PySem.W.Frag) (C fI : Addr) : Prop where
  cl : Cls K C
  mkC : Mk K C fI
abbrev sCtInit : Stmt := inClass (top 28) 0
/-- Contents.__init__ -/
def spCtInit (CC : Addr) : Sp := fun vs H Q _ => ∃ (p dx ac ar ak : Addr), vs = [.ref p, .ref ac, .ref ar, .ref ak] ∧ H p = some (.ins CC dx []) ∧ ∀ H', (∀ b o, H b = some o → b ≠ p → H' b = some o) → H' p = some (.ins CC dx (ctF ac ar ak)) → Q .non H'
section
variable {P : Program} {w : World} {K : PySem.W.Frag} {mg : Str → Option Value} {base : Heap} {CC : Addr}
structure CtT (K : PySem.W.Frag) (mg : Str → Option Value) (CC fI : Addr) : Prop extends ClsT K CC fI where
  g : mg "Contents" = some (.ref CC)
  n1 : NoAttr K CC "columns"
  n2 : NoAttr K CC "rows"
  n3 : NoAttr K CC "constants"
theorem scCI : FnScope ["self", "columns", "rows", "constants"] ["self", "columns", "rows", "constants"] (defScope sCtInit) := ⟨rfl, rfl, rfl, by decide +kernel, rfl, by decide +kernel, by decide +kernel⟩
theorem ok_ctInit {f : Addr} {fd : FuncData} (F : Fun K "__init__" "Contents.__init__" sCtInit f fd) {fI : Addr} (T : CtT K mg CC fI) : FnOk P w K mg base CX0 1 f fd ["self", "columns", "rows", "constants"] (spCtInit CC) := by
  refine F.ok scCI (fun vs H Q E h => ?_) (fun cdv A outer s H vs Q E hr h => ?_)
  · obtain ⟨p, dx, ac, ar, ak, rfl, _⟩ := h
    rfl
  · obtain ⟨p, dx, ac, ar, ak, rfl, hp, k⟩ := h
    refine ⟨_, pss_cons (ps_fld (pv 0) (pv 1) rfl) (pss_cons (ps_fld (pv 0) (pv 2) rfl) (pss_one (ps_fld (pv 0) (pv 3) rfl))), ?_⟩
    refine ⟨_, rfl, _, rfl, p, CC, dx, [], rfl, hp, T.cl, T.n1, by decide, ?_⟩
    refine ⟨_, rfl, _, rfl, p, CC, dx, _, rfl, upd_same, T.cl, T.n2, by have := putF_len "columns" (.ref ac) []; simp only [List.length_nil] at this; omega, ?_⟩
    refine ⟨_, rfl, _, rfl, p, CC, dx, _, rfl, upd_same, T.cl, T.n3, by have := putF_len "columns" (.ref ac) []; have := putF_len "rows" (.ref ar) (putF "columns" (.ref ac) []); simp only [List.length_nil] at *; omega, ?_⟩
    rw [upd_upd, upd_upd]
    exact k _ (fun b o e n => by rw [upd_ne n]; exact e) upd_same
/-- Contents(c, r, k): what it gives -/
theorem mk_ct {H : Hp} {Q : VK} {E : XK} {ac ar ak : Addr} (k : ∀ (a dx : Addr) (H' : Hp), Same H H' → H' a = some (.ins CC dx (ctF ac ar ak)) → Q (.ref a) H') :
    ∀ x dx, H x = none → H dx = none → dx ≠ x → spCtInit CC (.ref x :: ([.ref ac, .ref ar, .ref ak] ++ [])) (upd (upd H dx (.own x)) x (.ins CC dx [])) (fun v H2 => v = .non ∧ Q (.ref x) H2) E :=
  fun x dx hx hd ne => ⟨x, dx, ac, ar, ak, rfl, upd_same, fun H' kk e => ⟨rfl, k x dx H' (fun b o q => kk b o (by rw [upd_ne (ne_of_none q hx), upd_ne (ne_of_none q hd)]; exact q) (ne_of_none q hx)) e⟩⟩
/-- replaced(table, key, thing) -/
abbrev sReplaced : Stmt := top 45
def spReplaced : Sp := fun vs H Q _ => ∃ (a : Addr) (kvs : List (Key × V)) (k : Key) (v : V), vs = [.ref a, kV k, v] ∧ Rd H a (.dK kvs) ∧ kvs.length < sizeLine ∧ ∀ (p : Addr), H p = none → Q (.ref p) (upd H p (.dK (putK kvs k v)))
theorem scRp : FnScope ["table", "key", "thing", "changed"] ["table", "key", "thing"] (defScope sReplaced) := ⟨rfl, rfl, rfl, by decide +kernel, rfl, by decide +kernel, by decide +kernel⟩
theorem ok_replaced {f : Addr} {fd : FuncData} (F : Fun K "replaced" "replaced" sReplaced f fd) : FnOk P w K mg base CX0 1 f fd ["table", "key", "thing"] spReplaced := by
  refine F.ok scRp (fun vs H Q E h => ?_) (fun cdv A outer s H vs Q E hr h => ?_)
  · obtain ⟨a, kvs, k, v, rfl, _⟩ := h
    rfl
  · obtain ⟨a, kvs, k, v, rfl, ha, hl, q⟩ := h
    have hu := hu_of hr
    refine ⟨_, pss_cons (ps_set (i := 3) scRp.nd rfl (.inl rfl) (pe_dcopy (pv 0))) (pss_cons (ps_dput hu (pv 3) (pv 1) (pv 2) rfl) (pss_one (ps_ret (pv 3)))), ?_⟩
    refine ⟨_, rfl, a, kvs, rfl, ha, fun p hp => ?_⟩
    refine ⟨_, rfl, _, rfl, _, rfl, p, _, rfl, DPut.k (k := k) upd_same hl, _, rfl, ?_⟩
    rw [upd_upd]
    exact q p hp
end
end Bo

set_option Elab.async false
set_option linter.all false
set_option maxRecDepth 100000
set_option maxHeartbeats 8000000
namespace Bo
open PySem L2
abbrev sWU : Stmt := top 31
structure TxtS (K : PySem.W.Frag) (mg : Str → Option Value) (CC fCI CN fIN : Addr) : Prop extends TxtN mg where
  ct : CtT K mg CC fCI
  en : ErrC K CN fIN "name"
  gN : mg "InvalidName" = some (.ref CN)
  set_ : mg "set" = none
  srt : mg "sorted" = none
  most : ∃ t, mg "MOST" = some (.int 24 t)
/-- with_unknowns(contents, names): all are names, none twice, none there, room for all; or the first that is none is told -/
def spWU (K : PySem.W.Frag) (CC CN : Addr) : Sp := fun vs H Q E => ∃ (c n : Addr) (S : Ct) (xs : List V), vs = [.ref c, .ref n] ∧ CtIn K CC H c S ∧ SqT K H n xs ∧ xs.length ≤ 100 ∧ S.cols.length ≤ 24 ∧ (∀ x ∈ xs, ∃ d, Flat K H x d) ∧ (∀ z, V.str z ∈ xs → z.length ≤ 1000) ∧
  ((∃ (i : Nat) (v : V) (d : PyData), xs[i]? = some v ∧ Flat K H v d ∧ nameV v = false ∧ (∀ j x, j < i → xs[j]? = some x → nameV x = true) ∧ Thrown K E H CN "name" d) ∨
   (∃ ys : List Str, xs = ys.map V.str ∧ (∀ y ∈ ys, nameOk y = true) ∧ (ys ++ S.cols).Nodup ∧ (ys ++ S.cols).length ≤ 24 ∧
     ∀ (a : Addr) (H' : Hp) (zs : List Str), Same H H' → zs.Perm (ys ++ S.cols) → PyProof.Rows.sortedS zs = true → CtIn K CC H' a { S with cols := zs } → Q (.ref a) H'))
section
variable {P : Program} {w : World} {K : PySem.W.Frag} {mg : Str → Option Value} {base : Heap} {CC fCI CN fIN : Addr}
theorem scWU : FnScope ["contents", "names", "name", "seen"] ["contents", "names"] (defScope sWU) := ⟨rfl, rfl, rfl, by decide +kernel, rfl, by decide +kernel, by decide +kernel⟩
theorem ok_wu {f fN : Addr} {fd fdN fdCI fdIN : FuncData} (F : Fun K "with_unknowns" "with_unknowns" sWU f fd) (T : TxtS K mg CC fCI CN fIN) 
    (GN : FnOk P w K mg base CX0 1 fN fdN ["thing"] (spIsName K)) (mN : mg "is_name" = some (.ref fN)) (kN : PySem.W.keepIn K (.ref fN) = true) (bN : Binds K fdN ["thing"] [])
    (GC : FnOk P w K mg base CX0 1 fCI fdCI ["self", "columns", "rows", "constants"] (spCtInit CC)) (bC : Binds K fdCI ["self", "columns", "rows", "constants"] [])
    (GI : FnOk P w K mg base CX0 3 fIN fdIN ["self", "name"] (spInit K "name")) (bI : Binds K fdIN ["self", "name"] []) :
    FnOk P w K mg base (L2.CX P w) 5 f fd ["contents", "names"] (spWU K CC CN) := by
  obtain ⟨tm, mM⟩ := T.most
  refine F.okX scWU (fun vs H Q E h => ?_) (fun cdv A outer s H vs Q E hr h => ?_)
  · obtain ⟨c, n, S, xs, rfl, _⟩ := h
    rfl
  · obtain ⟨c, n, S, xs, rfl, hc, hn, hl, hcl, hfl, hz, alt⟩ := h
    have hr1 : Room 1 _ := hr.mono (by decide)
    have hr2 : Room 2 _ := hr.mono (by decide)
    refine ⟨_, pss_cons (ps_for (passes_of rfl) rfl (pi_tup (pv 1)) (pg_name (i := 2) scWU.nd rfl (.inl rfl))
        (pss_one (ps_if (pt_not (pt_val (pe_call GN hr1 rfl mN kN bN .nil pass0 (pa_cons (pv 2) pa_nil)))) (pss_one (ps_raise rfl (takes_of rfl rfl rfl rfl) (pmk_oex T.en.o T.en.i T.en.t GI hr bI .nil pass0 rfl T.gN (pa_cons (pv 2) pa_nil)))) pss_nil)))
      (pss_cons (ps_set (i := 3) scWU.nd rfl (.inl rfl) (pe_callTy (cr_setTx rfl) (by rfl) T.set_ (by decide +kernel) (pa_cons (pe_fld (pv 0) rfl) pa_nil)))
      (pss_cons (ps_for (passes_of rfl) rfl (pi_tup (pv 1)) (pg_name (i := 2) scWU.nd rfl (.inl rfl))
        (pss_cons (ps_if (pt_cmpR op_inTx (pv 2) (pv 3) (by rfl)) (pss_one ps_never) pss_nil)
        (pss_one (ps_expr (pe_addTx (pv 3) (pa_cons (pv 2) pa_nil))))))
      (pss_cons (ps_if (pt_cmpR op_gt (pe_callB call_lenTx (by rfl) T.len PySem.boot_len (pa_cons (pv 3) pa_nil)) (pe_glob (v := .int 24) (by rfl) mM ⟨_, rfl⟩) (nomark _)) (pss_one ps_never) pss_nil)
      (pss_one (ps_ret (pe_make T.ct.mkC GC hr2 rfl T.ct.g bC .nil pass0 (pa_cons (pe_callTy call_tuple_of (by rfl) T.tup (by decide +kernel) (pa_cons (pe_callB (cr_sortTx rfl) (by rfl) T.srt (by decide +kernel) (pa_cons (pv 3) pa_nil)) pa_nil)) (pa_cons (pe_fld (pv 0) rfl) (pa_cons (pe_fld (pv 0) rfl) pa_nil))))))))), ?_⟩
    refine ⟨_, rfl, n, rfl, ⟨xs, hn⟩, ?_⟩
    refine for_tup (xs := xs) (fun i σ H' => (∃ z, σ = [some (.ref c), some (.ref n), z, none]) ∧ Same H H' ∧ ∀ j x, j < i → xs[j]? = some x → nameV x = true) ⟨⟨_, rfl⟩, Same.refl H, fun _ _ h => absurd h (by omega)⟩ (fun i σ H' _ p => SqT.keep hn p.2.1) ?_ ?_
    · -- one name
      rintro i x σ H1 hx ⟨⟨z, rfl⟩, sm, hp⟩
      obtain ⟨d, fx⟩ := hfl x (List.mem_of_getElem? hx)
      refine ⟨x, rfl, x, d, rfl, fx.keep sm, fun z e => hz z (e ▸ List.mem_of_getElem? hx), fun H2 sm2 => ⟨_, rfl, ?_⟩⟩
      cases hnx : nameV x with
      | true =>
        refine iteF ⟨⟨_, rfl⟩, sm.trans sm2, fun j y hj hy => ?_⟩
        by_cases e : j = i
        · subst e
          rw [hx] at hy
          cases hy
          exact hnx
        · exact hp j y (by omega) hy
      | false =>
        refine iteT ?_
        rcases alt with ⟨k, v, d2, hk, fv, hnv, hbef, thr⟩ | ⟨ys, rfl, hok, _⟩
        · have ek : k = i := by
            rcases Nat.lt_trichotomy k i with c | c | c
            · rw [hp k v c hk] at hnv
              cases hnv
            · exact c
            · rw [hbef i x c hx] at hnx
              cases hnx
          subst ek
          rw [hx] at hk
          cases hk
          exact ⟨_, rfl, raise_read T.en ((fv.keep sm).keep sm2) ((thr.later sm).later sm2)⟩
        · rw [List.getElem?_map] at hx
          obtain ⟨y, hy, rfl⟩ := Option.map_eq_some_iff.mp hx
          have := hok y (List.mem_of_getElem? hy)
          rw [show nameV (.str y) = nameOk y from rfl, this] at hnx
          cases hnx
    · -- all are names
      rintro σ H1 ⟨⟨z, rfl⟩, sm, hp⟩
      rcases alt with ⟨k, v, d2, hk, fv, hnv, hbef, thr⟩ | ⟨ys, rfl, hok, hnd, hfew, q⟩
      · rw [hp k v (List.getElem?_eq_some_iff.mp hk).1 hk] at hnv
        cases hnv
      obtain ⟨dx, ac, ar, ak, rs, hC⟩ := hc.keep sm
      refine ⟨_, rfl, c, CC, dx, _, _, rfl, hC.i, T.ct.cl, T.ct.n1, ctF_c _ _ _, ac, S.cols, rfl, hC.c, by show _ < 4096; omega, fun a ha => ?_⟩
      obtain ⟨nd1, nd2, nd3⟩ := List.nodup_append.mp hnd
      have sm1 : Same H1 (upd H1 a (TxO w a (onceTx S.cols))) := same_new ha
      refine ⟨_, rfl, n, rfl, ⟨_, SqT.keep (SqT.keep hn sm) sm1⟩, ?_⟩
      refine for_tup (xs := ys.map V.str) (fun i σ H' => (∃ z, σ = [some (.ref c), some (.ref n), z, some (.ref a)]) ∧ Same H1 H' ∧ ∃ us, us.Perm (ys.take i ++ S.cols) ∧ H' a = some (TxO w a us)) ⟨⟨_, rfl⟩, sm1, _, onceTx_perm nd2, upd_same⟩ (fun i σ H' _ p => SqT.keep (SqT.keep hn sm) p.2.1) ?_ ?_
      · rintro i x σ H2 hx ⟨⟨z, rfl⟩, sm2, us, pu, hu⟩
        rw [List.getElem?_map] at hx
        obtain ⟨y, hy, rfl⟩ := Option.map_eq_some_iff.mp hx
        have hyt : ys.take (i + 1) = ys.take i ++ [y] := take_snoc hy
        have hno : y ∉ us := fun hm => by
          have h2 : ((ys.take i ++ [y]) ++ S.cols).Nodup := by
            rw [← hyt]
            refine List.nodup_append.mpr ⟨nd1.sublist (List.take_sublist _ _), nd2, fun p hp q hq => nd3 p (List.mem_of_mem_take hp) q hq⟩
          have h3 : (y :: (ys.take i ++ S.cols)).Nodup := by
            have e : ((ys.take i ++ [y]) ++ S.cols).Perm (y :: (ys.take i ++ S.cols)) := by
              rw [List.append_assoc]
              exact List.perm_middle
            exact e.nodup_iff.mp h2
          exact (List.nodup_cons.mp h3).1 (pu.mem_iff.mp hm)
        refine ⟨_, rfl, _, rfl, y, a, us, rfl, rfl, hu, _, rfl, ?_⟩
        rw [show (if false = true then !decide (y ∈ us) else decide (y ∈ us)) = false from by rw [if_neg Bool.false_ne_true, decide_eq_false hno]]
        refine iteF ⟨_, rfl, ⟨a, us, rfl, hu⟩, _, rfl, a, us, y, rfl, rfl, hu, ?_, ?_⟩
        · have h1 := pu.length_eq
          rw [List.length_append, List.length_take] at h1
          rw [List.length_append] at hfew
          show _ < 4096
          omega
        · refine ⟨⟨_, rfl⟩, fun b o e => ?_, y :: us, ?_, ?_⟩
          · by_cases hb : b = a
            · subst hb
              rw [ha] at e
              cases e
            · rw [upd_ne hb]
              exact sm2 _ _ e
          · rw [hyt, List.append_assoc]
            exact (pu.cons y).trans List.perm_middle.symm
          · rw [addTx_new hno]
            exact upd_same
      · rintro σ H2 ⟨⟨z, rfl⟩, sm2, us, pu, hu⟩
        have el : (ys.map V.str).length = ys.length := List.length_map _
        rw [el, List.take_length] at pu
        have lu : us.length ≤ 24 := by rw [pu.length_eq]; exact hfew
        refine ⟨_, rfl, a, us, rfl, hu, _, _, rfl, rfl, _, rfl, ?_⟩
        rw [decide_eq_false (show ¬ ((24 : Int) < (us.length : Int)) by omega)]
        refine iteF ?_
        refine ⟨_, rfl, a, us, rfl, hu, by omega, fun zs p hp1 hp2 hp3 => ?_⟩
        have sm3 : Same H2 (upd H2 p (.lst (zs.map V.str))) := same_new hp3
        refine ⟨p, _, rfl, .inl ⟨SqL.of upd_same, fun t ht => ?_⟩⟩
        have sm4 := sm3.trans (same_new (o := .tup (zs.map V.str)) ht)
        have hC4 := (hC.keep sm2).keep sm4
        refine ⟨_, rfl, c, CC, dx, _, _, rfl, hC4.i, T.ct.cl, T.ct.n2, ctF_r _ _ _, _, rfl, c, CC, dx, _, _, rfl, hC4.i, T.ct.cl, T.ct.n3, ctF_k _ _ _, ?_⟩
        refine mk_ct fun b dy H5 sm5 hb => q b H5 zs ((sm.trans sm2).trans (sm4.trans sm5)) (hp1.trans pu) hp2 ⟨dy, t, ar, ak, rs, hb, SqT.of (sm5 _ _ upd_same), (hC4.keep sm5).r, (hC4.keep sm5).p, (hC4.keep sm5).k⟩
end
end Bo

set_option Elab.async false
set_option linter.all false
set_option maxRecDepth 100000
set_option maxHeartbeats 8000000
namespace Bo
open PySem L2
abbrev sCU : Stmt := top 42
abbrev sWE : Stmt := top 32
abbrev sWT : Stmt := top 34
theorem valV_out {k : Key} : ∀ {kvs : List (Key × V)}, k ∉ kvs.map (·.1) → valV kvs k = none
  | [], _ => rfl
  | p :: r, h => by
    have h1 : ¬ p.1 = k := fun e => h (by rw [List.map_cons, e]; exact List.mem_cons_self)
    exact (valV_neg (p := p) h1).trans (valV_out fun z => h (List.mem_cons_of_mem _ z))
theorem refK_out {rs : List (Str × Addr)} {y : Str} (h : y ∉ rs.map (·.1)) : valV (refK rs) (Sum.inr y) = none := valV_out fun z => by
  unfold refK at z
  rw [List.map_map] at z
  obtain ⟨p, hp, e⟩ := List.mem_map.mp z
  cases e
  exact h (List.mem_map.mpr ⟨p, hp, rfl⟩)
theorem intK_out {rs : List (Str × Int)} {y : Str} (h : y ∉ rs.map (·.1)) : valV (intK rs) (Sum.inr y) = none := valV_out fun z => by
  unfold intK at z
  rw [List.map_map] at z
  obtain ⟨p, hp, e⟩ := List.mem_map.mp z
  cases e
  exact h (List.mem_map.mpr ⟨p, hp, rfl⟩)
theorem pair_keys {F : (Str × List (Str × Int)) → (Str × Addr) → Prop} (hF : ∀ p q, F p q → p.1 = q.1) : ∀ {rows : List (Str × List (Str × Int))} {rs : List (Str × Addr)}, Paired F rows rs → rs.map (·.1) = rows.map (·.1)
  | _, _, .nil => rfl
  | _, _, .cons h t => by rw [List.map_cons, List.map_cons, pair_keys hF t, hF _ _ h]
theorem pair_snoc {α β : Type} {F : α → β → Prop} : ∀ {l₁ : List α} {l₂ : List β} {a : α} {b : β}, Paired F l₁ l₂ → F a b → Paired F (l₁ ++ [a]) (l₂ ++ [b])
  | _, _, _, _, .nil, h => .cons h .nil
  | _, _, _, _, .cons q t, h => .cons q (pair_snoc t h)
def spCU0 : Sp := fun vs H Q _ => ∃ (k u : Addr), vs = [.ref k, .ref u] ∧ H u = some (.lst []) ∧ Q .non H
/-- with_terms(contents, name, constant, []) -/
def spWT (K : PySem.W.Frag) (CC CN : Addr) : Sp := fun vs H Q E => ∃ (c l : Addr) (S : Ct) (v : V) (d : PyData) (m : Int), vs = [.ref c, v, .int m, .ref l] ∧ CtIn K CC H c S ∧ H l = some (.lst []) ∧ Flat K H v d ∧ (∀ z, v = .str z → z.length ≤ 1000) ∧
  ((nameV v = false ∧ Thrown K E H CN "name" d) ∨
   (∃ y : Str, v = .str y ∧ nameOk y = true ∧ y ∉ S.rows.map (·.1) ∧ y ∉ S.cons.map (·.1) ∧ S.rows.length < 24 ∧ S.cons.length < 24 ∧
     ∀ (a : Addr) (H' : Hp), Same H H' → CtIn K CC H' a { S with rows := S.rows ++ [(y, [])], cons := S.cons ++ [(y, m)] } → Q (.ref a) H'))
/-- with_equation(contents, name, ()) -/
def spWE (K : PySem.W.Frag) (CC CN : Addr) : Sp := fun vs H Q E => ∃ (c n : Addr) (S : Ct) (v : V) (d : PyData), vs = [.ref c, v, .ref n] ∧ CtIn K CC H c S ∧ SqT K H n [] ∧ Flat K H v d ∧ (∀ z, v = .str z → z.length ≤ 1000) ∧
  ((nameV v = false ∧ Thrown K E H CN "name" d) ∨
   (∃ y : Str, v = .str y ∧ nameOk y = true ∧ y ∉ S.rows.map (·.1) ∧ y ∉ S.cons.map (·.1) ∧ S.rows.length < 24 ∧ S.cons.length < 24 ∧
     ∀ (a : Addr) (H' : Hp), Same H H' → CtIn K CC H' a { S with rows := S.rows ++ [(y, [])], cons := S.cons ++ [(y, 0)] } → Q (.ref a) H'))
section
variable {P : Program} {w : World} {K : PySem.W.Frag} {mg : Str → Option Value} {base : Heap} {CC fCI CN fIN : Addr}
theorem scCU : FnScope ["known", "unknowns", "unknown", "at"] ["known", "unknowns"] (defScope sCU) := ⟨rfl, rfl, rfl, by decide +kernel, rfl, by decide +kernel, by decide +kernel⟩
theorem ok_cu0 {f : Addr} {fd : FuncData} (F : Fun K "check_unknowns" "check_unknowns" sCU f fd) (mE : mg "enumerate" = none) : FnOk P w K mg base CX0 1 f fd ["known", "unknowns"] spCU0 := by
  refine F.ok scCU (fun vs H Q E h => ?_) (fun cdv A outer s H vs Q E hr h => ?_)
  · obtain ⟨k, u, rfl, _⟩ := h
    rfl
  · obtain ⟨k, u, rfl, hu, q⟩ := h
    refine ⟨_, pss_cons (ps_for PassesOwn.never rfl (pi_list (pv 1)) (pg_name (i := 2) scCU.nd rfl (.inl rfl)) (pss_cons ps_never pss_nil))
      (pss_one (ps_for PassesOwn.never rfl (pi_enum (by rfl) mE (pa_cons (pv 1) pa_nil)) (pg_tup (by rfl) (pgs_cons (pg_name (i := 3) scCU.nd rfl (.inl rfl)) (pgs_cons (pg_name (i := 2) scCU.nd rfl (.inl rfl)) pgs_nil))) (pss_cons ps_never pss_nil))), ?_⟩
    refine ⟨_, rfl, u, rfl, ⟨[], SqL.of hu⟩, ?_⟩
    refine for_list (xs := []) (fun i σ H' => σ = [some (.ref k), some (.ref u), none, none] ∧ H' = H) ⟨rfl, rfl⟩ (fun i σ H' _ p => by rw [p.2]; exact SqL.of hu) (fun i x σ H' hx _ => by simp at hx) ?_
    rintro σ H' ⟨rfl, rfl⟩
    refine ⟨_, rfl, u, [], rfl, SqL.of hu, ?_⟩
    refine for_it (walk_enum (a := u) (xs := [])) (fun i σ H'' => H'' = H') rfl (fun i σ H'' _ p => by rw [p]; exact SqL.of hu) (fun i x σ H1 H2 hi => absurd hi (by simp)) ?_
    intro σ H'' e
    rw [e]
    exact q
theorem scWT : FnScope ["contents", "name", "constant", "terms", "rows", "unknown", "number"] ["contents", "name", "constant", "terms"] (defScope sWT) := ⟨rfl, rfl, rfl, by decide +kernel, rfl, by decide +kernel, by decide +kernel⟩
theorem ok_wt {f fN fU fR : Addr} {fd fdN fdCI fdIN fdU fdR : FuncData} (F : Fun K "with_terms" "with_terms" sWT f fd) (T : TxtS K mg CC fCI CN fIN) 
    (GN : FnOk P w K mg base CX0 1 fN fdN ["thing"] (spIsName K)) (mN : mg "is_name" = some (.ref fN)) (kN : PySem.W.keepIn K (.ref fN) = true) (bN : Binds K fdN ["thing"] [])
    (GU : FnOk P w K mg base CX0 1 fU fdU ["known", "unknowns"] spCU0) (mU : mg "check_unknowns" = some (.ref fU)) (kU : PySem.W.keepIn K (.ref fU) = true) (bU : Binds K fdU ["known", "unknowns"] [])
    (GR : FnOk P w K mg base CX0 1 fR fdR ["table", "key", "thing"] spReplaced) (mR : mg "replaced" = some (.ref fR)) (kR : PySem.W.keepIn K (.ref fR) = true) (bR : Binds K fdR ["table", "key", "thing"] [])
    (GC : FnOk P w K mg base CX0 1 fCI fdCI ["self", "columns", "rows", "constants"] (spCtInit CC)) (bC : Binds K fdCI ["self", "columns", "rows", "constants"] [])
    (GI : FnOk P w K mg base CX0 3 fIN fdIN ["self", "name"] (spInit K "name")) (bI : Binds K fdIN ["self", "name"] []) :
    FnOk P w K mg base (L2.CX P w) 5 f fd ["contents", "name", "constant", "terms"] (spWT K CC CN) := by
  obtain ⟨tm, mM⟩ := T.most
  refine F.okX scWT (fun vs H Q E h => ?_) (fun cdv A outer s H vs Q E hr h => ?_)
  · obtain ⟨c, l, S, v, d, m, rfl, _⟩ := h
    rfl
  · obtain ⟨c, l, S, v, d, m, rfl, hc, hl, hf, hz, alt⟩ := h
    have hr1 : Room 1 _ := hr.mono (by decide)
    have hr2 : Room 2 _ := hr.mono (by decide)
    have hu := hu_of hr
    refine ⟨_, pss_cons (ps_if (pt_not (pt_val (pe_call GN hr1 rfl mN kN bN .nil pass0 (pa_cons (pv 1) pa_nil)))) (pss_one (ps_raise rfl (takes_of rfl rfl rfl rfl) (pmk_oex T.en.o T.en.i T.en.t GI hr bI .nil pass0 rfl T.gN (pa_cons (pv 1) pa_nil)))) pss_nil)
      (pss_cons (ps_if (pt_cmp (pc_din hu (pv 1) (pe_fld (pv 0) rfl))) (pss_one ps_never) pss_nil)
      (pss_cons (ps_if (pt_cmpR op_ge (pe_callB call_lenR (by rfl) T.len PySem.boot_len (pa_cons (pe_fld (pv 0) rfl) pa_nil)) (pe_glob (v := .int 24) (by rfl) mM ⟨_, rfl⟩) (nomark _)) (pss_one ps_never) pss_nil)
      (pss_cons (ps_expr (pe_call GU hr1 rfl mU kU bU .nil pass0 (pa_cons (pe_fld (pv 0) rfl) (pa_cons
          (pe_lc (own := [("unknown", 5), ("number", 6)]) (g := gTup K 2 (gCons (gName 5) (gCons (gName 6) gNil))) (tt := tYes) rfl scWT.nd (pi_list (pv 3)) (blkOk_by (N := ["contents", "name", "constant", "terms", "rows", "unknown", "number"]) (sc := defScope sWT) (by decide +kernel))
            (fun _ _ _ _ _ => pg_tup (by rfl) (pgs_cons (pg_name (i := 5) scWT.nd rfl (Or.inl rfl)) (pgs_cons (pg_name (i := 6) scWT.nd rfl (Or.inl rfl)) pgs_nil))) (fun _ _ _ _ _ => pts_nil) (fun _ _ _ _ _ => pv 5)) pa_nil))))
      (pss_cons (ps_set (i := 4) scWT.nd rfl (.inl rfl) (pe_fz (pe_call GR hr1 rfl mR kR bR .nil pass0 (pa_cons (pe_fld (pv 0) rfl) (pa_cons (pv 1) (pa_cons (pe_fz
          (pe_dc (own := [("unknown", 5), ("number", 6)]) (g := gTup K 2 (gCons (gName 5) (gCons (gName 6) gNil))) (tt := tYes) rfl scWT.nd (pi_list (pv 3)) (blkOk_by (N := ["contents", "name", "constant", "terms", "rows", "unknown", "number"]) (sc := defScope sWT) (by decide +kernel))
            (fun _ _ _ _ _ => pg_tup (by rfl) (pgs_cons (pg_name (i := 5) scWT.nd rfl (Or.inl rfl)) (pgs_cons (pg_name (i := 6) scWT.nd rfl (Or.inl rfl)) pgs_nil))) (fun _ _ _ _ _ => pts_nil) (fun _ _ _ _ _ => pv 5) (fun _ _ _ _ _ => pv 6))) pa_nil))))))
      (pss_one (ps_ret (pe_make T.ct.mkC GC hr2 rfl T.ct.g bC .nil pass0 (pa_cons (pe_fld (pv 0) rfl) (pa_cons (pv 4) (pa_cons (pe_fz (pe_call GR hr1 rfl mR kR bR .nil pass0 (pa_cons (pe_fld (pv 0) rfl) (pa_cons (pv 1) (pa_cons (pv 2) pa_nil))))) pa_nil)))))))))), ?_⟩
    refine ⟨v, rfl, v, d, rfl, hf, hz, fun H1 sm => ⟨_, rfl, ?_⟩⟩
    rcases alt with ⟨hno, thr⟩ | ⟨y, rfl, hok, hy1, hy2, hl1, hl2, q⟩
    · rw [hno]
      exact iteT ⟨_, rfl, raise_read T.en (hf.keep sm) (thr.later sm)⟩
    · rw [show nameV (.str y) = true from hok]
      refine iteF ?_
      obtain ⟨dx, ac, ar, ak, rs, hC⟩ := hc.keep sm
      have hks : rs.map (·.1) = S.rows.map (·.1) := pair_keys (fun p q z => z.1) hC.p
      have hlr : rs.length = S.rows.length := by
        have e := congrArg List.length hks
        rw [List.length_map, List.length_map] at e
        exact e
      refine ⟨_, rfl, _, rfl, c, CC, dx, _, _, rfl, hC.i, T.ct.cl, T.ct.n2, ctF_r _ _ _, ar, _, rfl, .inl ⟨_, Sum.inr y, hC.r.rd, rfl, rfl⟩, _, rfl, ?_⟩
      rw [refK_out (by rw [hks]; exact hy1)]
      refine iteF ⟨_, rfl, c, CC, dx, _, _, rfl, hC.i, T.ct.cl, T.ct.n2, ctF_r _ _ _, ar, _, rfl, hC.r.rd, _, _, rfl, rfl, _, rfl, ?_⟩
      have hrl : (refK rs).length = S.rows.length := by unfold refK; rw [List.length_map, hlr]
      rw [decide_eq_false (show ¬ ((24 : Int) ≤ ((refK rs).length : Int)) by rw [hrl]; omega)]
      refine iteF ⟨_, rfl, c, CC, dx, _, _, rfl, hC.i, T.ct.cl, T.ct.n1, ctF_c _ _ _, _, rfl, l, rfl, ⟨[], SqL.of (sm _ _ hl)⟩, fun D hD => ?_⟩
      have smD : Same H1 (upd H1 D (.lst [])) := same_new hD
      refine lc_list (xs := []) (fun i H' => H' = upd H1 D (.lst [])) rfl (fun i H' _ e => by rw [e]; exact SqL.of (smD _ _ (sm _ _ hl))) (fun i x H' hx => by simp at hx) ?_
      intro H' e
      subst e
      refine ⟨ac, D, rfl, upd_same, ?_⟩
      have hC1 := hC.keep smD
      refine ⟨_, rfl, c, CC, dx, _, _, rfl, hC1.i, T.ct.cl, T.ct.n2, ctF_r _ _ _, _, rfl, _, rfl, l, rfl, ⟨[], SqL.of (smD _ _ (sm _ _ hl))⟩, fun D2 hD2 => ?_⟩
      have smD2 : Same (upd H1 D (.lst [])) (upd (upd H1 D (.lst [])) D2 (.dK [])) := same_new hD2
      refine dc_go (walk_list (K := K) (a := l) (xs := [])) (fun i H' => H' = upd (upd H1 D (.lst [])) D2 (.dK [])) rfl (fun i H' _ e => by rw [e]; exact SqL.of (smD2 _ _ (smD _ _ (sm _ _ hl)))) (fun i x H1 H2 hi => absurd hi (by simp)) ?_
      intro H' e
      subst e
      refine ⟨D2, _, rfl, upd_same, True.intro, fun od => ?_⟩
      rw [upd_upd]
      have smF : Same (upd H1 D (.lst [])) (upd (upd H1 D (.lst [])) D2 (.frz od (.dK []))) := same_new hD2
      have hC2 := hC1.keep smF
      refine ⟨ar, refK rs, Sum.inr y, .ref D2, rfl, hC2.r.rd, by rw [hrl, sizeLine_eq]; omega, fun p hp => ⟨p, _, rfl, upd_same, True.intro, fun od2 => ?_⟩⟩
      rw [upd_upd]
      have smP := same_new (o := .frz od2 (.dK (putK (refK rs) (Sum.inr y) (.ref D2)))) hp
      have hC3 := hC2.keep smP
      refine ⟨_, rfl, c, CC, dx, _, _, rfl, hC3.i, T.ct.cl, T.ct.n1, ctF_c _ _ _, _, rfl, _, rfl, c, CC, dx, _, _, rfl, hC3.i, T.ct.cl, T.ct.n3, ctF_k _ _ _, _, rfl, _, rfl, ?_⟩
      have hkl : (intK S.cons).length = S.cons.length := by unfold intK; rw [List.length_map]
      refine ⟨ak, intK S.cons, Sum.inr y, .int m, rfl, hC3.k.rd, by rw [hkl, sizeLine_eq]; omega, fun p2 hp2 => ⟨p2, _, rfl, upd_same, True.intro, fun od3 => ?_⟩⟩
      rw [upd_upd]
      have smQ := same_new (o := .frz od3 (.dK (putK (intK S.cons) (Sum.inr y) (.int m)))) hp2
      have hC4 := hC3.keep smQ
      refine mk_ct fun b dy H5 sm5 hb => q b H5 (((((sm.trans smD).trans smF).trans smP).trans smQ).trans sm5) ⟨dy, ac, p, p2, rs ++ [(y, D2)], hb, (hC4.keep sm5).c, ?_, ?_, ?_⟩
      · refine ⟨od2, sm5 _ _ (smQ _ _ ?_)⟩
        rw [upd_same, putK_new _ (refK_out (by rw [hks]; exact hy1))]
        unfold refK
        rw [List.map_append]
        rfl
      · exact pair_snoc (hC4.keep sm5).p ⟨rfl, od, sm5 _ _ (smQ _ _ (smP _ _ upd_same))⟩
      · refine ⟨od3, sm5 _ _ ?_⟩
        rw [upd_same, putK_new _ (intK_out hy2)]
        unfold intK
        rw [List.map_append]
        rfl
theorem scWE : FnScope ["contents", "name", "unknowns", "unknown"] ["contents", "name", "unknowns"] (defScope sWE) := ⟨rfl, rfl, rfl, by decide +kernel, rfl, by decide +kernel, by decide +kernel⟩
theorem ok_we {f fT : Addr} {fd fdT : FuncData} (F : Fun K "with_equation" "with_equation" sWE f fd) (GT : FnOk P w K mg base (L2.CX P w) 5 fT fdT ["contents", "name", "constant", "terms"] (spWT K CC CN)) (mT : mg "with_terms" = some (.ref fT)) (kT : PySem.W.keepIn K (.ref fT) = true) (bT : Binds K fdT ["contents", "name", "constant", "terms"] []) :
    FnOk P w K mg base (L2.CX P w) 6 f fd ["contents", "name", "unknowns"] (spWE K CC CN) := by
  refine F.okX scWE (fun vs H Q E h => ?_) (fun cdv A outer s H vs Q E hr h => ?_)
  · obtain ⟨c, n, S, v, d, rfl, _⟩ := h
    rfl
  · obtain ⟨c, n, S, v, d, rfl, hc, hn, hf, hz, alt⟩ := h
    refine ⟨_, pss_one (ps_ret (pe_call GT hr rfl mT kT bT .nil (passes_call (takes_of rfl rfl rfl rfl) (fun _ _ _ _ h => h)) (pa_cons (pv 0) (pa_cons (pv 1) (pa_cons pe_int (pa_cons
          (pe_lc (own := [("unknown", 3)]) (g := gName 3) (tt := tYes) rfl scWE.nd (pi_tup (pv 2)) (blkOk_by (N := ["contents", "name", "unknowns", "unknown"]) (sc := defScope sWE) (by decide +kernel)) (fun _ _ _ _ _ => pg_name (i := 3) scWE.nd rfl (Or.inl rfl)) (fun _ _ _ _ _ => pts_nil)
            (fun _ _ _ _ _ => pe_tup (pa_cons (pv 3) (pa_cons pe_int pa_nil)))) pa_nil)))))), ?_⟩
    refine ⟨_, rfl, _, rfl, _, rfl, n, rfl, ⟨[], hn⟩, fun D hD => ?_⟩
    have smD : Same H (upd H D (.lst [])) := same_new hD
    refine lc_tup (xs := []) (fun i H' => H' = upd H D (.lst [])) rfl (fun i H' _ e => by rw [e]; exact SqT.keep hn smD) (fun i x H' hx => by simp at hx) ?_
    intro H' e
    subst e
    refine ⟨c, D, S, v, d, 0, rfl, hc.keep smD, upd_same, hf.keep smD, hz, ?_⟩
    rcases alt with ⟨hno, thr⟩ | ⟨y, rfl, hok, hy1, hy2, hl1, hl2, q⟩
    · exact .inl ⟨hno, thr.later smD⟩
    · exact .inr ⟨y, rfl, hok, hy1, hy2, hl1, hl2, fun a H2 sm hC => q a H2 (smD.trans sm) hC⟩
end
end Bo

set_option Elab.async false
set_option linter.all false
set_option maxRecDepth 100000
set_option maxHeartbeats 8000000
namespace Bo
open PySem L2
abbrev sEO : Stmt := top 30
abbrev sSys : Stmt := top 61
abbrev sSInit : Stmt := inClass sSys 2
abbrev sAU : Stmt := inClass sSys 5
abbrev sAE : Stmt := inClass sSys 6
abbrev sEqs : Stmt := inClass sSys 16
abbrev sUns : Stmt := inClass sSys 17
abbrev sEns : Stmt := inClass sSys 18
abbrev sTake : Stmt := inClass sSys 23
/-- the fields of a System -/
def syF (c b h : Addr) : List (Str × V) := putF "_history" (.ref h) (putF "_begun" (.ref b) (putF "_contents" (.ref c) []))
theorem syF_c (c b h : Addr) : (syF c b h).lookup ("_contents" : Str) = some (.ref c) := by
  unfold syF
  rw [lookup_putF, if_neg (by decide +kernel), lookup_putF, if_neg (by decide +kernel), lookup_putF, if_pos rfl]
theorem syF_b (c b h : Addr) : (syF c b h).lookup ("_begun" : Str) = some (.ref b) := by
  unfold syF
  rw [lookup_putF, if_neg (by decide +kernel), lookup_putF, if_pos rfl]
theorem syF_h (c b h : Addr) : (syF c b h).lookup ("_history" : Str) = some (.ref h) := by
  unfold syF
  rw [lookup_putF, if_pos rfl]
theorem syF_no (c b h : Addr) {x : Str} (h1 : x ≠ "_contents") (h2 : x ≠ "_begun") (h3 : x ≠ "_history") : (syF c b h).lookup x = none := by
  unfold syF
  rw [lookup_putF, if_neg h3, lookup_putF, if_neg h2, lookup_putF, if_neg h1]
  rfl
theorem syF_eq (c b h : Addr) : syF c b h = [(("_contents" : Str), V.ref c), (("_begun" : Str), V.ref b), (("_history" : Str), V.ref h)] := by
  have e1 : ¬ (("_contents" : Str) = "_begun") := by decide +kernel
  have e2 : ¬ (("_contents" : Str) = "_history") := by decide +kernel
  have e3 : ¬ (("_begun" : Str) = "_history") := by decide +kernel
  show putF "_history" (.ref h) (if ("_contents" : Str) = "_begun" then _ else _) = _
  rw [if_neg e1]
  show (if ("_contents" : Str) = "_history" then _ else _) = _
  rw [if_neg e2]
  show _ :: (if ("_begun" : Str) = "_history" then _ else _) = _
  rw [if_neg e3]
  rfl
theorem syF_put (c c' b h : Addr) : putF "_contents" (.ref c') (syF c b h) = syF c' b h := by
  rw [syF_eq, syF_eq]
  show (if ("_contents" : Str) = "_contents" then _ else _) = _
  rw [if_pos rfl]
theorem syF_len (c b h : Addr) : (syF c b h).length = 3 := by
  rw [syF_eq]
  rfl
/-- at s stands a System without open transactions -/
structure SyAt (CS : Addr) (H : Hp) (s dx c b h : Addr) (hs : List V) : Prop where
  i : H s = some (.ins CS dx (syF c b h))
  b : H b = some (.lst [])
  h : H h = some (.lst hs)
/-- all but the things at M is as it was -/
def Off (M : List Addr) (H H' : Hp) : Prop := ∀ b o, H b = some o → b ∉ M → H' b = some o
theorem CtAt.off {K : PySem.W.Frag} {CC CS : Addr} {H H' : Hp} {a : Addr} {S : Ct} {d1 ac ar ak : Addr} {rs : List (Str × Addr)} {s dx c b h : Addr} {hs : List V} (C : CtAt K CC H a S d1 ac ar ak rs) (Y : SyAt CS H s dx c b h hs) (o : Off [s, h] H H') : CtAt K CC H' a S d1 ac ar ak rs := by
  have ins : H' a = some (.ins CC d1 (ctF ac ar ak)) := o _ _ C.i fun z => by
    rcases List.mem_cons.mp z with z | z
    · have e := C.i
      rw [z, Y.i] at e
      injection e with e
      injection e with _ _ e3
      have l1 := ctF_c ac ar ak
      rw [← e3, syF_no _ _ _ (by decide +kernel) (by decide +kernel) (by decide +kernel)] at l1
      cases l1
    · have e := C.i
      rw [List.mem_singleton.mp z, Y.h] at e
      cases e
  have out : ∀ q u, H q = some u → (∀ C' d' f', u ≠ .ins C' d' f') → (∀ xs, u ≠ .lst xs) → H' q = some u := fun q u e n1 n2 => o _ _ e fun z => by
    rcases List.mem_cons.mp z with z | z
    · rw [z, Y.i] at e
      exact n1 _ _ _ (Option.some.inj e).symm
    · rw [List.mem_singleton.mp z, Y.h] at e
      exact n2 _ (Option.some.inj e).symm
  have fz : ∀ q u, Fz H q u → Fz H' q u := fun q u ⟨ob, e⟩ => ⟨ob, out _ _ e (fun _ _ _ z => by cases z) fun _ z => by cases z⟩
  refine ⟨ins, ?_, fz _ _ C.r, Paired.mapP C.p fun p q z => ⟨z.1, fz _ _ z.2⟩, fz _ _ C.k⟩
  rcases C.c with (e | e) | e
  · exact .inl (.inl (out _ _ e (fun _ _ _ z => by cases z) fun _ z => by cases z))
  · exact .inl (.inr (fz _ _ e))
  · exact .inr e
theorem CtIn.off {K : PySem.W.Frag} {CC CS : Addr} {H H' : Hp} {a : Addr} {S : Ct} {s dx c b h : Addr} {hs : List V} (C : CtIn K CC H a S) (Y : SyAt CS H s dx c b h hs) (o : Off [s, h] H H') : CtIn K CC H' a S :=
  let ⟨d1, ac, ar, ak, rs, z⟩ := C; ⟨d1, ac, ar, ak, rs, z.off Y o⟩
theorem SyAt.keep {CS : Addr} {H H' : Hp} {s dx c b h : Addr} {hs : List V} (Y : SyAt CS H s dx c b h hs) (m : Same H H') : SyAt CS H' s dx c b h hs := ⟨m _ _ Y.i, m _ _ Y.b, m _ _ Y.h⟩
structure SysT (K : PySem.W.Frag) (mg : Str → Option Value) (CS fSI fTk : Addr) : Prop where
  cl : Cls K CS
  mkC : Mk K CS fSI
  g : mg "System" = some (.ref CS)
  n1 : NoAttr K CS "_contents"
  n2 : NoAttr K CS "_begun"
  n3 : NoAttr K CS "_history"
  tk : Meth K CS "_take" fTk
def spTake (CS : Addr) : Sp := fun vs H Q _ => ∃ (s c' dx c b h : Addr) (hs : List V), vs = [.ref s, .ref c'] ∧ SyAt CS H s dx c b h hs ∧ hs.length < 1000 ∧ h ≠ b ∧ ∀ H', Off [s, h] H H' → SyAt CS H' s dx c' b h (hs ++ [.ref c]) → Q .non H'
/-- System.__init__ -/
def spSInit (K : PySem.W.Frag) (CC CS : Addr) : Sp := fun vs H Q _ => ∃ (s dx : Addr), vs = [.ref s] ∧ H s = some (.ins CS dx []) ∧ ∀ (c b h : Addr) (H' : Hp), (∀ q o, H q = some o → q ≠ s → H' q = some o) → h ≠ b → H h = none → SyAt CS H' s dx c b h [] → CtIn K CC H' c ⟨[], [], []⟩ → Q .non H'
section
variable {P : Program} {w : World} {K : PySem.W.Frag} {mg : Str → Option Value} {base : Heap} {CC fCI CN fIN CS fSI fTk : Addr}
theorem scTk : FnScope ["self", "contents"] ["self", "contents"] (defScope sTake) := ⟨rfl, rfl, rfl, by decide +kernel, rfl, by decide +kernel, by decide +kernel⟩
theorem ok_take {f : Addr} {fd : FuncData} (F : Fun K "_take" "System._take" sTake f fd) (T : SysT K mg CS fSI fTk) : FnOk P w K mg base CX0 1 f fd ["self", "contents"] (spTake CS) := by
  refine F.ok scTk (fun vs H Q E h => ?_) (fun cdv A outer s H vs Q E hr h => ?_)
  · obtain ⟨s, c', dx, c, b, h, hs, rfl, _⟩ := h
    rfl
  · obtain ⟨s, c', dx, c, b, h, hs, rfl, Y, hl, hne, k⟩ := h
    refine ⟨_, pss_cons (ps_if (pt_not (pt_truth (pe_fld (pv 0) rfl) (by intro _; rfl))) (pss_one (ps_expr (pe_bm PySem.F.plainAttrs_list PySem.F.slot_list_append PySem.F.type_list_append mt_append (pe_fld (pv 0) rfl) (pa_cons (pe_fld (pv 0) rfl) pa_nil)))) pss_nil)
      (pss_one (ps_fld (pv 0) (pv 1) rfl)), ?_⟩
    refine ⟨_, rfl, s, CS, dx, _, _, rfl, Y.i, T.cl, T.n2, syF_b _ _ _, _, .inl ⟨[], SqL.of Y.b, rfl⟩, iteT ?_⟩
    refine ⟨_, rfl, s, CS, dx, _, _, rfl, Y.i, T.cl, T.n3, syF_h _ _ _, .inl ⟨rfl, _, SqL.of Y.h⟩, _, rfl, s, CS, dx, _, _, rfl, Y.i, T.cl, T.n1, syF_c _ _ _, h, hs, _, rfl, rfl, Y.h, by rw [sizeLine_eq]; omega, ?_⟩
    have sh : s ≠ h := ne_of Y.i Y.h (by intro z; cases z)
    have sb : s ≠ b := ne_of Y.i Y.b (by intro z; cases z)
    refine ⟨_, rfl, _, rfl, s, CS, dx, _, rfl, (upd_ne sh).trans Y.i, T.cl, T.n1, by rw [syF_len]; decide, ?_⟩
    rw [syF_put]
    refine k _ (fun q o e n => ?_) ⟨upd_same, ?_, ?_⟩
    · have n1 : q ≠ s := fun z => n (by rw [z]; exact List.mem_cons_self)
      have n2 : q ≠ h := fun z => n (by rw [z]; exact List.mem_cons_of_mem _ List.mem_cons_self)
      rw [upd_ne n1, upd_ne n2]
      exact e
    · rw [upd_ne sb.symm, upd_ne hne.symm]
      exact Y.b
    · rw [upd_ne sh.symm, upd_same]
theorem scSI : FnScope ["self"] ["self"] (defScope sSInit) := ⟨rfl, rfl, rfl, by decide +kernel, rfl, by decide +kernel, by decide +kernel⟩
theorem ok_sInit {f : Addr} {fd fdCI : FuncData} (F : Fun K "__init__" "System.__init__" sSInit f fd) (T : SysT K mg CS fSI fTk) (TC : CtT K mg CC fCI) (GC : FnOk P w K mg base CX0 1 fCI fdCI ["self", "columns", "rows", "constants"] (spCtInit CC)) (bC : Binds K fdCI ["self", "columns", "rows", "constants"] []) :
    FnOk P w K mg base CX0 3 f fd ["self"] (spSInit K CC CS) := by
  refine F.ok scSI (fun vs H Q E h => ?_) (fun cdv A outer s H vs Q E hr h => ?_)
  · obtain ⟨s, dx, rfl, _⟩ := h
    rfl
  · obtain ⟨s, dx, rfl, hs, k⟩ := h
    refine ⟨_, pss_cons (ps_fld (pv 0) (pe_make TC.mkC GC hr rfl TC.g bC .nil pass0 (pa_cons (pe_tup pa_nil) (pa_cons (pe_fz pe_dnewK) (pa_cons (pe_fz pe_dnewK) pa_nil)))) rfl)
      (pss_cons (ps_fld (pv 0) (pe_lst pa_nil) rfl) (pss_one (ps_fld (pv 0) (pe_lst pa_nil) rfl))), ?_⟩
    refine ⟨by decide, fun t ht d1 hd1 => ⟨d1, _, rfl, upd_same, True.intro, fun od1 => ?_⟩⟩
    rw [upd_upd]
    intro d2 hd2
    refine ⟨d2, _, rfl, upd_same, True.intro, fun od2 => ?_⟩
    rw [upd_upd]
    have s1 : Same H (upd H t (.tup [])) := same_new ht
    have s2 := same_new (o := .frz od1 (.dK [])) hd1
    have s3 := same_new (o := .frz od2 (.dK [])) hd2
    intro x0 dx0 h0 h1 h2
    refine ⟨x0, dx0, t, d1, d2, rfl, upd_same, fun H4 kk hc => ⟨rfl, ?_⟩⟩
    have s4 : Same (upd (upd (upd H t (.tup [])) d1 (.frz od1 (.dK []))) d2 (.frz od2 (.dK []))) H4 := fun b o q => kk b o (by rw [upd_ne (ne_of_none q h0), upd_ne (ne_of_none q h1)]; exact q) (ne_of_none q h0)
    have e0 : H4 s = some (.ins CS dx []) := s4 _ _ (s3 _ _ (s2 _ _ (s1 _ _ hs)))
    refine ⟨_, rfl, s, CS, dx, [], rfl, e0, T.cl, T.n1, by decide, ?_⟩
    have C0 : CtAt K CC H4 x0 ⟨[], [], []⟩ dx0 t d1 d2 [] := ⟨hc, SqT.of (s4 _ _ (s3 _ _ (s2 _ _ upd_same))), ⟨od1, s4 _ _ (s3 _ _ upd_same)⟩, .nil, ⟨od2, s4 _ _ upd_same⟩⟩
    refine ⟨by decide, fun b hb => ⟨_, rfl, s, CS, dx, (putF "_contents" (.ref x0) []), rfl, ?_, T.cl, T.n2, by have := putF_len "_contents" (.ref x0) []; simp only [List.length_nil] at this; omega, ?_⟩⟩
    · have sb : s ≠ b := fun z => by rw [← z, upd_same] at hb; cases hb
      rw [upd_ne sb, upd_same]
    refine ⟨by decide, fun h hh => ⟨_, rfl, s, CS, dx, (putF "_begun" (.ref b) (putF "_contents" (.ref x0) [])), rfl, ?_, T.cl, T.n3, by have := putF_len "_contents" (.ref x0) []; have := putF_len "_begun" (.ref b) (putF "_contents" (.ref x0) []); simp only [List.length_nil] at *; omega, ?_⟩⟩
    · have sh : s ≠ h := fun z => by rw [← z, upd_same] at hh; cases hh
      rw [upd_ne sh, upd_same]
    have sb : b ≠ s := fun z => by rw [z, upd_same] at hb; cases hb
    have sh : h ≠ s := fun z => by rw [z, upd_same] at hh; cases hh
    have bh : h ≠ b := fun z => by rw [z, upd_ne sb, upd_same] at hh; cases hh
    have hbn : H4 b = none := by rw [upd_ne sb] at hb; exact hb
    have hhn : H4 h = none := by rw [upd_ne sh, upd_ne bh, upd_ne sh] at hh; exact hh
    have all : ∀ q o, H4 q = some o → q ≠ s → (upd (upd (upd (upd (upd H4 s (.ins CS dx (putF "_contents" (.ref x0) []))) b (.lst [])) s (.ins CS dx (putF "_begun" (.ref b) (putF "_contents" (.ref x0) [])))) h (.lst [])) s (.ins CS dx (syF x0 b h))) q = some o := fun q o e n => by
      rw [upd_ne n, upd_ne (ne_of_none e hhn), upd_ne n, upd_ne (ne_of_none e hbn), upd_ne n]
      exact e
    have c_s : ∀ q o, H4 q = some o → (∀ fs, o ≠ .ins CS dx fs) → q ≠ s := fun q o e n z => by
      rw [z, e0] at e
      exact n _ (Option.some.inj e).symm
    refine k x0 b h _ (fun q o e n => all q o (s4 _ _ (s3 _ _ (s2 _ _ (s1 _ _ e)))) n) bh ?_ ⟨upd_same, ?_, ?_⟩ ⟨dx0, t, d1, d2, [], ?_, ?_, ?_, .nil, ?_⟩
    · cases q : H h with
      | none => rfl
      | some o => rw [s4 _ _ (s3 _ _ (s2 _ _ (s1 _ _ q)))] at hhn; cases hhn
    · rw [upd_ne sb, upd_ne bh.symm, upd_ne sb, upd_same]
    · rw [upd_ne sh, upd_same]
    · refine all _ _ hc fun z => ?_
      rw [z, e0] at hc
      injection hc with hc
      injection hc with _ _ hc
      have l1 := ctF_c t d1 d2
      rw [← hc] at l1
      cases l1
    · exact SqT.of (all _ _ (s4 _ _ (s3 _ _ (s2 _ _ upd_same))) (c_s _ _ (s4 _ _ (s3 _ _ (s2 _ _ upd_same))) fun _ z => by cases z))
    · exact ⟨od1, all _ _ (s4 _ _ (s3 _ _ upd_same)) (c_s _ _ (s4 _ _ (s3 _ _ upd_same)) fun _ z => by cases z)⟩
    · exact ⟨od2, all _ _ (s4 _ _ upd_same) (c_s _ _ (s4 _ _ upd_same) fun _ z => by cases z)⟩
end
end Bo

set_option Elab.async false
set_option linter.all false
set_option maxRecDepth 100000
set_option maxHeartbeats 8000000
namespace Bo
open PySem L2
/-- a System with the state S stands at s; it was made behind H0, and what H0 has is as it was -/
def SyOn (K : PySem.W.Frag) (CC CS : Addr) (H0 H : Hp) (s : Addr) (S : Ct) (m : Nat) : Prop := ∃ dx c b h hs, SyAt CS H s dx c b h hs ∧ CtIn K CC H c S ∧ h ≠ b ∧ hs.length ≤ m ∧ H0 s = none ∧ H0 h = none ∧ Same H0 H
theorem SyOn.keep {K : PySem.W.Frag} {CC CS : Addr} {H0 H H' : Hp} {s : Addr} {S : Ct} {m : Nat} (h : SyOn K CC CS H0 H s S m) (k : Same H H') : SyOn K CC CS H0 H' s S m :=
  let ⟨dx, c, b, h, hs, Y, C, e1, e2, e3, e4, e5⟩ := h; ⟨dx, c, b, h, hs, Y.keep k, C.keep k, e1, e2, e3, e4, e5.trans k⟩
theorem SyOn.same {K : PySem.W.Frag} {CC CS : Addr} {H0 H : Hp} {s : Addr} {S : Ct} {m : Nat} (h : SyOn K CC CS H0 H s S m) : Same H0 H := let ⟨_, _, _, _, _, _, _, _, _, _, _, e⟩ := h; e
theorem SyOn.more {K : PySem.W.Frag} {CC CS : Addr} {H0 H : Hp} {s : Addr} {S : Ct} {m m' : Nat} (h : SyOn K CC CS H0 H s S m) (l : m ≤ m') : SyOn K CC CS H0 H s S m' :=
  let ⟨dx, c, b, h, hs, Y, C, e1, e2, e3⟩ := h; ⟨dx, c, b, h, hs, Y, C, e1, Nat.le_trans e2 l, e3⟩
/-- System() -/
theorem sy_made {K : PySem.W.Frag} {CC CS : Addr} {H : Hp} {Q : VK} {E : XK} (k : ∀ (s : Addr) (H' : Hp), SyOn K CC CS H H' s ⟨[], [], []⟩ 0 → Q (.ref s) H') :
    ∀ x dx, H x = none → H dx = none → dx ≠ x → spSInit K CC CS (.ref x :: ([] ++ [])) (upd (upd H dx (.own x)) x (.ins CS dx [])) (fun v H2 => v = .non ∧ Q (.ref x) H2) E :=
  fun x dx hx hd ne => ⟨x, dx, rfl, upd_same, fun c b h H' kk e1 e2 Y C => ⟨rfl, k x H' ⟨dx, c, b, h, [], Y, C, e1, Nat.le_refl _, hx, (by
      cases q : H h with
      | none => rfl
      | some o =>
        rw [upd_ne (ne_of_none q hx), upd_ne (ne_of_none q hd), q] at e2
        cases e2),
    fun q o e => kk q o (by rw [upd_ne (ne_of_none e hx), upd_ne (ne_of_none e hd)]; exact e) (ne_of_none e hx)⟩⟩⟩
/-- s.add_unknown(..) -/
def spAU (K : PySem.W.Frag) (CC CN CS : Addr) : Sp := fun vs H Q E => ∃ (s : Addr) (H0 : Hp) (S : Ct) (m : Nat) (xs : List V), vs = .ref s :: xs ∧ SyOn K CC CS H0 H s S m ∧ m < 1000 ∧ xs.length ≤ 100 ∧ S.cols.length ≤ 24 ∧ (∀ x ∈ xs, ∃ d, Flat K H x d) ∧ (∀ z, V.str z ∈ xs → z.length ≤ 1000) ∧
  ((∃ (i : Nat) (v : V) (d : PyData), xs[i]? = some v ∧ Flat K H v d ∧ nameV v = false ∧ (∀ j x, j < i → xs[j]? = some x → nameV x = true) ∧ Thrown K E H CN "name" d) ∨
   (∃ ys : List Str, xs = ys.map V.str ∧ (∀ y ∈ ys, nameOk y = true) ∧ (ys ++ S.cols).Nodup ∧ (ys ++ S.cols).length ≤ 24 ∧
     ∀ (H' : Hp) (zs : List Str), zs.Perm (ys ++ S.cols) → PyProof.Rows.sortedS zs = true → SyOn K CC CS H0 H' s { S with cols := zs } (m + 1) → Q .non H'))
/-- .. its names in a tuple -/
def spAUt (K : PySem.W.Frag) (CC CN CS : Addr) : Sp := fun vs H Q E => ∃ (s n : Addr) (xs : List V), vs = [.ref s, .ref n] ∧ H n = some (.tup xs) ∧ spAU K CC CN CS (.ref s :: xs) H Q E
theorem spAU_new {K : PySem.W.Frag} {CC CN CS : Addr} {xs : List V} {H : Hp} {Q : VK} {E : XK} {p : Addr} {o : HO} (hp : H p = none) (h : spAU K CC CN CS xs H Q E) : spAU K CC CN CS xs (upd H p o) Q E := by
  obtain ⟨s, H0, S, m, xs, rfl, Y, hm, hx, hc, hf, hz, alt⟩ := h
  have sm : Same H (upd H p o) := same_new hp
  refine ⟨s, H0, S, m, xs, rfl, Y.keep sm, hm, hx, hc, fun x hx => let ⟨d, f⟩ := hf x hx; ⟨d, f.keep sm⟩, hz, ?_⟩
  rcases alt with ⟨i, v, d, h1, h2, h3, h4, h5⟩ | ⟨ys, h1, h2, h3, h4, h5⟩
  · exact .inl ⟨i, v, d, h1, h2.keep sm, h3, h4, h5.later sm⟩
  · exact .inr ⟨ys, h1, h2, h3, h4, h5⟩
/-- s.add_equation(x) -/
def spAE (K : PySem.W.Frag) (CC CN CS : Addr) : Sp := fun vs H Q E => ∃ (s : Addr) (H0 : Hp) (S : Ct) (m : Nat) (v : V) (d : PyData), vs = [.ref s, v] ∧ SyOn K CC CS H0 H s S m ∧ m < 1000 ∧ Flat K H v d ∧ (∀ z, v = .str z → z.length ≤ 1000) ∧
  ((nameV v = false ∧ Thrown K E H CN "name" d) ∨
   (∃ y : Str, v = .str y ∧ nameOk y = true ∧ y ∉ S.rows.map (·.1) ∧ y ∉ S.cons.map (·.1) ∧ S.rows.length < 24 ∧ S.cons.length < 24 ∧
     ∀ (H' : Hp), SyOn K CC CS H0 H' s { S with rows := S.rows ++ [(y, [])], cons := S.cons ++ [(y, 0)] } (m + 1) → Q .non H'))
def spAEt (K : PySem.W.Frag) (CC CN CS : Addr) : Sp := fun vs H Q E => ∃ (s n : Addr) (v : V), vs = [.ref s, v, .ref n] ∧ H n = some (.tup []) ∧ spAE K CC CN CS [.ref s, v] H Q E
theorem spAE_new {K : PySem.W.Frag} {CC CN CS : Addr} {xs : List V} {H : Hp} {Q : VK} {E : XK} {p : Addr} {o : HO} (hp : H p = none) (h : spAE K CC CN CS xs H Q E) : spAE K CC CN CS xs (upd H p o) Q E := by
  obtain ⟨s, H0, S, m, v, d, rfl, Y, hm, hf, hz, alt⟩ := h
  have sm : Same H (upd H p o) := same_new hp
  refine ⟨s, H0, S, m, v, d, rfl, Y.keep sm, hm, hf.keep sm, hz, ?_⟩
  rcases alt with ⟨h1, h2⟩ | h
  · exact .inl ⟨h1, h2.later sm⟩
  · exact .inr h
theorem Off.of {M : List Addr} {H0 H1 H2 : Hp} (a : Same H0 H1) (o : Off M H1 H2) (n : ∀ q ∈ M, H0 q = none) : Same H0 H2 := fun q u e => o _ _ (a _ _ e) fun z => by
  rw [n q z] at e
  cases e
section
variable {P : Program} {w : World} {K : PySem.W.Frag} {mg : Str → Option Value} {base : Heap} {CC fCI CN fIN CS fSI fTk : Addr}
theorem scAU : FnScope ["self", "names"] ([("self" : Str)] ++ [("names" : Str)]) (defScope sAU) := ⟨rfl, rfl, rfl, by decide +kernel, rfl, by decide +kernel, by decide +kernel⟩
theorem ok_au {f fW : Addr} {fd fdW fdTk : FuncData} (F : Fun K "add_unknown" "System.add_unknown" sAU f fd) (T : SysT K mg CS fSI fTk) (TC : CtT K mg CC fCI)
    (GT : FnOk P w K mg base CX0 1 fTk fdTk ["self", "contents"] (spTake CS)) (bT : Binds K fdTk ["self", "contents"] [])
    (GW : FnOk P w K mg base (L2.CX P w) 5 fW fdW ["contents", "names"] (spWU K CC CN)) (mW : mg "with_unknowns" = some (.ref fW)) (kW : PySem.W.keepIn K (.ref fW) = true) (bW : Binds K fdW ["contents", "names"] []) :
    FnR P w K mg base (L2.CX P w) 6 f (spAU K CC CN CS) := by
  obtain ⟨oc, od, kV, doc, pm, an, cdv, ct, osl, rfl, lk, hcd⟩ := F.ex
  have R : FnR P w K mg base (L2.CX P w) 6 f (fun vs H Q E => ∃ ws rest, vs = ws ++ rest ∧ ws.length = (["self"] : List Str).length ∧ rest.length ≤ sizeLine ∧ ∀ p, H p = none → spAUt K CC CN CS (ws ++ [V.ref p]) (upd H p (.tup rest)) Q E) := by
    refine StX.fn_star lk hcd scAU StX.cxUp (StX.bind_star1 (B := fun vs => bindArgs _ ⟨vs, []⟩) (fun _ => rfl) (fun _ _ _ => rfl)) (fun A outer s H vs Q E hr h => ?_)
    obtain ⟨s, n, xs, rfl, hn, h⟩ := h
    obtain ⟨s', H0, S, m, xs', e, ⟨dx, c, b, h, hs, Y, C, hne, hlh, n1, n2, sm0⟩, hm, hx, hc, hf, hz, alt⟩ := h
    cases e
    have hr1 : Room 1 _ := hr.mono (by decide)
    refine ⟨_, pss_one (ps_expr (pe_meth (pv 0) T.cl T.tk GT hr1 bT .nil pass0 (pa_cons (pe_call GW hr rfl mW kW bW .nil (passes_call (takes_of rfl rfl rfl rfl) (fun _ _ _ _ h => h)) (pa_cons (pe_fld (pv 0) rfl) (pa_cons (pv 1) pa_nil))) pa_nil))), ?_⟩
    refine ⟨_, rfl, s, dx, _, rfl, Y.i, syF_no _ _ _ (by decide +kernel) (by decide +kernel) (by decide +kernel), _, rfl, s, CS, dx, _, _, rfl, Y.i, T.cl, T.n1, syF_c _ _ _, _, rfl, ?_⟩
    refine ⟨c, n, S, xs, rfl, C, SqT.of hn, hx, hc, hf, hz, ?_⟩
    rcases alt with h1 | ⟨ys, h1, h2, h3, h4, h5⟩
    · exact .inl h1
    · refine .inr ⟨ys, h1, h2, h3, h4, fun a H1 zs sm p1 p2 C1 => ⟨s, a, dx, c, b, h, hs, rfl, Y.keep sm, by omega, hne, fun H2 o Y2 => h5 H2 zs p1 p2 ⟨dx, a, b, h, hs ++ [.ref c], Y2, C1.off (Y.keep sm) o, hne, ?_, n1, n2, Off.of (sm0.trans sm) o fun q hq => ?_⟩⟩⟩
      · rw [List.length_append]
        show _ + 1 ≤ _
        omega
      · rcases List.mem_cons.mp hq with z | z
        · rw [z]; exact n1
        · rw [List.mem_singleton.mp z]; exact n2
  refine R.imp fun vs H Q E h => ?_
  obtain ⟨s, H0, S, m, xs, rfl, r⟩ := id h
  refine ⟨[.ref s], xs, rfl, rfl, ?_, fun p hp => ⟨s, p, xs, rfl, upd_same, spAU_new hp h⟩⟩
  have := r.2.2.1
  rw [sizeLine_eq]
  omega
theorem scAE : FnScope ["self", "name", "unknowns"] ([("self" : Str), ("name" : Str)] ++ [("unknowns" : Str)]) (defScope sAE) := ⟨rfl, rfl, rfl, by decide +kernel, rfl, by decide +kernel, by decide +kernel⟩
theorem ok_ae {f fW : Addr} {fd fdW fdTk : FuncData} (F : Fun K "add_equation" "System.add_equation" sAE f fd) (T : SysT K mg CS fSI fTk) (TC : CtT K mg CC fCI)
    (GT : FnOk P w K mg base CX0 1 fTk fdTk ["self", "contents"] (spTake CS)) (bT : Binds K fdTk ["self", "contents"] [])
    (GW : FnOk P w K mg base (L2.CX P w) 6 fW fdW ["contents", "name", "unknowns"] (spWE K CC CN)) (mW : mg "with_equation" = some (.ref fW)) (kW : PySem.W.keepIn K (.ref fW) = true) (bW : Binds K fdW ["contents", "name", "unknowns"] []) :
    FnR P w K mg base (L2.CX P w) 7 f (spAE K CC CN CS) := by
  obtain ⟨oc, od, kV, doc, pm, an, cdv, ct, osl, rfl, lk, hcd⟩ := F.ex
  have R : FnR P w K mg base (L2.CX P w) 7 f (fun vs H Q E => ∃ ws rest, vs = ws ++ rest ∧ ws.length = (["self", "name"] : List Str).length ∧ rest.length ≤ sizeLine ∧ ∀ p, H p = none → spAEt K CC CN CS (ws ++ [V.ref p]) (upd H p (.tup rest)) Q E) := by
    refine StX.fn_star lk hcd scAE StX.cxUp (StX.bind_star2 (B := fun vs => bindArgs _ ⟨vs, []⟩) (fun _ _ => rfl) (fun _ _ _ _ => rfl)) (fun A outer s H vs Q E hr h => ?_)
    obtain ⟨s, n, v, rfl, hn, h⟩ := h
    obtain ⟨s', H0, S, m, v', d, e, ⟨dx, c, b, h, hs, Y, C, hne, hlh, n1, n2, sm0⟩, hm, hf, hz, alt⟩ := h
    cases e
    have hr1 : Room 1 _ := hr.mono (by decide)
    refine ⟨_, pss_one (ps_expr (pe_meth (pv 0) T.cl T.tk GT hr1 bT .nil pass0 (pa_cons (pe_call GW hr rfl mW kW bW .nil (passes_call (takes_of rfl rfl rfl rfl) (fun _ _ _ _ h => h)) (pa_cons (pe_fld (pv 0) rfl) (pa_cons (pv 1) (pa_cons (pv 2) pa_nil)))) pa_nil))), ?_⟩
    refine ⟨_, rfl, s, dx, _, rfl, Y.i, syF_no _ _ _ (by decide +kernel) (by decide +kernel) (by decide +kernel), _, rfl, s, CS, dx, _, _, rfl, Y.i, T.cl, T.n1, syF_c _ _ _, _, rfl, _, rfl, ?_⟩
    refine ⟨c, n, S, v, d, rfl, C, SqT.of hn, hf, hz, ?_⟩
    rcases alt with h1 | ⟨y, h1, h2, h3, h4, l1, l2, h5⟩
    · exact .inl h1
    · refine .inr ⟨y, h1, h2, h3, h4, l1, l2, fun a H1 sm C1 => ⟨s, a, dx, c, b, h, hs, rfl, Y.keep sm, by omega, hne, fun H2 o Y2 => h5 H2 ⟨dx, a, b, h, hs ++ [.ref c], Y2, C1.off (Y.keep sm) o, hne, ?_, n1, n2, Off.of (sm0.trans sm) o fun q hq => ?_⟩⟩⟩
      · rw [List.length_append]
        show _ + 1 ≤ _
        omega
      · rcases List.mem_cons.mp hq with z | z
        · rw [z]; exact n1
        · rw [List.mem_singleton.mp z]; exact n2
  refine R.imp fun vs H Q E h => ?_
  obtain ⟨s, H0, S, m, v, d, rfl, r⟩ := id h
  exact ⟨[.ref s, v], [], rfl, rfl, Nat.zero_le _, fun p hp => ⟨s, p, v, rfl, upd_same, spAE_new hp h⟩⟩
/-! ### what a system tells -/
structure TxtP (mg : Str → Option Value) : Prop where
  tup : mg "tuple" = none
  srt : mg "sorted" = none
def spEqs (K : PySem.W.Frag) (CC CS : Addr) : Sp := fun vs H Q _ => ∃ (s : Addr) (H0 : Hp) (S : Ct) (m : Nat), vs = [.ref s] ∧ SyOn K CC CS H0 H s S m ∧ S.rows.length < 64 ∧ ∀ (t : Addr) (H' : Hp) (ys : List Str), Same H H' → ys.Perm (S.rows.map (·.1)) → PyProof.Rows.sortedS ys = true → SqT K H' t (ys.map V.str) → Q (.ref t) H'
theorem scEqs : FnScope ["self"] ["self"] (defScope sEqs) := ⟨rfl, rfl, rfl, by decide +kernel, rfl, by decide +kernel, by decide +kernel⟩
theorem refK_keys (rs : List (Str × Addr)) : (refK rs).map (·.1) = (rs.map (·.1)).map Sum.inr := by
  unfold refK
  rw [List.map_map, List.map_map]
  rfl
theorem ok_eqs {f : Addr} {fd : FuncData} (F : Fun K "equations" "System.equations" sEqs f fd) (T : SysT K mg CS fSI fTk) (TC : CtT K mg CC fCI) (TP : TxtP mg) : FnOk P w K mg base CX0 1 f fd ["self"] (spEqs K CC CS) := by
  refine F.ok scEqs (fun vs H Q E h => ?_) (fun cdv A outer s H vs Q E hr h => ?_)
  · obtain ⟨s, H0, S, m, rfl, _⟩ := h
    rfl
  · obtain ⟨s, H0, S, m, rfl, ⟨dx, c, b, h, hs, Y, ⟨d1, ac, ar, ak, rs, C⟩, _⟩, hl, q⟩ := h
    refine ⟨_, pss_one (ps_ret (pe_callTy call_tuple_of (by rfl) TP.tup (by decide +kernel) (pa_cons (pe_callB (call_sortedD rfl) (by rfl) TP.srt (by decide +kernel) (pa_cons (pe_fld (pe_fld (pv 0) rfl) rfl) pa_nil)) pa_nil))), ?_⟩
    have hks : rs.map (·.1) = S.rows.map (·.1) := pair_keys (fun p q z => z.1) C.p
    have hln : (rs.map (·.1)).length = S.rows.length := by rw [hks, List.length_map]
    refine ⟨_, rfl, s, CS, dx, _, _, rfl, Y.i, T.cl, T.n1, syF_c _ _ _, c, CC, d1, _, _, rfl, C.i, TC.cl, TC.n2, ctF_r _ _ _, ar, _, _, rfl, C.r.rd, refK_keys rs, by rw [hln]; exact hl, fun ys p hp1 hp2 hp3 => ?_⟩
    have sm : Same H (upd H p (.lst (ys.map V.str))) := same_new hp3
    refine ⟨p, _, rfl, .inl ⟨SqL.of upd_same, fun t ht => ?_⟩⟩
    exact q t _ ys (sm.trans (same_new ht)) (hks ▸ hp1) hp2 (SqT.of upd_same)
def spUns (K : PySem.W.Frag) (CC CS : Addr) : Sp := fun vs H Q _ => ∃ (s : Addr) (H0 : Hp) (S : Ct) (m : Nat), vs = [.ref s] ∧ SyOn K CC CS H0 H s S m ∧ ∀ (t : Addr), SqT K H t (S.cols.map V.str) → Q (.ref t) H
theorem scUns : FnScope ["self"] ["self"] (defScope sUns) := ⟨rfl, rfl, rfl, by decide +kernel, rfl, by decide +kernel, by decide +kernel⟩
theorem ok_uns {f : Addr} {fd : FuncData} (F : Fun K "unknowns" "System.unknowns" sUns f fd) (T : SysT K mg CS fSI fTk) (TC : CtT K mg CC fCI) : FnOk P w K mg base CX0 1 f fd ["self"] (spUns K CC CS) := by
  refine F.ok scUns (fun vs H Q E h => ?_) (fun cdv A outer s H vs Q E hr h => ?_)
  · obtain ⟨s, H0, S, m, rfl, _⟩ := h
    rfl
  · obtain ⟨s, H0, S, m, rfl, ⟨dx, c, b, h, hs, Y, ⟨d1, ac, ar, ak, rs, C⟩, _⟩, q⟩ := h
    refine ⟨_, pss_one (ps_ret (pe_fld (pe_fld (pv 0) rfl) rfl)), ?_⟩
    exact ⟨_, rfl, s, CS, dx, _, _, rfl, Y.i, T.cl, T.n1, syF_c _ _ _, c, CC, d1, _, _, rfl, C.i, TC.cl, TC.n1, ctF_c _ _ _, q ac C.c⟩
/-- entries_of(contents), all rows empty -/
def spEO0 (K : PySem.W.Frag) (CC : Addr) : Sp := fun vs H Q _ => ∃ (c : Addr) (S : Ct), vs = [.ref c] ∧ CtIn K CC H c S ∧ (∀ p ∈ S.rows, p.2 = []) ∧ ∀ (t : Addr) (H' : Hp), Same H H' → SqT K H' t [] → Q (.ref t) H'
theorem scEO : FnScope ["contents", "equation", "unknown"] ["contents"] (defScope sEO) := ⟨rfl, rfl, rfl, by decide +kernel, rfl, by decide +kernel, by decide +kernel⟩
theorem pair_at {α β : Type} {F : α → β → Prop} : ∀ {l₁ : List α} {l₂ : List β} {i : Nat} {b : β}, Paired F l₁ l₂ → l₂[i]? = some b → ∃ a, l₁[i]? = some a ∧ F a b
  | _, _, i, b, .nil, h => by simp at h
  | _, _, 0, b, .cons (a := a) q t, h => by
    simp at h
    subst h
    exact ⟨a, by simp, q⟩
  | _, _, i + 1, b, .cons q t, h => by
    obtain ⟨a, h1, h2⟩ := pair_at t (by simpa using h)
    exact ⟨a, by simpa using h1, h2⟩
theorem refK_at {rs : List (Str × Addr)} {i : Nat} {k : Key} {v : V} (h : (refK rs)[i]? = some (k, v)) : ∃ y d, rs[i]? = some (y, d) ∧ k = Sum.inr y ∧ v = .ref d := by
  unfold refK at h
  rw [List.getElem?_map] at h
  obtain ⟨p, hp, e⟩ := Option.map_eq_some_iff.mp h
  cases e
  exact ⟨p.1, p.2, hp, rfl, rfl⟩
theorem refK_in {y : Str} : ∀ {rs : List (Str × Addr)}, y ∈ rs.map (·.1) → ∃ d, valV (refK rs) (Sum.inr y) = some (.ref d) ∧ (y, d) ∈ rs
  | p :: r, h => by
    by_cases e : p.1 = y
    · exact ⟨p.2, valV_pos (p := (Sum.inr p.1, V.ref p.2)) (congrArg Sum.inr e), by rw [← e]; exact List.mem_cons_self⟩
    · rw [List.map_cons, List.mem_cons] at h
      obtain ⟨d, h1, h2⟩ := refK_in (h.resolve_left (Ne.symm e))
      exact ⟨d, (valV_neg (p := (Sum.inr p.1, V.ref p.2)) (fun z => e (Sum.inr.inj z))).trans h1, List.mem_cons_of_mem _ h2⟩
theorem ok_eo0 {f : Addr} {fd : FuncData} (F : Fun K "entries_of" "entries_of" sEO f fd) (TC : CtT K mg CC fCI) (TP : TxtP mg) : FnOk P w K mg base CX0 1 f fd ["contents"] (spEO0 K CC) := by
  refine F.ok scEO (fun vs H Q E h => ?_) (fun cdv A outer s H vs Q E hr h => ?_)
  · obtain ⟨c, S, rfl, _⟩ := h
    rfl
  · obtain ⟨c, S, rfl, ⟨d1, ac, ar, ak, rs, C⟩, he, q⟩ := h
    refine ⟨_, pss_one (ps_ret (pe_callTy call_tuple_of (by rfl) TP.tup (by decide +kernel) (pa_cons (pe_callB cr_sorted (by rfl) TP.srt (by decide +kernel) (pa_cons
      (pe_lc2 (wi1 := iKeys (tDGet (tFld K (tVar 0) "rows") (tVar 1))) (own := [("equation", 1), ("unknown", 2)]) (vs1 := [2]) (g := gName 1) (tt := tYes) (g1 := gName 2) (tt1 := tYes) rfl scEO.nd (pi_keys (pe_fld (pv 0) rfl)) (blkOk_by (N := ["contents", "equation", "unknown"]) (sc := defScope sEO) (by decide +kernel)) (by decide)
        (fun _ _ _ _ _ => pg_name (i := 1) scEO.nd rfl (Or.inl rfl)) (fun _ _ _ _ _ => pts_nil)
        (fun _ _ _ _ _ => pi_keys (pe_dget (hu_of hr) (pe_fld (pv 0) rfl) (pv 1) (fun _ _ => rfl))) (fun _ _ _ _ _ => pg_name (i := 2) scEO.nd rfl (Or.inl rfl)) (fun _ _ _ _ _ => pts_nil)
        (fun _ _ _ _ _ => pe_tup (pa_cons (pv 1) (pa_cons (pv 2) pa_nil)))) pa_nil)) pa_nil))), ?_⟩
    have hks : rs.map (·.1) = S.rows.map (·.1) := pair_keys (fun p q z => z.1) C.p
    obtain ⟨or, hr0⟩ := C.r
    refine ⟨_, rfl, c, CC, d1, _, _, rfl, C.i, TC.cl, TC.n2, ctF_r _ _ _, ar, or, rfl, .inl ⟨_, hr0, fun D hD => ?_⟩⟩
    have sm : Same H (upd H D (.lst [])) := same_new hD
    have e1 : upd H D (.lst []) ar = some (.frz or (.dK (refK rs))) := sm _ _ hr0
    refine ⟨fun i m H' => (m = (refK rs).length - i ∧ i ≤ (refK rs).length) ∧ H' = upd H D (.lst []), ⟨_, ⟨rfl, Nat.zero_le _⟩, rfl⟩, fun i m H' hw => ?_⟩
    obtain ⟨⟨rfl, hi⟩, rfl⟩ := hw
    rcases Nat.lt_or_ge i (refK rs).length with lt | ge
    · refine .inr ⟨walk_keys.goes i _ lt e1, fun H' => H' = upd H D (.lst []), fun H' e => ⟨(refK rs).length - (i + 1), by omega, ⟨rfl, lt⟩, e⟩, fun x H' y => ?_⟩
      obtain ⟨rfl, k, v, hkv, rfl⟩ := walk_keys.yields i _ x H' lt e1 y
      obtain ⟨z, d, hz, rfl, rfl⟩ := refK_at hkv
      obtain ⟨d2, hv, hm⟩ := refK_in (rs := rs) (y := z) (List.mem_map.mpr ⟨_, List.mem_of_getElem? hz, rfl⟩)
      obtain ⟨j, hj⟩ := List.mem_iff_getElem?.mp hm
      obtain ⟨row, hrow, hrn, od2, hd2⟩ := pair_at C.p hj
      have hre : row.2 = [] := he row (List.mem_of_getElem? hrow)
      rw [hre] at hd2
      have hd2 : upd H D (.lst []) d2 = some (.frz od2 (.dK [])) := sm _ _ hd2
      refine ⟨rfl, iteT (B := True) ?_⟩
      refine ⟨_, rfl, c, CC, d1, _, _, rfl, sm _ _ C.i, TC.cl, TC.n2, ctF_r _ _ _, _, rfl, ar, _, rfl, .inl ⟨_, Sum.inr z, .inr ⟨or, e1⟩, rfl, hv.symm⟩, d2, od2, rfl, .inl ⟨[], hd2, ?_⟩⟩
      refine ⟨fun j k H' => j = 0 ∧ H' = upd H D (.lst []), ⟨0, rfl, rfl⟩, fun j k H' hw => .inl ?_⟩
      obtain ⟨rfl, rfl⟩ := hw
      exact ⟨(walk_keys (kvs := [])).stops _ hd2, rfl⟩
    · obtain rfl : i = (refK rs).length := Nat.le_antisymm hi ge
      refine .inl ⟨walk_keys.stops _ e1, ?_⟩
      refine ⟨D, [], rfl, SqL.of upd_same, by decide, fun ns p hp _ hn => ?_⟩
      obtain rfl : ns = [] := hp.eq_nil
      have sm2 := sm.trans (same_new (o := .lst []) hn)
      refine ⟨p, _, rfl, .inl ⟨SqL.of upd_same, fun t ht => ?_⟩⟩
      exact q t _ (sm2.trans (same_new ht)) (SqT.of upd_same)
def spEns (K : PySem.W.Frag) (CC CS : Addr) : Sp := fun vs H Q _ => ∃ (s : Addr) (H0 : Hp) (S : Ct) (m : Nat), vs = [.ref s] ∧ SyOn K CC CS H0 H s S m ∧ (∀ p ∈ S.rows, p.2 = []) ∧ ∀ (t : Addr) (H' : Hp), Same H H' → SqT K H' t [] → Q (.ref t) H'
theorem scEns : FnScope ["self"] ["self"] (defScope sEns) := ⟨rfl, rfl, rfl, by decide +kernel, rfl, by decide +kernel, by decide +kernel⟩
theorem ok_ens {f fO : Addr} {fd fdO : FuncData} (F : Fun K "entries" "System.entries" sEns f fd) (T : SysT K mg CS fSI fTk) (GO : FnOk P w K mg base CX0 1 fO fdO ["contents"] (spEO0 K CC)) (mO : mg "entries_of" = some (.ref fO)) (kO : PySem.W.keepIn K (.ref fO) = true) (bO : Binds K fdO ["contents"] []) :
    FnOk P w K mg base CX0 2 f fd ["self"] (spEns K CC CS) := by
  refine F.ok scEns (fun vs H Q E h => ?_) (fun cdv A outer s H vs Q E hr h => ?_)
  · obtain ⟨s, H0, S, m, rfl, _⟩ := h
    rfl
  · obtain ⟨s, H0, S, m, rfl, ⟨dx, c, b, h, hs, Y, C, _⟩, he, q⟩ := h
    refine ⟨_, pss_one (ps_ret (pe_call GO hr rfl mO kO bO .nil pass0 (pa_cons (pe_fld (pv 0) rfl) pa_nil))), ?_⟩
    exact ⟨_, rfl, s, CS, dx, _, _, rfl, Y.i, T.cl, T.n1, syF_c _ _ _, c, S, rfl, C, he, q⟩
end
end Bo

set_option Elab.async false
set_option linter.all false
set_option maxRecDepth 100000
set_option maxHeartbeats 8000000
namespace Bo
open PySem L2
abbrev sCE : Stmt := top 41
abbrev sCEnds : Stmt := top 43
theorem inV_txt {y : Str} : ∀ {ys : List Str}, inV (.str y) (ys.map V.str) = decide (y ∈ ys)
  | [] => by
    rw [decide_eq_false (List.not_mem_nil)]
    rfl
  | x :: ys => by
    show ((x == y) || inV (.str y) (ys.map V.str)) = _
    rw [inV_txt (ys := ys)]
    by_cases h : x = y
    · subst h
      rw [decide_eq_true List.mem_cons_self]
      simp
    · have e : (x == y) = false := by simpa using h
      rw [e, Bool.false_or]
      by_cases z : y ∈ ys
      · rw [decide_eq_true z, decide_eq_true (List.mem_cons_of_mem _ z)]
      · rw [decide_eq_false z, decide_eq_false (fun q => (List.mem_cons.mp q).elim (fun q => h q.symm) z)]
theorem txts_flatV (ys : List Str) : (ys.map V.str).all flatV = true := by
  rw [List.all_eq_true]
  intro v hv
  obtain ⟨y, _, rfl⟩ := List.mem_map.mp hv
  rfl
/-- the equation is there -/
def spCE (K : PySem.W.Frag) (CC : Addr) : Sp := fun vs H Q _ => ∃ (c : Addr) (S : Ct) (y : Str), vs = [.ref c, .str y] ∧ CtIn K CC H c S ∧ y ∈ S.rows.map (·.1) ∧ ∀ H', Same H H' → Q .non H'
/-- the one unknown is there -/
def spCU1 (K : PySem.W.Frag) : Sp := fun vs H Q _ => ∃ (k u : Addr) (cols : List Str) (x : Str), vs = [.ref k, .ref u] ∧ SqT K H k (cols.map V.str) ∧ H u = some (.lst [.str x]) ∧ x ∈ cols ∧ ∀ H', Same H H' → Q .non H'
def spCEnds (K : PySem.W.Frag) (CC : Addr) : Sp := fun vs H Q _ => ∃ (c : Addr) (S : Ct) (y x : Str), vs = [.ref c, .str y, .str x] ∧ CtIn K CC H c S ∧ y ∈ S.rows.map (·.1) ∧ x ∈ S.cols ∧ ∀ H', Same H H' → Q .non H'
section
variable {P : Program} {w : World} {K : PySem.W.Frag} {mg : Str → Option Value} {base : Heap} {CC fCI : Addr}
theorem scCE : FnScope ["contents", "equation"] ["contents", "equation"] (defScope sCE) := ⟨rfl, rfl, rfl, by decide +kernel, rfl, by decide +kernel, by decide +kernel⟩
theorem ok_ce {f : Addr} {fd : FuncData} (F : Fun K "check_equation" "check_equation" sCE f fd) (TC : CtT K mg CC fCI) (hl : mg "list" = none) : FnOk P w K mg base CX0 1 f fd ["contents", "equation"] (spCE K CC) := by
  refine F.ok scCE (fun vs H Q E h => ?_) (fun cdv A outer s H vs Q E hr h => ?_)
  · obtain ⟨c, S, y, rfl, _⟩ := h
    rfl
  · obtain ⟨c, S, y, rfl, ⟨d1, ac, ar, ak, rs, C⟩, hy, k⟩ := h
    refine ⟨_, pss_one (ps_if (pt_cmpR op_notIn_seq (pv 1) (pe_callTy (call_listD rfl) (by rfl) hl (by decide +kernel) (pa_cons (pe_fld (pv 0) rfl) pa_nil)) (by rfl)) (pss_one ps_never) pss_nil), ?_⟩
    have hks : rs.map (·.1) = S.rows.map (·.1) := pair_keys (fun p q z => z.1) C.p
    have ek : (refK rs).map (fun kv => kV kv.1) = (rs.map (·.1)).map V.str := by
      unfold refK
      rw [List.map_map, List.map_map]
      rfl
    refine ⟨_, rfl, _, rfl, c, CC, d1, _, _, rfl, C.i, TC.cl, TC.n2, ctF_r _ _ _, ar, _, rfl, C.r.rd, fun p hp => ?_⟩
    rw [ek, hks]
    refine ⟨p, _, rfl, .inl (SqL.of upd_same), rfl, txts_flatV _, _, rfl, ?_⟩
    rw [inV_txt, decide_eq_true hy]
    exact iteF (k _ (same_new hp))
theorem ok_cu1 {f : Addr} {fd : FuncData} (F : Fun K "check_unknowns" "check_unknowns" sCU f fd) (mE : mg "enumerate" = none) : FnOk P w K mg base CX0 1 f fd ["known", "unknowns"] (spCU1 K) := by
  refine F.ok scCU (fun vs H Q E h => ?_) (fun cdv A outer s H vs Q E hr h => ?_)
  · obtain ⟨k, u, cols, x, rfl, _⟩ := h
    rfl
  · obtain ⟨kk, u, cols, x, rfl, hk, hu, hx, q⟩ := h
    refine ⟨_, pss_cons (ps_for PassesOwn.never rfl (pi_list (pv 1)) (pg_name (i := 2) scCU.nd rfl (.inl rfl)) (pss_one (ps_if (pt_cmpR op_notIn_seq (pv 2) (pv 0) (by rfl)) (pss_one ps_never) pss_nil)))
      (pss_one (ps_for PassesOwn.never rfl (pi_enum (by rfl) mE (pa_cons (pv 1) pa_nil)) (pg_tup (by rfl) (pgs_cons (pg_name (i := 3) scCU.nd rfl (.inl rfl)) (pgs_cons (pg_name (i := 2) scCU.nd rfl (.inl rfl)) pgs_nil)))
        (pss_one (ps_if (pt_cmpR op_in_seq (pv 2) (pe_slice sl_list (pv 1) po_none (po_some (pv 3))) (by rfl)) (pss_one ps_never) pss_nil)))), ?_⟩
    refine ⟨_, rfl, u, rfl, ⟨_, SqL.of hu⟩, ?_⟩
    refine for_list (xs := [V.str x]) (fun i σ H' => (∃ z, σ = [some (.ref kk), some (.ref u), z, none]) ∧ H' = H) ⟨⟨_, rfl⟩, rfl⟩ (fun i σ H' _ p => by rw [p.2]; exact SqL.of hu) ?_ ?_
    · rintro i v σ H' hv ⟨⟨z, rfl⟩, rfl⟩
      have hv : v = .str x := by
        cases i with
        | zero => exact (Option.some.inj hv).symm
        | succ n => simp at hv
      subst hv
      refine ⟨_, rfl, _, rfl, kk, _, rfl, .inr hk, rfl, txts_flatV _, _, rfl, ?_⟩
      rw [inV_txt, decide_eq_true hx]
      exact iteF ⟨⟨_, rfl⟩, rfl⟩
    rintro σ H' ⟨⟨z, rfl⟩, rfl⟩
    refine ⟨_, rfl, u, [V.str x], rfl, SqL.of hu, ?_⟩
    refine for_it (walk_enum (a := u) (xs := [V.str x])) (fun i σ H'' => (∃ z2 z3, σ = [some (.ref kk), some (.ref u), z2, z3]) ∧ Same H' H'') ⟨⟨_, _, rfl⟩, Same.refl H'⟩ (fun i σ H'' _ p => SqL.of (p.2 _ _ hu)) ?_ ?_
    · rintro i v σ H1 H2 hi ⟨⟨z2, z3, rfl⟩, s1⟩ y
      obtain ⟨Tq, a, b, rfl, hT, rfl, ea, eb⟩ := y
      have i0 : i = 0 := by
        have : i < 1 := hi
        omega
      subst i0
      cases ea
      cases eb
      have s2 : Same H1 (upd H1 Tq (.tup [V.int ((0 : Nat) : Int), V.str x])) := same_new hT
      refine ⟨Tq, _, rfl, SqT.of upd_same, rfl, _, _, rfl, _, _, rfl, rfl, ?_⟩
      refine ⟨_, rfl, _, rfl, _, rfl, _, rfl, u, _, rfl, SqL.of (s2 _ _ (s1 _ _ hu)), fun q5 hq5 => ?_⟩
      have ec : cutV [V.str x] none (some ((0 : Nat) : Int)) = [] := rfl
      rw [ec]
      refine ⟨q5, [], rfl, .inl (SqL.of upd_same), rfl, rfl, _, rfl, iteF ⟨⟨_, _, rfl⟩, (s1.trans s2).trans (same_new hq5)⟩⟩
    · rintro σ H2 ⟨_, s1⟩
      exact q H2 s1
theorem scCEn : FnScope ["contents", "equation", "unknown"] ["contents", "equation", "unknown"] (defScope sCEnds) := ⟨rfl, rfl, rfl, by decide +kernel, rfl, by decide +kernel, by decide +kernel⟩
theorem ok_cends {f fE fU : Addr} {fd fdE fdU : FuncData} (F : Fun K "check_ends" "check_ends" sCEnds f fd) (TC : CtT K mg CC fCI)
    (GE : FnOk P w K mg base CX0 1 fE fdE ["contents", "equation"] (spCE K CC)) (mE : mg "check_equation" = some (.ref fE)) (kE : PySem.W.keepIn K (.ref fE) = true) (bE : Binds K fdE ["contents", "equation"] [])
    (GU : FnOk P w K mg base CX0 1 fU fdU ["known", "unknowns"] (spCU1 K)) (mU : mg "check_unknowns" = some (.ref fU)) (kU : PySem.W.keepIn K (.ref fU) = true) (bU : Binds K fdU ["known", "unknowns"] []) :
    FnOk P w K mg base CX0 2 f fd ["contents", "equation", "unknown"] (spCEnds K CC) := by
  refine F.ok scCEn (fun vs H Q E h => ?_) (fun cdv A outer s H vs Q E hr h => ?_)
  · obtain ⟨c, S, y, x, rfl, _⟩ := h
    rfl
  · obtain ⟨c, S, y, x, rfl, hC, hy, hx, k⟩ := h
    refine ⟨_, pss_cons (ps_expr (pe_call GE hr rfl mE kE bE .nil pass0 (pa_cons (pv 0) (pa_cons (pv 1) pa_nil))))
      (pss_one (ps_expr (pe_call GU hr rfl mU kU bU .nil pass0 (pa_cons (pe_fld (pv 0) rfl) (pa_cons (pe_lst (pa_cons (pv 2) pa_nil)) pa_nil))))), ?_⟩
    refine ⟨_, rfl, _, rfl, c, S, y, rfl, hC, hy, fun H1 s1 => ?_⟩
    obtain ⟨d1, ac, ar, ak, rs, C⟩ := hC.keep s1
    refine ⟨_, rfl, c, CC, d1, _, _, rfl, C.i, TC.cl, TC.n1, ctF_c _ _ _, _, rfl, by show 1 ≤ sizeLine; decide, fun l hl => ?_⟩
    exact ⟨ac, l, S.cols, x, rfl, SqT.keep C.c (same_new hl), upd_same, hx, fun H2 s2 => k H2 ((s1.trans (same_new hl)).trans s2)⟩
end
end Bo

set_option Elab.async false
set_option linter.all false
set_option maxRecDepth 100000
set_option maxHeartbeats 8000000
namespace Bo
open PySem L2
abbrev sWEn : Stmt := top 35
/-- the rows with another row at y -/
def setRow {α : Type} (rows : List (Str × α)) (y : Str) (r : α) : List (Str × α) := rows.map fun p => if p.1 = y then (p.1, r) else p
theorem setRow_keys {α : Type} (rows : List (Str × α)) (y : Str) (r : α) : (setRow rows y r).map (·.1) = rows.map (·.1) := by
  unfold setRow
  rw [List.map_map]
  refine List.map_congr_left fun p _ => ?_
  show (if p.1 = y then (p.1, r) else p).1 = p.1
  split <;> rfl
theorem refK_put {y : Str} {d : Addr} : ∀ {rs : List (Str × Addr)}, y ∈ rs.map (·.1) → putK (refK rs) (Sum.inr y) (.ref d) = refK (setRow rs y d) := fun {rs} h => by
  have e : ((refK rs).any fun kv => decide (kv.1 = Sum.inr y)) = true := by
    rw [List.any_eq_true]
    obtain ⟨p, hp, rfl⟩ := List.mem_map.mp h
    exact ⟨(Sum.inr p.1, .ref p.2), List.mem_map.mpr ⟨p, hp, rfl⟩, decide_eq_true rfl⟩
  unfold putK
  rw [if_pos e]
  unfold refK setRow
  rw [List.map_map, List.map_map]
  refine List.map_congr_left fun p _ => ?_
  show (if (Sum.inr p.1 : Key) = Sum.inr y then ((Sum.inr p.1 : Key), V.ref d) else (Sum.inr p.1, V.ref p.2)) = (fun q : Str × Addr => ((Sum.inr q.1 : Key), V.ref q.2)) (if p.1 = y then (p.1, d) else p)
  by_cases z : p.1 = y
  · rw [if_pos (congrArg Sum.inr z), if_pos z]
  · rw [if_neg (fun q => z (Sum.inr.inj q)), if_neg z]
theorem intK_len (l : List (Str × Int)) : (intK l).length = l.length := List.length_map _
theorem refK_len (l : List (Str × Addr)) : (refK l).length = l.length := List.length_map _
theorem pair_set {F : (Str × List (Str × Int)) → (Str × Addr) → Prop} {y : Str} {r : List (Str × Int)} {d : Addr} (h1 : ∀ p q, F p q → p.1 = q.1) (h2 : ∀ z, z = y → F (z, r) (z, d)) : ∀ {rows : List (Str × List (Str × Int))} {rs : List (Str × Addr)}, Paired F rows rs → Paired F (setRow rows y r) (setRow rs y d)
  | _, _, .nil => .nil
  | _, _, .cons (a := p) (b := q) h t => by
    refine .cons ?_ (pair_set h1 h2 t)
    have e := h1 p q h
    show F (if p.1 = y then (p.1, r) else p) (if q.1 = y then (q.1, d) else q)
    by_cases z : p.1 = y
    · rw [if_pos z, if_pos (e ▸ z), ← e]
      exact h2 _ z
    · rw [if_neg z, if_neg (fun q' => z (e.trans q'))]
      exact h
theorem one_row {α : Type} {y : Str} {a b : α} : ∀ {rows : List (Str × α)}, (rows.map (·.1)).Nodup → (y, a) ∈ rows → (y, b) ∈ rows → a = b
  | p :: rows, h, h1, h2 => by
    rw [List.map_cons, List.nodup_cons] at h
    rcases List.mem_cons.mp h1 with z1 | z1
    · rcases List.mem_cons.mp h2 with z2 | z2
      · have := z1.trans z2.symm
        injection this
      · exact absurd (List.mem_map.mpr ⟨_, z2, by rw [← z1]⟩) h.1
    · rcases List.mem_cons.mp h2 with z2 | z2
      · exact absurd (List.mem_map.mpr ⟨_, z1, by rw [← z2]⟩) h.1
      · exact one_row h.2 z1 z2
def spWEn (K : PySem.W.Frag) (CC : Addr) : Sp := fun vs H Q _ => ∃ (c : Addr) (S : Ct) (y x : Str) (r : List (Str × Int)), vs = [.ref c, .str y, .str x] ∧ CtIn K CC H c S ∧ (S.rows.map (·.1)).Nodup ∧ (y, r) ∈ S.rows ∧ x ∈ S.cols ∧ x ∉ r.map (·.1) ∧ S.rows.length ≤ 1000 ∧ r.length ≤ 1000 ∧
  ∀ (a : Addr) (H' : Hp), Same H H' → CtIn K CC H' a { S with rows := setRow S.rows y (r ++ [(x, 1)]) } → Q (.ref a) H'
section
variable {P : Program} {w : World} {K : PySem.W.Frag} {mg : Str → Option Value} {base : Heap} {CC fCI : Addr}
theorem scWEn : FnScope ["contents", "equation", "unknown", "row"] ["contents", "equation", "unknown"] (defScope sWEn) := ⟨rfl, rfl, rfl, by decide +kernel, rfl, by decide +kernel, by decide +kernel⟩
theorem ok_wen {f fN fR : Addr} {fd fdN fdCI fdR : FuncData} (F : Fun K "with_entry" "with_entry" sWEn f fd) (TC : CtT K mg CC fCI)
    (GN : FnOk P w K mg base CX0 2 fN fdN ["contents", "equation", "unknown"] (spCEnds K CC)) (mN : mg "check_ends" = some (.ref fN)) (kN : PySem.W.keepIn K (.ref fN) = true) (bN : Binds K fdN ["contents", "equation", "unknown"] [])
    (GR : FnOk P w K mg base CX0 1 fR fdR ["table", "key", "thing"] spReplaced) (mR : mg "replaced" = some (.ref fR)) (kR : PySem.W.keepIn K (.ref fR) = true) (bR : Binds K fdR ["table", "key", "thing"] [])
    (GC : FnOk P w K mg base CX0 1 fCI fdCI ["self", "columns", "rows", "constants"] (spCtInit CC)) (bC : Binds K fdCI ["self", "columns", "rows", "constants"] []) :
    FnOk P w K mg base CX0 3 f fd ["contents", "equation", "unknown"] (spWEn K CC) := by
  refine F.ok scWEn (fun vs H Q E h => ?_) (fun cdv A outer s H vs Q E hr h => ?_)
  · obtain ⟨c, S, y, x, r, rfl, _⟩ := h
    rfl
  · obtain ⟨c, S, y, x, r, rfl, hC, hnd, hyr, hx, hxr, l1, l2, k⟩ := h
    have hr1 : Room 1 _ := hr.mono (by decide)
    have hu := hu_of hr
    refine ⟨_, pss_cons (ps_expr (pe_call GN hr rfl mN kN bN .nil pass0 (pa_cons (pv 0) (pa_cons (pv 1) (pa_cons (pv 2) pa_nil)))))
      (pss_cons (ps_if (pt_cmp (pc_din hu (pv 2) (pe_dget hu (pe_fld (pv 0) rfl) (pv 1) (fun _ _ => rfl)))) (pss_one ps_never) pss_nil)
      (pss_cons (ps_set (i := 3) scWEn.nd rfl (.inl rfl) (pe_fz (pe_call GR hr1 rfl mR kR bR .nil pass0 (pa_cons (pe_dget hu (pe_fld (pv 0) rfl) (pv 1) (fun _ _ => rfl)) (pa_cons (pv 2) (pa_cons pe_int pa_nil))))))
      (pss_one (ps_ret (pe_make TC.mkC GC hr rfl TC.g bC .nil pass0 (pa_cons (pe_fld (pv 0) rfl) (pa_cons (pe_fz (pe_call GR hr1 rfl mR kR bR .nil pass0 (pa_cons (pe_fld (pv 0) rfl) (pa_cons (pv 1) (pa_cons (pv 3) pa_nil))))) (pa_cons (pe_fld (pv 0) rfl) pa_nil)))))))), ?_⟩
    have hy : y ∈ S.rows.map (·.1) := List.mem_map.mpr ⟨_, hyr, rfl⟩
    refine ⟨_, rfl, _, rfl, _, rfl, c, S, y, x, rfl, hC, hy, hx, fun H1 s1 => ?_⟩
    obtain ⟨d1, ac, ar, ak, rs, C⟩ := hC.keep s1
    have hks : rs.map (·.1) = S.rows.map (·.1) := pair_keys (fun p q z => z.1) C.p
    have hlr : rs.length = S.rows.length := by
      have e := congrArg List.length hks
      rw [List.length_map, List.length_map] at e
      exact e
    obtain ⟨d, hv, hm⟩ := refK_in (rs := rs) (y := y) (by rw [hks]; exact hy)
    obtain ⟨j, hj⟩ := List.mem_iff_getElem?.mp hm
    obtain ⟨⟨y', r'⟩, hrow, hrn, hd⟩ := pair_at C.p hj
    cases (show y' = y from hrn)
    obtain rfl := one_row hnd (List.mem_of_getElem? hrow) hyr
    have hd : Fz H1 d (.dK (intK r')) := hd
    refine ⟨_, rfl, _, rfl, c, CC, d1, _, _, rfl, C.i, TC.cl, TC.n2, ctF_r _ _ _, _, rfl, ar, _, rfl, .inl ⟨_, Sum.inr y, C.r.rd, rfl, hv.symm⟩, d, _, rfl, .inl ⟨_, Sum.inr x, hd.rd, rfl, rfl⟩, _, rfl, ?_⟩
    rw [intK_out hxr]
    refine iteF ⟨_, rfl, c, CC, d1, _, _, rfl, C.i, TC.cl, TC.n2, ctF_r _ _ _, _, rfl, ar, _, rfl, .inl ⟨_, Sum.inr y, C.r.rd, rfl, hv.symm⟩, _, rfl, ?_⟩
    refine ⟨d, intK r', Sum.inr x, .int 1, rfl, hd.rd, by rw [intK_len, sizeLine_eq]; omega, fun p hp => ⟨p, _, rfl, upd_same, True.intro, fun od => ?_⟩⟩
    rw [upd_upd, putK_new _ (intK_out hxr)]
    have e1 : intK r' ++ [((Sum.inr x : Key), V.int 1)] = intK (r' ++ [(x, 1)]) := by
      unfold intK
      rw [List.map_append]
      rfl
    rw [e1]
    have k1 : Same H1 (upd H1 p (.frz od (.dK (intK (r' ++ [(x, 1)]))))) := same_new hp
    have hp1 : Fz (upd H1 p (.frz od (.dK (intK (r' ++ [(x, 1)]))))) p (.dK (intK (r' ++ [(x, 1)]))) := ⟨od, upd_same⟩
    generalize upd H1 p (.frz od (.dK (intK (r' ++ [(x, 1)])))) = H2 at k1 hp1 ⊢
    have C2 := C.keep k1
    refine ⟨_, rfl, c, CC, d1, _, _, rfl, C2.i, TC.cl, TC.n1, ctF_c _ _ _, _, rfl, c, CC, d1, _, _, rfl, C2.i, TC.cl, TC.n2, ctF_r _ _ _, _, rfl, _, rfl, ?_⟩
    refine ⟨ar, refK rs, Sum.inr y, .ref p, rfl, C2.r.rd, by rw [refK_len, hlr, sizeLine_eq]; omega, fun p2 hp2 => ⟨p2, _, rfl, upd_same, True.intro, fun od2 => ?_⟩⟩
    rw [upd_upd, refK_put (by rw [hks]; exact hy)]
    have k2 : Same H2 (upd H2 p2 (.frz od2 (.dK (refK (setRow rs y p))))) := same_new hp2
    have hp3 : Fz (upd H2 p2 (.frz od2 (.dK (refK (setRow rs y p))))) p2 (.dK (refK (setRow rs y p))) := ⟨od2, upd_same⟩
    generalize upd H2 p2 (.frz od2 (.dK (refK (setRow rs y p)))) = H3 at k2 hp3 ⊢
    have C3 := C2.keep k2
    refine ⟨_, rfl, c, CC, d1, _, _, rfl, C3.i, TC.cl, TC.n3, ctF_k _ _ _, ?_⟩
    refine mk_ct fun b dy H4 s4 hb => k b H4 (((s1.trans k1).trans k2).trans s4) ⟨dy, ac, p2, ak, setRow rs y p, hb, (C3.keep s4).c, hp3.keep s4, ?_, (C3.keep s4).k⟩
    exact pair_set (fun p q z => z.1) (fun z e => ⟨rfl, (hp1.keep k2).keep s4⟩) (C3.keep s4).p
end
end Bo

set_option Elab.async false
set_option linter.all false
set_option maxRecDepth 100000
set_option maxHeartbeats 8000000
namespace Bo
open PySem L2
abbrev sAEn : Stmt := inClass sSys 7
/-- s.add_entry(y, x), both there, not yet an entry -/
def spAEn (K : PySem.W.Frag) (CC CS : Addr) : Sp := fun vs H Q _ => ∃ (s : Addr) (H0 : Hp) (S : Ct) (m : Nat) (y x : Str) (r : List (Str × Int)), vs = [.ref s, .str y, .str x] ∧ SyOn K CC CS H0 H s S m ∧ m < 1000 ∧ (S.rows.map (·.1)).Nodup ∧ (y, r) ∈ S.rows ∧ x ∈ S.cols ∧ x ∉ r.map (·.1) ∧ S.rows.length ≤ 1000 ∧ r.length ≤ 1000 ∧
  ∀ H' : Hp, SyOn K CC CS H0 H' s { S with rows := setRow S.rows y (r ++ [(x, 1)]) } (m + 1) → Q .non H'
section
variable {P : Program} {w : World} {K : PySem.W.Frag} {mg : Str → Option Value} {base : Heap} {CC fCI CS fSI fTk : Addr}
theorem scAEn : FnScope ["self", "equation", "unknown"] ["self", "equation", "unknown"] (defScope sAEn) := ⟨rfl, rfl, rfl, by decide +kernel, rfl, by decide +kernel, by decide +kernel⟩
theorem ok_aen {f fW : Addr} {fd fdW fdTk : FuncData} (F : Fun K "add_entry" "System.add_entry" sAEn f fd) (T : SysT K mg CS fSI fTk)
    (GT : FnOk P w K mg base CX0 1 fTk fdTk ["self", "contents"] (spTake CS)) (bT : Binds K fdTk ["self", "contents"] [])
    (GW : FnOk P w K mg base CX0 3 fW fdW ["contents", "equation", "unknown"] (spWEn K CC)) (mW : mg "with_entry" = some (.ref fW)) (kW : PySem.W.keepIn K (.ref fW) = true) (bW : Binds K fdW ["contents", "equation", "unknown"] []) :
    FnOk P w K mg base CX0 4 f fd ["self", "equation", "unknown"] (spAEn K CC CS) := by
  refine F.ok scAEn (fun vs H Q E h => ?_) (fun cdv A outer s H vs Q E hr h => ?_)
  · obtain ⟨s, H0, S, m, y, x, r, rfl, _⟩ := h
    rfl
  · obtain ⟨s, H0, S, m, y, x, r, rfl, ⟨dx, c, b, h, hs, Y, C, hne, hlh, n1, n2, sm0⟩, hm, hnd, hyr, hx, hxr, l1, l2, k⟩ := h
    have hr1 : Room 1 _ := hr.mono (by decide)
    refine ⟨_, pss_one (ps_expr (pe_meth (pv 0) T.cl T.tk GT hr1 bT .nil pass0 (pa_cons (pe_call GW hr rfl mW kW bW .nil pass0 (pa_cons (pe_fld (pv 0) rfl) (pa_cons (pv 1) (pa_cons (pv 2) pa_nil)))) pa_nil))), ?_⟩
    refine ⟨_, rfl, s, dx, _, rfl, Y.i, syF_no _ _ _ (by decide +kernel) (by decide +kernel) (by decide +kernel), _, rfl, s, CS, dx, _, _, rfl, Y.i, T.cl, T.n1, syF_c _ _ _, _, rfl, _, rfl, ?_⟩
    refine ⟨c, S, y, x, r, rfl, C, hnd, hyr, hx, hxr, l1, l2, fun a H1 sm C1 => ⟨s, a, dx, c, b, h, hs, rfl, Y.keep sm, by omega, hne, fun H2 o Y2 => k H2 ⟨dx, a, b, h, hs ++ [.ref c], Y2, C1.off (Y.keep sm) o, hne, ?_, n1, n2, Off.of (sm0.trans sm) o fun q hq => ?_⟩⟩⟩
    · rw [List.length_append]
      show _ + 1 ≤ _
      omega
    · rcases List.mem_cons.mp hq with z | z
      · rw [z]; exact n1
      · rw [List.mem_singleton.mp z]; exact n2
end
end Bo

set_option Elab.async false
set_option linter.all false
set_option maxRecDepth 100000
set_option maxHeartbeats 8000000
namespace Bo
open PySem L2
abbrev sRem : Stmt := top 46
theorem valV_at : ∀ {kvs : List (Key × V)} {i : Nat} {k : Key} {v : V}, (kvs.map (·.1)).Nodup → kvs[i]? = some (k, v) → valV kvs k = some v
  | p :: r, 0, k, v, _, h => by
    have e : p = (k, v) := Option.some.inj h
    rw [e]
    exact valV_pos (p := (k, v)) rfl
  | p :: r, i + 1, k, v, nd, h => by
    rw [List.map_cons, List.nodup_cons] at nd
    have h' : r[i]? = some (k, v) := h
    have ne : ¬ p.1 = k := fun z => nd.1 (List.mem_map.mpr ⟨(k, v), List.mem_of_getElem? h', z.symm⟩)
    exact (valV_neg (p := p) ne).trans (valV_at nd.2 h')
theorem not_before {kvs : List (Key × V)} {i : Nat} {k : Key} {v : V} (nd : (kvs.map (·.1)).Nodup) (h : kvs[i]? = some (k, v)) (f : Key × V → Bool) : valV ((kvs.take i).filter f) k = none := by
  refine valV_out fun z => ?_
  obtain ⟨p, hp, e⟩ := List.mem_map.mp z
  have hp := (List.mem_filter.mp hp).1
  obtain ⟨j, hj⟩ := List.mem_iff_getElem?.mp hp
  rw [List.getElem?_take] at hj
  split at hj
  · rename_i lt
    have a1 : (kvs.map (·.1))[j]? = some p.1 := by rw [List.getElem?_map, hj]; rfl
    have a2 : (kvs.map (·.1))[i]? = some k := by rw [List.getElem?_map, h]; rfl
    rw [e] at a1
    have li := (List.getElem?_eq_some_iff.mp a2).1
    exact absurd ((List.getElem?_inj (by omega) nd).mp (a1.trans a2.symm)) (by omega)
  · cases hj
/-- a dict without one key -/
def spRemoved : Sp := fun vs H Q _ => ∃ (a : Addr) (kvs : List (Key × V)) (ks : List Str) (y : Str), vs = [.ref a, .str y] ∧ Fz H a (.dK kvs) ∧ kvs.map (·.1) = ks.map Sum.inr ∧ ks.Nodup ∧ kvs.length ≤ 1000 ∧ ∀ (p : Addr), H p = none → Q (.ref p) (upd H p (.dK (kvs.filter fun q => !decide (q.1 = Sum.inr y))))
section
variable {P : Program} {w : World} {K : PySem.W.Frag} {mg : Str → Option Value} {base : Heap}
theorem scRm : FnScope ["table", "key", "other"] ["table", "key"] (defScope sRem) := ⟨rfl, rfl, rfl, by decide +kernel, rfl, by decide +kernel, by decide +kernel⟩
theorem ok_removed {f : Addr} {fd : FuncData} (F : Fun K "removed" "removed" sRem f fd) : FnOk P w K mg base CX0 1 f fd ["table", "key"] spRemoved := by
  refine F.ok scRm (fun vs H Q E h => ?_) (fun cdv A outer s H vs Q E hr h => ?_)
  · obtain ⟨a, kvs, ks, y, rfl, _⟩ := h
    rfl
  · obtain ⟨a, kvs, ks, y, rfl, ⟨od, ha⟩, hks, hn, hl, q⟩ := h
    have hu := hu_of hr
    refine ⟨_, pss_one (ps_ret (pe_dc (own := [("other", 2)]) (g := gName 2) rfl scRm.nd (pi_keys (pv 0)) (blkOk_by (N := ["table", "key", "other"]) (sc := defScope sRem) (by decide +kernel)) (fun _ _ _ _ _ => pg_name (i := 2) scRm.nd rfl (Or.inl rfl))
      (fun _ _ _ _ _ => pts_one (pt_cmpR op_ne (pv 2) (pv 1) (nomark _))) (fun _ _ _ _ _ => pv 2) (fun _ _ _ _ _ => pe_dget hu (pv 0) (pv 2) (fun _ _ => rfl)))), ?_⟩
    have nd : (kvs.map (·.1)).Nodup := by
      rw [hks]
      exact List.pairwise_map.mpr (hn.imp fun ne e => ne (Sum.inr.inj e))
    refine ⟨_, rfl, a, od, rfl, .inl ⟨kvs, ha, fun D hD => ?_⟩⟩
    have aD : a ≠ D := ne_of_none ha hD
    refine dc_go (walk_keys (kvs := kvs)) (fun i H' => H' = upd H D (.dK ((kvs.take i).filter fun q => !decide (q.1 = Sum.inr y)))) rfl (fun i H' _ e => by rw [e, upd_ne aD]; exact ha) ?_ ?_
    · intro i x H1 H' hi e y0
      subst e
      obtain ⟨eH, kk, v, hkv, rfl⟩ := y0
      subst eH
      have hkk : (kvs.map (·.1))[i]? = some kk := by rw [List.getElem?_map, hkv]; rfl
      rw [hks, List.getElem?_map] at hkk
      obtain ⟨z, hz, rfl⟩ := Option.map_eq_some_iff.mp hkk
      refine ⟨rfl, _, rfl, _, rfl, rfl, _, rfl, ?_⟩
      have ez : (!decide (V.str z = V.str y)) = (!decide ((Sum.inr z : Key) = Sum.inr y)) := by
        by_cases c : z = y
        · rw [c, decide_eq_true rfl, decide_eq_true rfl]
        · rw [decide_eq_false (fun e => c (V.str.inj e)), decide_eq_false (fun e => c (Sum.inr.inj e))]
      show (if (!decide (V.str z = V.str y)) = true then _ else _)
      rw [ez]
      refine ite2 (fun c => ?_) (fun c => ?_)
      · refine ⟨_, rfl, _, rfl, _, rfl, a, v, rfl, .inl ⟨_, Sum.inr z, .inr ⟨od, by rw [upd_ne aD]; exact ha⟩, rfl, (valV_at nd hkv).symm⟩, (kvs.take i).filter fun q => !decide (q.1 = Sum.inr y), Sum.inr z, rfl, upd_same, ?_, ?_⟩
        · have l1 := List.length_filter_le (fun q : Key × V => !decide (q.1 = Sum.inr y)) (kvs.take i)
          rw [List.length_take] at l1
          rw [sizeLine_eq]
          omega
        · rw [upd_upd, putK_new _ (not_before nd hkv _), take_snoc hkv, List.filter_append, List.filter_cons, if_pos c]
          rfl
      · rw [take_snoc hkv, List.filter_append, List.filter_cons, if_neg c, List.filter_nil, List.append_nil]
    · intro H' e
      subst e
      rw [List.take_length]
      exact q D hD
end
end Bo

set_option Elab.async false
set_option linter.all false
set_option maxRecDepth 100000
set_option maxHeartbeats 8000000
namespace Bo
open PySem L2
abbrev sWoE : Stmt := top 37
/-- the pairs but the one at y -/
def dropRow {α : Type} (rows : List (Str × α)) (y : Str) : List (Str × α) := rows.filter fun p => !decide (p.1 = y)
theorem drop_map {α : Type} {y : Str} (f : α → V) : ∀ l : List (Str × α), ((l.map fun p => ((Sum.inr p.1 : Key), f p.2)).filter fun q => !decide (q.1 = Sum.inr y)) = (dropRow l y).map fun p => ((Sum.inr p.1 : Key), f p.2)
  | [] => rfl
  | p :: l => by
    unfold dropRow
    rw [List.map_cons, List.filter_cons, List.filter_cons, drop_map f l]
    have e : (!decide ((Sum.inr p.1 : Key) = Sum.inr y)) = (!decide (p.1 = y)) := by
      by_cases c : p.1 = y
      · rw [c, decide_eq_true rfl, decide_eq_true rfl]
      · rw [decide_eq_false c, decide_eq_false (fun z => c (Sum.inr.inj z))]
    show (if (!decide ((Sum.inr p.1 : Key) = Sum.inr y)) = true then _ else _) = _
    rw [e]
    split <;> rfl
theorem pair_drop {F : (Str × List (Str × Int)) → (Str × Addr) → Prop} {y : Str} (h1 : ∀ p q, F p q → p.1 = q.1) : ∀ {rows : List (Str × List (Str × Int))} {rs : List (Str × Addr)}, Paired F rows rs → Paired F (dropRow rows y) (dropRow rs y)
  | _, _, .nil => .nil
  | _, _, .cons (a := p) (b := q) h t => by
    have e := h1 p q h
    have ih := pair_drop (y := y) h1 t
    unfold dropRow at ih ⊢
    rw [List.filter_cons, List.filter_cons]
    show Paired F (if (!decide (p.1 = y)) = true then _ else _) (if (!decide (q.1 = y)) = true then _ else _)
    rw [e]
    split
    · exact .cons h ih
    · exact ih
def spWoE (K : PySem.W.Frag) (CC : Addr) : Sp := fun vs H Q _ => ∃ (c : Addr) (S : Ct) (y : Str), vs = [.ref c, .str y] ∧ CtIn K CC H c S ∧ (S.rows.map (·.1)).Nodup ∧ (S.cons.map (·.1)).Nodup ∧ y ∈ S.rows.map (·.1) ∧ S.rows.length ≤ 1000 ∧ S.cons.length ≤ 1000 ∧
  ∀ (a : Addr) (H' : Hp), Same H H' → CtIn K CC H' a { S with rows := dropRow S.rows y, cons := dropRow S.cons y } → Q (.ref a) H'
section
variable {P : Program} {w : World} {K : PySem.W.Frag} {mg : Str → Option Value} {base : Heap} {CC fCI : Addr}
theorem scWo : FnScope ["contents", "name"] ["contents", "name"] (defScope sWoE) := ⟨rfl, rfl, rfl, by decide +kernel, rfl, by decide +kernel, by decide +kernel⟩
theorem ok_woe {f fN fR : Addr} {fd fdN fdCI fdR : FuncData} (F : Fun K "without_equation" "without_equation" sWoE f fd) (TC : CtT K mg CC fCI)
    (GN : FnOk P w K mg base CX0 1 fN fdN ["contents", "equation"] (spCE K CC)) (mN : mg "check_equation" = some (.ref fN)) (kN : PySem.W.keepIn K (.ref fN) = true) (bN : Binds K fdN ["contents", "equation"] [])
    (GR : FnOk P w K mg base CX0 1 fR fdR ["table", "key"] spRemoved) (mR : mg "removed" = some (.ref fR)) (kR : PySem.W.keepIn K (.ref fR) = true) (bR : Binds K fdR ["table", "key"] [])
    (GC : FnOk P w K mg base CX0 1 fCI fdCI ["self", "columns", "rows", "constants"] (spCtInit CC)) (bC : Binds K fdCI ["self", "columns", "rows", "constants"] []) :
    FnOk P w K mg base CX0 3 f fd ["contents", "name"] (spWoE K CC) := by
  refine F.ok scWo (fun vs H Q E h => ?_) (fun cdv A outer s H vs Q E hr h => ?_)
  · obtain ⟨c, S, y, rfl, _⟩ := h
    rfl
  · obtain ⟨c, S, y, rfl, hC, nd1, nd2, hy, l1, l2, k⟩ := h
    have hr1 : Room 1 _ := hr.mono (by decide)
    refine ⟨_, pss_cons (ps_expr (pe_call GN hr1 rfl mN kN bN .nil pass0 (pa_cons (pv 0) (pa_cons (pv 1) pa_nil))))
      (pss_one (ps_ret (pe_make TC.mkC GC hr rfl TC.g bC .nil pass0 (pa_cons (pe_fld (pv 0) rfl) (pa_cons (pe_fz (pe_call GR hr1 rfl mR kR bR .nil pass0 (pa_cons (pe_fld (pv 0) rfl) (pa_cons (pv 1) pa_nil)))) (pa_cons (pe_fz (pe_call GR hr1 rfl mR kR bR .nil pass0 (pa_cons (pe_fld (pv 0) rfl) (pa_cons (pv 1) pa_nil)))) pa_nil)))))), ?_⟩
    refine ⟨_, rfl, _, rfl, c, S, y, rfl, hC, hy, fun H1 s1 => ?_⟩
    obtain ⟨d1, ac, ar, ak, rs, C⟩ := hC.keep s1
    have hks : rs.map (·.1) = S.rows.map (·.1) := pair_keys (fun p q z => z.1) C.p
    have hlr : rs.length = S.rows.length := by
      have e := congrArg List.length hks
      rw [List.length_map, List.length_map] at e
      exact e
    have ik : (intK S.cons).map (·.1) = (S.cons.map (·.1)).map Sum.inr := by
      unfold intK
      rw [List.map_map, List.map_map]
      rfl
    refine ⟨_, rfl, c, CC, d1, _, _, rfl, C.i, TC.cl, TC.n1, ctF_c _ _ _, _, rfl, c, CC, d1, _, _, rfl, C.i, TC.cl, TC.n2, ctF_r _ _ _, _, rfl, ?_⟩
    refine ⟨ar, refK rs, rs.map (·.1), y, rfl, C.r, refK_keys rs, by rw [hks]; exact nd1, by rw [refK_len, hlr]; exact l1, fun p hp => ⟨p, _, rfl, upd_same, True.intro, fun od => ?_⟩⟩
    have e1 : ((refK rs).filter fun q => !decide (q.1 = Sum.inr y)) = refK (dropRow rs y) := drop_map V.ref rs
    rw [upd_upd, e1]
    have k1 : Same H1 (upd H1 p (.frz od (.dK (refK (dropRow rs y))))) := same_new hp
    have hp1 : Fz (upd H1 p (.frz od (.dK (refK (dropRow rs y))))) p (.dK (refK (dropRow rs y))) := ⟨od, upd_same⟩
    generalize upd H1 p (.frz od (.dK (refK (dropRow rs y)))) = H2 at k1 hp1 ⊢
    have C2 := C.keep k1
    refine ⟨_, rfl, c, CC, d1, _, _, rfl, C2.i, TC.cl, TC.n3, ctF_k _ _ _, _, rfl, ?_⟩
    refine ⟨ak, intK S.cons, S.cons.map (·.1), y, rfl, C2.k, ik, nd2, by rw [intK_len]; exact l2, fun p2 hp2 => ⟨p2, _, rfl, upd_same, True.intro, fun od2 => ?_⟩⟩
    have e2 : ((intK S.cons).filter fun q => !decide (q.1 = Sum.inr y)) = intK (dropRow S.cons y) := drop_map V.int S.cons
    rw [upd_upd, e2]
    have k2 : Same H2 (upd H2 p2 (.frz od2 (.dK (intK (dropRow S.cons y))))) := same_new hp2
    have hp3 : Fz (upd H2 p2 (.frz od2 (.dK (intK (dropRow S.cons y))))) p2 (.dK (intK (dropRow S.cons y))) := ⟨od2, upd_same⟩
    generalize upd H2 p2 (.frz od2 (.dK (intK (dropRow S.cons y)))) = H3 at k2 hp3 ⊢
    have C3 := C2.keep k2
    refine mk_ct fun b dy H4 s4 hb => k b H4 (((s1.trans k1).trans k2).trans s4) ⟨dy, ac, p, p2, dropRow rs y, hb, (C3.keep s4).c, (hp1.keep k2).keep s4, ?_, hp3.keep s4⟩
    exact pair_drop (fun p q z => z.1) (C3.keep s4).p
end
end Bo

set_option Elab.async false
set_option linter.all false
set_option maxRecDepth 100000
set_option maxHeartbeats 4000000
/-! repr of flat data, also of dicts, and of a pair of a text and flat data -/
namespace Bo
open PySem PySem.Spec PyProof.Rows L2
theorem atom_reads {h : Heap} {v : V} {u : Value} (a : atomV v = true) (r : RelV v u) : Reads h u (dataA v) [] := by
  cases v with
  | non =>
    cases (show u = Value.none from r)
    exact .none
  | bl b =>
    cases (show u = Value.bool b from r)
    exact .bool b
  | int i =>
    obtain ⟨t, rfl⟩ := (show ∃ t, u = Value.int i t from r)
    exact .int i t
  | str x =>
    obtain ⟨t, rfl⟩ := (show ∃ t, u = Value.str x t from r)
    exact .str x t
  | _ => cases a
theorem atoms_reads {h : Heap} : ∀ {xs : List V} {us : List Value}, Atoms xs → Vals xs us → ReadsAll h us (xs.map dataA) []
  | [], _, _, .nil => .nil
  | x :: xs, _, a, .cons r t => ReadsAll.cons (as := []) (bs := []) (atom_reads (a x List.mem_cons_self) r) (atoms_reads (fun y hy => a y (List.mem_cons_of_mem _ hy)) t)
def encK : Key → PyData
  | .inl i => .int i
  | .inr x => .str x
theorem encK_reads {P : Program} {w : World} {h : Heap} (k : Key) (u : Value) (e : (mixKind P w).is k u = true) : Reads h u (encK k) [] := by
  rcases keyIs_shape e with ⟨i, t, rfl, rfl⟩ | ⟨x, t, rfl, rfl⟩
  · exact .int i t
  · exact .str x t
theorem strK_reads {h : Heap} : ∀ {ps : List (Str × V)} {vs : List (Key × Value)}, Atoms (ps.map (·.2)) → KV (strK ps) vs → PyProof.V.PairsRead h encK vs (strD ps) []
  | [], vs, _, r => by
    cases r
    exact .nil
  | p :: ps, vs, a, r => by
    cases r with
    | cons r1 r2 =>
      rename_i q qs
      obtain ⟨k, v⟩ := q
      obtain ⟨e1, e2⟩ := r1
      subst e1
      exact PyProof.V.PairsRead.cons (as := []) (bs := []) (atom_reads (a p.2 List.mem_cons_self) e2) (strK_reads (fun y hy => a y (List.mem_cons_of_mem _ hy)) r2)
theorem atoms_nodict : ∀ xs : List V, PyData.hasDictAll (xs.map dataA) = false
  | [] => rfl
  | x :: xs => by
    show (PyData.hasDict (dataA x) || PyData.hasDictAll (xs.map dataA)) = false
    rw [atoms_nodict xs, Bool.or_false]
    cases x <;> rfl
section
variable {X : Cx} {pins : List (Addr × Obj)} {σ : L2.St} {H : Hp} {s : Shared}
theorem Flat.reads (I : L2.Inv X pins σ H s) {v : V} {d : PyData} {u : Value} (f : Flat X.K H v d) (r : RelV v u) : ∃ as, Reads s.heap u d as ∧ (d.hasDict = true → sysModules ∉ as) := by
  cases f with
  | atom h => exact ⟨[], atom_reads h r, fun _ => List.not_mem_nil⟩
  | tup h x l =>
    cases r
    obtain ⟨its, rv, ⟨o, ho, hc, n, hd⟩, _⟩ := I.tuple h
    exact ⟨[], Reads.tuple ho hc hd (atoms_reads x rv), fun _ => List.not_mem_nil⟩
  | lst h x l =>
    cases r
    obtain ⟨its, rv, ⟨o, n, ho, hc, _, hd⟩, _⟩ := I.list (SqL.of h)
    refine ⟨_, Reads.list ho hc hd (atoms_reads x rv), fun z => ?_⟩
    rw [show PyData.hasDict (.list _) = PyData.hasDictAll _ from rfl, atoms_nodict] at z
    cases z
  | dct h x nd l =>
    cases r
    obtain ⟨_, z, vs, rel, dd⟩ := dk_of I.hok h
    refine ⟨_, PyProof.V.reads_dictOf encK_reads dd (strK_reads x rel), fun _ m => ?_⟩
    rw [List.mem_singleton.mp m] at z
    simp at z
end
/-- what _law_error tells: flat data, or a pair of a text and flat data -/
inductive Rp (K : PySem.W.Frag) (H : Hp) : V → PyData → Prop where
  | flat {v : V} {d : PyData} (h : Flat K H v d) : Rp K H v d
  | pair {a : Addr} {x : Str} {v : V} {d : PyData} (h : SqT K H a [.str x, v]) (f : Flat K H v d) : Rp K H (.ref a) (.tuple [.str x, d])
theorem Rp.keep {K : PySem.W.Frag} {H H' : Hp} {v : V} {d : PyData} (h : Rp K H v d) (k : Same H H') : Rp K H' v d := by
  cases h with
  | flat h => exact .flat (h.keep k)
  | pair h f => exact .pair (SqT.keep h k) (f.keep k)
section
variable {X : Cx} {pins : List (Addr × Obj)} {σ : L2.St} {H : Hp} {s : Shared}
theorem Rp.reads (I : L2.Inv X pins σ H s) {v : V} {d : PyData} {u : Value} (f : Rp X.K H v d) (r : RelV v u) : ∃ as, Reads s.heap u d as ∧ (d.hasDict = true → sysModules ∉ as) := by
  cases f with
  | flat h => exact h.reads I r
  | @pair a y w e h f =>
    cases r
    obtain ⟨its, rv, ⟨o, ho, hc, n, hd⟩, _⟩ := I.tuple h
    cases rv with
    | cons r1 r2 =>
      cases r2 with
      | cons r2 r3 =>
        cases r3
        obtain ⟨t, rfl⟩ := r1
        obtain ⟨as, h1, h2⟩ := f.reads I r2
        have ra : ReadsAll s.heap [Value.str y t, _] [PyData.str y, e] ([] ++ (as ++ [])) := ReadsAll.cons (.str y t) (ReadsAll.cons h1 .nil)
        rw [List.nil_append, List.append_nil] at ra
        refine ⟨as, Reads.tuple ho hc hd ra, fun z => h2 ?_⟩
        have e2 : PyData.hasDict (.tuple [.str y, e]) = (false || (PyData.hasDict e || false)) := rfl
        rw [e2, Bool.false_or, Bool.or_false] at z
        exact z
/-- repr(x) of such data: its text -/
def rReprX (K : PySem.W.Frag) : List V → Hp → VK → Prop := fun xs H Q => ∃ (x : V) (d : PyData), xs = [x] ∧ Rp K H x d ∧ d.showable = true ∧ d.depth ≤ 60 ∧ d.shown.length ≤ sizeLine ∧ Q (.str d.shown) H
theorem call_reprX {k : Nat} (hr : Quiet k X.A) : CallR X (.builtin "repr") (rReprX X.K) := by
  intro pins s σ H xs us Q I r h
  obtain ⟨x, d, rfl, hd, hs, hdep, hz, q⟩ := h
  obtain ⟨u, rfl, ru⟩ := vals1 r
  have hun := hr.room.un
  obtain ⟨as, R, hsm⟩ := Rp.reads I hd ru
  have big : ∀ a, u = Value.ref a → wpAny (model X.prog X.w) X.A (call (.builtin "repr") [u]) (EP X pins σ Q) X.xe s := fun a e => by
    subst e
    refine repr_of_reads' R hs hsm hr.gd (by omega) (fun _ _ e => e) (fun h' u tk hk => ?_) hz
    exact ⟨.str d.shown, H, I.kept (t' := tk) hk, ⟨u, rfl⟩, q⟩
  cases hd with
  | pair _ _ => exact big _ ru
  | flat f =>
    cases f with
    | tup _ _ _ => exact big _ ru
    | lst _ _ _ => exact big _ ru
    | dct _ _ _ _ => exact big _ ru
    | atom a =>
      cases x with
      | non =>
        cases (show u = Value.none from ru)
        exact P.repr_of_none ⟨.str PyData.none.shown, H, I.tok _, ⟨_, rfl⟩, q⟩
      | bl b =>
        cases (show u = Value.bool b from ru)
        refine P.repr_of_bool ⟨.str (PyData.bool b).shown, H, I.tok _, ⟨s.toks, ?_⟩, q⟩
        cases b <;> rfl
      | int i =>
        obtain ⟨t, rfl⟩ := (show ∃ t, u = Value.int i t from ru)
        exact P.repr_of_int (of_decide_eq_true hs) ⟨.str (PyData.int i).shown, H, I.tok _, ⟨_, rfl⟩, q⟩
      | str y =>
        obtain ⟨t, rfl⟩ := (show ∃ t, u = Value.str y t from ru)
        exact P.repr_of_str ⟨.str (PyData.str y).shown, H, I.tok _, ⟨_, rfl⟩, q⟩ hz
      | _ => cases a
end
end Bo

set_option Elab.async false
set_option linter.all false
set_option maxRecDepth 100000
set_option maxHeartbeats 8000000
namespace Bo
open PySem L2
/-! ### a letter of a text -/
def spPickS : Sp := fun vs H Q _ => ∃ (t c : Addr) (cs : List Int) (p l : Int) (z : Str), vs = [.ref t, .str z] ∧ Tape H t c cs p l ∧ 0 < z.cps.toList.length ∧ z.cps.toList.length ≤ 1000000 ∧ p < 1000000000000 ∧
  ∀ (u : Nat) (p' l' : Int) (H' : Hp), u ∈ z.cps.toList → p ≤ p' → p' ≤ p + 1 → Tape H' t c cs p' l' → But t H H' → Q (.str ⟨#[u]⟩) H'
section
variable {P : Program} {w : World} {K : PySem.W.Frag} {mg : Str → Option Value} {base : Heap}
theorem ok_pickS {f fD : Addr} {fd fdD : FuncData} (F : Fun K "_law_pick" "_law_pick" sPick f fd) (T : TxtB mg) (G : FnOk P w K mg base CX0 1 fD fdD ["_law_tape", "_law_many"] spDraw) (mD : mg "_law_draw" = some (.ref fD)) (kD : PySem.W.keepIn K (.ref fD) = true) (bD : Binds K fdD ["_law_tape", "_law_many"] []) :
    FnOk P w K mg base CX0 2 f fd ["_law_tape", "_law_items"] spPickS := by
  refine F.ok scP (fun vs H Q E h => ?_) (fun cdv A outer s H vs Q E hr h => ?_)
  · obtain ⟨t, c, cs, p, l, z, rfl, _⟩ := h
    rfl
  · obtain ⟨t, c, cs, p, l, z, rfl, hT, hn, hx, hp, k⟩ := h
    have hsz : z.length = z.cps.toList.length := (Array.length_toList (xs := z.cps)).symm
    refine ⟨_, pss_one (ps_ret (pe_ix ix_str (pv 1) (pe_call G hr rfl mD kD bD .nil pass0 (pa_cons (pv 0) (pa_cons (pe_callB call_len_str (by rfl) T.len PySem.boot_len (pa_cons (pv 1) pa_nil)) pa_nil))) (fun _ _ => rfl))), ?_⟩
    refine ⟨_, rfl, _, rfl, _, rfl, z, rfl, by rw [sizeLine_eq]; omega, t, c, cs, p, l, _, rfl, hT, by omega, by omega, hp, fun r p' l' H' h0 h1 a1 a2 hT' hB => ?_⟩
    obtain ⟨i, rfl⟩ : ∃ i : Nat, r = (i : Int) := ⟨r.toNat, by omega⟩
    have hi : i < z.cps.toList.length := by omega
    exact ⟨z, _, _, rfl, rfl, by rw [sizeLine_eq]; omega, atI_nat (List.getElem?_eq_getElem hi), k _ p' l' H' (List.getElem_mem hi) a1 a2 hT' hB⟩
end
theorem op_mulTx {X : Cx} : OpR X (binaryOp .Mult) (fun x y H Q => ∃ a n, x = .str a ∧ y = .int n ∧ MulOk a n ∧ Q (.str (Txt.mul a n)) H) := by
  intro pins s σ H x y v u Q I rx ry h
  obtain ⟨a, n, rfl, rfl, hm, q⟩ := h
  obtain ⟨t, rfl⟩ := rx
  obtain ⟨t', rfl⟩ := ry
  exact SB.mul hm fun t' tk => ⟨.str (Txt.mul a n), H, I.tok _, ⟨_, rfl⟩, q⟩
/-! ### what _law_thing gives -/
structure TxtOk (x : Str) : Prop where
  l : x.cps.toList.length ≤ 20
  c : ∀ u ∈ x.cps.toList, u < 128
structure Thg (K : PySem.W.Frag) (H : Hp) (v : V) (d : PyData) : Prop where
  f : Flat K H v d
  t : ∀ x, v = .str x → TxtOk x
  s : d.showable = true
  p : d.depth ≤ 5
  z : d.shown.length ≤ 1000
  o : d.hasDict = false → SeqAt.shaped d = true
theorem Thg.keep {K : PySem.W.Frag} {H H' : Hp} {v : V} {d : PyData} (h : Thg K H v d) (k : Same H H') : Thg K H' v d := ⟨h.f.keep k, h.t, h.s, h.p, h.z, h.o⟩
theorem Flat.but {K : PySem.W.Frag} {H H' : Hp} {v : V} {d : PyData} {t : Addr} (h : Flat K H v d) (n : v ≠ .ref t) (b : But t H H') : Flat K H' v d := by
  have n' : ∀ a, v = .ref a → a ≠ t := fun a e z => n (by rw [e, z])
  cases h with
  | atom h => exact .atom h
  | tup h x l =>
    refine .tup ?_ x l
    rcases h with (h | ⟨o, h⟩) | h
    · exact .inl (.inl (b _ _ h (n' _ rfl)))
    · exact .inl (.inr ⟨o, b _ _ h (n' _ rfl)⟩)
    · exact .inr h
  | lst h x l => exact .lst (b _ _ h (n' _ rfl)) x l
  | dct h x nd l => exact .dct (b _ _ h (n' _ rfl)) x nd l
theorem txt_thg {K : PySem.W.Frag} {H : Hp} {x : Str} (h : TxtOk x) : Thg K H (.str x) (.str x) := by
  refine ⟨.atom (v := .str x) rfl, fun y e => by cases e; exact h, rfl, by show 0 ≤ 5; decide, ?_, fun _ => ?_⟩
  rotate_left
  · show (PyData.strOk x && decide (0 ≤ 64)) = true
    rw [Bool.and_eq_true]
    refine ⟨?_, rfl⟩
    show Array.all _ _ = true
    rw [← Array.all_toList, List.all_eq_true]
    intro u hu
    have := h.c u hu
    exact decide_eq_true (by omega)
  have h1 := PySem.StrLaws.reprText_len x fun c hc => Nat.lt_of_lt_of_le (h.c c hc) (by decide)
  have h2 : x.length = x.cps.toList.length := (Array.length_toList (xs := x.cps)).symm
  have h3 := h.l
  show (reprText x).length ≤ 1000
  omega
theorem atom_thg {K : PySem.W.Frag} {H : Hp} {v : V} (h : atomV v = true) (n : ∀ x, v ≠ .str x) (s : (dataA v).showable = true) (z : (dataA v).shown.length ≤ 1000) : Thg K H v (dataA v) := by
  refine ⟨.atom h, fun x e => absurd e (n x), s, ?_, z, fun _ => ?_⟩
  · cases v <;> (show 0 ≤ 5; decide)
  · cases v with
    | str x => exact absurd rfl (n x)
    | _ => rfl
theorem cat_ok {x y : Str} (h1 : ∀ u ∈ x.cps.toList, u < 128) (h2 : ∀ u ∈ y.cps.toList, u < 128) (l : x.cps.toList.length + y.cps.toList.length ≤ 20) : TxtOk (x ++ y) := by
  have e : (x ++ y).cps.toList = x.cps.toList ++ y.cps.toList := Array.toList_append
  refine ⟨by rw [e, List.length_append]; exact l, fun u hu => ?_⟩
  rw [e] at hu
  rcases List.mem_append.mp hu with z | z
  · exact h1 u z
  · exact h2 u z
end Bo

set_option Elab.async false
set_option linter.all false
set_option maxRecDepth 100000
set_option maxHeartbeats 8000000
namespace Bo
open PySem L2
def both : Str := Str.ofString "abcdefghijklmnopqrstuvwxyz0123456789"
theorem both_eq : both.cps.toList = lets.cps.toList ++ digs.cps.toList := by decide +kernel
theorem lets_eq : lets.cps.toList = List.range' 97 26 := by decide +kernel
theorem both_sign (c : Nat) : decide (c ∈ both.cps.toList) = isSign c := by
  unfold isSign
  rw [both_eq]
  by_cases h1 : c ∈ lets.cps.toList
  · rw [decide_eq_true (List.mem_append.mpr (.inl h1)), decide_eq_true h1, Bool.true_or]
  · by_cases h2 : c ∈ digs.cps.toList
    · rw [decide_eq_true (List.mem_append.mpr (.inr h2)), decide_eq_true h2, Bool.or_true]
    · rw [decide_eq_false (fun z => (List.mem_append.mp z).elim h1 h2), decide_eq_false h1, decide_eq_false h2, Bool.or_false]
theorem isLet_eq (c : Nat) : isLet c = decide (97 ≤ c ∧ c ≤ 122) := by
  unfold isLet
  rw [lets_eq]
  by_cases h : 97 ≤ c ∧ c ≤ 122
  · rw [decide_eq_true h, decide_eq_true (List.mem_range'_1.mpr ⟨h.1, by omega⟩)]
  · rw [decide_eq_false h, decide_eq_false (fun z => h ⟨(List.mem_range'_1.mp z).1, by have := (List.mem_range'_1.mp z).2; omega⟩)]
def oneTx (c : Nat) : V := V.str ⟨#[c]⟩
def oneD (c : Nat) : PyData := .str ⟨#[c]⟩
theorem ones_dp {K : PySem.W.Frag} {H : Hp} : ∀ cs : List Nat, DpAll K H (cs.map oneTx) (cs.map oneD)
  | [] => .nil
  | c :: cs => .cons (.str _) (ones_dp cs)
theorem ones_lay : ∀ {cs : List Nat}, (∀ c ∈ cs, c < 128) → PyData.canLayAll0 (cs.map oneD) = true
  | [], _ => rfl
  | c :: cs, h => by
    show (PyData.strOk ⟨#[c]⟩ && PyData.canLayAll0 (cs.map oneD)) = true
    rw [ones_lay fun x hx => h x (List.mem_cons_of_mem _ hx), Bool.and_true]
    have hc := h c List.mem_cons_self
    unfold PyData.strOk
    simp
    omega
theorem ones_depth : ∀ cs : List Nat, PyData.depthAll (cs.map oneD) = 0
  | [] => rfl
  | c :: cs => by
    show max (PyData.depth (oneD c)) (PyData.depthAll (cs.map oneD)) = 0
    rw [ones_depth cs]
    rfl
theorem ones_shaped {cs : List Nat} (h : ∀ c ∈ cs, c < 128) : SeqAt.shaped (.list (cs.map oneD)) = true := by
  show (PyData.canLayAll0 (cs.map oneD) && decide (PyData.depthAll (cs.map oneD) + 1 ≤ 64)) = true
  rw [ones_lay h, ones_depth]
  rfl
theorem ones_none : ∀ cs : List Nat, PyData.eqv (.list (cs.map oneD)) (.list []) = cs.isEmpty
  | [] => by simp [PyData.eqv, PyData.eqvAll]
  | c :: cs => by simp [PyData.eqv, PyData.eqvAll]
def oneS (c : Nat) : Str := ⟨#[c]⟩
theorem ones_map (us : List Nat) : us.map oneTx = (us.map oneS).map V.str := by
  rw [List.map_map]
  rfl
theorem ones_join (us : List Nat) : (Txt.join (Str.ofString "") (us.map oneS)).cps.toList = us := by
  have h := PySem.StrLaws.glued_eq_join (Str.ofString "") (us.map oneS)
  show (Builtin.Str.glued (Str.ofString "") (us.map oneS)).cps.toList = us
  unfold Builtin.Str.glued
  have key : ∀ (l : List Nat) (acc : Array Nat), ((l.map oneS).foldl (fun acc p => acc ++ (Str.ofString "").cps ++ p.cps) acc).toList = acc.toList ++ l := by
    intro l
    induction l with
    | nil => intro acc; simp
    | cons c l ih =>
      intro acc
      rw [List.map_cons, List.foldl_cons, ih]
      have e : (Str.ofString "").cps = #[] := rfl
      rw [e]
      simp [oneS]
  cases us with
  | nil => rfl
  | cons c l =>
    show ((l.map oneS).foldl (fun acc p => acc ++ (Str.ofString "").cps ++ p.cps) (oneS c).cps).toList = _
    rw [key]
    rfl
theorem ones_sum : ∀ us : List Nat, ((us.map oneS).map (·.length)).sum = us.length
  | [] => rfl
  | c :: us => by
    rw [List.map_cons, List.map_cons, List.sum_cons, ones_sum us]
    show 1 + us.length = us.length + 1
    omega
theorem cut_mem {z : Str} {lo hi : Option Int} {u : Nat} (h : u ∈ (cutS z lo hi).cps.toList) : u ∈ z.cps.toList := by
  unfold cutS at h
  rw [List.toList_toArray] at h
  exact List.mem_of_mem_drop (List.mem_of_mem_take h)
theorem cut_len (z : Str) (lo hi : Option Int) : (cutS z lo hi).cps.toList.length ≤ z.cps.toList.length := by
  have := cutS_length z lo hi
  rw [show (cutS z lo hi).length = (cutS z lo hi).cps.toList.length from (Array.length_toList (xs := (cutS z lo hi).cps)).symm, show z.length = z.cps.toList.length from (Array.length_toList (xs := z.cps)).symm] at this
  exact this
theorem str_app (x y : Str) : (x ++ y).cps.toList = x.cps.toList ++ y.cps.toList := Array.toList_append
theorem str_len (x : Str) : x.length = x.cps.toList.length := (Array.length_toList (xs := x.cps)).symm
theorem lets_ok : ∀ u ∈ lets.cps.toList, u < 128 := by decide +kernel
theorem both_ok : ∀ u ∈ both.cps.toList, u < 128 := by decide +kernel
end Bo

set_option Elab.async false
set_option linter.all false
set_option maxRecDepth 100000
set_option maxHeartbeats 4000000
/-! the one sorted order of texts -/
namespace Bo
open PySem PySem.Spec PyProof.Rows
def leT (a b : Str) : Bool := !ltCps b.cps.toList a.cps.toList
theorem leT_iff {a b : Str} : leT a b = true ↔ a.cps.toList ≤ b.cps.toList := by
  unfold leT
  rw [ltCps_eq, Bool.not_eq_true', decide_eq_false_iff_not]
  exact List.not_lt
theorem str_ext {x y : Str} (h : x.cps.toList = y.cps.toList) : x = y := by
  cases x; cases y
  congr 1
  exact Array.toList_inj.mp h
theorem leT_trans {a b c : Str} (h1 : leT a b = true) (h2 : leT b c = true) : leT a c = true := leT_iff.mpr (List.le_trans (leT_iff.mp h1) (leT_iff.mp h2))
theorem leT_total (a b : Str) : (leT a b || leT b a) = true := by
  rw [Bool.or_eq_true, leT_iff, leT_iff]
  exact List.le_total _ _
theorem leT_anti {a b : Str} (h1 : leT a b = true) (h2 : leT b a = true) : a = b := str_ext (List.le_antisymm (leT_iff.mp h1) (leT_iff.mp h2))
def srt (xs : List Str) : List Str := xs.mergeSort leT
theorem srt_perm (xs : List Str) : (srt xs).Perm xs := List.mergeSort_perm _ _
theorem srt_pair (xs : List Str) : (srt xs).Pairwise fun a b => leT a b = true := List.pairwise_mergeSort (le := leT) (fun a b c h1 h2 => leT_trans (a := a) (b := b) (c := c) h1 h2) (fun a b => leT_total a b) xs
theorem risingS_pair : ∀ {p : Str} {l : List Str}, risingS p l = true → (p :: l).Pairwise fun a b => leT a b = true
  | p, [], _ => List.pairwise_singleton _ _
  | p, x :: r, h => by
    have h : (leT p x && risingS x r) = true := h
    rw [Bool.and_eq_true] at h
    have ih := risingS_pair h.2
    refine List.pairwise_cons.mpr ⟨fun y hy => ?_, ih⟩
    rcases List.mem_cons.mp hy with e | e
    · rw [e]; exact h.1
    · exact leT_trans h.1 ((List.pairwise_cons.mp ih).1 y e)
theorem sortedS_pair : ∀ {l : List Str}, sortedS l = true → l.Pairwise fun a b => leT a b = true
  | [], _ => .nil
  | x :: r, h => risingS_pair h
theorem pair_sortedS {l : List Str} (h : l.Pairwise fun a b => leT a b = true) : sortedS l = true := sortedS_of_pairwise l (h.imp fun {a b} q => by
  unfold leT at q
  simpa using q)
theorem sort_one : ∀ {l m : List Str}, l.Pairwise (fun a b => leT a b = true) → m.Pairwise (fun a b => leT a b = true) → l.Perm m → l = m
  | [], m, _, _, p => (p.symm.eq_nil).symm
  | x :: l, [], _, _, p => absurd p.eq_nil (by simp)
  | x :: l, y :: m, h1, h2, p => by
    have e : x = y := by
      have a1 : x ∈ y :: m := p.mem_iff.mp List.mem_cons_self
      have a2 : y ∈ x :: l := p.mem_iff.mpr List.mem_cons_self
      rcases List.mem_cons.mp a1 with e | e
      · exact e
      · rcases List.mem_cons.mp a2 with e2 | e2
        · exact e2.symm
        · exact leT_anti ((List.pairwise_cons.mp h1).1 y e2) ((List.pairwise_cons.mp h2).1 x e)
    subst e
    rw [sort_one (List.pairwise_cons.mp h1).2 (List.pairwise_cons.mp h2).2 (List.perm_cons x |>.mp p)]
/-- a sorted arrangement is the sorted one -/
theorem srt_of {zs xs : List Str} (p : zs.Perm xs) (h : sortedS zs = true) : zs = srt xs := sort_one (sortedS_pair h) (srt_pair xs) (p.trans (srt_perm xs).symm)
theorem srt_eq {xs ys : List Str} (p : xs.Perm ys) : srt xs = srt ys := sort_one (srt_pair _) (srt_pair _) ((srt_perm xs).trans (p.trans (srt_perm ys).symm))
theorem srt_sorted (xs : List Str) : sortedS (srt xs) = true := pair_sortedS (srt_pair xs)
theorem srt_mem {x : Str} {xs : List Str} : x ∈ srt xs ↔ x ∈ xs := (srt_perm xs).mem_iff
theorem srt_len (xs : List Str) : (srt xs).length = xs.length := (srt_perm xs).length_eq
end Bo

set_option Elab.async false
set_option linter.all false
set_option maxRecDepth 100000
set_option maxHeartbeats 8000000
namespace Bo
open PySem L2
abbrev sShuf : Stmt := top 66
theorem txts_dp {K : PySem.W.Frag} {H : Hp} : ∀ ys : List Str, DpAll K H (ys.map V.str) (ys.map PyData.str)
  | [] => .nil
  | y :: ys => .cons (.str y) (txts_dp ys)
theorem txts_lay : ∀ {ys : List Str}, (∀ y ∈ ys, PyData.strOk y = true) → PyData.canLayAll0 (ys.map PyData.str) = true
  | [], _ => rfl
  | y :: ys, h => by
    show (PyData.strOk y && PyData.canLayAll0 (ys.map PyData.str)) = true
    rw [h y List.mem_cons_self, txts_lay fun x hx => h x (List.mem_cons_of_mem _ hx)]
    rfl
theorem txts_flat : ∀ ys : List Str, PyData.depthAll (ys.map PyData.str) = 0
  | [] => rfl
  | y :: ys => by
    show max 0 (PyData.depthAll (ys.map PyData.str)) = 0
    rw [txts_flat ys]
    rfl
theorem txts_shaped {ys : List Str} (h : ∀ y ∈ ys, PyData.strOk y = true) : SeqAt.shaped (.list (ys.map PyData.str)) = true := by
  show (PyData.canLayAll0 (ys.map PyData.str) && decide (PyData.depthAll (ys.map PyData.str) + 1 ≤ 64)) = true
  rw [txts_lay h, txts_flat]
  rfl
theorem txts_none (ys : List Str) : PyData.eqv (.list (ys.map PyData.str)) (.list []) = ys.isEmpty := by
  cases ys with
  | nil => simp [PyData.eqv, PyData.eqvAll]
  | cons y ys => simp [PyData.eqv, PyData.eqvAll]
theorem Tape.off {H : Hp} {t c D : Addr} {cs : List Int} {p l : Int} {o : HO} (T : Tape H t c cs p l) (n : D ≠ t) (m : c ≠ D) : Tape (upd H D o) t c cs p l := ⟨by rw [upd_ne n.symm]; exact T.d, by rw [upd_ne m]; exact T.c, T.n, T.m, T.p0, T.l0⟩
theorem erase_map {α β : Type} (f : α → β) : ∀ (l : List α) (i : Nat), (l.map f).eraseIdx i = (l.eraseIdx i).map f
  | [], _ => rfl
  | _ :: _, 0 => rfl
  | x :: l, i + 1 => congrArg (f x :: ·) (erase_map f l i)
theorem erase_perm {α : Type} : ∀ {l : List α} {i : Nat} (h : i < l.length), ([l[i]] ++ l.eraseIdx i).Perm l
  | x :: l, 0, _ => List.Perm.refl _
  | x :: l, i + 1, h => by
    have q := erase_perm (l := l) (i := i) (Nat.lt_of_succ_lt_succ h)
    exact (List.Perm.swap x _ _).trans (q.cons x)
/-- the items in any order -/
def spShuf (K : PySem.W.Frag) : Sp := fun vs H Q _ => ∃ (t c a : Addr) (cs : List Int) (p l : Int) (xs : List Str), vs = [.ref t, .ref a] ∧ Tape H t c cs p l ∧ (SqL K H a (xs.map V.str) ∨ SqT K H a (xs.map V.str)) ∧ (∀ x ∈ xs, PyData.strOk x = true) ∧ xs.length ≤ 1000 ∧ p + xs.length < 100000000000 ∧
  ∀ (q : Addr) (ys : List Str) (p' l' : Int) (H' : Hp), ys.Perm xs → H q = none → H' q = some (.lst (ys.map V.str)) → p ≤ p' → p' ≤ p + xs.length → Tape H' t c cs p' l' → But t H H' → Q (.ref q) H'
structure TxtSh (mg : Str → Option Value) : Prop where
  len : mg "len" = none
  lst : mg "list" = none
section
variable {P : Program} {w : World} {K : PySem.W.Frag} {mg : Str → Option Value} {base : Heap}
theorem scSh : FnScope ["_law_tape", "_law_items", "_law_left", "_law_found"] ["_law_tape", "_law_items"] (defScope sShuf) := ⟨rfl, rfl, rfl, by decide +kernel, rfl, by decide +kernel, by decide +kernel⟩
theorem ok_shuf {f fD : Addr} {fd fdD : FuncData} (F : Fun K "_law_shuffled" "_law_shuffled" sShuf f fd) (T : TxtSh mg) (GD : FnOk P w K mg base CX0 1 fD fdD ["_law_tape", "_law_many"] spDraw) (mD : mg "_law_draw" = some (.ref fD)) (kD : PySem.W.keepIn K (.ref fD) = true) (bD : Binds K fdD ["_law_tape", "_law_many"] []) :
    FnOk P w K mg base CX0 2 f fd ["_law_tape", "_law_items"] (spShuf K) := by
  refine F.ok scSh (fun vs H Q E h => ?_) (fun cdv A outer s H vs Q E hr h => ?_)
  · obtain ⟨t, c, a, cs, p, l, xs, rfl, _⟩ := h
    rfl
  · obtain ⟨t, c, a, cs, p, l, xs, rfl, hT, hS, hok, hl, hp, k⟩ := h
    have hu64 : (A.deeper (PyProof.Rows.envOfC "_law_shuffled" (defScope sShuf) s.heap.objs.size f cdv)).units + 64 < cLine := by have := hr.un; omega
    refine ⟨_, pss_cons (ps_par (i := 2) (j := 3) (by rfl) scSh.nd rfl rfl (by decide) rfl rfl (pa_cons (pe_callTy call_list_of (by rfl) T.lst (by decide +kernel) (pa_cons (pv 1) pa_nil)) (pa_cons (pe_lst pa_nil) pa_nil)) (by rfl))
      (pss_cons (ps_while PassesOwn.never (pt_cmpR (op_neD hu64) (pv 2) (pe_lst pa_nil) (nomark _))
        (pss_one (ps_expr (pe_bm PySem.F.plainAttrs_list PySem.F.slot_list_append PySem.F.type_list_append mt_append (pv 3) (pa_cons
          (pe_bm PySem.F.plainAttrs_list PySem.F.slot_list_pop PySem.F.type_list_pop mt_popAt (pv 2) (pa_cons (pe_call GD hr rfl mD kD bD .nil pass0 (pa_cons (pv 0) (pa_cons (pe_callB call_len_seq (by rfl) T.len PySem.boot_len (pa_cons (pv 2) pa_nil)) pa_nil))) pa_nil)) pa_nil)))))
      (pss_one (ps_ret (pv 3)))), ?_⟩
    refine ⟨_, rfl, a, _, rfl, hS, fun L hL => ⟨by decide, fun Fd hFd => ⟨_, _, rfl, ?_⟩⟩⟩
    have eL : (upd (upd H L (.lst (xs.map V.str))) Fd (.lst [])) L = some (.lst (xs.map V.str)) := same_new hFd _ _ upd_same
    have LF : L ≠ Fd := fun z => by rw [← z, upd_same] at hFd; cases hFd
    have hF0 : H Fd = none := by rw [upd_ne LF.symm] at hFd; exact hFd
    have tL : L ≠ t := fun z => by rw [z, hT.d] at hL; cases hL
    have tF : Fd ≠ t := fun z => by rw [z, hT.d] at hF0; cases hF0
    have cL : c ≠ L := ne_of_none hT.c hL
    have cF : c ≠ Fd := ne_of_none hT.c hF0
    have s0 : Same H (upd (upd H L (.lst (xs.map V.str))) Fd (.lst [])) := (same_new hL).trans (same_new hFd)
    refine while_by (fun σ H' => ∃ (ls fs : List Str) (p' l' : Int), σ = [some (.ref t), some (.ref a), some (.ref L), some (.ref Fd)] ∧ H' L = some (.lst (ls.map V.str)) ∧ H' Fd = some (.lst (fs.map V.str)) ∧ (fs ++ ls).Perm xs ∧ Tape H' t c cs p' l' ∧ p ≤ p' ∧ p' ≤ p + fs.length ∧ But t H H')
      (fun _ H' => match H' L with | some (.lst ys) => ys.length | _ => 0) ⟨xs, [], p, l, rfl, eL, upd_same, List.Perm.refl _, hT.keep s0, Int.le_refl _, by simp, fun b o e _ => s0 b o e⟩ ?_ ?_
    · rintro σ H1 ⟨ls, fs, p1, l1, rfl, hL1, hF1, hpm, hT1, a1, b1, hB1⟩
      have hlen := hpm.length_eq
      rw [List.length_append] at hlen
      have hlo : ∀ y ∈ ls, PyData.strOk y = true := fun y hy => hok y (hpm.mem_iff.mp (List.mem_append_right _ hy))
      refine ⟨_, rfl, by decide, fun e he => ⟨.list (ls.map PyData.str), .list [], .lst (SqL.of (same_new he _ _ hL1)) (txts_dp ls), .lst (SqL.of upd_same) .nil, txts_shaped hlo, rfl, _, rfl, ?_⟩⟩
      have k1 : Same H1 (upd H1 e (.lst [])) := same_new he
      have nBe : ∀ b o, H b = some o → b ≠ t → (upd H1 e (.lst [])) b = some o := fun b o e2 n => k1 _ _ (hB1 b o e2 n)
      have hT1' := hT1.keep k1
      have hL1' := k1 _ _ hL1
      have hF1' := k1 _ _ hF1
      generalize upd H1 e (.lst []) = H2 at k1 nBe hT1' hL1' hF1' ⊢
      rw [txts_none]
      cases ls with
      | nil =>
        refine iteF ⟨_, rfl, k Fd fs p1 l1 H2 (by rw [List.append_nil] at hpm; exact hpm) hF0 hF1' a1 (Int.le_trans b1 (by have e : fs.length = xs.length := (Nat.add_zero _).symm.trans hlen; rw [e]; exact Int.le_refl _)) hT1' nBe⟩
      | cons y0 ls0 =>
        refine iteT ?_
        refine ⟨_, rfl, .inl ⟨rfl, _, SqL.of hF1'⟩, _, rfl, .inl ⟨rfl, _, SqL.of hL1'⟩, _, rfl, _, rfl, L, _, rfl, .inl (SqL.of hL1'), t, c, cs, p1, l1, _, rfl, hT1', by simp, ?_, by omega, fun r p2 l2 H3 r0 r1 a2 b2 hT3 hB3 => ?_⟩
        · simp at hlen ⊢
          omega
        have hL3 := hB3 _ _ hL1' tL
        have hF3 := hB3 _ _ hF1' tF
        obtain ⟨i, rfl⟩ : ∃ i : Nat, r = (i : Int) := ⟨r.toNat, by omega⟩
        have hi : i < (y0 :: ls0).length := by
          rw [List.length_map] at r1
          omega
        have hget : ((y0 :: ls0).map V.str)[i]? = some (V.str ((y0 :: ls0)[i])) := by
          rw [List.getElem?_map, List.getElem?_eq_getElem hi]
          rfl
        have hsi : seqIndex? (i : Int) ((y0 :: ls0).map V.str).length = some i := by
          unfold seqIndex?
          rw [List.length_map]
          have h1 : ¬ ((i : Int) < 0) := by omega
          simp only [h1, if_false]
          have h2 : (decide (0 ≤ (i : Int)) && decide ((i : Int) < ((y0 :: ls0).length : Nat))) = true := by
            rw [Bool.and_eq_true, decide_eq_true_eq, decide_eq_true_eq]
            omega
          rw [if_pos h2]
          rfl
        refine ⟨L, _, (i : Int), i, _, rfl, rfl, hL3, by omega, by simp at hlen; simp at hi; omega, hsi, hget, Fd, _, _, rfl, rfl, by rw [upd_ne LF.symm]; exact hF3, ?_, ?_, ?_⟩
        · rw [List.length_map, sizeLine_eq]
          omega
        · refine ⟨(y0 :: ls0).eraseIdx i, fs ++ [(y0 :: ls0)[i]], p2, l2, rfl, ?_, ?_, ?_, ?_, by omega, ?_, fun b o e2 n => ?_⟩
          · rw [upd_ne LF, upd_same, erase_map]
          · rw [upd_same, List.map_append]
            rfl
          · refine List.Perm.trans ?_ hpm
            rw [List.append_assoc]
            exact List.Perm.append_left fs (erase_perm hi)
          · exact (hT3.off tL cL).off tF cF
          · rw [List.length_append]
            show p2 ≤ p + ((fs.length + 1 : Nat) : Int)
            omega
          · have e3 := hB3 b o (nBe b o e2 n) n
            rw [upd_ne (ne_of_none e2 hF0), upd_ne (ne_of_none e2 hL)]
            exact e3
        · show (match (upd (upd H3 L _) Fd _) L with | some (HO.lst ys) => ys.length | _ => 0) < (match H1 L with | some (HO.lst ys) => ys.length | _ => 0)
          rw [upd_ne LF, upd_same, hL1]
          show (((y0 :: ls0).map V.str).eraseIdx i).length < ((y0 :: ls0).map V.str).length
          rw [List.length_eraseIdx_of_lt (by rw [List.length_map]; exact hi), List.length_map]
          simp
    · intro σ H1 Q1 Q2 hq h
      obtain ⟨x, e, z, f⟩ := h
      exact ⟨x, e, z, fun q hq0 => let ⟨d, e', h1, h2, h3, h4, kk, hk, q'⟩ := f q hq0; ⟨d, e', h1, h2, h3, h4, kk, hk, hq _ _ q'⟩⟩
end
end Bo

set_option Elab.async false
set_option linter.all false
set_option maxRecDepth 100000
set_option maxHeartbeats 8000000
namespace Bo
open PySem L2
abbrev sNames : Stmt := top 67
abbrev nNm : List Str := ["_law_tape", "_law_many", "_law_letters", "_law_k", "_law_stem", "_law_place", "_law_first", "_law_cut", "_law_step", "_law_found", "_law_front", "_law_back"]
/-- different names -/
def spNames : Sp := fun vs H Q _ => ∃ (t c : Addr) (cs : List Int) (p l m : Int), vs = [.ref t, .int m] ∧ Tape H t c cs p l ∧ 0 ≤ m ∧ m ≤ 26 ∧ p + 20 < 100000000000 ∧
  ∀ (q : Addr) (ys : List Str) (p' l' : Int) (H' : Hp), H q = none → H' q = some (.lst (ys.map V.str)) → ys.length = m.toNat → ys.Nodup → (∀ y ∈ ys, nameOk y = true ∧ TxtOk y) → p ≤ p' → p' ≤ p + 20 → Tape H' t c cs p' l' → But t H H' → Q (.ref q) H'
def lets26 : List Nat := List.range' 97 26
theorem lets26_eq : lets.cps.toList = lets26 := by decide +kernel
theorem let_at {j : Nat} (h : j < 26) : lets.cps.toList[j]? = some (97 + j) := by
  rw [lets26_eq]
  unfold lets26
  rw [List.getElem?_range' h]
  simp
def steps : List Int := [1, 3, 5, 7, 9, 11, 15, 17, 19, 21, 23, 25]
theorem steps_inj {s f : Int} (hs : s ∈ steps) {k k' : Nat} (h1 : k < 26) (h2 : k' < 26) (e : (f + s * (k : Int)) % 26 = (f + s * (k' : Int)) % 26) : k = k' := by
  unfold steps at hs
  simp only [List.mem_cons, List.not_mem_nil, or_false] at hs
  rcases hs with rfl | rfl | rfl | rfl | rfl | rfl | rfl | rfl | rfl | rfl | rfl | rfl <;> omega
/-- the name of turn k -/
def nameAt (front back : List Nat) (f s : Int) (cut : Bool) (k : Nat) : List Nat := front ++ ((97 + ((f + s * (k : Int)) % 26).toNat) :: (if cut then back.take (k % 3) else back))
theorem nameAt_inj {front back : List Nat} {f s : Int} {cut : Bool} (hs : s ∈ steps) {k k' : Nat} (h1 : k < 26) (h2 : k' < 26) (e : nameAt front back f s cut k = nameAt front back f s cut k') : k = k' := by
  have e2 := List.append_cancel_left e
  injection e2 with e3 _
  refine steps_inj (f := f) hs h1 h2 ?_
  have a := Int.emod_nonneg (f + s * (k : Int)) (show (26 : Int) ≠ 0 by decide)
  have b := Int.emod_nonneg (f + s * (k' : Int)) (show (26 : Int) ≠ 0 by decide)
  omega
theorem But.same {t : Addr} {H H' : Hp} (h : Same H H') : But t H H' := fun q o e _ => h q o e
theorem sign_let {c : Nat} (h : c ∈ lets.cps.toList) : isSign c = true := by
  unfold isSign
  rw [decide_eq_true h]
  rfl
theorem sign_both {c : Nat} (h : c ∈ (lets ++ digs).cps.toList) : isSign c = true := by
  rw [str_app] at h
  unfold isSign
  rcases List.mem_append.mp h with z | z
  · rw [decide_eq_true z]; rfl
  · rw [decide_eq_true z, Bool.or_true]
theorem sign_small : ∀ {c : Nat}, isSign c = true → c < 128 := fun {c} h => by
  unfold isSign at h
  rw [Bool.or_eq_true, decide_eq_true_eq, decide_eq_true_eq] at h
  rcases h with z | z
  · exact lets_ok c z
  · exact both_ok c (by rw [both_eq]; exact List.mem_append_right _ z)
theorem let_mem {j : Nat} (h : j < 26) : 97 + j ∈ lets.cps.toList := List.mem_of_getElem? (let_at h)
/-- a list of signs that begins with a letter -/
theorem name_of {l : List Nat} (h1 : 1 ≤ l.length) (h2 : l.length ≤ 8) (h3 : ∃ c, l.head? = some c ∧ c ∈ lets.cps.toList) (h4 : ∀ c ∈ l, isSign c = true) : nameOk ⟨l.toArray⟩ = true ∧ TxtOk ⟨l.toArray⟩ := by
  obtain ⟨c, hc, hl⟩ := h3
  have e : (⟨l.toArray⟩ : Str).cps.toList = l := List.toList_toArray
  refine ⟨?_, by rw [e]; omega, fun u hu => ?_⟩
  · show (decide _ && (decide _ && (_ && _))) = true
    rw [e, decide_eq_true h1, decide_eq_true h2, hc, show (some c).any isLet = isLet c from rfl, show isLet c = true from decide_eq_true hl, List.all_eq_true.mpr h4]
    rfl
  · rw [e] at hu
    exact sign_small (h4 u hu)
theorem cut_take {l : List Nat} {n : Nat} (h : n ≤ l.length) : cutV (l.map oneTx) none (some (n : Int)) = ((l.take n).map oneS).map V.str := by
  unfold cutV
  rw [HT.sIx_none, HT.sIx_nat, List.length_map, Nat.min_eq_left h, Nat.sub_zero, List.drop_zero, ← List.map_take, ones_map]
theorem cut_drop {l : List Nat} {n : Nat} (h : n ≤ l.length) : cutV (l.map oneTx) (some (n : Int)) none = ((l.drop n).map oneS).map V.str := by
  unfold cutV
  rw [HT.sIx_none, HT.sIx_nat, List.length_map, Nat.min_eq_left h, ← List.map_drop, List.take_of_length_le (by rw [List.length_map, List.length_drop]; exact Nat.le_refl _), ones_map]
theorem str_of {x : Str} {l : List Nat} (h : x.cps.toList = l) : x = ⟨l.toArray⟩ := by
  cases x
  rw [← h]
theorem cutS_take {x : Str} {n : Nat} : (cutS x none (some (n : Int))).cps.toList = x.cps.toList.take n := by
  unfold cutS
  rw [HT.sIx_none, HT.sIx_nat, Nat.sub_zero, List.drop_zero, List.toList_toArray, str_len, Nat.min_def]
  split
  · rfl
  · rw [List.take_of_length_le (Nat.le_refl _), List.take_of_length_le (by omega)]
section
variable {P : Program} {w : World} {K : PySem.W.Frag} {mg : Str → Option Value} {base : Heap}
theorem scNm : FnScope nNm ["_law_tape", "_law_many"] (defScope sNames) := ⟨rfl, rfl, rfl, by decide +kernel, rfl, by decide +kernel, by decide +kernel⟩
theorem ok_names {f fD fP : Addr} {fd fdD fdP : FuncData} (F : Fun K "_law_names" "_law_names" sNames f fd) (T : TxtSh mg) (hrng : mg "range" = none)
    (GD : FnOk P w K mg base CX0 1 fD fdD ["_law_tape", "_law_many"] spDraw) (mD : mg "_law_draw" = some (.ref fD)) (kD : PySem.W.keepIn K (.ref fD) = true) (bD : Binds K fdD ["_law_tape", "_law_many"] [])
    (GP : FnOk P w K mg base CX0 2 fP fdP ["_law_tape", "_law_items"] spPick) (GS : FnOk P w K mg base CX0 2 fP fdP ["_law_tape", "_law_items"] spPickS) (mP : mg "_law_pick" = some (.ref fP)) (kP : PySem.W.keepIn K (.ref fP) = true) (bP : Binds K fdP ["_law_tape", "_law_items"] []) :
    FnOk P w K mg base CX0 3 f fd ["_law_tape", "_law_many"] spNames := by
  refine F.ok scNm (fun vs H Q E h => ?_) (fun cdv A outer s H vs Q E hr h => ?_)
  · obtain ⟨t, c, cs, p, l, m, rfl, _⟩ := h
    rfl
  obtain ⟨t, c, cs, p, l, m, rfl, hT, hm0, hm1, hp, k⟩ := h
  have hr1 : Room 1 _ := hr.mono (by decide)
  refine ⟨_, pss_cons (ps_set (i := 2) scNm.nd rfl (.inr rfl) pe_str)
    (pss_cons (ps_set (i := 4) scNm.nd rfl (.inl rfl) (pe_op op_cat (pe_lst (pa_cons (pe_call GS hr rfl mP kP bP .nil pass0 (pa_cons (pv 0) (pa_cons (pv 2) pa_nil))) pa_nil))
      (pe_lc (own := [("_law_k", 3)]) (g := gName 3) (tt := tYes) rfl scNm.nd (pi_range1 rfl hrng (pa_cons (pe_call GD hr1 rfl mD kD bD .nil pass0 (pa_cons (pv 0) (pa_cons pe_int pa_nil))) pa_nil)) (blkOk_by (N := nNm) (sc := defScope sNames) (by decide +kernel)) (fun _ _ _ _ _ => pg_name (i := 3) scNm.nd rfl (Or.inl rfl)) (fun _ _ _ _ _ => pts_nil)
        (fun _ _ _ _ _ => pe_call GS hr rfl mP kP bP .nil pass0 (pa_cons (pv 0) (pa_cons (pe_op op_add_str (pv 2) pe_str) pa_nil))))))
    (pss_cons (ps_par3 (i := 5) (j := 6) (l := 7) (by rfl) scNm.nd rfl rfl rfl (by decide) (by decide) (by decide) rfl rfl rfl
        (pa_cons (pe_call GD hr1 rfl mD kD bD .nil pass0 (pa_cons (pv 0) (pa_cons (pe_callB call_len_seq (by rfl) T.len PySem.boot_len (pa_cons (pv 4) pa_nil)) pa_nil))) (pa_cons (pe_call GD hr1 rfl mD kD bD .nil pass0 (pa_cons (pv 0) (pa_cons pe_int pa_nil))) (pa_cons (pe_call GD hr1 rfl mD kD bD .nil pass0 (pa_cons (pv 0) (pa_cons pe_int pa_nil))) pa_nil))) (by rfl))
    (pss_cons (ps_par (i := 8) (j := 9) (by rfl) scNm.nd rfl rfl (by decide) rfl rfl (pa_cons (pe_call GP hr rfl mP kP bP .nil pass0 (pa_cons (pv 0) (pa_cons (pe_lst (pa_cons pe_int (pa_cons pe_int (pa_cons pe_int (pa_cons pe_int (pa_cons pe_int (pa_cons pe_int (pa_cons pe_int (pa_cons pe_int (pa_cons pe_int (pa_cons pe_int (pa_cons pe_int (pa_cons pe_int pa_nil))))))))))))) pa_nil))) (pa_cons (pe_lst pa_nil) pa_nil)) (by rfl))
    (pss_cons (ps_par (i := 10) (j := 11) (by rfl) scNm.nd rfl rfl (by decide) rfl rfl (pa_cons (pe_join pe_str (pe_slice sl_list (pv 4) po_none (po_some (pv 5)))) (pa_cons (pe_join pe_str (pe_slice sl_list (pv 4) (po_some (pe_op op_add (pv 5) pe_int)) po_none)) pa_nil)) (by rfl))
    (pss_cons (ps_for PassesOwn.never rfl (pi_range1 rfl hrng (pa_cons (pv 1) pa_nil)) (pg_name (i := 3) scNm.nd rfl (.inl rfl))
      (pss_one (ps_expr (pe_bm PySem.F.plainAttrs_list PySem.F.slot_list_append PySem.F.type_list_append mt_append (pv 9) (pa_cons
        (pe_op op_add_str (pe_op op_add_str (pv 10) (pe_ix ix_str (pv 2) (pe_op op_mod (pe_op op_add (pv 6) (pe_op op_mul (pv 8) (pv 3))) pe_int) (fun _ _ => rfl)))
          (pe_ifExp (pt_cmpR op_eq (pv 7) pe_int (nomark _)) (pv 11) (pe_slice sl_str (pv 11) po_none (po_some (pe_op op_mod (pv 3) pe_int))))) pa_nil)))))
    (pss_one (ps_ret (pv 9)))))))), ?_⟩
  refine ⟨_, rfl, _, rfl, t, c, cs, p, l, lets, rfl, hT, by decide +kernel, by decide +kernel, by omega, fun u p1 l1 H1 hu a1 b1 hT1 hB1 => ⟨by show 1 ≤ sizeLine; decide, fun q1 hq1 => ?_⟩⟩
  have q1t : q1 ≠ t := fun z => by rw [z, hT1.d] at hq1; cases hq1
  have hT1' := hT1.new (o := .lst [V.str ⟨#[u]⟩]) hq1
  have hB1' : But t H (upd H1 q1 (.lst [V.str ⟨#[u]⟩])) := hB1.new hq1
  have eq1 : (upd H1 q1 (.lst [V.str ⟨#[u]⟩])) q1 = some (.lst [oneTx u]) := upd_same
  have c1 : c ≠ q1 := ne_of_none hT1.c hq1
  generalize upd H1 q1 (.lst [V.str ⟨#[u]⟩]) = G1 at hT1' hB1' eq1 ⊢
  refine ⟨_, rfl, t, c, cs, p1, l1, 8, rfl, hT1', by decide, by decide, by omega, fun r p2 l2 H2 r0 r1 a2 b2 hT2 hB2 => ⟨r, rfl, by omega, by omega, fun D hD => ?_⟩⟩
  have Dt : D ≠ t := fun z => by rw [z, hT2.d] at hD; cases hD
  have Dc : c ≠ D := ne_of_none hT2.c hD
  have eq2 := hB2 _ _ eq1 q1t
  have q1D : q1 ≠ D := ne_of_none eq2 hD
  have hBD : But t H (upd H2 D (.lst [])) := (hB1'.trans hB2).new hD
  refine lc_it walk_range (fun i H' => ∃ (us : List Nat) (p' l' : Int), us.length = i ∧ (∀ u ∈ us, u ∈ (lets ++ digs).cps.toList) ∧ p2 ≤ p' ∧ p' ≤ p2 + i ∧ Tape H' t c cs p' l' ∧ H' D = some (.lst (us.map oneTx)) ∧ H' q1 = some (.lst [oneTx u]) ∧ But t H H')
    ⟨[], p2, l2, rfl, (fun _ z => nomatch z), by omega, by omega, hT2.new hD, upd_same, same_new hD _ _ eq2, hBD⟩ (fun _ _ _ _ => True.intro) ?_ ?_
  · rintro i x H3 H4 hi ⟨us, p', l', e1, e2, a3, b3, hT3, hD3, hq3, hB3⟩ ⟨rfl, rfl⟩
    refine ⟨rfl, iteT (B := True) ⟨_, rfl, _, rfl, _, _, rfl, rfl, by decide +kernel, t, c, cs, p', l', lets ++ digs, rfl, hT3, by decide +kernel, by decide +kernel, by omega, fun v p'' l'' H5 hv a5 b5 hT5 hB5 => ⟨us.map oneTx, hB5 _ _ hD3 Dt, by rw [List.length_map, sizeLine_eq]; omega, us ++ [v], p'', l'', ?_⟩⟩⟩
    refine ⟨by rw [List.length_append, e1]; rfl, fun z hz => ?_, by omega, by omega, hT5.off Dt Dc, ?_, (upd_ne q1D).trans (hB5 _ _ hq3 q1t), fun b o e nb => ?_⟩
    · rcases List.mem_append.mp hz with q | q
      · exact e2 z q
      · rw [List.mem_singleton.mp q]; exact hv
    · rw [upd_same, List.map_append]
      rfl
    · have h5 := (hB3.trans hB5) b o e nb
      have nD : b ≠ D := fun z => by
        have e2 := (hB1'.trans hB2) b o e nb
        rw [z, hD] at e2
        cases e2
      rw [upd_ne nD]
      exact h5
  rintro H3 ⟨us, p3, l3, e1, e2, a3, b3, hT3, hD3, hq3, hB3⟩
  have hus : us.length ≤ 7 := by omega
  refine ⟨q1, D, _, _, rfl, rfl, hq3, hD3, by rw [List.length_map, sizeLine_eq]; show 1 + us.length ≤ _; omega, fun q2 hq2 => ?_⟩
  have eqs : (upd H3 q2 (.lst ([oneTx u] ++ us.map oneTx))) q2 = some (.lst ((u :: us).map oneTx)) := upd_same
  have hT3' := hT3.new (o := .lst ([oneTx u] ++ us.map oneTx)) hq2
  have hB3' := hB3.new (o := .lst ([oneTx u] ++ us.map oneTx)) hq2
  have q2t : q2 ≠ t := fun z => by rw [z, hT3.d] at hq2; cases hq2
  generalize upd H3 q2 (.lst ([oneTx u] ++ us.map oneTx)) = G3 at eqs hT3' hB3' ⊢
  have lst : ((u :: us).map oneTx).length = us.length + 1 := by rw [List.length_map]; rfl
  refine ⟨_, rfl, _, rfl, q2, _, rfl, .inl (SqL.of eqs), t, c, cs, p3, l3, _, rfl, hT3', by rw [lst]; omega, by rw [lst]; omega, by omega, fun pl p4 l4 H4 pl0 pl1 a4 b4 hT4 hB4 => ?_⟩
  refine ⟨_, rfl, t, c, cs, p4, l4, 26, rfl, hT4, by decide, by decide, by omega, fun fi p5 l5 H5 fi0 fi1 a5 b5 hT5 hB5 => ?_⟩
  refine ⟨_, rfl, t, c, cs, p5, l5, 2, rfl, hT5, by decide, by decide, by omega, fun cu p6 l6 H6 cu0 cu1 a6 b6 hT6 hB6 => ⟨_, _, _, rfl, ?_⟩⟩
  have eq6 := hB6 _ _ (hB5 _ _ (hB4 _ _ eqs q2t) q2t) q2t
  have hB60 := ((hB3'.trans hB4).trans hB5).trans hB6
  refine ⟨_, rfl, by show 12 ≤ sizeLine; decide, fun q3 hq3' => ⟨t, c, q3, cs, p6, l6, steps.map V.int, rfl, hT6.new hq3', upd_same, by simp [steps], by simp [steps], by omega, fun j x p7 l7 H7 hj a7 b7 hT7 hB7 => ⟨by decide, fun q4 hq4 => ⟨_, _, rfl, ?_⟩⟩⟩⟩
  rw [List.getElem?_map] at hj
  obtain ⟨st, hst, rfl⟩ := Option.map_eq_some_iff.mp hj
  have hst := List.mem_of_getElem? hst
  have hT8 := hT7.new (o := .lst []) hq4
  have hB70 : But t H H7 := (hB60.new hq3').trans hB7
  have hB8 := hB70.new (o := .lst []) hq4
  have q4t : q4 ≠ t := fun z => by rw [z, hT7.d] at hq4; cases hq4
  have q4c : c ≠ q4 := ne_of_none hT7.c hq4
  have q3q : (upd H6 q3 (.lst (steps.map V.int))) q2 = some (.lst ((u :: us).map oneTx)) := same_new hq3' _ _ eq6
  have eq7 := same_new (o := .lst []) hq4 _ _ (hB7 _ _ q3q q2t)
  have e4 : (upd H7 q4 (.lst [])) q4 = some (.lst []) := upd_same
  have n4 : H q4 = none := by
    cases z : H q4 with
    | none => rfl
    | some o =>
      rw [hB70 q4 o z q4t] at hq4
      cases hq4
  generalize upd H7 q4 (.lst []) = G8 at hT8 hB8 eq7 e4 ⊢
  obtain ⟨k0, rfl⟩ : ∃ k0 : Nat, pl = (k0 : Int) := ⟨pl.toNat, by omega⟩
  have hk0 : k0 < (u :: us).length := by
    rw [lst] at pl1
    show k0 < us.length + 1
    omega
  refine ⟨⟨_, rfl⟩, _, rfl, _, rfl, _, rfl, q2, _, rfl, SqL.of eq7, fun q5 hq5 => ?_⟩
  have h5 : (upd G8 q5 (.lst (cutV ((u :: us).map oneTx) none (some (k0 : Int))))) q5 = some (.lst (((((u :: us).take k0).map oneS)).map V.str)) := by rw [upd_same, cut_take (Nat.le_of_lt hk0)]
  have s5 : Same G8 (upd G8 q5 (.lst (cutV ((u :: us).map oneTx) none (some (k0 : Int))))) := same_new hq5
  generalize upd G8 q5 (.lst (cutV ((u :: us).map oneTx) none (some (k0 : Int)))) = G9 at h5 s5 ⊢
  have ls1 : ((u :: us).take k0).length ≤ 8 := by rw [List.length_take]; show min k0 (us.length + 1) ≤ 8; omega
  refine ⟨_, q5, _, rfl, rfl, .inl (SqL.of h5), by rw [ones_sum, List.length_map]; show _ + _ * 0 ≤ _; omega, ?_⟩
  have hFR := ones_join ((u :: us).take k0)
  generalize Txt.join (Str.ofString "") (((u :: us).take k0).map oneS) = FR at hFR ⊢
  have e1k : ((k0 : Int) + 1) = ((k0 + 1 : Nat) : Int) := by omega
  refine ⟨⟨_, rfl⟩, _, rfl, _, rfl, _, _, rfl, rfl, _, rfl, q2, _, rfl, SqL.of (s5 _ _ eq7), fun q6 hq6 => ?_⟩
  have h6 : (upd G9 q6 (.lst (cutV ((u :: us).map oneTx) (some ((k0 : Int) + 1)) none))) q6 = some (.lst (((((u :: us).drop (k0 + 1)).map oneS)).map V.str)) := by rw [upd_same, e1k, cut_drop hk0]
  have s6 : Same G9 (upd G9 q6 (.lst (cutV ((u :: us).map oneTx) (some ((k0 : Int) + 1)) none))) := same_new hq6
  generalize upd G9 q6 (.lst (cutV ((u :: us).map oneTx) (some ((k0 : Int) + 1)) none)) = G10 at h6 s6 ⊢
  have ls2 : ((u :: us).drop (k0 + 1)).length + k0 + 1 ≤ 8 := by rw [List.length_drop]; show us.length + 1 - (k0 + 1) + k0 + 1 ≤ 8; have : k0 < us.length + 1 := hk0; omega
  refine ⟨_, q6, _, rfl, rfl, .inl (SqL.of h6), by rw [ones_sum, List.length_map]; show _ + _ * 0 ≤ _; omega, _, _, rfl, ?_⟩
  have hBK := ones_join ((u :: us).drop (k0 + 1))
  generalize Txt.join (Str.ofString "") (((u :: us).drop (k0 + 1)).map oneS) = BK at hBK ⊢
  have lFR : FR.cps.toList.length = k0 := by rw [hFR, List.length_take]; exact Nat.min_eq_left (Nat.le_of_lt hk0)
  have lBK : BK.cps.toList.length + k0 + 1 ≤ 8 := by rw [hBK]; exact ls2
  have hT10 := (hT8.keep s5).keep s6
  have hB10 : But t H G10 := (hB8.trans (But.same s5)).trans (But.same s6)
  have e10 := s6 _ _ (s5 _ _ e4)
  refine ⟨_, rfl, m, rfl, by omega, by omega, ?_⟩
  let nm : Nat → Str := fun k => ⟨(nameAt FR.cps.toList BK.cps.toList fi st (!decide (cu = 0)) k).toArray⟩
  have nmL : ∀ k, (nm k).cps.toList = nameAt FR.cps.toList BK.cps.toList fi st (!decide (cu = 0)) k := fun k => List.toList_toArray
  refine for_range (fun i σ H' => ∃ z3, σ = [some (.ref t), some (.int m), some (.str lets), z3, some (.ref q2), some (.int (k0 : Int)), some (.int fi), some (.int cu), some (.int st), some (.ref q4), some (.str FR), some (.str BK)] ∧ H' q4 = some (.lst (((List.range i).map nm).map V.str)) ∧ Tape H' t c cs p7 l7 ∧ But t H H')
    ⟨_, rfl, e10, hT10, hB10⟩ ?_ ?_
  · rintro i σ H11 hi ⟨z3, rfl, h11, hT11, hB11⟩
    have hi26 : i < 26 := by omega
    have hmod0 := Int.emod_nonneg (fi + st * (0 + (i : Int))) (show (26 : Int) ≠ 0 by decide)
    have hmod1 := Int.emod_lt_of_pos (fi + st * (0 + (i : Int))) (show (0 : Int) < 26 by decide)
    obtain ⟨j26, hj26⟩ : ∃ j : Nat, (fi + st * (0 + (i : Int))) % 26 = (j : Int) := ⟨((fi + st * (0 + (i : Int))) % 26).toNat, by omega⟩
    have st0 : 0 ≤ st ∧ st ≤ 25 := by
      unfold steps at hst
      simp only [List.mem_cons, List.not_mem_nil, or_false] at hst
      omega
    have fin : ∀ back : Str, back.cps.toList = (if (!decide (cu = 0)) = true then BK.cps.toList.take (i % 3) else BK.cps.toList) → (FR ++ (⟨#[97 + j26]⟩ : Str)) ++ back = nm i := fun back hb => by
      refine (str_of ?_).trans (str_of (nmL i)).symm
      rw [str_app, str_app, hb]
      unfold nameAt
      have e0 : (fi + st * (i : Int)) % 26 = (j26 : Int) := by rw [← hj26, Int.zero_add]
      rw [e0, Int.toNat_natCast, List.append_assoc]
      rfl
    have szB : BK.length ≤ 8 := by rw [str_len]; omega
    have szF : FR.length ≤ 8 := by rw [str_len]; omega
    have sz1 : (FR ++ (⟨#[97 + j26]⟩ : Str)).length ≤ 9 := by
      rw [str_len, str_app, List.length_append]
      show FR.cps.toList.length + 1 ≤ 9
      omega
    have room : ∀ b : Str, b = nm i → ((List.range i).map nm).map V.str ++ [V.str b] = ((List.range (i + 1)).map nm).map V.str := fun b e => by
      rw [e, List.range_succ, List.map_append, List.map_append]
      rfl
    have done : ∀ b : Str, b = nm i → ∃ z3, [some (V.ref t), some (.int m), some (.str lets), some (.int (0 + (i : Int))), some (.ref q2), some (.int (k0 : Int)), some (.int fi), some (.int cu), some (.int st), some (.ref q4), some (.str FR), some (.str BK)] = [some (V.ref t), some (.int m), some (.str lets), z3, some (.ref q2), some (.int (k0 : Int)), some (.int fi), some (.int cu), some (.int st), some (.ref q4), some (.str FR), some (.str BK)] ∧ (upd H11 q4 (.lst (((List.range i).map nm).map V.str ++ [V.str b]))) q4 = some (.lst (((List.range (i + 1)).map nm).map V.str)) ∧ Tape (upd H11 q4 (.lst (((List.range i).map nm).map V.str ++ [V.str b]))) t c cs p7 l7 ∧ But t H (upd H11 q4 (.lst (((List.range i).map nm).map V.str ++ [V.str b]))) := fun b e =>
      ⟨_, rfl, by rw [upd_same, room b e], hT11.off q4t q4c, fun x o ex nx => by rw [upd_ne (ne_of_none ex n4)]; exact hB11 x o ex nx⟩
    refine ⟨_, rfl, .inl ⟨rfl, _, SqL.of h11⟩, _, rfl, _, rfl, _, rfl, _, rfl, _, rfl, _, _, rfl, rfl, .inl ⟨by omega, by omega⟩, _, _, rfl, rfl, _, _, rfl, rfl, (by show (0 : Int) < 26; decide), lets, _, (97 + j26), rfl, rfl, by decide +kernel, ?_, _, _, rfl, rfl, ?_, ?_⟩
    · rw [hj26]
      exact atI_nat (let_at (by omega))
    · rw [sizeLine_eq]; show FR.length + 1 ≤ _; omega
    refine ⟨_, rfl, rfl, _, rfl, ite2 (fun hc => ?_) (fun hc => ?_)⟩
    · have hcu : cu = 0 := V.int.inj (of_decide_eq_true hc)
      have hb := fin BK (by rw [hcu]; rfl)
      exact ⟨_, rfl, _, _, rfl, rfl, by rw [sizeLine_eq]; omega, q4, _, _, rfl, rfl, h11, by rw [List.length_map, List.length_map, List.length_range, sizeLine_eq]; omega, done _ hb⟩
    · have hm3 : (0 + (i : Int)) % 3 = ((i % 3 : Nat) : Int) := by omega
      have hcu : cu ≠ 0 := fun z => hc (by rw [z]; exact decide_eq_true rfl)
      have hb := fin (cutS BK none (some ((0 + (i : Int)) % 3))) (by rw [hm3, cutS_take, decide_eq_false hcu]; rfl)
      have lc := cutS_length BK none (some ((0 + (i : Int)) % 3))
      exact ⟨_, rfl, _, rfl, _, _, rfl, rfl, (by show (0 : Int) < 3; decide), _, rfl, BK, rfl, by rw [sizeLine_eq]; omega, _, _, rfl, rfl, by rw [sizeLine_eq]; omega, q4, _, _, rfl, rfl, h11, by rw [List.length_map, List.length_map, List.length_range, sizeLine_eq]; omega, done _ hb⟩
  · rintro σ H11 ⟨z3, rfl, h11, hT11, hB11⟩
    refine ⟨_, rfl, k q4 ((List.range m.toNat).map nm) p7 l7 H11 n4 h11 (by rw [List.length_map, List.length_range]) ?_ ?_ (by omega) (by omega) hT11 hB11⟩
    · refine List.pairwise_map.mpr (List.nodup_range.imp_of_mem fun {a b} ha hb ne e => ne ?_)
      rw [List.mem_range] at ha hb
      have e9 : (nm a).cps.toList = (nm b).cps.toList := by rw [e]
      rw [nmL a, nmL b] at e9
      exact nameAt_inj hst (by omega) (by omega) e9
    · intro y hy
      obtain ⟨i, hi, rfl⟩ := List.mem_map.mp hy
      have tl : ∀ z ∈ (if (!decide (cu = 0)) = true then BK.cps.toList.take (i % 3) else BK.cps.toList), z ∈ BK.cps.toList := fun z hz => by
        split at hz
        · exact List.mem_of_mem_take hz
        · exact hz
      have tn : (if (!decide (cu = 0)) = true then BK.cps.toList.take (i % 3) else BK.cps.toList).length ≤ BK.cps.toList.length := by
        split
        · rw [List.length_take]; exact Nat.min_le_right _ _
        · exact Nat.le_refl _
      have sg : ∀ z ∈ (u :: us), isSign z = true := fun z hz => by
        rcases List.mem_cons.mp hz with q | q
        · rw [q]; exact sign_let hu
        · exact sign_both (e2 z q)
      have hj : ((fi + st * (i : Int)) % 26).toNat < 26 := by
        have := Int.emod_lt_of_pos (fi + st * (i : Int)) (show (0 : Int) < 26 by decide)
        omega
      refine name_of ?_ ?_ ?_ ?_
      · unfold nameAt
        rw [List.length_append, List.length_cons]
        omega
      · unfold nameAt
        rw [List.length_append, List.length_cons, lFR]
        omega
      · unfold nameAt
        cases k0 with
        | zero =>
          rw [show FR.cps.toList = [] from hFR]
          exact ⟨_, rfl, let_mem hj⟩
        | succ n =>
          rw [show FR.cps.toList = u :: us.take n from hFR]
          exact ⟨u, rfl, hu⟩
      · intro z hz
        unfold nameAt at hz
        rcases List.mem_append.mp hz with q | q
        · rw [hFR] at q
          exact sg z (List.mem_of_mem_take q)
        · rcases List.mem_cons.mp q with q | q
          · rw [q]; exact sign_let (let_mem hj)
          · have q2 := tl z q
            rw [hBK] at q2
            exact sg z (List.mem_of_mem_drop q2)
end
end Bo

set_option Elab.async false
set_option linter.all false
set_option maxRecDepth 100000
set_option maxHeartbeats 8000000
/-! a System with its open transactions and its changes -/
namespace Bo
open PySem L2
/-- at s stands a System; bs: what its open transactions began with, hs: what its changes began with -/
structure SgAt (CS : Addr) (H : Hp) (s dx c b h : Addr) (bs hs : List V) : Prop where
  i : H s = some (.ins CS dx (syF c b h))
  b : H b = some (.lst bs)
  h : H h = some (.lst hs)
/-- all that a Contents consists of stays -/
structure Calm (CC : Addr) (H H' : Hp) : Prop where
  i : ∀ a d ac ar ak, H a = some (.ins CC d (ctF ac ar ak)) → H' a = some (.ins CC d (ctF ac ar ak))
  t : ∀ a xs, H a = some (.tup xs) → H' a = some (.tup xs)
  f : ∀ a o u, H a = some (.frz o u) → H' a = some (.frz o u)
theorem Calm.of {CC : Addr} {H H' : Hp} (k : Same H H') : Calm CC H H' := ⟨fun _ _ _ _ _ e => k _ _ e, fun _ _ e => k _ _ e, fun _ _ _ e => k _ _ e⟩
theorem Calm.but {CC t : Addr} {H H' : Hp} {kvs : List (Key × V)} (ht : H t = some (.dK kvs)) (k : But t H H') : Calm CC H H' :=
  ⟨fun _ _ _ _ _ e => k _ _ e (ne_of e ht (by intro z; cases z)), fun _ _ e => k _ _ e (ne_of e ht (by intro z; cases z)), fun _ _ _ e => k _ _ e (ne_of e ht (by intro z; cases z))⟩
theorem ct_ne_sy {CC CS : Addr} {H : Hp} {a s d dx ac ar ak c b h : Addr} (e : H a = some (.ins CC d (ctF ac ar ak))) (q : H s = some (.ins CS dx (syF c b h))) : a ≠ s := fun z => by
  rw [z, q] at e
  injection e with e
  injection e with _ _ e
  have l1 := ctF_c ac ar ak
  rw [← e, syF_no _ _ _ (by decide +kernel) (by decide +kernel) (by decide +kernel)] at l1
  cases l1
theorem Calm.off {CC CS : Addr} {H H' : Hp} {s dx c b h : Addr} {bs hs : List V} (Y : SgAt CS H s dx c b h bs hs) (o : Off [s, b, h] H H') : Calm CC H H' := by
  have no : ∀ q, q ≠ s → q ≠ b → q ≠ h → q ∉ [s, b, h] := fun q n1 n2 n3 z => by
    rcases List.mem_cons.mp z with z | z
    · exact n1 z
    · rcases List.mem_cons.mp z with z | z
      · exact n2 z
      · exact n3 (List.mem_singleton.mp z)
  exact ⟨fun a d ac ar ak e => o _ _ e (no _ (ct_ne_sy e Y.i) (ne_of e Y.b (by intro z; cases z)) (ne_of e Y.h (by intro z; cases z))),
    fun a xs e => o _ _ e (no _ (ne_of e Y.i (by intro z; cases z)) (ne_of e Y.b (by intro z; cases z)) (ne_of e Y.h (by intro z; cases z))),
    fun a ob u e => o _ _ e (no _ (ne_of e Y.i (by intro z; cases z)) (ne_of e Y.b (by intro z; cases z)) (ne_of e Y.h (by intro z; cases z)))⟩
theorem SqT.calm {K : PySem.W.Frag} {CC : Addr} {H H' : Hp} {a : Addr} {xs : List V} (h : SqT K H a xs) (k : Calm CC H H') : SqT K H' a xs := by
  rcases h with (e | ⟨o, e⟩) | e
  · exact .inl (.inl (k.t _ _ e))
  · exact .inl (.inr ⟨o, k.f _ _ _ e⟩)
  · exact .inr e
theorem Fz.calm {CC : Addr} {H H' : Hp} {a : Addr} {u : HO} (h : Fz H a u) (k : Calm CC H H') : Fz H' a u := let ⟨o, e⟩ := h; ⟨o, k.f _ _ _ e⟩
theorem CtIn.calm {K : PySem.W.Frag} {CC : Addr} {H H' : Hp} {a : Addr} {S : Ct} (h : CtIn K CC H a S) (k : Calm CC H H') : CtIn K CC H' a S :=
  let ⟨dx, ac, ar, ak, rs, C⟩ := h
  ⟨dx, ac, ar, ak, rs, ⟨k.i _ _ _ _ _ C.i, SqT.calm C.c k, C.r.calm k, Paired.mapP C.p fun p q z => ⟨z.1, z.2.calm k⟩, C.k.calm k⟩⟩
def CtV (K : PySem.W.Frag) (CC : Addr) (H : Hp) (S : Ct) (v : V) : Prop := ∃ a, v = .ref a ∧ CtIn K CC H a S
theorem ctV_calm {K : PySem.W.Frag} {CC : Addr} {H H' : Hp} {Bs : List Ct} {bs : List V} (p : Paired (CtV K CC H) Bs bs) (k : Calm CC H H') : Paired (CtV K CC H') Bs bs := Paired.mapP p fun _ _ ⟨a, e, z⟩ => ⟨a, e, z.calm k⟩
/-- a System stands at s; H0 is as it was, and knows nothing of it -/
def SyG (K : PySem.W.Frag) (CC CS : Addr) (H0 H : Hp) (s : Addr) (S : Ct) (Bs Hs : List Ct) : Prop := ∃ dx c b h bs hs, SgAt CS H s dx c b h bs hs ∧ CtIn K CC H c S ∧ Paired (CtV K CC H) Bs bs ∧ Paired (CtV K CC H) Hs hs ∧ h ≠ b ∧ H0 s = none ∧ H0 b = none ∧ H0 h = none ∧ Same H0 H
theorem SyG.same {K : PySem.W.Frag} {CC CS : Addr} {H0 H : Hp} {s : Addr} {S : Ct} {Bs Hs : List Ct} (h : SyG K CC CS H0 H s S Bs Hs) : Same H0 H := let ⟨_, _, _, _, _, _, _, _, _, _, _, _, _, _, e⟩ := h; e
theorem SyG.keep {K : PySem.W.Frag} {CC CS : Addr} {H0 H H' : Hp} {s : Addr} {S : Ct} {Bs Hs : List Ct} (h : SyG K CC CS H0 H s S Bs Hs) (k : Same H H') : SyG K CC CS H0 H' s S Bs Hs :=
  let ⟨dx, c, b, h, bs, hs, Y, C, p1, p2, e1, e2, e3, e4, e5⟩ := h
  ⟨dx, c, b, h, bs, hs, ⟨k _ _ Y.i, k _ _ Y.b, k _ _ Y.h⟩, C.keep k, ctV_calm p1 (.of k), ctV_calm p2 (.of k), e1, e2, e3, e4, e5.trans k⟩
/-- a smaller ground -/
theorem SyG.under {K : PySem.W.Frag} {CC CS : Addr} {G H0 H : Hp} {s : Addr} {S : Ct} {Bs Hs : List Ct} (h : SyG K CC CS H0 H s S Bs Hs) (k : Same G H0) : SyG K CC CS G H s S Bs Hs := by
  obtain ⟨dx, c, b, h, bs, hs, Y, C, p1, p2, e1, e2, e3, e4, e5⟩ := h
  have no : ∀ q, H0 q = none → G q = none := fun q e => by
    cases z : G q with
    | none => rfl
    | some o => rw [k _ _ z] at e; cases e
  exact ⟨dx, c, b, h, bs, hs, Y, C, p1, p2, e1, no _ e2, no _ e3, no _ e4, k.trans e5⟩
/-- a dict that the ground doesn't know is changed -/
theorem SyG.but {K : PySem.W.Frag} {CC CS : Addr} {H0 H H' : Hp} {s t : Addr} {S : Ct} {Bs Hs : List Ct} {kvs : List (Key × V)} (h : SyG K CC CS H0 H s S Bs Hs) (ht : H t = some (.dK kvs)) (h0 : H0 t = none) (k : But t H H') : SyG K CC CS H0 H' s S Bs Hs := by
  obtain ⟨dx, c, b, h, bs, hs, Y, C, p1, p2, e1, e2, e3, e4, e5⟩ := h
  have cm : Calm CC H H' := .but ht k
  exact ⟨dx, c, b, h, bs, hs, ⟨k _ _ Y.i (ne_of Y.i ht (by intro z; cases z)), k _ _ Y.b (ne_of Y.b ht (by intro z; cases z)), k _ _ Y.h (ne_of Y.h ht (by intro z; cases z))⟩, C.calm cm, ctV_calm p1 cm, ctV_calm p2 cm, e1, e2, e3, e4,
    fun q o e => k _ _ (e5 _ _ e) fun z => by rw [z, h0] at e; cases e⟩
/-- all but the things at s, b, h -/
def hide3 (s b h : Addr) (H : Hp) : Hp := fun q => if q = s ∨ q = b ∨ q = h then none else H q
/-- told anew from the heap at which it stands -/
theorem SyG.anew {K : PySem.W.Frag} {CC CS : Addr} {H0 H : Hp} {s : Addr} {S : Ct} {Bs Hs : List Ct} (Y : SyG K CC CS H0 H s S Bs Hs) :
    ∃ B, SyG K CC CS B H s S Bs Hs ∧ Same B H ∧ Same H0 B ∧ ∀ q o, H q = some o → (∀ C d f, o ≠ .ins C d f) → (∀ xs, o ≠ .lst xs) → B q = some o := by
  obtain ⟨dx, c, b, h, bs, hs, Y, C, p1, p2, e1, e2, e3, e4, e5⟩ := Y
  have sm : Same (hide3 s b h H) H := fun q o z => by
    unfold hide3 at z
    split at z
    · cases z
    · exact z
  refine ⟨hide3 s b h H, ⟨dx, c, b, h, bs, hs, Y, C, p1, p2, e1, if_pos (.inl rfl), if_pos (.inr (.inl rfl)), if_pos (.inr (.inr rfl)), sm⟩, sm, fun q o z => ?_, fun q o z n1 n2 => ?_⟩
  · refine (if_neg fun y => ?_).trans (e5 _ _ z)
    rcases y with y | y | y
    · rw [y, e2] at z; cases z
    · rw [y, e3] at z; cases z
    · rw [y, e4] at z; cases z
  · refine (if_neg fun y => ?_).trans z
    rcases y with y | y | y
    · rw [y, Y.i] at z
      exact n1 _ _ _ (Option.some.inj z).symm
    · rw [y, Y.b] at z
      exact n2 _ (Option.some.inj z).symm
    · rw [y, Y.h] at z
      exact n2 _ (Option.some.inj z).symm
/-- .. with what is left of the law's tape behind a call -/
theorem SyG.call {K : PySem.W.Frag} {CC CS : Addr} {H0 H : Hp} {s t c : Addr} {cs : List Int} {p l : Int} {o : HO} {S : Ct} {Bs Hs : List Ct} (Y : SyG K CC CS H0 H s S Bs Hs) (T : Tape H t c cs p l) (hc : H0 c = some o) :
    ∃ B, SyG K CC CS B H s S Bs Hs ∧ Same B H ∧ ∀ H' S' Bs' Hs', SyG K CC CS B H' s S' Bs' Hs' → SyG K CC CS H0 H' s S' Bs' Hs' ∧ Tape H' t c cs p l := by
  obtain ⟨B, Y1, s1, s2, k⟩ := Y.anew
  refine ⟨B, Y1, s1, fun H' S' Bs' Hs' Y' => ⟨Y'.under s2, ?_, ?_, T.n, T.m, T.p0, T.l0⟩⟩
  · exact Y'.same _ _ (k _ _ T.d (fun _ _ _ z => by cases z) fun _ z => by cases z)
  · have e : B c = some (.lst (cs.map V.int)) := by
      have e1 := s2 _ _ hc
      have e2 := s1 _ _ e1
      rw [T.c] at e2
      rw [e1, ← e2]
    exact Y'.same _ _ e
/-- the changes behind one more call -/
def histG (Bs Hs : List Ct) (S : Ct) : List Ct := match Bs with
  | [] => Hs ++ [S]
  | _ => Hs
theorem pair_nil {α β : Type} {F : α → β → Prop} {l : List β} (h : Paired F [] l) : l = [] := by cases h; rfl
theorem pair_len {α β : Type} {F : α → β → Prop} {l : List α} {m : List β} (h : Paired F l m) : l.length = m.length := Paired.length h
/-- the System's own lists and fields are other things -/
theorem SgAt.ne {CS : Addr} {H : Hp} {s dx c b h : Addr} {bs hs : List V} (Y : SgAt CS H s dx c b h bs hs) : s ≠ b ∧ s ≠ h := ⟨ne_of Y.i Y.b (by intro z; cases z), ne_of Y.i Y.h (by intro z; cases z)⟩
/-- behind a step that changes s, b, h alone -/
theorem SyG.step {K : PySem.W.Frag} {CC CS : Addr} {H0 H H' : Hp} {s dx c b h c' : Addr} {bs hs bs' hs' : List V} {S' : Ct} {Bs' Hs' : List Ct} (Y : SgAt CS H s dx c b h bs hs) (o : Off [s, b, h] H H') (hne : h ≠ b) (e2 : H0 s = none) (e3 : H0 b = none) (e4 : H0 h = none) (e5 : Same H0 H)
    (Y' : SgAt CS H' s dx c' b h bs' hs') (C : CtIn K CC H c' S') (p1 : Paired (CtV K CC H) Bs' bs') (p2 : Paired (CtV K CC H) Hs' hs') : SyG K CC CS H0 H' s S' Bs' Hs' := by
  have cm : Calm CC H H' := .off Y o
  refine ⟨dx, c', b, h, bs', hs', Y', C.calm cm, ctV_calm p1 cm, ctV_calm p2 cm, hne, e2, e3, e4, Off.of e5 o fun q hq => ?_⟩
  rcases List.mem_cons.mp hq with z | z
  · rw [z]; exact e2
  · rcases List.mem_cons.mp z with z | z
    · rw [z]; exact e3
    · rw [List.mem_singleton.mp z]; exact e4
def spTakeG (K : PySem.W.Frag) (CC CS : Addr) : Sp := fun vs H Q _ => ∃ (s c' : Addr) (H0 : Hp) (S S' : Ct) (Bs Hs : List Ct), vs = [.ref s, .ref c'] ∧ SyG K CC CS H0 H s S Bs Hs ∧ CtIn K CC H c' S' ∧ Hs.length < 1000000 ∧ ∀ H', SyG K CC CS H0 H' s S' Bs (histG Bs Hs S) → Q .non H'
section
variable {P : Program} {w : World} {K : PySem.W.Frag} {mg : Str → Option Value} {base : Heap} {CC fCI CN fIN CS fSI fTk : Addr}
theorem ok_takeG {f : Addr} {fd : FuncData} (F : Fun K "_take" "System._take" sTake f fd) (T : SysT K mg CS fSI fTk) : FnOk P w K mg base CX0 1 f fd ["self", "contents"] (spTakeG K CC CS) := by
  refine F.ok scTk (fun vs H Q E h => ?_) (fun cdv A outer s H vs Q E hr h => ?_)
  · obtain ⟨s, c', H0, S, S', Bs, Hs, rfl, _⟩ := h
    rfl
  · obtain ⟨s, c', H0, S, S', Bs, Hs, rfl, ⟨dx, c, b, h, bs, hs, Y, C, p1, p2, hne, e2, e3, e4, e5⟩, C', hl, k⟩ := h
    refine ⟨_, pss_cons (ps_if (pt_not (pt_truth (pe_fld (pv 0) rfl) (by intro _; rfl))) (pss_one (ps_expr (pe_bm PySem.F.plainAttrs_list PySem.F.slot_list_append PySem.F.type_list_append mt_append (pe_fld (pv 0) rfl) (pa_cons (pe_fld (pv 0) rfl) pa_nil)))) pss_nil)
      (pss_one (ps_fld (pv 0) (pv 1) rfl)), ?_⟩
    obtain ⟨sb, sh⟩ := Y.ne
    have hlen := pair_len p2
    refine ⟨_, rfl, s, CS, dx, _, _, rfl, Y.i, T.cl, T.n2, syF_b _ _ _, _, .inl ⟨bs, SqL.of Y.b, rfl⟩, ?_⟩
    cases Bs with
    | nil =>
      obtain rfl := pair_nil p1
      refine iteT ?_
      refine ⟨_, rfl, s, CS, dx, _, _, rfl, Y.i, T.cl, T.n3, syF_h _ _ _, .inl ⟨rfl, _, SqL.of Y.h⟩, _, rfl, s, CS, dx, _, _, rfl, Y.i, T.cl, T.n1, syF_c _ _ _, h, hs, _, rfl, rfl, Y.h, by rw [sizeLine_eq]; omega, ?_⟩
      refine ⟨_, rfl, _, rfl, s, CS, dx, _, rfl, (upd_ne sh).trans Y.i, T.cl, T.n1, by rw [syF_len]; decide, ?_⟩
      rw [syF_put]
      refine k _ (SyG.step (bs' := []) (hs' := hs ++ [.ref c]) Y (fun q o e n => ?_) hne e2 e3 e4 e5 ⟨upd_same, ?_, ?_⟩ C' .nil (p2.snoc ⟨c, rfl, C⟩))
      · have n1 : q ≠ s := fun z => n (by rw [z]; exact List.mem_cons_self)
        have n2 : q ≠ h := fun z => n (by rw [z]; simp)
        rw [upd_ne n1, upd_ne n2]
        exact e
      · rw [upd_ne sb.symm, upd_ne hne.symm]
        exact Y.b
      · rw [upd_ne sh.symm, upd_same]
    | cons B Bs =>
      cases p1 with
      | cons q1 t1 =>
        refine iteF ?_
        refine ⟨_, rfl, _, rfl, s, CS, dx, _, rfl, Y.i, T.cl, T.n1, by rw [syF_len]; decide, ?_⟩
        rw [syF_put]
        refine k _ (SyG.step Y (fun q o e n => ?_) hne e2 e3 e4 e5 ⟨upd_same, ?_, ?_⟩ C' (.cons q1 t1) p2)
        · have n1 : q ≠ s := fun z => n (by rw [z]; exact List.mem_cons_self)
          rw [upd_ne n1]
          exact e
        · rw [upd_ne sb.symm]; exact Y.b
        · rw [upd_ne sh.symm]; exact Y.h
/-! ### begin, rollback -/
abbrev sBg : Stmt := inClass sSys 11
abbrev sRb : Stmt := inClass sSys 13
def spBg (K : PySem.W.Frag) (CC CS : Addr) : Sp := fun vs H Q _ => ∃ (s : Addr) (H0 : Hp) (S : Ct) (Bs Hs : List Ct), vs = [.ref s] ∧ SyG K CC CS H0 H s S Bs Hs ∧ Bs.length < 1000000 ∧ ∀ H', SyG K CC CS H0 H' s S (Bs ++ [S]) Hs → Q .non H'
theorem scBg : FnScope ["self"] ["self"] (defScope sBg) := ⟨rfl, rfl, rfl, by decide +kernel, rfl, by decide +kernel, by decide +kernel⟩
theorem ok_bg {f : Addr} {fd : FuncData} (F : Fun K "begin" "System.begin" sBg f fd) (T : SysT K mg CS fSI fTk) : FnOk P w K mg base CX0 1 f fd ["self"] (spBg K CC CS) := by
  refine F.ok scBg (fun vs H Q E h => ?_) (fun cdv A outer s H vs Q E hr h => ?_)
  · obtain ⟨s, H0, S, Bs, Hs, rfl, _⟩ := h
    rfl
  · obtain ⟨s, H0, S, Bs, Hs, rfl, ⟨dx, c, b, h, bs, hs, Y, C, p1, p2, hne, e2, e3, e4, e5⟩, hl, k⟩ := h
    refine ⟨_, pss_one (ps_expr (pe_bm PySem.F.plainAttrs_list PySem.F.slot_list_append PySem.F.type_list_append mt_append (pe_fld (pv 0) rfl) (pa_cons (pe_fld (pv 0) rfl) pa_nil))), ?_⟩
    obtain ⟨sb, sh⟩ := Y.ne
    have hlen := pair_len p1
    refine ⟨_, rfl, s, CS, dx, _, _, rfl, Y.i, T.cl, T.n2, syF_b _ _ _, .inl ⟨rfl, _, SqL.of Y.b⟩, _, rfl, s, CS, dx, _, _, rfl, Y.i, T.cl, T.n1, syF_c _ _ _, b, bs, _, rfl, rfl, Y.b, by rw [sizeLine_eq]; omega, ?_⟩
    refine k _ (SyG.step (bs' := bs ++ [.ref c]) (hs' := hs) Y (fun q o e n => ?_) hne e2 e3 e4 e5 ⟨?_, upd_same, ?_⟩ C (p1.snoc ⟨c, rfl, C⟩) p2)
    · have n1 : q ≠ b := fun z => n (by rw [z]; simp)
      rw [upd_ne n1]
      exact e
    · rw [upd_ne sb]; exact Y.i
    · rw [upd_ne hne]; exact Y.h
def spRb (K : PySem.W.Frag) (CC CS : Addr) : Sp := fun vs H Q _ => ∃ (s : Addr) (H0 : Hp) (S B : Ct) (Bs Hs : List Ct), vs = [.ref s] ∧ SyG K CC CS H0 H s S (Bs ++ [B]) Hs ∧ ∀ H', SyG K CC CS H0 H' s B Bs Hs → Q .non H'
theorem pair_last {α β : Type} {F : α → β → Prop} {x : α} : ∀ {l : List α} {m : List β}, Paired F (l ++ [x]) m → ∃ m' y, m = m' ++ [y] ∧ Paired F l m' ∧ F x y
  | [], _, h => by
    cases h with
    | cons q t => cases t; exact ⟨[], _, rfl, .nil, q⟩
  | a :: l, _, h => by
    cases h with
    | cons q t =>
      obtain ⟨m', y, rfl, p, z⟩ := pair_last (l := l) t
      exact ⟨_ :: m', y, rfl, .cons q p, z⟩
theorem scRb : FnScope ["self"] ["self"] (defScope sRb) := ⟨rfl, rfl, rfl, by decide +kernel, rfl, by decide +kernel, by decide +kernel⟩
theorem ok_rb {f : Addr} {fd : FuncData} (F : Fun K "rollback" "System.rollback" sRb f fd) (T : SysT K mg CS fSI fTk) : FnOk P w K mg base CX0 1 f fd ["self"] (spRb K CC CS) := by
  refine F.ok scRb (fun vs H Q E h => ?_) (fun cdv A outer s H vs Q E hr h => ?_)
  · obtain ⟨s, H0, S, B, Bs, Hs, rfl, _⟩ := h
    rfl
  · obtain ⟨s, H0, S, B, Bs, Hs, rfl, ⟨dx, c, b, h, bs, hs, Y, C, p1, p2, hne, e2, e3, e4, e5⟩, k⟩ := h
    refine ⟨_, pss_cons (ps_if (pt_not (pt_truth (pe_fld (pv 0) rfl) (by intro _; rfl))) (pss_one ps_never) pss_nil)
      (pss_one (ps_fld (pv 0) (pe_bm0 PySem.F.plainAttrs_list PySem.F.slot_list_pop PySem.F.type_list_pop mt_pop (pe_fld (pv 0) rfl)) rfl)), ?_⟩
    obtain ⟨sb, sh⟩ := Y.ne
    obtain ⟨bs', y, rfl, p1', ⟨c', rfl, C'⟩⟩ := pair_last p1
    refine ⟨_, rfl, s, CS, dx, _, _, rfl, Y.i, T.cl, T.n2, syF_b _ _ _, _, .inl ⟨_, SqL.of Y.b, rfl⟩, ?_⟩
    have e : (bs' ++ [V.ref c']).isEmpty = false := by cases bs' <;> rfl
    rw [e]
    refine iteF ?_
    refine ⟨_, rfl, s, CS, dx, _, _, rfl, Y.i, T.cl, T.n2, syF_b _ _ _, .inl ⟨rfl, _, SqL.of Y.b⟩, b, _, .ref c', rfl, rfl, Y.b, by simp, ?_⟩
    refine ⟨_, rfl, s, CS, dx, _, rfl, (upd_ne sb).trans Y.i, T.cl, T.n1, by rw [syF_len]; decide, ?_⟩
    rw [syF_put, List.dropLast_concat]
    refine k _ (SyG.step (bs' := bs') (hs' := hs) Y (fun q o e n => ?_) hne e2 e3 e4 e5 ⟨upd_same, ?_, ?_⟩ C' p1' p2)
    · have n1 : q ≠ s := fun z => n (by rw [z]; simp)
      have n2 : q ≠ b := fun z => n (by rw [z]; simp)
      rw [upd_ne n1, upd_ne n2]
      exact e
    · rw [upd_ne sb.symm, upd_same]
    · rw [upd_ne sh.symm, upd_ne hne]; exact Y.h
end
end Bo

set_option Elab.async false
set_option linter.all false
set_option maxRecDepth 100000
set_option maxHeartbeats 8000000
namespace Bo
open PySem L2
/-- System.__init__ -/
def spSInitG (K : PySem.W.Frag) (CC CS : Addr) : Sp := fun vs H Q _ => ∃ (s dx : Addr), vs = [.ref s] ∧ H s = some (.ins CS dx []) ∧ ∀ (c b h : Addr) (H' : Hp), (∀ q o, H q = some o → q ≠ s → H' q = some o) → h ≠ b → H b = none → H h = none → SgAt CS H' s dx c b h [] [] → CtIn K CC H' c ⟨[], [], []⟩ → Q .non H'
/-- System() -/
theorem sg_made {K : PySem.W.Frag} {CC CS : Addr} {H : Hp} {Q : VK} {E : XK} (k : ∀ (s : Addr) (H' : Hp), SyG K CC CS H H' s ⟨[], [], []⟩ [] [] → Q (.ref s) H') :
    ∀ x dx, H x = none → H dx = none → dx ≠ x → spSInitG K CC CS (.ref x :: ([] ++ [])) (upd (upd H dx (.own x)) x (.ins CS dx [])) (fun v H2 => v = .non ∧ Q (.ref x) H2) E :=
  fun x dx hx hd ne => ⟨x, dx, rfl, upd_same, fun c b h H' kk e1 e0 e2 Y C => ⟨rfl, k x H' ⟨dx, c, b, h, [], [], Y, C, .nil, .nil, e1, hx, (by
      cases q : H b with
      | none => rfl
      | some o =>
        rw [upd_ne (ne_of_none q hx), upd_ne (ne_of_none q hd), q] at e0
        cases e0), (by
      cases q : H h with
      | none => rfl
      | some o =>
        rw [upd_ne (ne_of_none q hx), upd_ne (ne_of_none q hd), q] at e2
        cases e2),
    fun q o e => kk q o (by rw [upd_ne (ne_of_none e hx), upd_ne (ne_of_none e hd)]; exact e) (ne_of_none e hx)⟩⟩⟩
section
variable {P : Program} {w : World} {K : PySem.W.Frag} {mg : Str → Option Value} {base : Heap} {CC fCI CN fIN CS fSI fTk : Addr}
theorem ok_sInitG {f : Addr} {fd fdCI : FuncData} (F : Fun K "__init__" "System.__init__" sSInit f fd) (T : SysT K mg CS fSI fTk) (TC : CtT K mg CC fCI) (GC : FnOk P w K mg base CX0 1 fCI fdCI ["self", "columns", "rows", "constants"] (spCtInit CC)) (bC : Binds K fdCI ["self", "columns", "rows", "constants"] []) :
    FnOk P w K mg base CX0 3 f fd ["self"] (spSInitG K CC CS) := by
  refine F.ok scSI (fun vs H Q E h => ?_) (fun cdv A outer s H vs Q E hr h => ?_)
  · obtain ⟨s, dx, rfl, _⟩ := h
    rfl
  · obtain ⟨s, dx, rfl, hs, k⟩ := h
    refine ⟨_, pss_cons (ps_fld (pv 0) (pe_make TC.mkC GC hr rfl TC.g bC .nil pass0 (pa_cons (pe_tup pa_nil) (pa_cons (pe_fz pe_dnewK) (pa_cons (pe_fz pe_dnewK) pa_nil)))) rfl)
      (pss_cons (ps_fld (pv 0) (pe_lst pa_nil) rfl) (pss_one (ps_fld (pv 0) (pe_lst pa_nil) rfl))), ?_⟩
    refine ⟨by decide, fun t ht d1 hd1 => ⟨d1, _, rfl, upd_same, True.intro, fun od1 => ?_⟩⟩
    rw [upd_upd]
    intro d2 hd2
    refine ⟨d2, _, rfl, upd_same, True.intro, fun od2 => ?_⟩
    rw [upd_upd]
    have s1 : Same H (upd H t (.tup [])) := same_new ht
    have s2 := same_new (o := .frz od1 (.dK [])) hd1
    have s3 := same_new (o := .frz od2 (.dK [])) hd2
    intro x0 dx0 h0 h1 h2
    refine ⟨x0, dx0, t, d1, d2, rfl, upd_same, fun H4 kk hc => ⟨rfl, ?_⟩⟩
    have s4 : Same (upd (upd (upd H t (.tup [])) d1 (.frz od1 (.dK []))) d2 (.frz od2 (.dK []))) H4 := fun b o q => kk b o (by rw [upd_ne (ne_of_none q h0), upd_ne (ne_of_none q h1)]; exact q) (ne_of_none q h0)
    have e0 : H4 s = some (.ins CS dx []) := s4 _ _ (s3 _ _ (s2 _ _ (s1 _ _ hs)))
    refine ⟨_, rfl, s, CS, dx, [], rfl, e0, T.cl, T.n1, by decide, ?_⟩
    have C0 : CtAt K CC H4 x0 ⟨[], [], []⟩ dx0 t d1 d2 [] := ⟨hc, SqT.of (s4 _ _ (s3 _ _ (s2 _ _ upd_same))), ⟨od1, s4 _ _ (s3 _ _ upd_same)⟩, .nil, ⟨od2, s4 _ _ upd_same⟩⟩
    refine ⟨by decide, fun b hb => ⟨_, rfl, s, CS, dx, (putF "_contents" (.ref x0) []), rfl, ?_, T.cl, T.n2, by have := putF_len "_contents" (.ref x0) []; simp only [List.length_nil] at this; omega, ?_⟩⟩
    · have sb : s ≠ b := fun z => by rw [← z, upd_same] at hb; cases hb
      rw [upd_ne sb, upd_same]
    refine ⟨by decide, fun h hh => ⟨_, rfl, s, CS, dx, (putF "_begun" (.ref b) (putF "_contents" (.ref x0) [])), rfl, ?_, T.cl, T.n3, by have := putF_len "_contents" (.ref x0) []; have := putF_len "_begun" (.ref b) (putF "_contents" (.ref x0) []); simp only [List.length_nil] at *; omega, ?_⟩⟩
    · have sh : s ≠ h := fun z => by rw [← z, upd_same] at hh; cases hh
      rw [upd_ne sh, upd_same]
    have sb : b ≠ s := fun z => by rw [z, upd_same] at hb; cases hb
    have sh : h ≠ s := fun z => by rw [z, upd_same] at hh; cases hh
    have bh : h ≠ b := fun z => by rw [z, upd_ne sb, upd_same] at hh; cases hh
    have hbn : H4 b = none := by rw [upd_ne sb] at hb; exact hb
    have hhn : H4 h = none := by rw [upd_ne sh, upd_ne bh, upd_ne sh] at hh; exact hh
    have all : ∀ q o, H4 q = some o → q ≠ s → (upd (upd (upd (upd (upd H4 s (.ins CS dx (putF "_contents" (.ref x0) []))) b (.lst [])) s (.ins CS dx (putF "_begun" (.ref b) (putF "_contents" (.ref x0) [])))) h (.lst [])) s (.ins CS dx (syF x0 b h))) q = some o := fun q o e n => by
      rw [upd_ne n, upd_ne (ne_of_none e hhn), upd_ne n, upd_ne (ne_of_none e hbn), upd_ne n]
      exact e
    have c_s : ∀ q o, H4 q = some o → (∀ fs, o ≠ .ins CS dx fs) → q ≠ s := fun q o e n z => by
      rw [z, e0] at e
      exact n _ (Option.some.inj e).symm
    have free : ∀ q, H4 q = none → H q = none := fun q hq => by
      cases e : H q with
      | none => rfl
      | some o => rw [s4 _ _ (s3 _ _ (s2 _ _ (s1 _ _ e)))] at hq; cases hq
    refine k x0 b h _ (fun q o e n => all q o (s4 _ _ (s3 _ _ (s2 _ _ (s1 _ _ e)))) n) bh (free _ hbn) (free _ hhn) ⟨upd_same, ?_, ?_⟩ ⟨dx0, t, d1, d2, [], ?_, ?_, ?_, .nil, ?_⟩
    · rw [upd_ne sb, upd_ne bh.symm, upd_ne sb, upd_same]
    · rw [upd_ne sh, upd_same]
    · refine all _ _ hc fun z => ?_
      rw [z, e0] at hc
      injection hc with hc
      injection hc with _ _ hc
      have l1 := ctF_c t d1 d2
      rw [← hc] at l1
      cases l1
    · exact SqT.of (all _ _ (s4 _ _ (s3 _ _ (s2 _ _ upd_same))) (c_s _ _ (s4 _ _ (s3 _ _ (s2 _ _ upd_same))) fun _ z => by cases z))
    · exact ⟨od1, all _ _ (s4 _ _ (s3 _ _ upd_same)) (c_s _ _ (s4 _ _ (s3 _ _ upd_same)) fun _ z => by cases z)⟩
    · exact ⟨od2, all _ _ (s4 _ _ upd_same) (c_s _ _ (s4 _ _ upd_same) fun _ z => by cases z)⟩
/-! ### editing methods that find what they ask -/
theorem passN {X : Cx} : Passes (L2.CX X.prog X.w) X E0 := fun _ _ _ _ _ _ _ ⟨_, _, _, _, _, _, _, _, _, _, _, _, he⟩ => he.elim
theorem flat_txt {K : PySem.W.Frag} {H : Hp} (y : Str) : Flat K H (.str y) (.str y) := .atom (v := .str y) rfl
theorem name_len8 {y : Str} (h : nameOk y = true) : y.length ≤ 8 := by
  unfold nameOk at h
  rw [Bool.and_eq_true, Bool.and_eq_true] at h
  have := of_decide_eq_true h.2.1
  rw [show y.length = y.cps.toList.length from (Array.length_toList (xs := y.cps)).symm]
  exact this
theorem cxUp0 : StX.CXUp CX0 := fun _ _ _ _ _ _ _ _ _ _ _ z => z
theorem name_len {y : Str} (h : nameOk y = true) : y.length ≤ 1000 := Nat.le_trans (name_len8 h) (by decide)
def spAUG (K : PySem.W.Frag) (CC CS : Addr) : Sp := fun vs H Q _ => ∃ (s : Addr) (H0 : Hp) (S : Ct) (Bs Hs : List Ct) (ys : List Str), vs = .ref s :: ys.map V.str ∧ SyG K CC CS H0 H s S Bs Hs ∧ Hs.length < 1000000 ∧ (∀ y ∈ ys, nameOk y = true) ∧ (ys ++ S.cols).Nodup ∧ (ys ++ S.cols).length ≤ 24 ∧
  ∀ (H' : Hp) (zs : List Str), zs.Perm (ys ++ S.cols) → PyProof.Rows.sortedS zs = true → SyG K CC CS H0 H' s { S with cols := zs } Bs (histG Bs Hs S) → Q .non H'
def spAUGt (K : PySem.W.Frag) (CC CS : Addr) : Sp := fun vs H Q E => ∃ (s n : Addr) (xs : List V), vs = [.ref s, .ref n] ∧ H n = some (.tup xs) ∧ spAUG K CC CS (.ref s :: xs) H Q E
theorem ok_auG {f fW : Addr} {fd fdW fdTk : FuncData} (F : Fun K "add_unknown" "System.add_unknown" sAU f fd) (T : SysT K mg CS fSI fTk) (TC : CtT K mg CC fCI)
    (GT : FnOk P w K mg base CX0 1 fTk fdTk ["self", "contents"] (spTakeG K CC CS)) (bT : Binds K fdTk ["self", "contents"] [])
    (GW : FnOk P w K mg base (L2.CX P w) 5 fW fdW ["contents", "names"] (spWU K CC CN)) (mW : mg "with_unknowns" = some (.ref fW)) (kW : PySem.W.keepIn K (.ref fW) = true) (bW : Binds K fdW ["contents", "names"] []) :
    FnR P w K mg base CX0 6 f (spAUG K CC CS) := by
  obtain ⟨oc, od, kV, doc, pm, an, cdv, ct, osl, rfl, lk, hcd⟩ := F.ex
  have R : FnR P w K mg base CX0 6 f (fun vs H Q E => ∃ ws rest, vs = ws ++ rest ∧ ws.length = (["self"] : List Str).length ∧ rest.length ≤ sizeLine ∧ ∀ p, H p = none → spAUGt K CC CS (ws ++ [V.ref p]) (upd H p (.tup rest)) Q E) := by
    refine StX.fn_star lk hcd scAU cxUp0 (StX.bind_star1 (B := fun vs => bindArgs _ ⟨vs, []⟩) (fun _ => rfl) (fun _ _ _ => rfl)) (fun A outer s H vs Q E hr h => ?_)
    obtain ⟨s, n, xs, rfl, hn, h⟩ := h
    obtain ⟨s', H0, S, Bs, Hs, ys, e, Y, hm, hok, hnd, hle, k⟩ := h
    cases e
    have hr1 : Room 1 _ := hr.mono (by decide)
    refine ⟨_, pss_one (ps_expr (pe_meth (pv 0) T.cl T.tk GT hr1 bT .nil pass0 (pa_cons (pe_call GW hr rfl mW kW bW .nil passN (pa_cons (pe_fld (pv 0) rfl) (pa_cons (pv 1) pa_nil))) pa_nil))), ?_⟩
    obtain ⟨dx, c, b, h, bs, hs, A0, C, rest⟩ := id Y
    refine ⟨_, rfl, s, dx, _, rfl, A0.i, syF_no _ _ _ (by decide +kernel) (by decide +kernel) (by decide +kernel), _, rfl, s, CS, dx, _, _, rfl, A0.i, T.cl, T.n1, syF_c _ _ _, _, rfl, ?_⟩
    have l1 : (ys ++ S.cols).length = ys.length + S.cols.length := List.length_append
    refine ⟨c, n, S, ys.map V.str, rfl, C, SqT.of hn, by rw [List.length_map]; omega, by omega, fun x hx => ?_, fun z hz => ?_, .inr ⟨ys, rfl, hok, hnd, hle, fun a H1 zs sm q1 q2 C1 => ?_⟩⟩
    · obtain ⟨y, _, rfl⟩ := List.mem_map.mp hx
      exact ⟨_, flat_txt y⟩
    · obtain ⟨y, hy, e⟩ := List.mem_map.mp hz
      cases e
      exact name_len (hok _ hy)
    · exact ⟨s, a, H0, S, { S with cols := zs }, Bs, Hs, rfl, Y.keep sm, C1, hm, fun H2 Y2 => k H2 zs q1 q2 Y2⟩
  refine R.imp fun vs H Q E h => ?_
  obtain ⟨s, H0, S, Bs, Hs, ys, rfl, Y, hm, hok, hnd, hle, k⟩ := id h
  have l1 : (ys ++ S.cols).length = ys.length + S.cols.length := List.length_append
  refine ⟨[.ref s], ys.map V.str, rfl, rfl, by rw [List.length_map, sizeLine_eq]; omega, fun p hp => ⟨s, p, ys.map V.str, rfl, upd_same, s, H0, S, Bs, Hs, ys, rfl, Y.keep (same_new hp), hm, hok, hnd, hle, k⟩⟩
def spAEG (K : PySem.W.Frag) (CC CS : Addr) : Sp := fun vs H Q _ => ∃ (s : Addr) (H0 : Hp) (S : Ct) (Bs Hs : List Ct) (y : Str), vs = [.ref s, .str y] ∧ SyG K CC CS H0 H s S Bs Hs ∧ Hs.length < 1000000 ∧ nameOk y = true ∧ y ∉ S.rows.map (·.1) ∧ y ∉ S.cons.map (·.1) ∧ S.rows.length < 24 ∧ S.cons.length < 24 ∧
  ∀ (H' : Hp), SyG K CC CS H0 H' s { S with rows := S.rows ++ [(y, [])], cons := S.cons ++ [(y, 0)] } Bs (histG Bs Hs S) → Q .non H'
def spAEGt (K : PySem.W.Frag) (CC CS : Addr) : Sp := fun vs H Q E => ∃ (s n : Addr) (v : V), vs = [.ref s, v, .ref n] ∧ H n = some (.tup []) ∧ spAEG K CC CS [.ref s, v] H Q E
theorem ok_aeG {f fW : Addr} {fd fdW fdTk : FuncData} (F : Fun K "add_equation" "System.add_equation" sAE f fd) (T : SysT K mg CS fSI fTk) (TC : CtT K mg CC fCI)
    (GT : FnOk P w K mg base CX0 1 fTk fdTk ["self", "contents"] (spTakeG K CC CS)) (bT : Binds K fdTk ["self", "contents"] [])
    (GW : FnOk P w K mg base (L2.CX P w) 6 fW fdW ["contents", "name", "unknowns"] (spWE K CC CN)) (mW : mg "with_equation" = some (.ref fW)) (kW : PySem.W.keepIn K (.ref fW) = true) (bW : Binds K fdW ["contents", "name", "unknowns"] []) :
    FnR P w K mg base CX0 7 f (spAEG K CC CS) := by
  obtain ⟨oc, od, kV, doc, pm, an, cdv, ct, osl, rfl, lk, hcd⟩ := F.ex
  have R : FnR P w K mg base CX0 7 f (fun vs H Q E => ∃ ws rest, vs = ws ++ rest ∧ ws.length = (["self", "name"] : List Str).length ∧ rest.length ≤ sizeLine ∧ ∀ p, H p = none → spAEGt K CC CS (ws ++ [V.ref p]) (upd H p (.tup rest)) Q E) := by
    refine StX.fn_star lk hcd scAE cxUp0 (StX.bind_star2 (B := fun vs => bindArgs _ ⟨vs, []⟩) (fun _ _ => rfl) (fun _ _ _ _ => rfl)) (fun A outer s H vs Q E hr h => ?_)
    obtain ⟨s, n, v, rfl, hn, h⟩ := h
    obtain ⟨s', H0, S, Bs, Hs, y, e, Y, hm, hok, hy1, hy2, l1, l2, k⟩ := h
    cases e
    have hr1 : Room 1 _ := hr.mono (by decide)
    refine ⟨_, pss_one (ps_expr (pe_meth (pv 0) T.cl T.tk GT hr1 bT .nil pass0 (pa_cons (pe_call GW hr rfl mW kW bW .nil passN (pa_cons (pe_fld (pv 0) rfl) (pa_cons (pv 1) (pa_cons (pv 2) pa_nil)))) pa_nil))), ?_⟩
    obtain ⟨dx, c, b, h, bs, hs, A0, C, rest⟩ := id Y
    refine ⟨_, rfl, s, dx, _, rfl, A0.i, syF_no _ _ _ (by decide +kernel) (by decide +kernel) (by decide +kernel), _, rfl, s, CS, dx, _, _, rfl, A0.i, T.cl, T.n1, syF_c _ _ _, _, rfl, _, rfl, ?_⟩
    refine ⟨c, n, S, .str y, .str y, rfl, C, SqT.of hn, flat_txt y, fun z e => by cases e; exact name_len hok, .inr ⟨y, rfl, hok, hy1, hy2, l1, l2, fun a H1 sm C1 => ?_⟩⟩
    exact ⟨s, a, H0, S, _, Bs, Hs, rfl, Y.keep sm, C1, hm, fun H2 Y2 => k H2 Y2⟩
  refine R.imp fun vs H Q E h => ?_
  obtain ⟨s, H0, S, Bs, Hs, y, rfl, Y, rest⟩ := id h
  exact ⟨[.ref s, .str y], [], rfl, rfl, Nat.zero_le _, fun p hp => ⟨s, p, .str y, rfl, upd_same, s, H0, S, Bs, Hs, y, rfl, Y.keep (same_new hp), rest⟩⟩
def spAEnG (K : PySem.W.Frag) (CC CS : Addr) : Sp := fun vs H Q _ => ∃ (s : Addr) (H0 : Hp) (S : Ct) (Bs Hs : List Ct) (y x : Str) (r : List (Str × Int)), vs = [.ref s, .str y, .str x] ∧ SyG K CC CS H0 H s S Bs Hs ∧ Hs.length < 1000000 ∧ (S.rows.map (·.1)).Nodup ∧ (y, r) ∈ S.rows ∧ x ∈ S.cols ∧ x ∉ r.map (·.1) ∧ S.rows.length ≤ 1000 ∧ r.length ≤ 1000 ∧
  ∀ H' : Hp, SyG K CC CS H0 H' s { S with rows := setRow S.rows y (r ++ [(x, 1)]) } Bs (histG Bs Hs S) → Q .non H'
theorem ok_aenG {f fW : Addr} {fd fdW fdTk : FuncData} (F : Fun K "add_entry" "System.add_entry" sAEn f fd) (T : SysT K mg CS fSI fTk)
    (GT : FnOk P w K mg base CX0 1 fTk fdTk ["self", "contents"] (spTakeG K CC CS)) (bT : Binds K fdTk ["self", "contents"] [])
    (GW : FnOk P w K mg base CX0 3 fW fdW ["contents", "equation", "unknown"] (spWEn K CC)) (mW : mg "with_entry" = some (.ref fW)) (kW : PySem.W.keepIn K (.ref fW) = true) (bW : Binds K fdW ["contents", "equation", "unknown"] []) :
    FnOk P w K mg base CX0 4 f fd ["self", "equation", "unknown"] (spAEnG K CC CS) := by
  refine F.ok scAEn (fun vs H Q E h => ?_) (fun cdv A outer s H vs Q E hr h => ?_)
  · obtain ⟨s, H0, S, Bs, Hs, y, x, r, rfl, _⟩ := h
    rfl
  · obtain ⟨s, H0, S, Bs, Hs, y, x, r, rfl, Y, hm, hnd, hyr, hx, hxr, l1, l2, k⟩ := h
    have hr1 : Room 1 _ := hr.mono (by decide)
    refine ⟨_, pss_one (ps_expr (pe_meth (pv 0) T.cl T.tk GT hr1 bT .nil pass0 (pa_cons (pe_call GW hr rfl mW kW bW .nil pass0 (pa_cons (pe_fld (pv 0) rfl) (pa_cons (pv 1) (pa_cons (pv 2) pa_nil)))) pa_nil))), ?_⟩
    obtain ⟨dx, c, b, h, bs, hs, A0, C, rest⟩ := id Y
    refine ⟨_, rfl, s, dx, _, rfl, A0.i, syF_no _ _ _ (by decide +kernel) (by decide +kernel) (by decide +kernel), _, rfl, s, CS, dx, _, _, rfl, A0.i, T.cl, T.n1, syF_c _ _ _, _, rfl, _, rfl, ?_⟩
    exact ⟨c, S, y, x, r, rfl, C, hnd, hyr, hx, hxr, l1, l2, fun a H1 sm C1 => ⟨s, a, H0, S, _, Bs, Hs, rfl, Y.keep sm, C1, hm, fun H2 Y2 => k H2 Y2⟩⟩
def spRmEG (K : PySem.W.Frag) (CC CS : Addr) : Sp := fun vs H Q _ => ∃ (s : Addr) (H0 : Hp) (S : Ct) (Bs Hs : List Ct) (y : Str), vs = [.ref s, .str y] ∧ SyG K CC CS H0 H s S Bs Hs ∧ Hs.length < 1000000 ∧ (S.rows.map (·.1)).Nodup ∧ (S.cons.map (·.1)).Nodup ∧ y ∈ S.rows.map (·.1) ∧ S.rows.length ≤ 1000 ∧ S.cons.length ≤ 1000 ∧
  ∀ H' : Hp, SyG K CC CS H0 H' s { S with rows := dropRow S.rows y, cons := dropRow S.cons y } Bs (histG Bs Hs S) → Q .non H'
abbrev sRmE : Stmt := inClass sSys 9
theorem scRmE : FnScope ["self", "name"] ["self", "name"] (defScope sRmE) := ⟨rfl, rfl, rfl, by decide +kernel, rfl, by decide +kernel, by decide +kernel⟩
theorem ok_rmeG {f fW : Addr} {fd fdW fdTk : FuncData} (F : Fun K "remove_equation" "System.remove_equation" sRmE f fd) (T : SysT K mg CS fSI fTk)
    (GT : FnOk P w K mg base CX0 1 fTk fdTk ["self", "contents"] (spTakeG K CC CS)) (bT : Binds K fdTk ["self", "contents"] [])
    (GW : FnOk P w K mg base CX0 3 fW fdW ["contents", "name"] (spWoE K CC)) (mW : mg "without_equation" = some (.ref fW)) (kW : PySem.W.keepIn K (.ref fW) = true) (bW : Binds K fdW ["contents", "name"] []) :
    FnOk P w K mg base CX0 4 f fd ["self", "name"] (spRmEG K CC CS) := by
  refine F.ok scRmE (fun vs H Q E h => ?_) (fun cdv A outer s H vs Q E hr h => ?_)
  · obtain ⟨s, H0, S, Bs, Hs, y, rfl, _⟩ := h
    rfl
  · obtain ⟨s, H0, S, Bs, Hs, y, rfl, Y, hm, nd1, nd2, hy, l1, l2, k⟩ := h
    have hr1 : Room 1 _ := hr.mono (by decide)
    refine ⟨_, pss_one (ps_expr (pe_meth (pv 0) T.cl T.tk GT hr1 bT .nil pass0 (pa_cons (pe_call GW hr rfl mW kW bW .nil pass0 (pa_cons (pe_fld (pv 0) rfl) (pa_cons (pv 1) pa_nil))) pa_nil))), ?_⟩
    obtain ⟨dx, c, b, h, bs, hs, A0, C, rest⟩ := id Y
    refine ⟨_, rfl, s, dx, _, rfl, A0.i, syF_no _ _ _ (by decide +kernel) (by decide +kernel) (by decide +kernel), _, rfl, s, CS, dx, _, _, rfl, A0.i, T.cl, T.n1, syF_c _ _ _, _, rfl, ?_⟩
    exact ⟨c, S, y, rfl, C, nd1, nd2, hy, l1, l2, fun a H1 sm C1 => ⟨s, a, H0, S, _, Bs, Hs, rfl, Y.keep sm, C1, hm, fun H2 Y2 => k H2 Y2⟩⟩
end
end Bo

set_option Elab.async false
set_option linter.all false
set_option maxRecDepth 100000
set_option maxHeartbeats 8000000
/-! the written form -/
namespace Bo
open PySem L2
abbrev sWL : Stmt := top 55
abbrev sStr : Stmt := inClass sSys 22
theorem pe_never {X : Cx} {e : Expr} : PE X e (fun _ _ _ => False) := ⟨fun _ _ _ _ _ _ h => h.elim⟩
def lineT (k : Str) (ws : List Str) : Str := Txt.join (Str.ofString " ") ((k ++ Str.ofString ":") :: ws)
def headT (us : List Str) : Str := Txt.join (Str.ofString " ") (Str.ofString "unknowns" :: us)
def rowAt {α : Type} (rows : List (Str × List α)) (k : Str) : List α := (rows.lookup k).getD []
def linesT (us ks : List Str) (f : Str → List Str) : List Str := headT us :: ks.map fun k => lineT k (f k)
def textT (us ks : List Str) (f : Str → List Str) : Str := Txt.join (Str.ofString "\n") (linesT us ks f)
theorem empty_app (y : Str) : Str.empty ++ y = y := str_ext (by rw [str_app]; rfl)
theorem row_at {α : Type} {k : Str} {r : List α} : ∀ {rows : List (Str × List α)}, (rows.map (·.1)).Nodup → (k, r) ∈ rows → rowAt rows k = r
  | p :: rows, nd, h => by
    rw [List.map_cons, List.nodup_cons] at nd
    unfold rowAt
    rw [List.lookup_cons]
    rcases List.mem_cons.mp h with e | e
    · rw [← e]
      simp
    · have ne : ¬ k = p.1 := fun z => nd.1 (List.mem_map.mpr ⟨_, e, z⟩)
      have : (k == p.1) = false := by simpa using ne
      rw [this]
      exact row_at nd.2 e
theorem sum_le {ys : List Str} {n : Nat} (h : ∀ y ∈ ys, y.length ≤ n) : (ys.map (·.length)).sum ≤ ys.length * n := by
  induction ys with
  | nil => simp
  | cons y ys ih =>
    have h1 := h y List.mem_cons_self
    have h2 := ih fun z hz => h z (List.mem_cons_of_mem _ hz)
    rw [List.map_cons, List.sum_cons, List.length_cons, Nat.succ_mul]
    omega
theorem join_len {sep : Str} {ys : List Str} {n : Nat} (h : ∀ y ∈ ys, y.length ≤ n) : (Txt.join sep ys).length ≤ ys.length * (n + sep.length) := by
  have e : (Txt.join sep ys).length = (ys.map (·.length)).sum + (ys.length - 1) * sep.length := size_glued sep ys
  have h1 := sum_le h
  have h2 : (ys.length - 1) * sep.length ≤ ys.length * sep.length := Nat.mul_le_mul_right _ (Nat.sub_le _ _)
  rw [e, Nat.mul_add]
  omega
/-- the texts that stand in a Contents are short, and there are few -/
structure CtFew (S : Ct) : Prop where
  c : S.cols.length ≤ 25
  cs : ∀ y ∈ S.cols, y.length ≤ 8
  r : S.rows.length ≤ 25
  k : ∀ p ∈ S.rows, p.1.length ≤ 8
  e : ∀ p ∈ S.rows, p.2.length ≤ 25 ∧ ∀ q ∈ p.2, q.1.length ≤ 8
def spWL (K : PySem.W.Frag) (CC : Addr) : Sp := fun vs H Q _ => ∃ (c : Addr) (S : Ct), vs = [.ref c, .bl false] ∧ CtIn K CC H c S ∧ CtFew S ∧ (S.rows.map (·.1)).Nodup ∧
  ∀ (q : Addr) (H' : Hp), Same H H' → H q = none → H' q = some (.lst ((linesT S.cols (srt (S.rows.map (·.1))) (fun k => srt ((rowAt S.rows k).map (·.1)))).map V.str)) → Q (.ref q) H'
section
variable {P : Program} {w : World} {K : PySem.W.Frag} {mg : Str → Option Value} {base : Heap} {CC fCI CN fIN CS fSI fTk : Addr}
theorem scWL : FnScope ["contents", "linear", "lines", "equation", "row", "words"] ["contents", "linear"] (defScope sWL) := ⟨rfl, rfl, rfl, by decide +kernel, rfl, by decide +kernel, by decide +kernel⟩
theorem intK_keys (l : List (Str × Int)) : (intK l).map (·.1) = (l.map (·.1)).map Sum.inr := by
  unfold intK
  rw [List.map_map, List.map_map]
  rfl
theorem ok_wl {f : Addr} {fd : FuncData} (F : Fun K "written_lines" "written_lines" sWL f fd) (TC : CtT K mg CC fCI) (TP : TxtP mg) : FnOk P w K mg base CX0 1 f fd ["contents", "linear"] (spWL K CC) := by
  refine F.ok scWL (fun vs H Q E h => ?_) (fun cdv A outer s H vs Q E hr h => ?_)
  · obtain ⟨c, S, rfl, _⟩ := h
    rfl
  · obtain ⟨c, S, rfl, hC, few, nd, k⟩ := h
    have hu := hu_of hr
    refine ⟨_, pss_cons (ps_set (i := 2) scWL.nd rfl (.inl rfl) (pe_lst (pa_cons (pe_join pe_str (pe_lst (pa_cons pe_str (StX.pa_star (pe_fld (pv 0) rfl) pa_nil)))) pa_nil)))
      (pss_cons (ps_for PassesOwn.never rfl (pi_list (pe_callB (call_sortedD rfl) (by rfl) TP.srt (by decide +kernel) (pa_cons (pe_fld (pv 0) rfl) pa_nil))) (pg_name (i := 3) scWL.nd rfl (.inl rfl))
        (pss_cons (ps_set (i := 4) scWL.nd rfl (.inl rfl) (pe_dget hu (pe_fld (pv 0) rfl) (pv 3) (fun _ _ => rfl)))
        (pss_cons (ps_set (i := 5) scWL.nd rfl (.inl rfl) (pe_ifExp (pt_val (pv 1)) pe_never (pe_callB (call_sortedD rfl) (by rfl) TP.srt (by decide +kernel) (pa_cons (pv 4) pa_nil))))
        (pss_one (ps_expr (pe_bm PySem.F.plainAttrs_list PySem.F.slot_list_append PySem.F.type_list_append mt_append (pv 2) (pa_cons (pe_join pe_str (pe_lst (pa_cons (pe_joined (.cons (pe_fmt (pv 3)) (.cons pe_str .nil))) (StX.pa_star (pv 5) pa_nil)))) pa_nil)))))))
      (pss_one (ps_ret (pv 2)))), ?_⟩
    obtain ⟨d1, ac, ar, ak, rs, C⟩ := hC
    have hks : rs.map (·.1) = S.rows.map (·.1) := pair_keys (fun p q z => z.1) C.p
    have hlr : rs.length = S.rows.length := by
      have e := congrArg List.length hks
      rw [List.length_map, List.length_map] at e
      exact e
    have fc := few.c
    have fr := few.r
    refine ⟨⟨_, rfl⟩, _, rfl, c, CC, d1, _, _, rfl, C.i, TC.cl, TC.n1, ctF_c _ _ _, ac, S.cols.map V.str, rfl, .inl C.c, ?_⟩
    refine ⟨by show (S.cols.map V.str ++ []).length + 1 ≤ _; rw [List.append_nil, List.length_map, sizeLine_eq]; omega, fun p1 hp1 => ⟨_, p1, Str.ofString "unknowns" :: S.cols, rfl, rfl, .inl (SqL.of (by rw [upd_same, List.append_nil]; rfl)), ?_, by show 1 ≤ sizeLine; decide, fun q hq => ?_⟩⟩
    · have h1 := sum_le few.cs
      have h0 : (Str.ofString "unknowns").length = 8 := rfl
      have h2 : (Str.ofString " ").length = 1 := rfl
      rw [List.map_cons, List.sum_cons, List.length_cons, h0, h2]
      omega
    have s1 : Same H (upd H p1 (.lst (V.str (Str.ofString "unknowns") :: (S.cols.map V.str ++ [])))) := same_new hp1
    generalize upd H p1 (.lst (V.str (Str.ofString "unknowns") :: (S.cols.map V.str ++ []))) = H1 at s1 hq ⊢
    have hqn : H q = none := s1.free hq
    have s2 : Same H1 (upd H1 q (.lst [V.str (Txt.join (Str.ofString " ") (Str.ofString "unknowns" :: S.cols))])) := same_new hq
    have eq : (upd H1 q (.lst [V.str (Txt.join (Str.ofString " ") (Str.ofString "unknowns" :: S.cols))])) q = some (.lst ([headT S.cols].map V.str)) := upd_same
    generalize upd H1 q (.lst [V.str (Txt.join (Str.ofString " ") (Str.ofString "unknowns" :: S.cols))]) = H2 at s2 eq ⊢
    have C2 := (C.keep s1).keep s2
    refine ⟨_, rfl, c, CC, d1, _, _, rfl, C2.i, TC.cl, TC.n2, ctF_r _ _ _, ar, refK rs, rs.map (·.1), rfl, C2.r.rd, refK_keys rs, by rw [List.length_map, hlr]; omega, fun zs p g1 g2 g3 => ⟨p, rfl, ⟨_, SqL.of upd_same⟩, ?_⟩⟩
    obtain rfl : zs = srt (S.rows.map (·.1)) := srt_of (hks ▸ g1) g2
    have s3 : Same H2 (upd H2 p (.lst ((srt (S.rows.map (·.1))).map V.str))) := same_new g3
    have ep : (upd H2 p (.lst ((srt (S.rows.map (·.1))).map V.str))) p = some (.lst ((srt (S.rows.map (·.1))).map V.str)) := upd_same
    have e3 := s3 _ _ eq
    generalize upd H2 p (.lst ((srt (S.rows.map (·.1))).map V.str)) = H3 at s3 ep e3 ⊢
    have sm : Same H H3 := (s1.trans s2).trans s3
    have C3 := C.keep sm
    have pq : p ≠ q := fun z => by rw [z, eq] at g3; cases g3
    generalize eK : srt (S.rows.map (·.1)) = ks at ep k
    have kl : ks.length = S.rows.length := by rw [← eK, srt_len, List.length_map]
    refine for_list (xs := ks.map V.str) (fun i σ H' => (∃ z3 z4 z5, σ = [some (.ref c), some (.bl false), some (.ref q), z3, z4, z5]) ∧ Same H H' ∧ H' p = some (.lst (ks.map V.str)) ∧ H' q = some (.lst ((headT S.cols :: (ks.take i).map fun k => lineT k (srt ((rowAt S.rows k).map (·.1)))).map V.str)))
      ⟨⟨_, _, _, rfl⟩, sm, ep, e3⟩ (fun i σ H' _ z => SqL.of z.2.2.1) ?_ ?_
    · rintro i x σ H4 hx ⟨⟨z3, z4, z5, rfl⟩, s4, ep4, eq4⟩
      rw [List.getElem?_map] at hx
      obtain ⟨y, hy, rfl⟩ := Option.map_eq_some_iff.mp hx
      have C4 := C.keep s4
      have ym : y ∈ S.rows.map (·.1) := srt_mem.mp (by rw [eK]; exact List.mem_of_getElem? hy)
      obtain ⟨d, hv, hm⟩ := refK_in (rs := rs) (y := y) (by rw [hks]; exact ym)
      obtain ⟨j, hj⟩ := List.mem_iff_getElem?.mp hm
      obtain ⟨⟨y', r'⟩, hrow, hrn, hd⟩ := pair_at C4.p hj
      cases (show y' = y from hrn)
      have hmr := List.mem_of_getElem? hrow
      have hd : Fz H4 d (.dK (intK r')) := hd
      have hrr := row_at nd hmr
      have fe : r'.length ≤ 25 ∧ ∀ q ∈ r', q.1.length ≤ 8 := few.e _ hmr
      have fk : y.length ≤ 8 := few.k _ hmr
      refine ⟨_, rfl, c, CC, d1, _, _, rfl, C4.i, TC.cl, TC.n2, ctF_r _ _ _, _, rfl, ar, _, rfl, .inl ⟨_, Sum.inr y, C4.r.rd, rfl, hv.symm⟩, ?_⟩
      refine ⟨_, rfl, _, rfl, iteF ⟨_, rfl, d, intK r', r'.map (·.1), rfl, hd.rd, intK_keys r', by rw [List.length_map]; have := fe.1; omega, fun ws p5 a1 a2 a3 => ?_⟩⟩
      obtain rfl : ws = srt (r'.map (·.1)) := srt_of a1 a2
      have s5 : Same H4 (upd H4 p5 (.lst ((srt (r'.map (·.1))).map V.str))) := same_new a3
      have e5 : (upd H4 p5 (.lst ((srt (r'.map (·.1))).map V.str))) p5 = some (.lst ((srt (r'.map (·.1))).map V.str)) := upd_same
      have p5q : p5 ≠ q := fun z => by rw [z, eq4] at a3; cases a3
      generalize upd H4 p5 (.lst ((srt (r'.map (·.1))).map V.str)) = H5 at s5 e5 ⊢
      have wl : ∀ y ∈ srt (r'.map (·.1)), y.length ≤ 8 := fun y hy => by
        obtain ⟨q, hq, rfl⟩ := List.mem_map.mp (srt_mem.mp hy)
        exact fe.2 q hq
      have wn : (srt (r'.map (·.1))).length ≤ 25 := by rw [srt_len, List.length_map]; exact fe.1
      have col : (Str.ofString ":").length = 1 := rfl
      have spc : (Str.ofString " ").length = 1 := rfl
      refine ⟨_, rfl, .inl ⟨rfl, _, SqL.of (s5 _ _ eq4)⟩, ⟨_, rfl⟩, _, rfl, .inl ⟨y, rfl, by rw [sizeLine_eq]; omega, y, rfl, by rw [empty_app, sizeLine_eq]; omega, _, rfl, by rw [empty_app, str_len, str_app, List.length_append, ← str_len, ← str_len, col, sizeLine_eq]; omega, ?_⟩⟩
      rw [empty_app]
      have ll : (y ++ Str.ofString ":").length ≤ 9 := by rw [str_len, str_app, List.length_append, ← str_len, ← str_len, col]; omega
      refine ⟨_, rfl, p5, _, rfl, .inr (SqL.of e5), ?_⟩
      refine ⟨by show List.length (List.map V.str (srt (List.map (fun q : Str × Int => q.1) r')) ++ []) + 1 ≤ _; rw [List.append_nil, List.length_map, sizeLine_eq]; omega, fun p6 hp6 => ⟨_, p6, (y ++ Str.ofString ":") :: srt (r'.map (·.1)), rfl, rfl, .inl (SqL.of (by rw [upd_same, List.append_nil]; rfl)), ?_, q, _, _, rfl, rfl, same_new hp6 _ _ (s5 _ _ eq4), ?_, ?_⟩⟩
      · have h1 := sum_le wl
        rw [List.map_cons, List.sum_cons, List.length_cons, spc]
        omega
      · rw [List.length_map, List.length_cons, List.length_map, List.length_take, sizeLine_eq]
        omega
      · have p6q : p6 ≠ q := fun z => by rw [z, s5 _ _ eq4] at hp6; cases hp6
        refine ⟨⟨_, _, _, rfl⟩, fun b o e => ?_, ?_, ?_⟩
        · rw [upd_ne (ne_of_none e hqn)]
          exact same_new hp6 _ _ (s5 _ _ (s4 _ _ e))
        · rw [upd_ne pq]
          exact same_new hp6 _ _ (s5 _ _ ep4)
        · rw [upd_same, take_snoc hy, List.map_append]
          have hL : lineT y (srt ((rowAt S.rows y).map (·.1))) = Txt.join (Str.ofString " ") ((y ++ Str.ofString ":") :: srt (r'.map (·.1))) := by rw [hrr]; rfl
          rw [← hL, List.map_cons, List.map_cons, List.map_append]
          rfl
    · rintro σ H4 ⟨⟨z3, z4, z5, rfl⟩, s4, ep4, eq4⟩
      rw [show ks.map V.str = (ks.map V.str) from rfl, List.length_map, List.take_length] at eq4
      exact ⟨_, rfl, k q H4 s4 hqn eq4⟩
/-- str(system) -/
def spStr (K : PySem.W.Frag) (CC CS : Addr) : Sp := fun vs H Q _ => ∃ (s : Addr) (H0 : Hp) (S : Ct) (Bs Hs : List Ct), vs = [.ref s] ∧ SyG K CC CS H0 H s S Bs Hs ∧ CtFew S ∧ (S.rows.map (·.1)).Nodup ∧
  ∀ H', Same H H' → Q (.str (textT S.cols (srt (S.rows.map (·.1))) (fun k => srt ((rowAt S.rows k).map (·.1))))) H'
theorem scStr : FnScope ["self"] ["self"] (defScope sStr) := ⟨rfl, rfl, rfl, by decide +kernel, rfl, by decide +kernel, by decide +kernel⟩
theorem ok_str {f fW : Addr} {fd fdW : FuncData} {lt : Value} (F : Fun K "__str__" "System.__str__" sStr f fd) (T : SysT K mg CS fSI fTk) (GW : FnOk P w K mg base CX0 1 fW fdW ["contents", "linear"] (spWL K CC)) (mW : mg "written_lines" = some (.ref fW)) (kW : PySem.W.keepIn K (.ref fW) = true) (bW : Binds K fdW ["contents", "linear"] [])
    (cn : Con K CS "LINEAR" (.bl false) lt) : FnOk P w K mg base CX0 2 f fd ["self"] (spStr K CC CS) := by
  refine F.ok scStr (fun vs H Q E h => ?_) (fun cdv A outer s H vs Q E hr h => ?_)
  · obtain ⟨s, H0, S, Bs, Hs, rfl, _⟩ := h
    rfl
  · obtain ⟨s, H0, S, Bs, Hs, rfl, Y, few, nd, k⟩ := h
    refine ⟨_, pss_one (ps_ret (pe_join pe_str (pe_call GW hr rfl mW kW bW .nil pass0 (pa_cons (pe_fld (pv 0) rfl) (pa_cons (pe_con (pv 0) rfl) pa_nil))))), ?_⟩
    obtain ⟨dx, c, b, h, bs, hs, A0, C, rest⟩ := id Y
    refine ⟨⟨_, rfl⟩, _, rfl, s, CS, dx, _, _, rfl, A0.i, T.cl, T.n1, syF_c _ _ _, _, rfl, s, CS, dx, _, _, _, rfl, A0.i, T.cl, cn, syF_no _ _ _ (by decide +kernel) (by decide +kernel) (by decide +kernel), ?_⟩
    refine ⟨c, S, rfl, C, few, nd, fun q H' sm hq e => ⟨_, q, _, rfl, rfl, .inl (SqL.of e), ?_, k H' sm⟩⟩
    have fc := few.c
    have fr := few.r
    have spc : (Str.ofString " ").length = 1 := rfl
    have lens : ∀ y ∈ linesT S.cols (srt (S.rows.map (·.1))) (fun k => srt ((rowAt S.rows k).map (·.1))), y.length ≤ 1000 := fun y hy => by
      unfold linesT at hy
      rcases List.mem_cons.mp hy with e | e
      · rw [e]
        have h1 := join_len (sep := Str.ofString " ") (ys := Str.ofString "unknowns" :: S.cols) (n := 8) fun z hz => by
          rcases List.mem_cons.mp hz with e | e
          · rw [e]; decide
          · exact few.cs z e
        rw [spc, List.length_cons] at h1
        unfold headT
        omega
      · obtain ⟨y', hy', rfl⟩ := List.mem_map.mp e
        obtain ⟨⟨y2, r⟩, hm, e2⟩ := List.mem_map.mp (srt_mem.mp hy')
        cases e2
        have fe : r.length ≤ 25 ∧ ∀ q ∈ r, q.1.length ≤ 8 := few.e _ hm
        have fk : y2.length ≤ 8 := few.k _ hm
        show (lineT y2 (srt ((rowAt S.rows y2).map (·.1)))).length ≤ 1000
        rw [row_at nd hm]
        have col : (Str.ofString ":").length = 1 := rfl
        have h1 := join_len (sep := Str.ofString " ") (ys := (y2 ++ Str.ofString ":") :: srt (r.map (·.1))) (n := 9) fun z hz => by
          rcases List.mem_cons.mp hz with e | e
          · rw [e, str_len, str_app, List.length_append, ← str_len, ← str_len, col]
            omega
          · obtain ⟨q, hq, rfl⟩ := List.mem_map.mp (srt_mem.mp e)
            exact Nat.le_trans (fe.2 q hq) (by decide)
        rw [spc, List.length_cons, srt_len, List.length_map] at h1
        have := fe.1
        unfold lineT
        omega
    have h1 := sum_le lens
    have l1 : (linesT S.cols (srt (S.rows.map (·.1))) (fun k => srt ((rowAt S.rows k).map (·.1)))).length ≤ 26 := by
      unfold linesT
      rw [List.length_cons, List.length_map, srt_len, List.length_map]
      omega
    have nl : (Str.ofString "\n").length = 1 := rfl
    rw [nl]
    omega
end
end Bo

set_option Elab.async false
set_option linter.all false
set_option maxRecDepth 100000
namespace Bo
open PySem L2
abbrev kR : Key := Sum.inr (Str.ofString "rows")
abbrev kU : Key := Sum.inr (Str.ofString "unknowns")
theorem neRU : ¬ (kR = kU) := by decide +kernel
end Bo

set_option Elab.async false
set_option linter.all false
set_option maxRecDepth 100000
set_option maxHeartbeats 8000000
/-! the law's own plain system, its text; str(system) -/
namespace Bo
open PySem PySem.Spec PyProof.Rows L2
section
variable {X : Cx}
/-- str(x), x an instance of a class with its own __str__ -/
theorem call_strOwn {k : Nat} {C f : Addr} {fd : FuncData} {sp : Sp} (F : FnOk X.prog X.w X.K X.mg X.base CX0 k f fd ["self"] sp) (b : Binds X.K fd ["self"] []) (hs : PySem.W.findIn X.K (.ref C) "__str__" = some (some (.ref f))) (hf : PySem.W.isFn X.K (.ref f) = true) (hr : Room (k + 2) X.A) :
    CallR X (.type "str") (fun vs H Q => ∃ a dx fs, vs = [.ref a] ∧ H a = some (.ins C dx fs) ∧ sp [.ref a] H (fun v H' => (∃ z, v = .str z) ∧ Q v H') E0) := by
  intro pins s σ H vs us Q I r h
  obtain ⟨a, dx, fs, rfl, ha, q⟩ := h
  rw [Vals.ref1 r]
  obtain ⟨mA, O, _⟩ := ins_get I.hok ha
  obtain ⟨od, J, _⟩ := O.look
  have hr2 := hr.in1.in1
  have rv0 : Vals [V.ref a] ([Value.ref a] ++ []) := .cons rfl .nil
  have hl : ([Value.ref a] ++ []).length = (["self"] : List Str).length := rfl
  refine PySem.W.kso_call hr2.units0 I.kIn J hs hf (wpAny_call (codeAny_mono (F.run _ X.stack s H ⟨[.ref a], []⟩ ([.ref a] ++ []) [.ref a] _ _ hr2 I.env0.in1.in1 (b s [.ref a] I.kIn hl) rv0 q) fun r s' hq => ?_))
  cases r with
  | error e => exact (show False from hq).elim
  | ok fl =>
    cases fl with
    | ret u =>
      obtain ⟨v, H', I2, rv, ⟨⟨z, rfl⟩, q2⟩⟩ := I.after hq
      obtain ⟨t, rfl⟩ := rv
      exact ⟨.str z, H', I2, ⟨t, rfl⟩, q2⟩
    | next => exact False.elim hq
    | brk => exact False.elim hq
    | cont => exact False.elim hq
end
/-- the laws' own plain system: its rows and its unknowns -/
structure PlG (H : Hp) (pl r u : Addr) (rows : List (Str × List Str)) (ra : List (Str × Addr)) (us : List Str) : Prop where
  d : H pl = some (.dK [(kR, .ref r), (kU, .ref u)])
  r : Rd H r (.dK (refK ra))
  e : Paired (fun (p : Str × List Str) (q : Str × Addr) => p.1 = q.1 ∧ H q.2 = some (.lst (p.2.map V.str))) rows ra
  u : H u = some (.lst (us.map V.str))
section
variable {H H' : Hp} {pl r u : Addr} {rows : List (Str × List Str)} {ra : List (Str × Addr)} {us : List Str}
theorem PlG.keep (p : PlG H pl r u rows ra us) (k : Same H H') : PlG H' pl r u rows ra us := ⟨k _ _ p.d, Rd.keep p.r k, Paired.mapP p.e fun _ _ z => ⟨z.1, k _ _ z.2⟩, k _ _ p.u⟩
theorem PlG.gr (p : PlG H pl r u rows ra us) : DGet H pl (V.str (Str.ofString "rows")) (some (V.ref r)) :=
  .inl ⟨_, kR, .inl p.d, rfl, (show some (V.ref r) = valV [(kR, V.ref r), (kU, V.ref u)] kR by rw [valV_pos rfl])⟩
theorem PlG.gu (p : PlG H pl r u rows ra us) : DGet H pl (V.str (Str.ofString "unknowns")) (some (V.ref u)) :=
  .inl ⟨_, kU, .inl p.d, rfl, (show some (V.ref u) = valV [(kR, V.ref r), (kU, V.ref u)] kU by rw [valV_neg neRU, valV_pos rfl])⟩
theorem PlG.keys (p : PlG H pl r u rows ra us) : ra.map (·.1) = rows.map (·.1) := by
  have key : ∀ {rows : List (Str × List Str)} {ra : List (Str × Addr)}, Paired (fun (p : Str × List Str) (q : Str × Addr) => p.1 = q.1 ∧ H q.2 = some (.lst (p.2.map V.str))) rows ra → ra.map (·.1) = rows.map (·.1) := by
    intro rows ra h
    induction h with
    | nil => rfl
    | cons q t ih => rw [List.map_cons, List.map_cons, ih, q.1]
  exact key p.e
theorem PlG.len (p : PlG H pl r u rows ra us) : ra.length = rows.length := (pair_len p.e).symm
/-- the row at y -/
theorem PlG.row (p : PlG H pl r u rows ra us) {y : Str} (h : y ∈ rows.map (·.1)) : ∃ d xs, valV (refK ra) (Sum.inr y) = some (.ref d) ∧ (y, xs) ∈ rows ∧ H d = some (.lst (xs.map V.str)) := by
  obtain ⟨d, hv, hm⟩ := refK_in (rs := ra) (y := y) (by rw [p.keys]; exact h)
  obtain ⟨j, hj⟩ := List.mem_iff_getElem?.mp hm
  obtain ⟨⟨y', xs⟩, hrow, hrn, hd⟩ := pair_at p.e hj
  cases (show y' = y from hrn)
  exact ⟨d, xs, hv, List.mem_of_getElem? hrow, hd⟩
end
/-- few short texts -/
structure PlFew (rows : List (Str × List Str)) (us : List Str) : Prop where
  u : us.length ≤ 25
  us : ∀ y ∈ us, y.length ≤ 8
  r : rows.length ≤ 25
  k : ∀ p ∈ rows, p.1.length ≤ 8
  e : ∀ p ∈ rows, p.2.length ≤ 25 ∧ ∀ q ∈ p.2, q.length ≤ 8
def plainT (rows : List (Str × List Str)) (us : List Str) : Str := textT (srt us) (srt (rows.map (·.1))) (fun k => srt (rowAt rows k))
abbrev sText : Stmt := top 70
def spText : Sp := fun vs H Q _ => ∃ (pl r u : Addr) (rows : List (Str × List Str)) (ra : List (Str × Addr)) (us : List Str), vs = [.ref pl] ∧ PlG H pl r u rows ra us ∧ PlFew rows us ∧ (rows.map (·.1)).Nodup ∧ ∀ H', Same H H' → Q (.str (plainT rows us)) H'
structure TxtW (mg : Str → Option Value) : Prop where
  srt : mg "sorted" = none
section
variable {P : Program} {w : World} {K : PySem.W.Frag} {mg : Str → Option Value} {base : Heap}
theorem scTx : FnScope ["_law_plain", "_law_lines", "_law_name"] ["_law_plain"] (defScope sText) := ⟨rfl, rfl, rfl, by decide +kernel, rfl, by decide +kernel, by decide +kernel⟩
theorem ok_text {f : Addr} {fd : FuncData} (F : Fun K "_law_text" "_law_text" sText f fd) (T : TxtW mg) : FnOk P w K mg base CX0 1 f fd ["_law_plain"] spText := by
  refine F.ok scTx (fun vs H Q E h => ?_) (fun cdv A outer s H vs Q E hr h => ?_)
  · obtain ⟨pl, r, u, rows, ra, us, rfl, _⟩ := h
    rfl
  · obtain ⟨pl, r, u, rows, ra, us, rfl, hP, few, nd, k⟩ := h
    have hu := hu_of hr
    refine ⟨_, pss_cons (ps_set (i := 1) scTx.nd rfl (.inl rfl) (pe_lst (pa_cons (pe_join pe_str (pe_op op_cat (pe_lst (pa_cons pe_str pa_nil)) (pe_callB cr_sortedS (by rfl) T.srt (by decide +kernel) (pa_cons (pe_dget hu (pv 0) pe_str (fun _ _ => rfl)) pa_nil)))) pa_nil)))
      (pss_cons (ps_for PassesOwn.never rfl (pi_list (pe_callB (call_sortedD rfl) (by rfl) T.srt (by decide +kernel) (pa_cons (pe_dget hu (pv 0) pe_str (fun _ _ => rfl)) pa_nil))) (pg_name (i := 2) scTx.nd rfl (.inl rfl))
        (pss_one (ps_expr (pe_bm PySem.F.plainAttrs_list PySem.F.slot_list_append PySem.F.type_list_append mt_append (pv 1) (pa_cons (pe_join pe_str (pe_op op_cat (pe_lst (pa_cons (pe_op op_add_str (pv 2) pe_str) pa_nil)) (pe_callB cr_sortedS (by rfl) T.srt (by decide +kernel) (pa_cons (pe_dget hu (pe_dget hu (pv 0) pe_str (fun _ _ => rfl)) (pv 2) (fun _ _ => rfl)) pa_nil)))) pa_nil)))))
      (pss_one (ps_ret (pe_join pe_str (pv 1))))), ?_⟩
    have fu := few.u
    have fr := few.r
    have spc : (Str.ofString " ").length = 1 := rfl
    have col : (Str.ofString ":").length = 1 := rfl
    refine ⟨⟨_, rfl⟩, by show 1 ≤ sizeLine; decide, fun a0 ha0 => ?_⟩
    have s0 : Same H (upd H a0 (.lst [V.str (Str.ofString "unknowns")])) := same_new ha0
    have e0 : (upd H a0 (.lst [V.str (Str.ofString "unknowns")])) a0 = some (.lst [V.str (Str.ofString "unknowns")]) := upd_same
    generalize upd H a0 (.lst [V.str (Str.ofString "unknowns")]) = H0 at s0 e0 ⊢
    refine ⟨_, rfl, pl, _, rfl, (hP.keep s0).gu, u, us, rfl, SqL.of (hP.keep s0).u, by omega, fun zs p1 g1 g2 g3 => ?_⟩
    obtain rfl : zs = srt us := srt_of g1 g2
    have s1 : Same H0 (upd H0 p1 (.lst ((srt us).map V.str))) := same_new g3
    have e1 : (upd H0 p1 (.lst ((srt us).map V.str))) p1 = some (.lst ((srt us).map V.str)) := upd_same
    have e01 := s1 _ _ e0
    generalize upd H0 p1 (.lst ((srt us).map V.str)) = H1 at s1 e1 e01 ⊢
    refine ⟨a0, p1, _, _, rfl, rfl, e01, e1, by rw [List.length_map, srt_len, sizeLine_eq]; show 1 + us.length ≤ _; omega, fun p2 hp2 => ?_⟩
    refine ⟨_, p2, Str.ofString "unknowns" :: srt us, rfl, rfl, .inl (SqL.of (by rw [upd_same]; rfl)), ?_, by show 1 ≤ sizeLine; decide, fun q hq => ?_⟩
    · have h1 := sum_le (ys := srt us) (n := 8) fun y hy => few.us y (srt_mem.mp hy)
      have h0 : (Str.ofString "unknowns").length = 8 := rfl
      rw [List.map_cons, List.sum_cons, List.length_cons, h0, spc]
      rw [srt_len] at h1 ⊢
      omega
    have s2 := same_new (o := .lst ([V.str (Str.ofString "unknowns")] ++ (srt us).map V.str)) hp2
    generalize upd H1 p2 (.lst ([V.str (Str.ofString "unknowns")] ++ (srt us).map V.str)) = H2 at s2 hq ⊢
    have sm2 : Same H H2 := (s0.trans s1).trans s2
    have hqn : H q = none := sm2.free hq
    have s3 : Same H2 (upd H2 q (.lst [V.str (Txt.join (Str.ofString " ") (Str.ofString "unknowns" :: srt us))])) := same_new hq
    have eq : (upd H2 q (.lst [V.str (Txt.join (Str.ofString " ") (Str.ofString "unknowns" :: srt us))])) q = some (.lst ([headT (srt us)].map V.str)) := upd_same
    generalize upd H2 q (.lst [V.str (Txt.join (Str.ofString " ") (Str.ofString "unknowns" :: srt us))]) = H3 at s3 eq ⊢
    have sm3 := sm2.trans s3
    have hP3 := hP.keep sm3
    have hkl : (ra.map (·.1)).length = rows.length := by rw [List.length_map, hP.len]
    refine ⟨_, rfl, pl, _, rfl, hP3.gr, r, refK ra, ra.map (·.1), rfl, hP3.r, refK_keys ra, by rw [hkl]; omega, fun zs p g1 g2 g3 => ⟨p, rfl, ⟨_, SqL.of upd_same⟩, ?_⟩⟩
    obtain rfl : zs = srt (rows.map (·.1)) := srt_of (hP.keys ▸ g1) g2
    have s4 : Same H3 (upd H3 p (.lst ((srt (rows.map (·.1))).map V.str))) := same_new g3
    have ep : (upd H3 p (.lst ((srt (rows.map (·.1))).map V.str))) p = some (.lst ((srt (rows.map (·.1))).map V.str)) := upd_same
    have eq4 := s4 _ _ eq
    have pq : p ≠ q := fun z => by rw [z, eq] at g3; cases g3
    generalize upd H3 p (.lst ((srt (rows.map (·.1))).map V.str)) = H4 at s4 ep eq4 ⊢
    have sm4 := sm3.trans s4
    unfold plainT at k
    generalize eK : srt (rows.map (·.1)) = ks at ep k
    have kl : ks.length = rows.length := by rw [← eK, srt_len, List.length_map]
    refine for_list (xs := ks.map V.str) (fun i σ H' => (∃ z2, σ = [some (.ref pl), some (.ref q), z2]) ∧ Same H H' ∧ H' p = some (.lst (ks.map V.str)) ∧ H' q = some (.lst ((headT (srt us) :: (ks.take i).map fun k => lineT k (srt (rowAt rows k))).map V.str)))
      ⟨⟨_, rfl⟩, sm4, ep, eq4⟩ (fun i σ H' _ z => SqL.of z.2.2.1) ?_ ?_
    · rintro i x σ H5 hx ⟨⟨z2, rfl⟩, s5, ep5, eq5⟩
      rw [List.getElem?_map] at hx
      obtain ⟨y, hy, rfl⟩ := Option.map_eq_some_iff.mp hx
      have hP5 := hP.keep s5
      have ym : y ∈ rows.map (·.1) := srt_mem.mp (by rw [eK]; exact List.mem_of_getElem? hy)
      obtain ⟨d, xs, hv, hm, hd⟩ := hP5.row ym
      have hrr := row_at nd hm
      have fe : xs.length ≤ 25 ∧ ∀ q ∈ xs, q.length ≤ 8 := few.e _ hm
      have fk : y.length ≤ 8 := few.k _ hm
      refine ⟨_, rfl, .inl ⟨rfl, _, SqL.of eq5⟩, ⟨_, rfl⟩, _, rfl, _, _, rfl, rfl, by rw [sizeLine_eq]; show y.length + 1 ≤ _; omega, by show 1 ≤ sizeLine; decide, fun b0 hb0 => ?_⟩
      have s6 : Same H5 (upd H5 b0 (.lst [V.str (y ++ Str.ofString ":")])) := same_new hb0
      have e6 : (upd H5 b0 (.lst [V.str (y ++ Str.ofString ":")])) b0 = some (.lst [V.str (y ++ Str.ofString ":")]) := upd_same
      generalize upd H5 b0 (.lst [V.str (y ++ Str.ofString ":")]) = H6 at s6 e6 ⊢
      have hP6 := hP5.keep s6
      refine ⟨_, rfl, pl, _, rfl, hP6.gr, _, rfl, r, _, rfl, .inl ⟨_, Sum.inr y, hP6.r, rfl, hv.symm⟩, d, xs, rfl, SqL.of (s6 _ _ hd), by omega, fun ws p5 a1 a2 a3 => ?_⟩
      obtain rfl : ws = srt xs := srt_of a1 a2
      have s7 : Same H6 (upd H6 p5 (.lst ((srt xs).map V.str))) := same_new a3
      have e7 : (upd H6 p5 (.lst ((srt xs).map V.str))) p5 = some (.lst ((srt xs).map V.str)) := upd_same
      have e67 := s7 _ _ e6
      generalize upd H6 p5 (.lst ((srt xs).map V.str)) = H7 at s7 e7 e67 ⊢
      have wl : ∀ z ∈ srt xs, z.length ≤ 8 := fun z hz => fe.2 z (srt_mem.mp hz)
      have wn : (srt xs).length ≤ 25 := by rw [srt_len]; exact fe.1
      have ll : (y ++ Str.ofString ":").length ≤ 9 := by rw [str_len, str_app, List.length_append, ← str_len, ← str_len, col]; omega
      refine ⟨b0, p5, _, _, rfl, rfl, e67, e7, by rw [List.length_map, sizeLine_eq]; show 1 + (srt xs).length ≤ _; omega, fun p6 hp6 => ⟨_, p6, (y ++ Str.ofString ":") :: srt xs, rfl, rfl, .inl (SqL.of (by rw [upd_same]; rfl)), ?_, q, _, _, rfl, rfl, same_new hp6 _ _ (s7 _ _ (s6 _ _ eq5)), ?_, ?_⟩⟩
      · have h1 := sum_le wl
        rw [List.map_cons, List.sum_cons, List.length_cons, spc]
        omega
      · rw [List.length_map, List.length_cons, List.length_map, List.length_take, sizeLine_eq]
        omega
      · refine ⟨⟨_, rfl⟩, fun b o e => ?_, ?_, ?_⟩
        · rw [upd_ne (ne_of_none e hqn)]
          exact same_new hp6 _ _ (s7 _ _ (s6 _ _ (s5 _ _ e)))
        · rw [upd_ne pq]
          exact same_new hp6 _ _ (s7 _ _ (s6 _ _ ep5))
        · rw [upd_same, take_snoc hy, List.map_append]
          have hL : lineT y (srt (rowAt rows y)) = Txt.join (Str.ofString " ") ((y ++ Str.ofString ":") :: srt xs) := by rw [hrr]; rfl
          rw [← hL, List.map_cons, List.map_cons, List.map_append]
          rfl
    · rintro σ H5 ⟨⟨z2, rfl⟩, s5, ep5, eq5⟩
      rw [List.length_map, List.take_length] at eq5
      refine ⟨⟨_, rfl⟩, _, rfl, _, q, _, rfl, rfl, .inl (SqL.of eq5), ?_, k H5 s5⟩
      have lens : ∀ z ∈ headT (srt us) :: (ks.map fun k => lineT k (srt (rowAt rows k))), z.length ≤ 1000 := fun z hz => by
        rcases List.mem_cons.mp hz with e | e
        · rw [e]
          have h1 := join_len (sep := Str.ofString " ") (ys := Str.ofString "unknowns" :: srt us) (n := 8) fun x hx => by
            rcases List.mem_cons.mp hx with e | e
            · rw [e]; decide
            · exact few.us x (srt_mem.mp e)
          rw [spc, List.length_cons, srt_len] at h1
          unfold headT
          omega
        · obtain ⟨y, hy, rfl⟩ := List.mem_map.mp e
          rw [← eK] at hy
          obtain ⟨⟨y2, xs⟩, hm, e2⟩ := List.mem_map.mp (srt_mem.mp hy)
          cases e2
          have fe : xs.length ≤ 25 ∧ ∀ q ∈ xs, q.length ≤ 8 := few.e _ hm
          have fk : y2.length ≤ 8 := few.k _ hm
          show (lineT y2 (srt (rowAt rows y2))).length ≤ 1000
          rw [row_at nd hm]
          have h1 := join_len (sep := Str.ofString " ") (ys := (y2 ++ Str.ofString ":") :: srt xs) (n := 9) fun z hz => by
            rcases List.mem_cons.mp hz with e | e
            · rw [e, str_len, str_app, List.length_append, ← str_len, ← str_len, col]
              omega
            · exact Nat.le_trans (fe.2 z (srt_mem.mp e)) (by decide)
          rw [spc, List.length_cons, srt_len] at h1
          have := fe.1
          unfold lineT
          omega
      have h1 := sum_le lens
      have l1 : (headT (srt us) :: (ks.map fun k => lineT k (srt (rowAt rows k)))).length ≤ 26 := by
        rw [List.length_cons, List.length_map]
        omega
      have nl : (Str.ofString "\n").length = 1 := rfl
      rw [nl]
      omega
end
end Bo

set_option Elab.async false
set_option linter.all false
set_option maxRecDepth 100000
set_option maxHeartbeats 16000000
/-! _law_drawn -/
namespace Bo
open PySem L2
abbrev sDrawn : Stmt := top 68
abbrev nDr : List Str := ["_law_tape", "_law_most", "_law_pool", "_law_others", "_law_unknowns", "_law_share", "_law_rows", "_law_name", "_law_one"]
theorem strOk_of {x : Str} (h : TxtOk x) : PyData.strOk x = true := by
  show Array.all _ _ = true
  rw [← Array.all_toList, List.all_eq_true]
  intro u hu
  have := h.c u hu
  exact decide_eq_true (by omega)
theorem cut_tx {l : List Str} {n : Nat} : cutV (l.map V.str) none (some (n : Int)) = (l.take n).map V.str := by
  unfold cutV
  rw [HT.sIx_none, HT.sIx_nat, List.length_map, Nat.sub_zero, List.drop_zero, ← List.map_take]
  congr 1
  rcases Nat.le_total n l.length with h | h
  · rw [Nat.min_eq_left h]
  · rw [Nat.min_eq_right h, List.take_of_length_le (Nat.le_refl _), List.take_of_length_le h]
theorem two_merge (r u : Addr) : mergeK [] [(kR, V.ref r), (kU, V.ref u)] = [(kR, V.ref r), (kU, V.ref u)] := by
  have e1 : putK ([] : List (Key × V)) kR (V.ref r) = [(kR, V.ref r)] := rfl
  have e2 : putK [(kR, V.ref r)] kU (V.ref u) = [(kR, V.ref r), (kU, V.ref u)] := putK_new _ (by rw [valV_neg neRU]; rfl)
  show putK (putK [] kR (V.ref r)) kU (V.ref u) = _
  rw [e1, e2]
/-- different names -/
structure Nms (ys : List Str) : Prop where
  n : ys.Nodup
  k : ∀ y ∈ ys, nameOk y = true ∧ TxtOk y
theorem Nms.perm {xs ys : List Str} (h : Nms xs) (p : ys.Perm xs) : Nms ys := ⟨p.nodup_iff.mpr h.n, fun y hy => h.k y (p.mem_iff.mp hy)⟩
theorem Nms.sub {xs ys : List Str} (h : Nms xs) (p : ys.Sublist xs) : Nms ys := ⟨p.nodup h.n, fun y hy => h.k y (p.subset hy)⟩
theorem Nms.ok {ys : List Str} (h : Nms ys) : ∀ y ∈ ys, PyData.strOk y = true := fun y hy => strOk_of (h.k y hy).2
/-- a plain system of names -/
structure PlNm (rows : List (Str × List Str)) (us : List Str) : Prop where
  u : Nms us
  r : Nms (rows.map (·.1))
  e : ∀ p ∈ rows, p.2.Nodup ∧ ∀ y ∈ p.2, y ∈ us
theorem PlNm.nms {rows : List (Str × List Str)} {us : List Str} (h : PlNm rows us) {p : Str × List Str} (m : p ∈ rows) : Nms p.2 := ⟨(h.e p m).1, fun y hy => h.u.k y ((h.e p m).2 y hy)⟩
theorem pair_fst {α β : Type} {F : (Str × α) → (Str × β) → Prop} (h : ∀ p q, F p q → p.1 = q.1) : ∀ {l : List (Str × α)} {m : List (Str × β)}, Paired F l m → m.map (·.1) = l.map (·.1)
  | _, _, .nil => rfl
  | _, _, .cons q t => by rw [List.map_cons, List.map_cons, pair_fst h t, h _ _ q]
/-- all but t and r -/
def But2 (t r : Addr) (H H' : Hp) : Prop := ∀ b o, H b = some o → b ≠ t → b ≠ r → H' b = some o
def spDrawn : Sp := fun vs H Q _ => ∃ (t c : Addr) (cs : List Int) (p l : Int) (m : Nat), vs = [.ref t, .int m] ∧ Tape H t c cs p l ∧ 1 ≤ m ∧ m ≤ 24 ∧ p + 3000 < 100000000000 ∧
  ∀ (pl r u : Addr) (rows : List (Str × List Str)) (ra : List (Str × Addr)) (us : List Str) (p' l' : Int) (H' : Hp), PlG H' pl r u rows ra us → H' r = some (.dK (refK ra)) → pl ≠ r → H pl = none → H r = none → H u = none → (∀ q ∈ ra, q.2 ≠ u) → PlNm rows us → rows.length ≤ m → us.length ≤ m → p ≤ p' → p' ≤ p + 3000 → Tape H' t c cs p' l' → But t H H' → Q (.ref pl) H'
section
variable {P : Program} {w : World} {K : PySem.W.Frag} {mg : Str → Option Value} {base : Heap}
theorem scDr : FnScope nDr ["_law_tape", "_law_most"] (defScope sDrawn) := ⟨rfl, rfl, rfl, by decide +kernel, rfl, by decide +kernel, by decide +kernel⟩
theorem ok_drawn {f fD fP fN fSh : Addr} {fd fdD fdP fdN fdSh : FuncData} (F : Fun K "_law_drawn" "_law_drawn" sDrawn f fd)
    (GD : FnOk P w K mg base CX0 1 fD fdD ["_law_tape", "_law_many"] spDraw) (mD : mg "_law_draw" = some (.ref fD)) (kD : PySem.W.keepIn K (.ref fD) = true) (bD : Binds K fdD ["_law_tape", "_law_many"] [])
    (GP : FnOk P w K mg base CX0 2 fP fdP ["_law_tape", "_law_items"] spPick) (mP : mg "_law_pick" = some (.ref fP)) (kP : PySem.W.keepIn K (.ref fP) = true) (bP : Binds K fdP ["_law_tape", "_law_items"] [])
    (GN : FnOk P w K mg base CX0 3 fN fdN ["_law_tape", "_law_many"] spNames) (mN : mg "_law_names" = some (.ref fN)) (kN : PySem.W.keepIn K (.ref fN) = true) (bN : Binds K fdN ["_law_tape", "_law_many"] [])
    (GS : FnOk P w K mg base CX0 2 fSh fdSh ["_law_tape", "_law_items"] (spShuf K)) (mS : mg "_law_shuffled" = some (.ref fSh)) (kS : PySem.W.keepIn K (.ref fSh) = true) (bS : Binds K fdSh ["_law_tape", "_law_items"] []) :
    FnOk P w K mg base CX0 4 f fd ["_law_tape", "_law_most"] spDrawn := by
  refine F.ok scDr (fun vs H Q E h => ?_) (fun cdv A outer s H vs Q E hr h => ?_)
  · obtain ⟨t, c, cs, p, l, m, rfl, _⟩ := h
    rfl
  · obtain ⟨t, c, cs, p, l, m, rfl, hT, hm1, hm2, hp, k⟩ := h
    have hu := hu_of hr
    have hr1 : Room 1 _ := hr.mono (by decide)
    have hr2 : Room 2 _ := hr.mono (by decide)
    refine ⟨_, pss_cons (ps_set (i := 2) scDr.nd rfl (.inl rfl) (pe_call GN hr rfl mN kN bN .nil pass0 (pa_cons (pv 0) (pa_cons (pv 1) pa_nil))))
      (pss_cons (ps_set (i := 3) scDr.nd rfl (.inl rfl) (pe_call GP hr2 rfl mP kP bP .nil pass0 (pa_cons (pv 0) (pa_cons (pe_lst (pa_cons (pv 2) (pa_cons (pe_call GN hr rfl mN kN bN .nil pass0 (pa_cons (pv 0) (pa_cons (pv 1) pa_nil))) pa_nil))) pa_nil))))
      (pss_cons (ps_asg (pe_tup (pa_cons (pe_slice sl_list (pe_call GS hr2 rfl mS kS bS .nil pass0 (pa_cons (pv 0) (pa_cons (pv 3) pa_nil))) po_none (po_some (pe_call GD hr1 rfl mD kD bD .nil pass0 (pa_cons (pv 0) (pa_cons (pe_op op_add (pv 1) pe_int) pa_nil)))))
          (pa_cons (pe_op op_add pe_int (pe_call GD hr1 rfl mD kD bD .nil pass0 (pa_cons (pv 0) (pa_cons pe_int pa_nil)))) pa_nil))) (pg_tup (by rfl) (pgs_cons (pg_name (i := 4) scDr.nd rfl (.inl rfl)) (pgs_cons (pg_name (i := 5) scDr.nd rfl (.inr rfl)) pgs_nil))))
      (pss_cons (ps_set (i := 6) scDr.nd rfl (.inl rfl) pe_dnewK)
      (pss_cons (ps_for PassesOwn.never rfl (pi_list (pe_slice sl_list (pe_call GS hr2 rfl mS kS bS .nil pass0 (pa_cons (pv 0) (pa_cons (pv 2) pa_nil))) po_none (po_some (pe_call GD hr1 rfl mD kD bD .nil pass0 (pa_cons (pv 0) (pa_cons (pe_op op_add (pv 1) pe_int) pa_nil)))))) (pg_name (i := 7) scDr.nd rfl (.inl rfl))
        (pss_one (ps_dput hu (pv 6) (pv 7)
          (pe_lc (own := [("_law_one", 8)]) (g := gName 8) rfl scDr.nd (pi_list (pe_call GS hr2 rfl mS kS bS .nil pass0 (pa_cons (pv 0) (pa_cons (pv 4) pa_nil)))) (blkOk_by (N := nDr) (sc := defScope sDrawn) (by decide +kernel)) (fun _ _ _ _ _ => pg_name (i := 8) scDr.nd rfl (Or.inl rfl))
            (fun _ _ _ _ _ => pts_one (pt_cmpR op_eq (pe_call GD hr1 rfl mD kD bD .nil pass0 (pa_cons (pv 0) (pa_cons (pv 5) pa_nil))) pe_int (nomark _))) (fun _ _ _ _ _ => pv 8)) rfl)))
      (pss_one (ps_ret (pe_disp (pps_cons pe_str (pv 6) (pps_cons pe_str (pv 4) pps_nil)) (by rfl) (by rfl) (fun z => by cases z) (by decide)))))))), ?_⟩
    refine ⟨_, rfl, _, rfl, t, c, cs, p, l, m, rfl, hT, by omega, by omega, by omega, fun q1 ys1 p1 l1 H1 n1 h1 len1 nd1 ok1 a1 b1 hT1 hB1 => ?_⟩
    refine ⟨_, rfl, _, rfl, _, rfl, _, rfl, t, c, cs, p1, l1, m, rfl, hT1, by omega, by omega, by omega, fun q2 ys2 p2 l2 H2 n2 h2 len2 nd2 ok2 a2 b2 hT2 hB2 => ?_⟩
    have q1t : q1 ≠ t := ne_of h1 hT1.d (by intro z; cases z)
    have h1' := hB2 _ _ h1 q1t
    refine ⟨by show 2 ≤ sizeLine; decide, fun q3 hq3 => ⟨t, c, q3, cs, p2, l2, _, rfl, hT2.new hq3, upd_same, by simp, by show 2 ≤ _; decide, by omega, fun i x p3 l3 H3 hx a3 b3 hT3 hB3 => ?_⟩⟩
    obtain ⟨qx, ysx, rfl, hx3, nmx, lenx⟩ : ∃ (qx : Addr) (ysx : List Str), x = .ref qx ∧ H3 qx = some (.lst (ysx.map V.str)) ∧ Nms ysx ∧ ysx.length = m := by
      have h2' : (upd H2 q3 (.lst [V.ref q1, V.ref q2])) q2 = some (.lst (ys2.map V.str)) := same_new hq3 _ _ h2
      have h1'' : (upd H2 q3 (.lst [V.ref q1, V.ref q2])) q1 = some (.lst (ys1.map V.str)) := same_new hq3 _ _ h1'
      have q2t : q2 ≠ t := ne_of h2 hT2.d (by intro z; cases z)
      match i, hx with
      | 0, hx => exact ⟨q1, ys1, (Option.some.inj hx).symm, hB3 _ _ h1'' q1t, ⟨nd1, ok1⟩, by omega⟩
      | 1, hx => exact ⟨q2, ys2, (Option.some.inj hx).symm, hB3 _ _ h2' q2t, ⟨nd2, ok2⟩, by omega⟩
    have B3 : But t H H3 := ((hB1.trans hB2).new hq3).trans hB3
    refine ⟨_, rfl, _, rfl, t, c, qx, cs, p3, l3, ysx, rfl, hT3, .inl (SqL.of hx3), nmx.ok, by omega, by omega, fun q4 ys4 p4 l4 H4 pm4 n4 h4 a4 b4 hT4 hB4 => ?_⟩
    have B4 := B3.trans hB4
    refine ⟨_, rfl, _, rfl, _, _, rfl, rfl, t, c, cs, p4, l4, (m : Int) + 1, rfl, hT4, by omega, by omega, by omega, fun r5 p5 l5 H5 r50 r51 a5 b5 hT5 hB5 => ?_⟩
    obtain ⟨n5, rfl⟩ : ∃ n : Nat, r5 = (n : Int) := ⟨r5.toNat, by omega⟩
    have q4t : q4 ≠ t := ne_of h4 hT4.d (by intro z; cases z)
    refine ⟨_, rfl, q4, _, rfl, SqL.of (hB5 _ _ h4 q4t), fun U hU => ?_⟩
    rw [cut_tx]
    have nmU : Nms (ys4.take n5) := (nmx.perm pm4).sub (List.take_sublist _ _)
    have lenU : (ys4.take n5).length ≤ m := by rw [List.length_take, pm4.length_eq, lenx]; omega
    generalize ys4.take n5 = us at nmU lenU ⊢
    have B5 := (B4.trans hB5).new (o := .lst (us.map V.str)) hU
    have hTU := hT5.new (o := .lst (us.map V.str)) hU
    have eU : (upd H5 U (.lst (us.map V.str))) U = some (.lst (us.map V.str)) := upd_same
    have Ut : U ≠ t := ne_of eU hTU.d (by intro z; cases z)
    have nU : H U = none := by
      cases z : H U with
      | none => rfl
      | some o => rw [(B4.trans hB5) U o z Ut] at hU; cases hU
    have h1U : (upd H5 U (.lst (us.map V.str))) q1 = some (.lst (ys1.map V.str)) := by
      have e : H5 q1 = some (.lst (ys1.map V.str)) := hB5 _ _ (hB4 _ _ (hB3 _ _ (same_new hq3 _ _ h1') q1t) q1t) q1t
      exact same_new hU _ _ e
    generalize upd H5 U (.lst (us.map V.str)) = G5 at B5 hTU eU h1U ⊢
    refine ⟨_, rfl, t, c, cs, p5, l5, 4, rfl, hTU, by decide, by decide, by omega, fun r6 p6 l6 H6 r60 r61 a6 b6 hT6 hB6 => ⟨_, _, rfl, rfl, by show 2 ≤ sizeLine; decide, fun tp htp => ⟨tp, _, rfl, SqT.of upd_same, rfl, _, _, rfl, _, _, rfl, rfl, ?_⟩⟩⟩
    have B6 := (B5.trans hB6).new (o := .tup [V.ref U, .int (1 + r6)]) htp
    have hT7 := hT6.new (o := .tup [V.ref U, .int (1 + r6)]) htp
    have eU7 := same_new (o := .tup [V.ref U, .int (1 + r6)]) htp _ _ (hB6 _ _ eU Ut)
    have h17 := same_new (o := .tup [V.ref U, .int (1 + r6)]) htp _ _ (hB6 _ _ h1U q1t)
    generalize upd H6 tp (.tup [V.ref U, .int (1 + r6)]) = G7 at B6 hT7 eU7 h17 ⊢
    intro r hr0
    have B7 := B6.new (o := .dK []) hr0
    have hT8 := hT7.new (o := .dK []) hr0
    have er : (upd G7 r (.dK [])) r = some (.dK (refK [])) := upd_same
    have eU8 := same_new (o := .dK []) hr0 _ _ eU7
    have h18 := same_new (o := .dK []) hr0 _ _ h17
    have rt : r ≠ t := fun z => by rw [z, hT7.d] at hr0; cases hr0
    have nr : H r = none := by
      cases z : H r with
      | none => rfl
      | some o => rw [B6 r o z rt] at hr0; cases hr0
    generalize upd G7 r (.dK []) = G8 at B7 hT8 er eU8 h18 ⊢
    refine ⟨_, rfl, _, rfl, t, c, q1, cs, p6, l6, ys1, rfl, hT8, .inl (SqL.of h18), fun y hy => strOk_of (ok1 y hy).2, by omega, by omega, fun q9 ys9 p9 l9 H9 pm9 n9 h9 a9 b9 hT9 hB9 => ?_⟩
    refine ⟨_, rfl, _, rfl, _, _, rfl, rfl, t, c, cs, p9, l9, (m : Int) + 1, rfl, hT9, by omega, by omega, by omega, fun r10 p10 l10 H10 r100 r101 a10 b10 hT10 hB10 => ?_⟩
    obtain ⟨n10, rfl⟩ : ∃ n : Nat, r10 = (n : Int) := ⟨r10.toNat, by omega⟩
    have q9t : q9 ≠ t := ne_of h9 hT9.d (by intro z; cases z)
    refine ⟨_, rfl, q9, _, rfl, SqL.of (hB10 _ _ h9 q9t), fun Z hZ => ?_⟩
    rw [cut_tx]
    have nmZ : Nms (ys9.take n10) := ((⟨nd1, ok1⟩ : Nms ys1).perm pm9).sub (List.take_sublist _ _)
    have lenZ : (ys9.take n10).length ≤ m := by rw [List.length_take, pm9.length_eq]; omega
    generalize ys9.take n10 = ns at nmZ lenZ ⊢
    have B10 := (B7.trans (hB9.trans hB10)).new (o := .lst (ns.map V.str)) hZ
    have hT11 := hT10.new (o := .lst (ns.map V.str)) hZ
    have eZ : (upd H10 Z (.lst (ns.map V.str))) Z = some (.lst (ns.map V.str)) := upd_same
    have er11 := same_new (o := .lst (ns.map V.str)) hZ _ _ ((hB9.trans hB10) _ _ er rt)
    have eU11 := same_new (o := .lst (ns.map V.str)) hZ _ _ ((hB9.trans hB10) _ _ eU8 Ut)
    generalize upd H10 Z (.lst (ns.map V.str)) = G at B10 hT11 eZ er11 eU11 ⊢
    refine ⟨Z, rfl, ⟨_, SqL.of eZ⟩, ?_⟩
    have UZ : ∀ {H' : Hp}, But2 t r G H' → H' U = some (.lst (us.map V.str)) ∧ H' Z = some (.lst (ns.map V.str)) := fun {H'} b => ⟨b _ _ eU11 Ut (ne_of eU11 er11 (by intro z; cases z)), b _ _ eZ (ne_of eZ hT11.d (by intro z; cases z)) (ne_of eZ er11 (by intro z; cases z))⟩
    refine for_list (xs := ns.map V.str) (fun i σ H' => ∃ (rows : List (Str × List Str)) (ra : List (Str × Addr)) (z7 : Option V) (p' l' : Int), σ = [some (.ref t), some (.int (m : Int)), some (.ref q1), some (.ref qx), some (.ref U), some (.int (1 + r6)), some (.ref r), z7, none] ∧ H' r = some (.dK (refK ra)) ∧
        Paired (fun (p : Str × List Str) (q : Str × Addr) => p.1 = q.1 ∧ H' q.2 = some (.lst (p.2.map V.str))) rows ra ∧ rows.map (·.1) = ns.take i ∧ (∀ p ∈ rows, p.2.Nodup ∧ ∀ y ∈ p.2, y ∈ us) ∧ (∀ q ∈ ra, q.2 ≠ U) ∧ p10 ≤ p' ∧ p' ≤ p10 + 60 * (i : Int) ∧ Tape H' t c cs p' l' ∧ But2 t r G H')
      ⟨[], [], none, p10, l10, rfl, er11, .nil, rfl, (fun _ z => nomatch z), (fun _ z => nomatch z), by omega, by omega, hT11, fun _ _ e _ _ => e⟩ (fun i σ H' _ ⟨_, _, _, _, _, _, _, _, _, _, _, _, _, _, b⟩ => SqL.of (UZ b).2) ?_ ?_
    · rintro i x σ H12 hx ⟨rows, ra, z7, p12, l12, rfl, er12, pr12, ks12, ok12, nu12, a12, b12, hT12, B12⟩
      rw [List.getElem?_map] at hx
      obtain ⟨y, hy, rfl⟩ := Option.map_eq_some_iff.mp hx
      have hi : i < ns.length := (List.getElem?_eq_some_iff.mp hy).1
      obtain ⟨eU12, eZ12⟩ := UZ B12
      have lra : ra.length ≤ 24 := by
        have e1 := congrArg List.length ks12
        have e2 := pair_len pr12
        rw [List.length_map, List.length_take] at e1
        omega
      refine ⟨_, rfl, _, rfl, t, c, U, cs, p12, l12, us, rfl, hT12, .inl (SqL.of eU12), nmU.ok, by omega, by omega, fun qq yy p13 l13 H13 pm13 n13 h13 a13 b13 hT13 hB13 => ⟨qq, rfl, ⟨_, SqL.of h13⟩, fun D hD => ?_⟩⟩
      have Dt : D ≠ t := fun z => by rw [z, hT13.d] at hD; cases hD
      have Dc : c ≠ D := ne_of_none hT13.c hD
      have qqt : qq ≠ t := ne_of h13 hT13.d (by intro z; cases z)
      refine lc_list (xs := yy.map V.str) (fun j H' => ∃ (vs : List Str) (p' l' : Int), H' D = some (.lst (vs.map V.str)) ∧ vs.Sublist (yy.take j) ∧ p13 ≤ p' ∧ p' ≤ p13 + (j : Int) ∧ Tape H' t c cs p' l' ∧ But t H13 H')
        ⟨[], p13, l13, upd_same, List.nil_sublist _, by omega, by omega, hT13.new hD, fun b o e _ => same_new hD _ _ e⟩ (fun j H' _ ⟨_, _, _, _, _, _, _, _, b⟩ => SqL.of (b _ _ h13 qqt)) ?_ ?_
      · rintro j x H14 hx ⟨vs, p14, l14, eD, sb, a14, b14, hT14, hB14⟩
        rw [List.getElem?_map] at hx
        obtain ⟨v, hv, rfl⟩ := Option.map_eq_some_iff.mp hx
        have hj : j < yy.length := (List.getElem?_eq_some_iff.mp hv).1
        have lyy := pm13.length_eq
        refine ⟨rfl, _, rfl, _, rfl, t, c, cs, p14, l14, 1 + r6, rfl, hT14, by omega, by omega, by omega, fun r15 p15 l15 H15 r150 r151 a15 b15 hT15 hB15 => ⟨rfl, _, rfl, ite2 (fun hc => ?_) (fun hc => ?_)⟩⟩
        · have eD15 := hB15 _ _ eD Dt
          refine ⟨_, rfl, vs.map V.str, eD15, by have := sb.length_le; rw [List.length_take] at this; rw [List.length_map, sizeLine_eq]; omega, vs ++ [v], p15, l15, by rw [upd_same, List.map_append]; rfl, ?_, by omega, by omega, hT15.off Dt Dc, fun b o e n => ?_⟩
          · rw [take_snoc hv]
            exact List.Sublist.append sb (List.Sublist.refl _)
          · rw [upd_ne (ne_of_none e hD)]
            exact hB15 _ _ (hB14 _ _ e n) n
        · exact ⟨vs, p15, l15, hB15 _ _ eD Dt, sb.trans (List.take_sublist_take_left (Nat.le_succ j)), by omega, by omega, hT15, hB14.trans hB15⟩
      · rintro H14 ⟨vs, p14, l14, eD, sb, a14, b14, hT14, hB14⟩
        rw [List.length_map, List.take_length] at sb
        have er13 := hB13 _ _ er12 rt
        have er14 := hB14 _ _ er13 rt
        have rD : r ≠ D := ne_of_none er13 hD
        have lyy := pm13.length_eq
        have yn : y ∉ ra.map (·.1) := by
          have e : ra.map (·.1) = ns.take i := by
            rw [← ks12]
            exact pair_fst (fun _ _ z => z.1) pr12
          rw [e]
          intro z
          obtain ⟨j, hj⟩ := List.mem_iff_getElem?.mp z
          rw [List.getElem?_take] at hj
          split at hj
          · exact absurd ((List.getElem?_inj (by omega) nmZ.n).mp (hj.trans hy.symm)) (by omega)
          · cases hj
        refine ⟨_, rfl, _, rfl, r, _, rfl, DPut.k (k := Sum.inr y) er14 (by rw [refK_len, sizeLine_eq]; omega), ?_⟩
        rw [putK_new _ (refK_out yn)]
        have eR : refK ra ++ [((Sum.inr y : Key), V.ref D)] = refK (ra ++ [(y, D)]) := by
          unfold refK
          rw [List.map_append]
          rfl
        rw [eR]
        refine ⟨rows ++ [(y, vs)], ra ++ [(y, D)], _, p14, l14, rfl, upd_same, ?_, ?_, ?_, ?_, by omega, ?_, ?_, ?_⟩
        · refine Paired.snoc (Paired.mapP pr12 fun a b z => ⟨z.1, ?_⟩) ⟨rfl, ?_⟩
          · have e1 := hB14 _ _ (hB13 _ _ z.2 (ne_of z.2 hT12.d (by intro z; cases z))) (ne_of z.2 hT12.d (by intro z; cases z))
            rw [upd_ne (ne_of z.2 er12 (by intro z; cases z))]
            exact e1
          · rw [upd_ne rD.symm]
            exact eD
        · rw [List.map_append, take_snoc hy, ks12]
          rfl
        · intro p hp
          rcases List.mem_append.mp hp with e | e
          · exact ok12 p e
          · rw [List.mem_singleton.mp e]
            exact ⟨sb.nodup (pm13.nodup_iff.mpr nmU.n), fun z hz => pm13.mem_iff.mp (sb.subset hz)⟩
        · intro q hq
          rcases List.mem_append.mp hq with e | e
          · exact nu12 q e
          · rw [List.mem_singleton.mp e]
            exact fun z => by
              have e1 := hB13 _ _ eU12 Ut
              rw [← (show D = U from z), hD] at e1
              cases e1
        · have : yy.length ≤ 24 := by omega
          rw [List.length_map] at b14
          omega
        · exact ⟨by rw [upd_ne rt.symm]; exact hT14.d, by rw [upd_ne (ne_of hT14.c er14 (by intro z; cases z))]; exact hT14.c, hT14.n, hT14.m, hT14.p0, hT14.l0⟩
        · intro b o e n1 n2
          rw [upd_ne n2]
          exact hB14 _ _ (hB13 _ _ (B12 _ _ e n1 n2) n1) n1
    · rintro σ H12 ⟨rows, ra, z7, p12, l12, rfl, er12, pr12, ks12, ok12, nu12, a12, b12, hT12, B12⟩
      rw [List.length_map, List.take_length] at ks12
      rw [List.length_map] at b12
      obtain ⟨eU12, eZ12⟩ := UZ B12
      have hHt : But t H H12 := fun b o e n => B12 _ _ (B10 _ _ e n) n fun z => by rw [z, nr] at e; cases e
      intro pl hpl
      have nplt : pl ≠ t := fun z => by rw [z, hT12.d] at hpl; cases hpl
      refine ⟨_, rfl, _, rfl, upd_same, [(kR, V.ref r), (kU, V.ref U)], rfl, by show 2 ≤ 15; decide, ?_⟩
      rw [two_merge, upd_upd]
      have s13 : Same H12 (upd H12 pl (.dK [(kR, V.ref r), (kU, V.ref U)])) := same_new hpl
      have lr : rows.length ≤ m := by
        have e1 := congrArg List.length ks12
        rw [List.length_map] at e1
        omega
      refine k pl r U rows ra us p12 l12 _ ⟨upd_same, .inl (s13 _ _ er12), Paired.mapP pr12 fun _ _ z => ⟨z.1, s13 _ _ z.2⟩, s13 _ _ eU12⟩ (s13 _ _ er12) (fun z => by rw [z, er12] at hpl; cases hpl) ?_ nr nU nu12 ⟨nmU, by rw [ks12]; exact nmZ, ok12⟩ lr lenU (by omega) ?_ (hT12.keep s13) (hHt.new hpl)
      · cases z : H pl with
        | none => rfl
        | some o => rw [hHt pl o z nplt] at hpl; cases hpl
      · have : ns.length ≤ 24 := by omega
        omega
end
end Bo

set_option Elab.async false
set_option linter.all false
set_option maxRecDepth 100000
set_option maxHeartbeats 16000000
/-! _law_built -/
namespace Bo
open PySem L2
abbrev sBuilt : Stmt := top 69
/-- another ground, which knows what is new in H1, but not the tape -/
theorem SyG.ground {K : PySem.W.Frag} {CC CS : Addr} {H0 H H1 : Hp} {s t : Addr} {S : Ct} {Bs Hs : List Ct} {kvs : List (Key × V)} (Y : SyG K CC CS H0 H s S Bs Hs) (ht : H t = some (.dK kvs)) (h0 : H0 t = none) (k : But t H H1) :
    ∃ G, SyG K CC CS G H1 s S Bs Hs ∧ Same H0 G ∧ G t = none ∧ Same G H1 ∧ ∀ q o, H1 q = some o → H q = none → G q = some o := by
  obtain ⟨dx, c, b, h, bs, hs, A, C, p1, p2, e1, e2, e3, e4, e5⟩ := Y.but ht h0 k
  obtain ⟨dx', c', b', h', bs', hs', A', _, _, _, _, _⟩ := id Y
  have hs' := k _ _ A'.i (ne_of A'.i ht (by intro z; cases z))
  have same : syF c' b' h' = syF c b h := by
    rw [A.i] at hs'
    injection hs' with z
    injection z with _ _ z
    exact z.symm
  have eb : b' = b := by
    have l1 := syF_b c' b' h'
    rw [same, syF_b] at l1
    injection l1 with l1
    injection l1 with l1
    exact l1.symm
  have eh : h' = h := by
    have l1 := syF_h c' b' h'
    rw [same, syF_h] at l1
    injection l1 with l1
    injection l1 with l1
    exact l1.symm
  subst eb eh
  have sm : Same (fun q => if q = t then none else hide3 s b' h' H1 q) H1 := fun q o z => by
    dsimp only at z
    split at z
    · cases z
    · unfold hide3 at z
      split at z
      · cases z
      · exact z
  refine ⟨fun q => if q = t then none else hide3 s b' h' H1 q, ⟨dx, c, b', h', bs, hs, A, C, p1, p2, e1, ?_, ?_, ?_, sm⟩, fun q o z => ?_, if_pos rfl, sm, fun q o z n => ?_⟩
  · dsimp only
    split
    · rfl
    · exact if_pos (.inl rfl)
  · dsimp only
    split
    · rfl
    · exact if_pos (.inr (.inl rfl))
  · dsimp only
    split
    · rfl
    · exact if_pos (.inr (.inr rfl))
  · have nt : q ≠ t := fun y => by rw [y, h0] at z; cases z
    refine (if_neg nt).trans ((if_neg fun y => ?_).trans (e5 _ _ z))
    rcases y with y | y | y
    · rw [y, e2] at z; cases z
    · rw [y, e3] at z; cases z
    · rw [y, e4] at z; cases z
  · have nt : q ≠ t := fun y => by rw [y, ht] at n; cases n
    refine (if_neg nt).trans ((if_neg fun y => ?_).trans z)
    rcases y with y | y | y
    · rw [y, A'.i] at n; cases n
    · rw [y, A'.b] at n; cases n
    · rw [y, A'.h] at n; cases n
/-- a Contents holds the plain system -/
structure Fits (S : Ct) (rows : List (Str × List Str)) (us : List Str) : Prop where
  c : S.cols = srt us
  k : (S.rows.map (·.1)).Perm (rows.map (·.1))
  e : ∀ p ∈ S.rows, ∃ xs, (p.1, xs) ∈ rows ∧ (p.2.map (·.1)).Perm xs ∧ ∀ q ∈ p.2, q.2 = 1
  n : S.cons.map (·.1) = S.rows.map (·.1)
  z : ∀ p ∈ S.cons, p.2 = 0
theorem nodup_le : ∀ {xs us : List Str}, xs.Nodup → (∀ z ∈ xs, z ∈ us) → xs.length ≤ us.length
  | [], _, _, _ => Nat.zero_le _
  | x :: xs, us, nd, h => by
    rw [List.nodup_cons] at nd
    have m := h x List.mem_cons_self
    have ih := nodup_le (xs := xs) (us := us.erase x) nd.2 fun z hz => (List.mem_erase_of_ne fun (e : z = x) => nd.1 (by rw [← e]; exact hz)).mpr (h z (List.mem_cons_of_mem _ hz))
    rw [List.length_erase_of_mem m] at ih
    have := List.length_pos_of_mem m
    rw [List.length_cons]
    omega
theorem setRow_last {α : Type} {y : Str} {r r' : α} : ∀ {R : List (Str × α)}, y ∉ R.map (·.1) → setRow (R ++ [(y, r)]) y r' = R ++ [(y, r')]
  | [], _ => by
    show [if y = y then (y, r') else (y, r)] = _
    rw [if_pos rfl]
    rfl
  | p :: R, h => by
    rw [List.map_cons, List.mem_cons] at h
    have ih := setRow_last (R := R) (r := r) (r' := r') fun z => h (.inr z)
    unfold setRow at ih ⊢
    rw [List.cons_append, List.map_cons, ih, if_neg (fun z => h (.inl z.symm))]
    rfl
def spBuilt (K : PySem.W.Frag) (CC CS : Addr) : Sp := fun vs H Q _ => ∃ (t c s : Addr) (cs : List Int) (p l : Int) (H0 : Hp) (o : HO) (pl r u : Addr) (rows : List (Str × List Str)) (ra : List (Str × Addr)) (us : List Str), vs = [.ref t, .ref s, .ref pl] ∧ Tape H t c cs p l ∧ H0 t = none ∧ H0 c = some o ∧
  SyG K CC CS H0 H s ⟨[], [], []⟩ [] [] ∧ PlG H0 pl r u rows ra us ∧ PlNm rows us ∧ rows.length ≤ 24 ∧ us.length ≤ 24 ∧ p + 3000 < 100000000000 ∧
  ∀ (S : Ct) (Hs : List Ct) (p' l' : Int) (H' : Hp), SyG K CC CS H0 H' s S [] Hs → Fits S rows us → Hs.length ≤ 1000 → p ≤ p' → p' ≤ p + 3000 → Tape H' t c cs p' l' → Q (.ref s) H'
section
variable {P : Program} {w : World} {K : PySem.W.Frag} {mg : Str → Option Value} {base : Heap} {CC fCI CN fIN CS fSI fTk : Addr}
theorem scBu : FnScope ["_law_tape", "_law_system", "_law_plain", "_law_name", "_law_one"] ["_law_tape", "_law_system", "_law_plain"] (defScope sBuilt) := ⟨rfl, rfl, rfl, by decide +kernel, rfl, by decide +kernel, by decide +kernel⟩
theorem ok_built {f fSh fAU fAE fAEn : Addr} {fd fdSh fdAEn : FuncData} (F : Fun K "_law_built" "_law_built" sBuilt f fd) (T : SysT K mg CS fSI fTk) (hl : mg "list" = none)
    (GS : FnOk P w K mg base CX0 2 fSh fdSh ["_law_tape", "_law_items"] (spShuf K)) (mS : mg "_law_shuffled" = some (.ref fSh)) (kS : PySem.W.keepIn K (.ref fSh) = true) (bS : Binds K fdSh ["_law_tape", "_law_items"] [])
    (GAU : FnR P w K mg base CX0 6 fAU (spAUG K CC CS)) (mAU : Meth K CS "add_unknown" fAU) (GAE : FnR P w K mg base CX0 7 fAE (spAEG K CC CS)) (mAE : Meth K CS "add_equation" fAE)
    (GEn : FnOk P w K mg base CX0 4 fAEn fdAEn ["self", "equation", "unknown"] (spAEnG K CC CS)) (mEn : Meth K CS "add_entry" fAEn) (bEn : Binds K fdAEn ["self", "equation", "unknown"] []) :
    FnOk P w K mg base CX0 8 f fd ["_law_tape", "_law_system", "_law_plain"] (spBuilt K CC CS) := by
  refine F.ok scBu (fun vs H Q E h => ?_) (fun cdv A outer s H vs Q E hr h => ?_)
  · obtain ⟨t, c, s, cs, p, l, H0, o, pl, r, u, rows, ra, us, rfl, _⟩ := h
    rfl
  · obtain ⟨t, c, s, cs, p, l, H0, o, pl, r, u, rows, ra, us, rfl, hT, h0t, h0c, hY, hP, nm, lr, lu, hp, k⟩ := h
    have hu := hu_of hr
    have hr2 : Room 2 _ := hr.mono (by decide)
    have hr6 : Room 6 _ := hr.mono (by decide)
    have hr4 : Room 4 _ := hr.mono (by decide)
    refine ⟨_, pss_cons (ps_for PassesOwn.never rfl (pi_list (pe_call GS hr2 rfl mS kS bS .nil pass0 (pa_cons (pv 0) (pa_cons (pe_dget hu (pv 2) pe_str (fun _ _ => rfl)) pa_nil)))) (pg_name (i := 3) scBu.nd rfl (.inl rfl))
        (pss_one (ps_expr (pe_methR (pv 1) T.cl mAU GAU hr6 pass0 (pa_cons (pv 3) pa_nil)))))
      (pss_cons (ps_for PassesOwn.never rfl (pi_list (pe_call GS hr2 rfl mS kS bS .nil pass0 (pa_cons (pv 0) (pa_cons (pe_callTy (call_listD rfl) (by rfl) hl (by decide +kernel) (pa_cons (pe_dget hu (pv 2) pe_str (fun _ _ => rfl)) pa_nil)) pa_nil)))) (pg_name (i := 3) scBu.nd rfl (.inl rfl))
        (pss_cons (ps_expr (pe_methR (pv 1) T.cl mAE GAE hr pass0 (pa_cons (pv 3) pa_nil)))
        (pss_one (ps_for PassesOwn.never rfl (pi_list (pe_call GS hr2 rfl mS kS bS .nil pass0 (pa_cons (pv 0) (pa_cons (pe_dget hu (pe_dget hu (pv 2) pe_str (fun _ _ => rfl)) (pv 3) (fun _ _ => rfl)) pa_nil)))) (pg_name (i := 4) scBu.nd rfl (.inl rfl))
          (pss_one (ps_expr (pe_meth (pv 1) T.cl mEn GEn hr4 bEn .nil pass0 (pa_cons (pv 3) (pa_cons (pv 4) pa_nil)))))))))
      (pss_one (ps_ret (pv 1)))), ?_⟩
    have hPH := hP.keep hY.same
    refine ⟨_, rfl, _, rfl, pl, _, rfl, hPH.gu, t, c, u, cs, p, l, us, rfl, hT, .inl (SqL.of hPH.u), nm.u.ok, by omega, by omega, fun q1 ys1 p1 l1 H1 pm1 n1 h1 a1 b1 hT1 hB1 => ⟨q1, rfl, ⟨_, SqL.of h1⟩, ?_⟩⟩
    obtain ⟨G1, Y1, s01, g1t, sG1, gnew1⟩ := hY.ground hT.d h0t hB1
    have g1c := s01 _ _ h0c
    have eq1 := gnew1 _ _ h1 n1
    have nm1 := nm.u.perm pm1
    have len1 := pm1.length_eq
    refine for_list (xs := ys1.map V.str) (fun i σ H' => ∃ (z3 : Option V) (cols : List Str) (Hs : List Ct), σ = [some (.ref t), some (.ref s), some (.ref pl), z3, none] ∧ SyG K CC CS G1 H' s ⟨cols, [], []⟩ [] Hs ∧ cols = srt (ys1.take i) ∧ Hs.length = i ∧ Tape H' t c cs p1 l1)
      ⟨none, [], [], rfl, Y1, (srt_perm []).eq_nil.symm, rfl, hT1⟩ (fun i σ H' _ ⟨_, _, _, _, Y, _⟩ => SqL.of (Y.same _ _ eq1)) ?_ ?_
    · rintro i x σ H2 hx ⟨z3, cols, Hs, rfl, Y2, ec, lh, hT2⟩
      rw [List.getElem?_map] at hx
      obtain ⟨y, hy, rfl⟩ := Option.map_eq_some_iff.mp hx
      have hi : i < ys1.length := (List.getElem?_eq_some_iff.mp hy).1
      obtain ⟨B, YB, sB, back⟩ := Y2.call hT2 g1c
      obtain ⟨dx, c2, b2, h2, bs2, hs2, A2, _⟩ := id YB
      have pc : cols.Perm (ys1.take i) := ec ▸ srt_perm _
      have py : ([y] ++ cols).Perm (ys1.take (i + 1)) := by
        rw [take_snoc hy]
        exact (List.perm_append_comm).trans (List.Perm.append_right _ pc)
      refine ⟨_, rfl, s, dx, _, rfl, A2.i, syF_no _ _ _ (by decide +kernel) (by decide +kernel) (by decide +kernel), _, rfl, s, B, ⟨cols, [], []⟩, [], Hs, [y], rfl, YB, by omega, fun z hz => ?_, ?_, ?_, fun H3 zs pz sz Y3 => ?_⟩
      · rw [List.mem_singleton.mp hz]
        exact (nm1.k y (List.mem_of_getElem? hy)).1
      · exact py.nodup_iff.mpr ((List.take_sublist _ _).nodup nm1.n)
      · rw [py.length_eq, List.length_take]
        omega
      · obtain ⟨Y3', hT3⟩ := back _ _ _ _ Y3
        exact ⟨_, zs, _, rfl, Y3', srt_of (pz.trans py) sz, by show (Hs ++ [_]).length = _; rw [List.length_append, lh]; rfl, hT3⟩
    rintro σ H2 ⟨z3, cols, Hs, rfl, Y2, ec, lh, hT2⟩
    rw [List.length_map, List.take_length] at ec
    rw [List.length_map] at lh
    have ec : cols = srt us := ec.trans (srt_eq pm1)
    subst ec
    have hP2 := (hP.keep s01).keep Y2.same
    refine ⟨_, rfl, _, rfl, pl, _, rfl, hP2.gr, r, refK ra, rfl, hP2.r, fun L hL => ?_⟩
    have ek : (refK ra).map (fun kv => kV kv.1) = (rows.map (·.1)).map V.str := by
      rw [← hP.keys]
      unfold refK
      rw [List.map_map, List.map_map]
      rfl
    rw [ek]
    have sL := same_new (o := .lst ((rows.map (·.1)).map V.str)) hL
    refine ⟨t, c, L, cs, p1, l1, rows.map (·.1), rfl, hT2.keep sL, .inl (SqL.of upd_same), nm.r.ok, by rw [List.length_map]; omega, by rw [List.length_map]; omega, fun q3 ys3 p3 l3 H3 pm3 n3 h3 a3 b3 hT3 hB3 => ⟨q3, rfl, ⟨_, SqL.of h3⟩, ?_⟩⟩
    obtain ⟨G3, Y3, s13, g3t, sG3, gnew3⟩ := (Y2.keep sL).ground (sL _ _ hT2.d) g1t hB3
    have g3c := s13 _ _ g1c
    have eq3 := gnew3 _ _ h3 n3
    have nm3 := nm.r.perm pm3
    have len3 := pm3.length_eq
    rw [List.length_map] at len3 b3
    have hP3 := (hP.keep s01).keep s13
    refine for_list (xs := ys3.map V.str) (fun i σ H' => ∃ (z3 z4 : Option V) (S : Ct) (Hs : List Ct) (p' l' : Int), σ = [some (.ref t), some (.ref s), some (.ref pl), z3, z4] ∧ SyG K CC CS G3 H' s S [] Hs ∧ S.cols = srt us ∧ S.rows.map (·.1) = ys3.take i ∧ (∀ p ∈ S.rows, ∃ xs, (p.1, xs) ∈ rows ∧ (p.2.map (·.1)).Perm xs ∧ ∀ q ∈ p.2, q.2 = 1) ∧
        S.cons.map (·.1) = S.rows.map (·.1) ∧ (∀ p ∈ S.cons, p.2 = 0) ∧ Hs.length ≤ 24 + 30 * i ∧ p3 ≤ p' ∧ p' ≤ p3 + 30 * (i : Int) ∧ Tape H' t c cs p' l')
      ⟨z3, none, ⟨srt us, [], []⟩, Hs, p3, l3, rfl, Y3, rfl, rfl, (fun _ z => nomatch z), rfl, (fun _ z => nomatch z), by omega, by omega, by omega, hT3⟩ (fun i σ H' _ ⟨_, _, _, _, _, _, _, Y, _⟩ => SqL.of (Y.same _ _ eq3)) ?_ ?_
    · rintro i x σ H4 hx ⟨z3, z4, S, Hs4, p4, l4, rfl, Y4, ec, er, ee, en, ez, lh4, a4, b4, hT4⟩
      rw [List.getElem?_map] at hx
      obtain ⟨y, hy, rfl⟩ := Option.map_eq_some_iff.mp hx
      have hi : i < ys3.length := (List.getElem?_eq_some_iff.mp hy).1
      have ym : y ∈ rows.map (·.1) := pm3.mem_iff.mp (List.mem_of_getElem? hy)
      have yn : y ∉ S.rows.map (·.1) := by
        rw [er]
        intro z
        obtain ⟨j, hj⟩ := List.mem_iff_getElem?.mp z
        rw [List.getElem?_take] at hj
        split at hj
        · exact absurd ((List.getElem?_inj (by omega) nm3.n).mp (hj.trans hy.symm)) (by omega)
        · cases hj
      have lS : S.rows.length = i := by
        have e1 := congrArg List.length er
        rw [List.length_map, List.length_take] at e1
        omega
      have lC : S.cons.length = i := by
        have e1 := congrArg List.length en
        rw [List.length_map, List.length_map] at e1
        omega
      obtain ⟨B, YB, sB, back⟩ := Y4.call hT4 g3c
      obtain ⟨dx, c2, b2, h2, bs2, hs2, A2, _⟩ := id YB
      refine ⟨_, rfl, s, dx, _, rfl, A2.i, syF_no _ _ _ (by decide +kernel) (by decide +kernel) (by decide +kernel), _, rfl, s, B, S, [], Hs4, y, rfl, YB, by omega, (nm3.k y (List.mem_of_getElem? hy)).1, yn, by rw [en]; exact yn, by omega, by omega, fun H5 Y5 => ?_⟩
      obtain ⟨Y5, hT5⟩ := back _ _ _ _ Y5
      have hP5 := hP3.keep Y5.same
      obtain ⟨d, xs, hv, hm, hd⟩ := hP5.row ym
      have nx := nm.nms hm
      have lx : xs.length ≤ 24 := by
        have : xs.length ≤ us.length := nodup_le nx.n (fun z hz => (nm.e _ hm).2 z hz)
        omega
      refine ⟨_, rfl, _, rfl, pl, _, rfl, hP5.gr, _, rfl, r, _, rfl, .inl ⟨_, Sum.inr y, hP5.r, rfl, hv.symm⟩, t, c, d, cs, p4, l4, xs, rfl, hT5, .inl (SqL.of hd), nx.ok, by omega, by omega, fun q6 ys6 p6 l6 H6 pm6 n6 h6 a6 b6 hT6 hB6 => ⟨q6, rfl, ⟨_, SqL.of h6⟩, ?_⟩⟩
      obtain ⟨G6, Y6, s36, g6t, sG6, gnew6⟩ := Y5.ground hT5.d g3t hB6
      have g6c := s36 _ _ g3c
      have eq6 := gnew6 _ _ h6 n6
      have nm6 := nx.perm pm6
      have len6 := pm6.length_eq
      refine for_list (xs := ys6.map V.str) (fun j σ H' => ∃ (z4 : Option V) (Hs : List Ct), σ = [some (.ref t), some (.ref s), some (.ref pl), some (.str y), z4] ∧ SyG K CC CS G6 H' s { S with rows := S.rows ++ [(y, (ys6.take j).map fun z => (z, 1))], cons := S.cons ++ [(y, 0)] } [] Hs ∧ Hs.length ≤ 24 + 30 * i + 1 + j ∧ Tape H' t c cs p6 l6)
        ⟨z4, _, rfl, Y6, ?_, hT6⟩ (fun i σ H' _ ⟨_, _, _, Y, _⟩ => SqL.of (Y.same _ _ eq6)) ?_ ?_
      · show (Hs4 ++ [_]).length ≤ _
        rw [List.length_append]
        show Hs4.length + 1 ≤ _
        omega
      · rintro j x σ H7 hx ⟨z4, Hs7, rfl, Y7, lh7, hT7⟩
        rw [List.getElem?_map] at hx
        obtain ⟨v, hv6, rfl⟩ := Option.map_eq_some_iff.mp hx
        have hj : j < ys6.length := (List.getElem?_eq_some_iff.mp hv6).1
        obtain ⟨B7, YB7, sB7, back7⟩ := Y7.call hT7 g6c
        obtain ⟨dx7, c7, b7, h7, bs7, hs7, A7, _⟩ := id YB7
        have km : ((ys6.take j).map fun z => (z, (1 : Int))).map (·.1) = ys6.take j := by
          rw [List.map_map]
          exact List.map_id' _
        refine ⟨_, rfl, s, dx7, _, rfl, A7.i, syF_no _ _ _ (by decide +kernel) (by decide +kernel) (by decide +kernel), _, rfl, _, rfl, s, B7, _, [], Hs7, y, v, (ys6.take j).map fun z => (z, 1), rfl, YB7, by omega, ?_, List.mem_append_right _ List.mem_cons_self, ?_, ?_, ?_, ?_, fun H8 Y8 => ?_⟩
        · show (List.map (fun p : Str × List (Str × Int) => p.1) (S.rows ++ [(y, _)])).Nodup
          rw [List.map_append, er]
          have e1 : ys3.take i ++ [y] = ys3.take (i + 1) := (take_snoc hy).symm
          show (ys3.take i ++ [y]).Nodup
          rw [e1]
          exact (List.take_sublist _ _).nodup nm3.n
        · show v ∈ S.cols
          rw [ec]
          exact srt_mem.mpr ((nm.e _ hm).2 v (pm6.mem_iff.mp (List.mem_of_getElem? hv6)))
        · rw [km]
          intro z
          obtain ⟨j2, hj2⟩ := List.mem_iff_getElem?.mp z
          rw [List.getElem?_take] at hj2
          split at hj2
          · exact absurd ((List.getElem?_inj (by omega) nm6.n).mp (hj2.trans hv6.symm)) (by omega)
          · cases hj2
        · show (S.rows ++ [(y, _)]).length ≤ 1000
          rw [List.length_append, lS]
          show i + 1 ≤ _
          omega
        · rw [List.length_map, List.length_take]
          omega
        · obtain ⟨Y8', hT8⟩ := back7 _ _ _ _ Y8
          have e1 : setRow (S.rows ++ [(y, (ys6.take j).map fun z => (z, (1 : Int)))]) y ((ys6.take j).map (fun z => (z, (1 : Int))) ++ [(v, 1)]) = S.rows ++ [(y, (ys6.take (j + 1)).map fun z => (z, 1))] := by
            rw [setRow_last yn, take_snoc hv6, List.map_append]
            rfl
          have Y8'' : SyG K CC CS G6 H8 s { S with rows := S.rows ++ [(y, (ys6.take (j + 1)).map fun z => (z, 1))], cons := S.cons ++ [(y, 0)] } [] (histG [] Hs7 _) := e1 ▸ Y8'
          refine ⟨_, _, rfl, Y8'', ?_, hT8⟩
          show (Hs7 ++ [_]).length ≤ _
          rw [List.length_append]
          show Hs7.length + 1 ≤ _
          omega
      · rintro σ H7 ⟨z4, Hs7, rfl, Y7, lh7, hT7⟩
        rw [List.length_map, List.take_length] at Y7
        rw [List.length_map] at lh7
        refine ⟨_, z4, _, Hs7, p6, l6, rfl, Y7.under s36, ec, ?_, ?_, ?_, ?_, by omega, by omega, by omega, hT7⟩
        · show List.map (fun p : Str × List (Str × Int) => p.1) (S.rows ++ [(y, _)]) = _
          rw [List.map_append, er, take_snoc hy]
          rfl
        · intro p hp
          rcases List.mem_append.mp hp with e | e
          · exact ee p e
          · rw [List.mem_singleton.mp e]
            refine ⟨xs, hm, ?_, fun q hq => ?_⟩
            · show ((ys6.map fun z => (z, (1 : Int))).map (·.1)).Perm xs
              rw [List.map_map]
              exact (List.map_id' ys6).symm ▸ pm6
            · obtain ⟨z, _, rfl⟩ := List.mem_map.mp hq
              rfl
        · show List.map (fun p : Str × Int => p.1) (S.cons ++ [(y, 0)]) = List.map (fun p : Str × List (Str × Int) => p.1) (S.rows ++ [(y, _)])
          rw [List.map_append, List.map_append, en]
          rfl
        · intro p hp
          rcases List.mem_append.mp hp with e | e
          · exact ez p e
          · rw [List.mem_singleton.mp e]
    · rintro σ H4 ⟨z3, z4, S, Hs4, p4, l4, rfl, Y4, ec, er, ee, en, ez, lh4, a4, b4, hT4⟩
      rw [List.length_map, List.take_length] at er
      rw [List.length_map] at lh4 b4
      exact ⟨_, rfl, k S Hs4 p4 l4 H4 ((Y4.under s13).under s01) ⟨ec, by rw [er]; exact pm3, ee, en, ez⟩ (by omega) (by omega) (by omega) hT4⟩
end
end Bo

set_option Elab.async false
set_option linter.all false
set_option maxRecDepth 100000
set_option maxHeartbeats 8000000
/-! {e for .. in .. for .. in ..}: a set of texts from two clauses -/
namespace Bo
open PySem PySem.Spec PyProof.Rows L2
abbrev SC2 (e ta ia : Expr) (fa : List Expr) (tb ib : Expr) (fb : List Expr) (sc : Scope) (ps : Pos) : Expr := .SetComp e [⟨ta, ia, fa, 0⟩, ⟨tb, ib, fb, 0⟩] sc ps
theorem turn_a (e ta ia : Expr) (fa : List Expr) (tb ib : Expr) (fb : List Expr) (sc : Scope) (ps : Pos) (src big : Value) (en : Env) :
    compTurn (SC2 e ta ia fa tb ib fb sc ps) 0 src big en = (do
      standAt ia.pos
      match ← pyNext src with
      | none => pure (.done .next)
      | some thing =>
        letOwnedTupleGo ta src thing
        assign ta en thing
        let mut fine := true
        for cond in fa do
          if fine then fine ← isTrue cond en (eval cond en)
        if fine then
          let inner ← eval ib en
          standAt ib.pos
          let inner ← foldedSetIterable ib en inner
          let _ ← runOwn (.compStart (SC2 e ta ia fa tb ib fb sc ps) 1 (← holding [inner] (pyIter inner)) big en) en
        again (.compLoop (SC2 e ta ia fa tb ib fb sc ps) 0 src big en)) := by rfl
theorem turn_b (e ta ia : Expr) (fa : List Expr) (tb ib : Expr) (fb : List Expr) (sc : Scope) (ps : Pos) (src big : Value) (en : Env) :
    compTurn (SC2 e ta ia fa tb ib fb sc ps) 1 src big en = (do
      standAt ib.pos
      match ← pyNext src with
      | none => pure (.done .next)
      | some thing =>
        letOwnedTupleGo tb src thing
        assign tb en thing
        let mut fine := true
        for cond in fb do
          if fine then fine ← isTrue cond en (eval cond en)
        if fine then
          (do let member ← eval e en; standAt e.pos; let _ ← call (.builtin "set.add") [big, member])
        again (.compLoop (SC2 e ta ia fa tb ib fb sc ps) 1 src big en)) := by rfl
/-- an error on the way goes out of the comprehension -/
abbrev Oops (M : Model) (A : Around) (en : Env) (R : Result → Shared → Prop) : Value → Shared → Prop := notedBy M A en fun x z => R (.error x) z
/-- all conditions hold -/
abbrev conds (en : Env) (fs : List Expr) : Sem Bool := forIn fs true fun cond r => if r = true then do let fine ← isTrue cond en (eval cond en); pure (ForInStep.yield fine) else pure (ForInStep.yield r)
section
variable {prog : Program} {w : World} {A : Around} {R : Result → Shared → Prop} {z0 : Shared} {e ta ia tb ib : Expr} {fa fb : List Expr} {sc : Scope} {ps : Pos} {src big : Value} {en : Env}
/-- one thing is taken, stored, and asked -/
def Taken (prog : Program) (w : World) (A : Around) (R : Result → Shared → Prop) (en : Env) (src : Value) (tg : Expr) (fs : List Expr) (yes no : Shared → Prop) (z : Shared) : Prop :=
  wpAny (model prog w) A (pyNext src) (fun got z1 => match got with
    | none => R (.ok .next) z1
    | some thing => wpAny (model prog w) A (letOwnedTupleGo tg src thing) (fun _ z2 => wpAny (model prog w) A (assign tg en thing) (fun _ z3 =>
        wpAny (model prog w) A (conds en fs) (fun fine z4 => if fine = true then yes z4 else no z4) (Oops (model prog w) A en R) z3) (Oops (model prog w) A en R) z2) (Oops (model prog w) A en R) z1) (Oops (model prog w) A en R) z
theorem loop_a (hs : ∀ x, foldedSetIterable ib en x = pure x) (J : Nat → Shared → Prop)
    (step : ∀ n z, J n z → Taken prog w A R en src ta fa (fun z4 => wpAny (model prog w) A (eval ib en) (fun inner z5 => wpAny (model prog w) A (pyIter inner) (fun it1 z6 =>
        codeAny (model prog w) A (.compStart (SC2 e ta ia fa tb ib fb sc ps) 1 it1 big en) (fun r z7 => match r with
          | .ok _ => ∃ m, m < n ∧ J m z7
          | .error _ => False) z6) (Oops (model prog w) A en R) z5) (Oops (model prog w) A en R) z4) (fun z4 => ∃ m, m < n ∧ J m z4) z)
    (n : Nat) (h : J n z0) : codeAny (model prog w) A (.compLoop (SC2 e ta ia fa tb ib fb sc ps) 0 src big en) R z0 := by
  refine codeAny_loop rfl J (fun n z hz => ?_) n h
  show wpAny _ A ((compTurn (SC2 e ta ia fa tb ib fb sc ps) 0 src big en).onRaise (fun x => do noteFrame x en; theTreesLotGoes x)) _ _ z
  refine wpAny_noted ?_
  rw [turn_a]
  refine wpAny_bind (wpAny_standAt (wpAny_bind (wpAny_mono (step n z hz) (fun got z1 q1 => ?_) fun _ _ q => q)))
  cases got with
  | none => exact wpAny_pure q1
  | some thing =>
    refine wpAny_bind (wpAny_mono q1 (fun _ z2 q2 => wpAny_bind (wpAny_mono q2 (fun _ z3 q3 => wpAny_bind (wpAny_mono q3 (fun fine z4 q4 => ?_) fun _ _ q => q)) fun _ _ q => q)) fun _ _ q => q)
    cases fine with
    | false => exact wpAny_pure ⟨rfl, q4⟩
    | true =>
      refine wpAny_bind (wpAny_mono q4 (fun inner z5 q5 => wpAny_bind (wpAny_standAt (wpAny_bind (wpAny_of_eq (hs inner) (wpAny_bind (wpAny_holding (wpAny_mono q5 (fun it1 z6 q6 => ?_) fun _ _ q => q))))))) fun _ _ q => q)
      refine wpAny_bind (wpAny_runOwn ?_)
      rw [Around.mark_none]
      refine codeAny_mono q6 fun r z7 q7 => ?_
      cases r with
      | error x => exact q7.elim
      | ok fl => first | exact wpAny_pure ⟨rfl, q7⟩ | exact wpAny_bind (wpAny_pure (wpAny_pure ⟨rfl, q7⟩))
theorem loop_b (J : Nat → Shared → Prop)
    (step : ∀ n z, J n z → Taken prog w A R en src tb fb (fun z4 => wpAny (model prog w) A (eval e en) (fun member z5 => wpAny (model prog w) A (call (.builtin "set.add") [big, member]) (fun _ z6 => ∃ m, m < n ∧ J m z6) (Oops (model prog w) A en R) z5) (Oops (model prog w) A en R) z4)
        (fun z4 => ∃ m, m < n ∧ J m z4) z)
    (n : Nat) (h : J n z0) : codeAny (model prog w) A (.compLoop (SC2 e ta ia fa tb ib fb sc ps) 1 src big en) R z0 := by
  refine codeAny_loop rfl J (fun n z hz => ?_) n h
  show wpAny _ A ((compTurn (SC2 e ta ia fa tb ib fb sc ps) 1 src big en).onRaise (fun x => do noteFrame x en; theTreesLotGoes x)) _ _ z
  refine wpAny_noted ?_
  rw [turn_b]
  refine wpAny_bind (wpAny_standAt (wpAny_bind (wpAny_mono (step n z hz) (fun got z1 q1 => ?_) fun _ _ q => q)))
  cases got with
  | none => exact wpAny_pure q1
  | some thing =>
    refine wpAny_bind (wpAny_mono q1 (fun _ z2 q2 => wpAny_bind (wpAny_mono q2 (fun _ z3 q3 => wpAny_bind (wpAny_mono q3 (fun fine z4 q4 => ?_) fun _ _ q => q)) fun _ _ q => q)) fun _ _ q => q)
    cases fine with
    | false => exact wpAny_pure ⟨rfl, q4⟩
    | true => exact wpAny_bind (wpAny_bind (wpAny_mono q4 (fun member z5 q5 => wpAny_bind (wpAny_standAt (wpAny_bind (wpAny_mono q5 (fun _ z6 q6 => wpAny_pure (wpAny_pure ⟨rfl, q6⟩)) fun _ _ q => q)))) fun _ _ q => q))
theorem start_b (h0 : codeAny (model prog w) A (.compLoop (SC2 e ta ia fa tb ib fb sc ps) 1 src big en) R z0)
    (h : wpAny (model prog w) A (pyIter src) (fun it' z => codeAny (model prog w) A (.compLoop (SC2 e ta ia fa tb ib fb sc ps) 1 it' big en) R z) (Oops (model prog w) A en R) z0) :
    codeAny (model prog w) A (.compStart (SC2 e ta ia fa tb ib fb sc ps) 1 src big en) R z0 := by
  refine codeAny_of_tree ?_
  show wpAny _ _ ((compStart (SC2 e ta ia fa tb ib fb sc ps) 1 src big en).onRaise (fun x => do noteFrame x en; standAt theWindowsPlace)) _ _ z0
  refine wpAny_notedAt ?_
  unfold compStart
  show wpAny _ _ (ask >>= _) _ _ z0
  refine wpAny_bind (wpAny_askSetting (wpAny_ite ?_))
  split
  · first
      | exact wpAny_bind (wpAny_pure (wpAny_pure (And.intro rfl h0)))
      | exact wpAny_pure (And.intro rfl h0)
  · refine wpAny_bind (wpAny_rule ?_)
    show wpAny _ _ (standAt ib.pos >>= _) _ _ z0
    exact wpAny_bind (wpAny_standAt (wpAny_bind (wpAny_mono h (fun it' z q => wpAny_pure (And.intro rfl q)) fun _ _ q => q)))
end
section
variable {X : Cx}
/-- set.add of a text -/
theorem addTx_ok {pins : List (Addr × Obj)} {σ : L2.St} {H : Hp} {s : Shared} {E : Value → Shared → Prop} {D : Addr} {xs : List Str} {z : Str} {k : Tok} {Q : Value → Shared → Prop} (I : L2.Inv X pins σ H s) (hD : H D = some (TxO X.w D xs)) (room : xs.length + 1 < scanBound)
    (h : ∀ s', L2.Inv X pins σ (upd H D (TxO X.w D (addTx xs z))) s' → Q .none s') : wpAny (model X.prog X.w) X.A (call (.builtin "set.add") [.ref D, .str z k]) Q E s := by
  have R2 := txO_get I hD
  refine wpAny_call_entry PySem.F.slot_set_add (R2.setOf (P := X.prog)).typeIs PySem.F.entry_set_add ?_ (PySem.F.args_set_add_2 _ _)
  unfold Builtin.«set.add» Builtin.Frozenset.oneOther
  simp only [List.isEmpty_nil, bind_assoc]
  unfold Builtin.Frozenset.addrOf setAdd
  refine wpAny_bind (wpAny_pure (wpAny_bind (wpAny_pure ?_)))
  dsimp only
  refine wpAny_bind (wpAny_holding (wpAny_bind ((PySem.strKind X.prog X.w).pyHash (strKind_is X.prog X.w z k) (txt_addHashed (P := X.prog) (s := { s with toks := s.toks + 1 }) R2 room fun b h' sb R3 => ?_))))
  refine wpAny_pure ⟨_, rfl, ?_⟩
  have there : ∃ u, h'.get? D = some u := by
    obtain ⟨ob, _, _, _, ⟨e, _⟩, _⟩ := R3
    exact ⟨ob, e⟩
  exact h _ (I.write (e := D) (x := D) (o := TxO X.w D (addTx xs z)) (t' := s.toks + 1) (by rw [hD]; trivial) (.inl rfl) (fun b u hb hu => (sb.2 b hb).trans hu) there (txO_new R3))
/-- its reading: as of a list of two clauses, D the new set -/
def tSc2 (w : World) (wi : TI) (g : TG) (tt : TT) (wi1 : TI) (g1 : TG) (tt1 : TT) (te : TE) (vs vs1 : List Nat) : TE := fun σ H Q => wi σ H fun J H1 => ∀ D, H1 D = none → ∃ W : Nat → Nat → Hp → Prop, (∃ m, W 0 m (upd H1 D (TxO w D []))) ∧ ∀ i m H, W i m H →
  (J.stop i H ∧ Q (.ref D) H) ∨ (J.go i H ∧ ∃ Nx : Hp → Prop, (∀ H', Nx H' → ∃ m', m' < m ∧ W (i + 1) m' H') ∧ ∀ x H', J.yld i H x H' → g x (wipe σ vs) H' fun σ2 H2 => wipe σ2 vs = wipe σ vs ∧ tt σ2 H2 fun b H3 =>
    if b = true then wi1 σ2 H3 fun J1 H4 => ∃ W1 : Nat → Nat → Hp → Prop, (∃ m, W1 0 m H4) ∧ ∀ j k H, W1 j k H →
      (J1.stop j H ∧ Nx H) ∨ (J1.go j H ∧ ∃ Nx1 : Hp → Prop, (∀ H', Nx1 H' → ∃ k', k' < k ∧ W1 (j + 1) k' H') ∧ ∀ x H', J1.yld j H x H' → g1 x (wipe σ2 vs1) H' fun σ3 H5 => wipe σ3 vs1 = wipe σ2 vs1 ∧ tt1 σ3 H5 fun b H6 =>
        if b = true then te σ3 H6 fun y H7 => ∃ (z : Str) (xs : List Str), y = .str z ∧ H7 D = some (TxO w D xs) ∧ xs.length + 1 < scanBound ∧ Nx1 (upd H7 D (TxO w D (addTx xs z))) else Nx1 H6)
    else Nx H3)
/-- what a rule must hold of, within the comprehension's block -/
abbrev InBlk (X : Cx) (sc : Scope) (F : Cx → Prop) : Prop := ∀ (s : Shared) (H : Hp) (C : Addr) (cl : List (Str × Addr)) (fp : List Addr), F (X.blk s H sc (compEnvC sc cl C X.env) fp)
theorem pe_scTx2 {e ta ia tb ib : Expr} {fa fb : List Expr} {sc : Scope} {own : List (Str × Nat)} {vs1 : List Nat} {ps : Pos} {wi wi1 : TI} {g g1 : TG} {tt tt1 : TT} {te : TE} (hc : X.calm = true) (hN : X.N.Nodup) (hi : PI X ta ia wi) (ok : BlkOk X.N X.env.scope sc own) (hv : ∀ i ∈ vs1, i ∈ own.map (·.2))
    (hg : InBlk X sc fun B => PG B ta g) (ht : InBlk X sc fun B => PTs B fa tt) (hi1 : InBlk X sc fun B => PI B tb ib wi1) (hg1 : InBlk X sc fun B => PG B tb g1) (ht1 : InBlk X sc fun B => PTs B fb tt1) (he : InBlk X sc fun B => PE B e te)
    (hs : ∀ x, foldedSetIterable ia X.env x = pure x := by intro _; rfl) (hs1 : ∀ en x, foldedSetIterable ib en x = pure x := by intro _ _; rfl) :
    PE X (.SetComp e [⟨ta, ia, fa, 0⟩, ⟨tb, ib, fb, 0⟩] sc ps) (tSc2 X.w wi g tt wi1 g1 tt1 te (own.map (·.2)) vs1) := by
  refine ⟨fun pins s σ H Q I h => ?_⟩
  show wpAny _ _ (comprehension (SC2 e ta ia fa tb ib fb sc ps) sc X.env (firstIterPos [⟨ta, ia, fa, 0⟩, ⟨tb, ib, fb, 0⟩] ps) (newSet (.type "set")) false (eval ia X.env)) _ _ s
  have free : ∀ y ∈ sc.names, y.2 = .free → ∃ c, X.env.cells.lookup y.1 = some c := fun y hy e => (ok.free y hy e).elim (fun q => I.ok.has _ (.inl q)) fun q => I.ok.has _ (.inr q)
  refine wpAny_comprehension_free rfl hs (closure_ok free) ok.kind (fun y hy e => by rw [ok.uniq y hy, e]) (thn (hi.run pins s σ H _ I h) fun xv s1 hx => thn hx fun itv s2 h2 => ?_)
  obtain ⟨it, fp, tn, J, H2, rfl, I2, T, st2, f2, q⟩ := h2
  refine PpSet.newSet_ok (newEnv_comp ?_)
  generalize hD : s2.heap.objs.size = D
  have hDn : H2 D = none := I2.hok.fresh (Nat.le_of_eq hD)
  obtain ⟨W, ⟨m0, w0⟩, turn⟩ := q D hDn
  generalize hs3 : ({ s2 with heap := s2.heap.push { cls := .type "set", dict := none, data := .set #[] 0 (.fresh 0 0 (!X.w.params.followText "set-order")) } } : Shared) = s3
  have h3 : s3.heap = s2.heap.push (freshSet X.w) := by rw [← hs3]; rfl
  have I3 : L2.Inv X pins σ (upd H2 D (TxO X.w D [])) s3 := by
    rw [← hs3]
    refine I2.laid (t' := s2.toks) (fun b o e => Heap.get?_push_of_some _ e) (Nat.le_of_eq hD) ?_
    rw [← hD]
    exact txO_new (freshSet_tx X.w)
  have bound : ∀ b ∈ fp, b < s2.heap.objs.size := fun b hb => let ⟨_, e, _⟩ := T.obj _ _ st2 b hb; Heap.lt_size e
  have f3 : ∀ b ∈ fp, FpOk X pins (upd H2 D (TxO X.w D [])) b ∧ b < s3.heap.objs.size := fun b hb => by
    have lt := bound b hb
    have nD : b ≠ D := by rw [← hD]; exact Nat.ne_of_lt lt
    exact ⟨⟨(upd_ne nD).trans (f2 b hb).1, (f2 b hb).2⟩, by rw [h3, Heap.size_push]; exact Nat.lt_succ_of_lt lt⟩
  have st3 : tn 0 s3.heap := T.keep _ _ _ st2 fun b _ o e => by rw [h3]; exact Heap.get?_push_of_some _ e
  have I4 := block_start I3 ok hN f3
  show codeAny _ _ (.compStart (SC2 e ta ia fa tb ib fb sc ps) 0 (.ref it) (.ref D) (compEnvC sc (cellsFrom (s3.heap.objs.size + 1) sc.names (cloFrom X.env.cells sc.names [])) s3.heap.objs.size X.env)) (compPost (model X.prog X.w) X.A X.xe none (EP X pins σ Q) (.ref D) s3.heap.objs.size) { s3 with heap := pushCells (s3.heap.push { cls := .type "dict", data := .dict #[] }) sc.names }
  obtain ⟨cl, hcl⟩ : ∃ cl, cellsFrom (s3.heap.objs.size + 1) sc.names (cloFrom X.env.cells sc.names []) = cl := ⟨_, rfl⟩
  rw [hcl] at I4
  have pg := hg s3 (upd H2 D (TxO X.w D [])) s3.heap.objs.size cl fp
  have pt := ht s3 (upd H2 D (TxO X.w D [])) s3.heap.objs.size cl fp
  have pe := he s3 (upd H2 D (TxO X.w D [])) s3.heap.objs.size cl fp
  have pj := hi1 s3 (upd H2 D (TxO X.w D [])) s3.heap.objs.size cl fp
  have pg1 := hg1 s3 (upd H2 D (TxO X.w D [])) s3.heap.objs.size cl fp
  have pt1 := ht1 s3 (upd H2 D (TxO X.w D [])) s3.heap.objs.size cl fp
  have none3 : ∀ b ∈ fp, (upd H2 D (TxO X.w D [])) b = none := fun b hb => (f3 b hb).1.1
  rw [hcl]
  generalize hce : compEnvC sc cl s3.heap.objs.size X.env = ce at I4 pg pt pe pj pg1 pt1 ⊢
  have cL : ce.locals = s3.heap.objs.size := by subst hce; rfl
  generalize upd H2 D (TxO X.w D []) = H3 at I3 I4 pg pt pe pj pg1 pt1 w0 none3 f3
  generalize hs4 : ({ s3 with heap := pushCells (s3.heap.push { cls := .type "dict", data := .dict #[] }) sc.names } : Shared) = s4 at I4 ⊢
  have st4 : tn 0 s4.heap := T.keep _ _ _ st3 fun b _ o e => by rw [← hs4]; exact pushCells_keeps _ _ _ _ (Heap.get?_push_of_some _ e)
  -- what the walk of the first clause stands on
  have foot : ∀ {σ' : L2.St} {H' : Hp} {s' : Shared}, L2.Inv (X.blk s3 H3 sc ce fp) [] σ' H' s' → (∀ b ∈ fp, H' b = none) → ∀ b ∈ fp, FpOk (X.blk s3 H3 sc ce fp) [] H' b := fun {σ' H' s'} I' hn b hb =>
    ⟨hn b hb, (I'.ok.exf b hb).1, I'.ok.exfs b hb, .inl hb, fun x c e => (I'.ok.exf b hb).2 x c e, fun p hp => absurd (show p ∈ ([] : List (Addr × Obj)) ++ [] from hp) (by simp)⟩
  -- a state between two turns of the first clause
  let Rest : Nat → Shared → Prop := fun n s' => ∃ i H', L2.Inv (X.blk s3 H3 sc ce fp) [] (wipe σ (own.map (·.2))) H' s' ∧ tn i s'.heap ∧ (∀ b ∈ fp, H' b = none) ∧ W i n H'
  have big : codeAny (model X.prog X.w) X.A (.compLoop (SC2 e ta ia fa tb ib fb sc ps) 0 (.ref it) (.ref D) ce) (compPost (model X.prog X.w) X.A X.xe none (EP X pins σ Q) (.ref D) s3.heap.objs.size) s4 := by
    refine loop_a (hs1 ce) Rest ?_ m0 ⟨0, H3, I4, st4, none3, w0⟩
    rintro n s5 ⟨i, H5, I5, st5, n5, w5⟩
    unfold Taken
    rcases turn i n H5 w5 with ⟨stop, qq⟩ | ⟨go, Nx, hNx, step⟩
    · refine thnF (T.done (X.blk s3 H3 sc ce fp) rfl rfl rfl hc i [] s5 _ H5 (fun _ _ => False) I5 (foot I5 n5) st5 stop) fun r s6 ⟨hr, I6⟩ => ?_
      subst hr
      have I7 : L2.Inv X pins σ H5 s6 := I3.call' (ch := fp) I6.os I6.base I6.hok I6.bare fun b hb => ⟨(f3 b hb).1.2.2.2.1, (f3 b hb).1.2.1, (f3 b hb).1.2.2.2.2.1, (f3 b hb).1.2.2.2.2.2⟩
      have nC : H5 s3.heap.objs.size = none := cL ▸ (show H5 ce.locals = none from I6.free)
      obtain ⟨m, hn, _⟩ := I6.loc
      have hn : s6.heap.Ns s3.heap.objs.size m := cL ▸ hn
      obtain ⟨a0, a1, a2, a3, a4, a5⟩ := I3.fpOk (Nat.le_refl _) nC
      exact ⟨m, hn, fun h'' sb => ⟨.ref D, H5, I7.turned (t' := s6.toks) (fun b o hb e => (sb.2 b hb).trans e) a0 a1 a3 a4 a5, rfl, qq⟩⟩
    · refine thnF (T.item (X.blk s3 H3 sc ce fp) rfl rfl rfl hc i [] s5 _ H5 (fun _ _ => False) I5 (foot I5 n5) st5 go) fun r s6 ⟨u, hr, h6⟩ => ?_
      subst hr
      refine thnF h6 fun _ s7 ⟨x, H7, I7, r7, y7, st7, n7⟩ => ?_
      refine thnF (pg.run _ s7 _ H7 x u _ (I7.pinned (foot I7 n7) (T.obj _ _ st7)) r7 (step x H7 y7)) fun _ s8 ⟨σ8, H8, I8, hw8, q8⟩ => ?_
      refine thnF (pt.run _ s8 σ8 H8 _ I8 q8) fun b s9 ⟨H9, I9, q9⟩ => ?_
      have rest : ∀ {σ9 : L2.St} {s' : Shared} {H' : Hp}, L2.Inv (X.blk s3 H3 sc ce fp) ([] ++ pinsAt fp s7.heap) σ9 H' s' → (wipe σ (own.map (·.2))).length = σ9.length → (∀ (j : Nat) v, (wipe σ (own.map (·.2)))[j]? = some (some v) → σ9[j]? = some (some v)) → Nx H' → ∃ m, m < n ∧ Rest m s' := fun {σ9 s' H'} I' hl hk nx => by
        obtain ⟨m', hm, w'⟩ := hNx H' nx
        have still : ∀ b ∈ fp, ∀ o, s7.heap.get? b = some o → s'.heap.get? b = some o ∧ H' b = none := fun b hb o e =>
          let y := I'.pin (b, o) (List.mem_append_right _ (List.mem_append_right _ (mem_pinsAt hb e)))
          ⟨y.1, y.2.1⟩
        exact ⟨m', hm, i + 1, H', (I'.unpinned (pins := [])).weak hl hk, T.keep _ _ _ st7 fun b hb o e => (still b hb o e).1, fun b hb => (let ⟨o, e, _⟩ := T.obj _ _ st7 b hb; (still b hb o e).2), w'⟩
      have l8 : (wipe σ (own.map (·.2))).length = σ8.length := by rw [← hw8, wipe_length]
      have k8 : ∀ (j : Nat) v, (wipe σ (own.map (·.2)))[j]? = some (some v) → σ8[j]? = some (some v) := fun j v e => (wipe_some (hw8 ▸ e)).1
      have k9 : ∀ (j : Nat) v, (wipe σ (own.map (·.2)))[j]? = some (some v) → (wipe σ8 vs1)[j]? = some (some v) := fun j v e => by
        obtain ⟨e1, e2⟩ := wipe_some (show (wipe σ8 (own.map (·.2)))[j]? = some (some v) from hw8 ▸ e)
        exact (wipe_out fun y => e2 (hv j y)).trans e1
      cases b with
      | false =>
        simp only [Bool.false_eq_true, if_false] at q9 ⊢
        exact rest I9 l8 k8 q9
      | true =>
        simp only [if_true] at q9 ⊢
        refine thnF (pj.run _ s9 σ8 H9 _ I9 q9) fun xv s10 hx => thnF hx fun itv s11 h11 => ?_
        obtain ⟨it1, fp1, tn1, J1, H11, rfl, I11, T1, st11, f11, W1, ⟨m1, w1⟩, turn1⟩ := h11
        have foot1 : ∀ {H' : Hp}, (∀ b ∈ fp1, H' b = none) → ∀ b ∈ fp1, FpOk (X.blk s3 H3 sc ce fp) ([] ++ pinsAt fp s7.heap) H' b := fun hn b hb => ⟨hn b hb, (f11 b hb).2⟩
        let Rest1 : Nat → Shared → Prop := fun k s' => ∃ j H', L2.Inv (X.blk s3 H3 sc ce fp) ([] ++ pinsAt fp s7.heap) (wipe σ8 vs1) H' s' ∧ tn1 j s'.heap ∧ (∀ b ∈ fp1, H' b = none) ∧ W1 j k H'
        have small : codeAny (model X.prog X.w) X.A (.compLoop (SC2 e ta ia fa tb ib fb sc ps) 1 (.ref it1) (.ref D) ce) (fun r s' => match r with
              | .ok _ => ∃ m, m < n ∧ Rest m s'
              | .error _ => False) s11 := by
          refine loop_b Rest1 ?_ m1 ⟨0, H11, I11.weak (wipe_length _ _) (fun j v e => (wipe_some e).1), st11, fun b hb => (f11 b hb).1, w1⟩
          rintro k s12 ⟨j, H12, I12, st12, n12, w12⟩
          unfold Taken
          rcases turn1 j k H12 w12 with ⟨stop1, nx1⟩ | ⟨go1, Nx1, hNx1, step1⟩
          · refine thnF (T1.done (X.blk s3 H3 sc ce fp) rfl rfl rfl hc j _ s12 (wipe σ8 vs1) H12 (fun _ _ => False) I12 (foot1 n12) st12 stop1) fun r s13 ⟨hr, I13⟩ => ?_
            subst hr
            exact rest I13 (l8.trans (wipe_length σ8 vs1).symm) k9 nx1
          · refine thnF (T1.item (X.blk s3 H3 sc ce fp) rfl rfl rfl hc j _ s12 (wipe σ8 vs1) H12 (fun _ _ => False) I12 (foot1 n12) st12 go1) fun r s13 ⟨u1, hr, h13⟩ => ?_
            subst hr
            refine thnF h13 fun _ s14 ⟨x1, H14, I14, r14, y14, st14, n14⟩ => ?_
            refine thnF (pg1.run _ s14 (wipe σ8 vs1) H14 x1 u1 _ (I14.pinned (foot1 n14) (T1.obj _ _ st14)) r14 (step1 x1 H14 y14)) fun _ s15 ⟨σ15, H15, I15, hw15, q15⟩ => ?_
            refine thnF (pt1.run _ s15 σ15 H15 _ I15 q15) fun b1 s16 ⟨H16, I16, q16⟩ => ?_
            have rest1 : ∀ {s' : Shared} {H' : Hp}, L2.Inv (X.blk s3 H3 sc ce fp) (([] ++ pinsAt fp s7.heap) ++ pinsAt fp1 s14.heap) σ15 H' s' → Nx1 H' → ∃ m, m < k ∧ Rest1 m s' := fun {s' H'} I' nx => by
              obtain ⟨m', hm, w'⟩ := hNx1 H' nx
              have still : ∀ b ∈ fp1, ∀ o, s14.heap.get? b = some o → s'.heap.get? b = some o ∧ H' b = none := fun b hb o e =>
                let y := I'.pin (b, o) (List.mem_append_right _ (List.mem_append_right _ (mem_pinsAt hb e)))
                ⟨y.1, y.2.1⟩
              exact ⟨m', hm, j + 1, H', I'.unpinned.weak (by rw [← hw15, wipe_length]) (fun j v e => (wipe_some (hw15 ▸ e)).1), T1.keep _ _ _ st14 fun b hb o e => (still b hb o e).1, fun b hb => (let ⟨o, e, _⟩ := T1.obj _ _ st14 b hb; (still b hb o e).2), w'⟩
            cases b1 with
            | false =>
              simp only [Bool.false_eq_true, if_false] at q16 ⊢
              exact rest1 I16 q16
            | true =>
              simp only [if_true] at q16 ⊢
              refine thnF (pe.run _ s16 σ15 H16 _ I16 q16) fun y s17 ⟨yv, H17, I17, r17, tx, xs, ey, hD17, few, nx⟩ => ?_
              subst ey
              obtain ⟨tk, rfl⟩ : ∃ tk, y = Value.str tx tk := r17
              exact addTx_ok (X := X.blk s3 H3 sc ce fp) I17 hD17 few fun s18 I18 => rest1 I18 nx
        exact start_b small (T1.self X.A 0 _ _ _ st11 small)
  exact PpSet.codeAny_compStart_set big (T.self X.A 0 _ _ _ st4 big)
end
end Bo

set_option Elab.async false
set_option linter.all false
set_option maxRecDepth 100000
set_option maxHeartbeats 8000000
/-! keywords for a ** parameter; a call of a classmethod with keywords; a class called by a local name -/
namespace Bo
open PySem PySem.Spec PyProof.Rows L2
theorem pairs_snoc {P : Program} {w : World} {e : DictEntry} {k : Key} {v : Value} (h1 : (mixKind P w).is k e.key = true) (h2 : e.val = v) : ∀ {es : List DictEntry} {kvs : List (Key × Value)}, PySem.Pairs (mixKind P w) es kvs → PySem.Pairs (mixKind P w) (es ++ [e]) (kvs ++ [(k, v)])
  | _, _, .nil => .cons h1 h2 .nil
  | _, _, .cons a b t => .cons a b (pairs_snoc h1 h2 t)
theorem pairs_mem {P : Program} {w : World} {e : DictEntry} : ∀ {es : List DictEntry} {kvs : List (Key × Value)}, PySem.Pairs (mixKind P w) es kvs → e ∈ es → ∃ kv ∈ kvs, (mixKind P w).is kv.1 e.key = true
  | _, _, .cons (kv := kv) a _ t, h => by
    rcases List.mem_cons.mp h with z | z
    · exact ⟨kv, List.mem_cons_self, z ▸ a⟩
    · obtain ⟨q, hq, r⟩ := pairs_mem t z
      exact ⟨q, List.mem_cons_of_mem _ hq, r⟩
section
variable {P : Program} {w : World} {A : Around} {E : Value → Shared → Prop} {s : Shared} {D : Addr}
theorem nsSet_more {kvs : List (Key × Value)} {k : Str} {v : Value} {Q : Unit → Shared → Prop} (d : s.heap.DictOf (mixKind P w) D kvs) (n : Sum.inr k ∉ kvs.map (·.1))
    (hQ : ∀ h', h'.DictOf (mixKind P w) D (kvs ++ [(Sum.inr k, v)]) → Heap.SameBut D s.heap h' → Q () { s with heap := h', toks := s.toks + 1 }) : wpAny (model P w) A (nsSet D k v) Q E s := by
  obtain ⟨⟨oc, od, odt, osl⟩, es, ep, ho, hx, hd, hk, hp, hn⟩ := d
  cases (show odt = .dict es ep from hd)
  have inKvs : ∀ e ∈ es, ∀ x, e.key.isStr x = true → Sum.inr x ∈ kvs.map (·.1) := fun e he x hs => by
    obtain ⟨kv, hm, hi⟩ := pairs_mem hp (Array.mem_toList_iff.mpr he)
    rcases keyIs_shape hi with ⟨i, t, e1, e2⟩ | ⟨y, t, e1, e2⟩
    · rw [e2] at hs
      cases hs
    · rw [e2] at hs
      have : y = x := by simpa [Value.isStr] using hs
      exact List.mem_map.mpr ⟨kv, hm, by rw [e1, this]⟩
  have plain : es.any (·.refKey) = false := by
    rw [Array.any_eq_false']
    intro e he
    obtain ⟨kv, _, hi⟩ := pairs_mem hp (Array.mem_toList_iff.mpr he)
    rcases keyIs_shape hi with ⟨i, t, _, e2⟩ | ⟨y, t, _, e2⟩ <;> simp [DictEntry.refKey, e2]
  have none1 : es.findIdx? (·.key.isStr k) = none := by
    rw [Array.findIdx?_eq_none_iff]
    intro e he
    cases z : e.key.isStr k with
    | false => rfl
    | true => exact absurd (inKvs e he k z) n
  intro Γ p hΓ
  simp only [nsSet, Sem.wp_bind', strHash, Sem.wp_cmd_ask, Sem.wp_cmd_mkText, Sem.wp_pure']
  rw [Sem.wp_loadPart_of (model P w) Γ _ p { s with toks := s.toks + 1 } (o := ⟨oc, od, .dict es ep, osl⟩) _ ho]
  simp only [aRefKeyMayBeTheName_eq, aRefKeyMayBeTheNameByArray, plain, Sem.wp_cmd_updatePart, Bool.and_false, Bool.false_eq_true, if_false]
  have at1 : (s.heap.update D (Obj.putName k (hashStr w k) (.str k s.toks) v)).get? D = some ⟨oc, od, .dict (es.push ⟨hashStr w k, .str k s.toks, v⟩) (ep + 1), osl⟩ := by
    rw [Heap.get?_update_self _ ho (by simp only [Obj.putName_eq, Obj.putNameByArray, none1]; rfl)]
    simp only [Obj.putName_eq, Obj.putNameByArray, none1]
  refine ⟨by rw [ho]; rfl, hQ _ ⟨_, _, _, at1, hx, rfl, ?_, ?_, ?_⟩ (Heap.SameBut.update ..)⟩
  · exact PySem.KeysOf.push hk (k := Sum.inr k) (mixKind_str P w k s.toks) v
  · rw [Array.toList_push]
    exact pairs_snoc (mixKind_str P w k s.toks) rfl hp
  · rw [List.map_append, List.nodup_append]
    exact ⟨hn, List.nodup_cons.mpr ⟨List.not_mem_nil, List.nodup_nil⟩, fun a ha b hb => by
      rw [List.mem_singleton.mp hb]
      exact fun (z : a = Sum.inr k) => n (by rw [← z]; exact ha)⟩
abbrev kwsK (ex : List (Str × Value)) : List (Key × Value) := ex.map fun x => (Sum.inr x.1, x.2)
theorem fill_kw {Q : PUnit → Shared → Prop} : ∀ (ex : List (Str × Value)) (s : Shared) (kvs : List (Key × Value)), s.heap.DictOf (mixKind P w) D kvs → (∀ x ∈ ex, Sum.inr x.1 ∉ kvs.map (·.1)) → (ex.map (·.1)).Nodup →
    (∀ h' tk, h'.DictOf (mixKind P w) D (kvs ++ kwsK ex) → Heap.SameBut D s.heap h' → Q ⟨⟩ { s with heap := h', toks := tk }) →
    wpAny (model P w) A (forIn ex PUnit.unit fun x _ => (nsSet D x.1 x.2 >>= fun _ => pure (ForInStep.yield PUnit.unit))) Q E s
  | [], s, kvs, d, _, _, h => by
    rw [List.forIn_nil]
    exact wpAny_pure (h s.heap s.toks (by rw [show kvs ++ kwsK [] = kvs from List.append_nil _]; exact d) ⟨rfl, fun _ _ => rfl⟩)
  | x :: ex, s, kvs, d, n, nd, h => by
    rw [List.map_cons, List.nodup_cons] at nd
    rw [List.forIn_cons]
    refine wpAny_bind (wpAny_bind (nsSet_more d (n x List.mem_cons_self) fun h1 d1 sb => wpAny_pure ?_))
    refine fill_kw ex { s with heap := h1, toks := s.toks + 1 } _ d1 (fun y hy => ?_) nd.2 fun h2 tk d2 sb2 => h h2 tk (by rw [List.append_assoc] at d2; exact d2) ⟨sb2.1.trans sb.1, fun b hb => (sb2.2 b hb).trans (sb.2 b hb)⟩
    rw [List.map_append, List.mem_append]
    rintro (z | z)
    · exact n y (List.mem_cons_of_mem _ hy) z
    · have e : Sum.inr y.1 = (Sum.inr x.1 : Key) := List.mem_singleton.mp z
      exact nd.1 (by rw [← Sum.inr.inj e]; exact List.mem_map_of_mem hy)
end
/-! ### a def with one parameter and a ** one -/
/-- called with one value and the keywords ks -/
def FnKw (P : Program) (w : World) (K : PySem.W.Frag) (mg : Str → Option Value) (base : Heap) (CX : CXT) (k : Nat) (f : Addr) (ks : List Str) (sp : Sp) : Prop :=
  ∀ (A : Around) (outer : List Env) (s : Shared) (H : Hp) (u : Value) (v : V) (ws : List Value) (zs : List V) (Q : VK) (E : XK), Room k A → Env0 P w K mg base A outer s H → RelV v u → Vals zs ws → zs.length = ks.length → sp (v :: zs) H Q E →
    codeAny (model P w) A (.call (.ref f) ⟨[u], ks.zip ws⟩) (CR CX outer P w H s Q E) s
section
variable {P : Program} {w : World} {K : PySem.W.Frag} {mg : Str → Option Value} {base : Heap} {A : Around} {outer : List Env} {s : Shared} {H : Hp}
theorem env0_new {h' : Heap} {u : HO} (e0 : Env0 P w K mg base A outer s H) (kp : ∀ b x, s.heap.get? b = some x → h'.get? b = some x) (sz : s.heap.objs.size ≤ h'.objs.size) (new : ObjOk P w (upd H s.heap.objs.size u) h' s.heap.objs.size u) (tk : Tok) :
    Env0 P w K mg base A outer { s with heap := h', toks := tk } (upd H s.heap.objs.size u) := by
  have old : ∀ b x, s.heap.get? b = some x → (upd H s.heap.objs.size u) b = H b := fun b x e => upd_ne (Nat.ne_of_lt (Heap.lt_size e))
  refine ⟨e0.frames, e0.mod, fun b x e => ⟨kp b x (e0.bs b x e).1, (old b x (e0.bs b x e).1).trans (e0.bs b x e).2⟩, Nat.le_trans e0.bsz sz, Heap.FunFrames.of_keeps (fun b x e _ => ⟨x, kp b x e, rfl⟩) e0.funs, fun b hb => ?_, e0.hok.laid kp (Nat.le_refl _) new, e0.bare⟩
  obtain ⟨_, x, hx, _⟩ := e0.funs.mem hb
  exact (old b x hx).trans (e0.frf b hb)
theorem kv_zip : ∀ {ks : List Str} {zs : List V} {ws : List Value}, Vals zs ws → KV ((ks.zip zs).map fun p => ((Sum.inr p.1 : Key), p.2)) (kwsK (ks.zip ws))
  | [], _, _, _ => .nil
  | _ :: _, [], _, .nil => .nil
  | k :: ks, z :: zs, _, .cons a r => .cons ⟨rfl, a⟩ (kv_zip (ks := ks) r)
theorem fn_kw {CX : CXT} {k : Nat} {f : Addr} {name qual : Str} {params : Arguments} {body : List Stmt} {scope : Scope} {dV kV doc pm cdv ct oc : Value} {an od : Option Addr} {osl : Array (Option Value)} {N ks : List Str} {p1 pd : Str} {sp : Sp}
    (lk : K.lookup f = some ⟨oc, od, .func (PySem.W.fnOf name qual params body scope dV kV doc pm an cdv ct), osl⟩) (hcd : PySem.W.codeIn K cdv qual = true) (S : FnScope N [p1, pd] scope) (hCX : StX.CXUp CX) (nd : ks.Nodup) (few : ks.length ≤ sizeLine)
    (hb : ∀ (u : Value) (ws : List Value), ws.length = ks.length → bindArgs (PySem.W.fnOf name qual params body scope dV kV doc pm an cdv ct) ⟨[u], ks.zip ws⟩ =
      ((alloc ({ cls := .type "dict", data := .dict #[] } : Obj) : Sem Addr) >>= fun d => (forIn (ks.zip ws) PUnit.unit fun x _ => (nsSet d x.1 x.2 >>= fun _ => pure (ForInStep.yield PUnit.unit))) >>= fun _ => pure [(p1, u), (pd, Value.ref d)]))
    (hbody : ∀ (A : Around) (outer : List Env) (s : Shared) (H : Hp) (vs : List V) (Q : VK) (E : XK), Room k (A.deeper (envOfC qual scope s.heap.objs.size f cdv)) → sp vs H Q E →
      ∃ t, PSs (cxOf CX P w K mg base N qual scope f cdv A outer s H E) body t ∧ t { nx := fun _ H' => Q .non H', rt := Q } (start N vs) H) :
    FnKw P w K mg base CX (k + 1) f ks (fun vs H Q E => ∃ v zs, vs = v :: zs ∧ ∀ d, H d = none → sp [v, .ref d] (upd H d (.dK ((ks.zip zs).map fun p => ((Sum.inr p.1 : Key), p.2)))) Q E) := by
  intro A outer s H u v ws zs Q E hr e0 r rz hl h
  obtain ⟨v', zs', e, hq⟩ := h
  cases e
  have hn : H s.heap.objs.size = none := e0.hok.fresh (Nat.le_refl _)
  have lw : ws.length = ks.length := rz.length.symm.trans hl
  refine StX.run_bnd lk hcd S hr e0 (G := fun xs H2 => ∃ d, H d = none ∧ xs = [v, V.ref d] ∧ H2 = upd H d (.dK ((ks.zip zs).map fun p => ((Sum.inr p.1 : Key), p.2)))) (fun A' Ex Q' hk => ?_) fun s2 H2 xs ⟨d, hd, ex, eH⟩ hr' => ?_
  · rw [hb u ws lw]
    refine wpAny_bind (wpAny_alloc (wpAny_bind (fill_kw (P := P) (w := w) (ks.zip ws) _ [] (Heap.DictOf.new s.heap) (fun x _ z => nomatch z) ?_ fun h2 tk d2 sb => wpAny_pure ?_)))
    · rw [List.map_fst_zip (by omega)]
      exact nd
    · have kp : ∀ b x, s.heap.get? b = some x → h2.get? b = some x := fun b x e => (sb.2 b (Nat.ne_of_lt (Heap.lt_size e))).trans (Heap.get?_push_of_some _ e)
      have sz : s.heap.objs.size ≤ h2.objs.size := by
        have e1 := sb.1
        rw [e1, Heap.size_push]
        exact Nat.le_succ _
      have big : (s.heap.objs.size == sysModules) = false := beq_eq_false_iff_ne.mpr (Ne.symm (Nat.ne_of_lt (StX.env0_big e0)))
      have new : ObjOk P w (upd H s.heap.objs.size (.dK ((ks.zip zs).map fun p => ((Sum.inr p.1 : Key), p.2)))) h2 s.heap.objs.size (.dK ((ks.zip zs).map fun p => ((Sum.inr p.1 : Key), p.2))) :=
        dk_new (by rw [List.length_map, List.length_zip]; omega) big (kv_zip rz) d2
      have un : Un (frs outer) [] H (upd H s.heap.objs.size (.dK ((ks.zip zs).map fun p => ((Sum.inr p.1 : Key), p.2)))) s.heap h2 := Un.laid kp (Nat.le_refl _) hn
      exact hk { s with heap := h2, toks := tk } _ [v, V.ref s.heap.objs.size] [u, Value.ref s.heap.objs.size] (env0_new e0 kp sz new tk) un rfl (fun e s' => hCX outer s H _ _ E e s' un kp rfl) (.cons r (.cons rfl .nil)) rfl ⟨_, hn, rfl, rfl⟩
  · subst ex eH
    exact hbody A outer s2 _ _ Q E hr' (hq d hd)
end
/-! ### C.m(k = v, ..), m a classmethod; cls() by a local name -/
section
variable {X : Cx} {CX : CXT} {k : Nat} {C p g f : Addr} {fd : FuncData} {mc : Value} {sp : Sp} {E : XK} {o : Expr} {m x : Str} {pos apos np : Pos} {ta : TE} {tk : TA} {pl : Sem Bool} {kws : List Keyword} {ks ps : List Str} {i : Nat}
/-- its reading -/
def tCMethK (C : Addr) (n : Nat) (sp : Sp) (E : XK) (ta : TE) (tk : TA) : TE := fun σ H Q => ta σ H fun x H1 => x = .ref C ∧ tk σ H1 fun zs H2 => zs.length = n ∧ sp (.ref C :: zs) H2 Q E
theorem pe_cmethK (he : PE X o ta) (r : ClX.CRead X.K C mc) (c : ClX.CMet X.K C mc m p g) (F : FnKw X.prog X.w X.K X.mg X.base CX k g ks sp) (hr : Room k X.A) (hx : Passes CX X E) (hkw : PK X kws tk)
    (hall : (backToKw pos (keywordEach kws X.env)).all (·.1.isSome) = true := by rfl) (hks : (backToKw pos (keywordEach kws X.env)).filterMap (·.1) = ks := by rfl)
    (hpl : ((backTo pos (starEach [] X.env)).any (·.1) || (backToKw pos (keywordEach kws X.env)).any (·.1.isNone)) = false := by rfl)
    (ht : eval (.Call (.Attribute o m apos) [] kws pos) X.env = (do
      let owner ← eval o X.env
      standAt apos.atName
      let (callee, front) ← holding [owner] (getMethod owner m pl)
      callWith pos callee front (backTo pos (starEach [] X.env)) (backToKw pos (keywordEach kws X.env))) := by rfl) :
    PE X (.Call (.Attribute o m apos) [] kws pos) (tCMethK C ks.length sp E ta tk) := by
  refine ⟨fun pins s σ H Q I h => PySem.W.methodCall_KW (pl := pl) (thn (he.run pins s σ H _ I h) fun u s1 ⟨x, H1, I1, rx, ex, q⟩ => ?_) ht⟩
  subst ex
  obtain rfl : u = Value.ref C := rx
  refine ClX.getmethcm_ok I1 r c fun s2 I2 => ?_
  refine PySem.W.callWith_of hpl (PySem.W.keeps_M c.fi) (PyProof.Rows.evalArgs_kw2_nil hall (thn (hkw.run pos _ s2 σ H1 _ I2 q) fun ws s3 ⟨zs, H2, I3, rz, l, q2⟩ => ⟨⟨ClX.pin_at I3, I3.kIn⟩, ?_⟩))
  rw [hks]
  refine thn (Q := EP X ((s1.heap.objs.size, PySem.W.methodObj (.ref g) (.ref C)) :: pins) σ Q) (wpAny_call (PySem.W.method_call (ClX.pin_at I3) (codeAny_mono (F X.A X.stack s3 H2 (.ref C) (.ref C) ws zs Q E hr I3.env0 rfl rz l q2) fun r s' hq => ?_))) fun _ _ y => ClX.unpinE y
  cases r with
  | error e => exact hx _ σ H2 s3 e s' I3 hq
  | ok fl =>
    cases fl with
    | ret u => exact I3.after hq
    | next => exact False.elim hq
    | brk => exact False.elim hq
    | cont => exact False.elim hq
/-- the i-th slot holds the class at C: a new instance -/
def tMakeL (i : Nat) (C : Addr) (sp : Sp) (E : XK) : TE := fun σ H Q => σ[i]? = some (some (.ref C)) ∧ ∀ x dx, H x = none → H dx = none → dx ≠ x → sp (.ref x :: ([] ++ [])) (upd (upd H dx (.own x)) x (.ins C dx [])) (fun v H2 => v = .non ∧ Q (.ref x) H2) E
theorem pe_makeL (M : Mk X.K C f) (F : FnOk X.prog X.w X.K X.mg X.base CX k f fd ps sp) (hr : Room (k + 1) X.A) (hN : X.N[i]? = some x) (hv : Vis X.env.scope x) (hb : Binds X.K fd ps []) (hx : Passes CX X E) (hdb : (x == ("__debug__" : Str)) = false := by decide) (hcd : (x == ("__classdict__" : Str)) = false := by decide) :
    PE X (.Call (.Name x np) [] [] pos) (tMakeL i C sp E) := by
  refine ⟨fun pins s σ H Q I h => ?_⟩
  obtain ⟨hs, h⟩ := h
  refine wpAny_Call_Name_kw (thn ((pe_var (pos := np) hN hv hdb hcd).run pins s σ H (fun v H1 => v = .ref C ∧ H1 = H) I ⟨.ref C, hs, rfl, rfl⟩) fun u s1 ⟨v, H1, I1, r1, q1⟩ => ?_)
  obtain ⟨rfl, rfl⟩ := q1
  cases r1
  exact PySem.W.callWith_K0 I1.kIn M.kp (run_make (us := []) M F hr hb .nil hx I1 .nil h)
end
end Bo

set_option Elab.async false
set_option linter.all false
set_option maxRecDepth 100000
set_option maxHeartbeats 16000000
/-! contents_of, System.of -/
namespace Bo
open PySem L2
abbrev sCOf : Stmt := top 29
abbrev sOf : Stmt := inClass sSys 3
def optV : Option Str → V
  | none => .non
  | some x => .str x
def txK (ex : List (Str × Option Str)) : List (Key × V) := ex.map fun p => (Sum.inr p.1, optV p.2)
def addW (acc : List (Str × Int)) (w : Str) : List (Str × Int) := if w ∈ acc.map (·.1) then acc else acc ++ [(w, 1)]
def onceW (ws : List Str) : List (Str × Int) := ws.foldl addW []
def rowsOf (ex : List (Str × Option Str)) : List (Str × List (Str × Int)) := ex.filterMap fun p => p.2.map fun x => (p.1, onceW (Txt.words x))
def allOf (R : List (Str × List (Str × Int))) : List Str := R.flatMap fun p => p.2.map (·.1)
def ctOf (ex : List (Str × Option Str)) : Ct := ⟨srt (onceTx (allOf (rowsOf ex))), rowsOf ex, (rowsOf ex).map fun p => (p.1, 0)⟩
theorem onceW_take {ws : List Str} {i : Nat} {y : Str} (h : ws[i]? = some y) : onceW (ws.take (i + 1)) = addW (onceW (ws.take i)) y := by
  unfold onceW
  rw [take_snoc h, List.foldl_append]
  rfl
theorem addW_ones {acc : List (Str × Int)} {w : Str} (h : ∀ p ∈ acc, p.2 = 1) : ∀ p ∈ addW acc w, p.2 = 1 := fun p hp => by
  unfold addW at hp
  split at hp
  · exact h p hp
  · rcases List.mem_append.mp hp with e | e
    · exact h p e
    · rw [List.mem_singleton.mp e]
theorem onceW_ones (ws : List Str) : ∀ p ∈ onceW ws, p.2 = 1 := by
  have key : ∀ (ws : List Str) (acc : List (Str × Int)), (∀ p ∈ acc, p.2 = 1) → ∀ p ∈ ws.foldl addW acc, p.2 = 1 := fun ws => by
    induction ws with
    | nil => exact fun acc h => h
    | cons w ws ih => exact fun acc h => ih _ (addW_ones h)
  exact key ws [] fun _ z => nomatch z
theorem onceW_len (ws : List Str) : (onceW ws).length ≤ ws.length := by
  have key : ∀ (ws : List Str) (acc : List (Str × Int)), (ws.foldl addW acc).length ≤ acc.length + ws.length := fun ws => by
    induction ws with
    | nil => exact fun acc => Nat.le_refl _
    | cons w ws ih =>
      intro acc
      have h1 := ih (addW acc w)
      have h2 : (addW acc w).length ≤ acc.length + 1 := by
        unfold addW
        split
        · omega
        · rw [List.length_append]; exact Nat.le_refl _
      rw [List.foldl_cons, List.length_cons]
      omega
  have := key ws []
  simpa [onceW] using this
theorem putK_W {acc : List (Str × Int)} {w : Str} (h1 : ∀ p ∈ acc, p.2 = 1) : putK (intK acc) (Sum.inr w) (.int 1) = intK (addW acc w) := by
  unfold addW
  split
  · rename_i h
    obtain ⟨p, hp, rfl⟩ := List.mem_map.mp h
    have e : ((intK acc).any fun kv => decide (kv.1 = Sum.inr p.1)) = true := by
      rw [List.any_eq_true]
      exact ⟨(Sum.inr p.1, .int p.2), List.mem_map.mpr ⟨p, hp, rfl⟩, decide_eq_true rfl⟩
    unfold putK
    rw [if_pos e]
    refine (List.map_congr_left fun kv hkv => ?_).trans (List.map_id _)
    obtain ⟨q, hq, rfl⟩ := List.mem_map.mp hkv
    show (if (Sum.inr q.1 : Key) = Sum.inr p.1 then ((Sum.inr q.1 : Key), V.int 1) else (Sum.inr q.1, V.int q.2)) = _
    split
    · rw [h1 q hq] <;> rfl
    · rfl
  · rename_i h
    rw [putK_new _ (intK_out h)]
    unfold intK
    rw [List.map_append]
    rfl
/-- short and few -/
structure OfFew (ex : List (Str × Option Str)) : Prop where
  n : ex.length ≤ 24
  d : (ex.map (·.1)).Nodup
  w : ∀ p ∈ ex, ∀ x, p.2 = some x → x.length ≤ 1000 ∧ (Txt.words x).length ≤ 24
  a : (onceTx (allOf (rowsOf ex))).length < 64
def spCOf (K : PySem.W.Frag) (CC : Addr) : Sp := fun vs H Q _ => ∃ (d : Addr) (ex : List (Str × Option Str)), vs = [.ref d] ∧ Fz H d (.dK (txK ex)) ∧ OfFew ex ∧ ∀ (a : Addr) (H' : Hp), Same H H' → CtIn K CC H' a (ctOf ex) → Q (.ref a) H'
abbrev nCOf : List Str := ["texts", "rows", "equation", "columns", "unknown"]
theorem take_filterMap {α β : Type} {f : α → Option β} {l : List α} {i : Nat} {x : α} (h : l[i]? = some x) : (l.take (i + 1)).filterMap f = (l.take i).filterMap f ++ (f x).toList := by
  rw [take_snoc h, List.filterMap_append]
  cases hfx : f x <;> simp [hfx]
theorem rowsOf_keys : ∀ (ex : List (Str × Option Str)), ((rowsOf ex).map (·.1)).Sublist (ex.map (·.1))
  | [] => .slnil
  | p :: ex => by
    unfold rowsOf
    rw [List.filterMap_cons, List.map_cons]
    cases e : p.2 with
    | none => exact (rowsOf_keys ex).cons _
    | some x => exact (rowsOf_keys ex).cons_cons _
section
variable {P : Program} {w : World} {K : PySem.W.Frag} {mg : Str → Option Value} {base : Heap} {CC fCI CN fIN CS fSI fTk : Addr}
structure TxtCO (mg : Str → Option Value) : Prop where
  tup : mg "tuple" = none
  srt : mg "sorted" = none
theorem scCO : FnScope nCOf ["texts"] (defScope sCOf) := ⟨rfl, rfl, rfl, by decide +kernel, rfl, by decide +kernel, by decide +kernel⟩
theorem ok_cof {f : Addr} {fd fdCI : FuncData} (F : Fun K "contents_of" "contents_of" sCOf f fd) (TC : CtT K mg CC fCI) (TP : TxtP mg)
    (GC : FnOk P w K mg base CX0 1 fCI fdCI ["self", "columns", "rows", "constants"] (spCtInit CC)) (bC : Binds K fdCI ["self", "columns", "rows", "constants"] []) :
    FnOk P w K mg base CX0 3 f fd ["texts"] (spCOf K CC) := by
  refine F.ok scCO (fun vs H Q E h => ?_) (fun cdv A outer s H vs Q E hr h => ?_)
  · obtain ⟨d, ex, rfl, _⟩ := h
    rfl
  · obtain ⟨d, ex, rfl, ⟨od, hd⟩, few, k⟩ := h
    have hu := hu_of hr
    refine ⟨_, pss_cons (ps_set (i := 1) scCO.nd rfl (.inr rfl) pe_dnewK)
      (pss_cons (ps_for PassesOwn.never rfl (pi_keys (pv 0)) (pg_name (i := 2) scCO.nd rfl (.inl rfl))
        (pss_one (ps_if (pt_cmp (pc_notN (pe_dget hu (pv 0) (pv 2) (fun _ _ => rfl)))) (pss_one (ps_dput hu (pv 1) (pv 2)
          (pe_fz (pe_dc (own := [("unknown", 4)]) (g := gName 4) (tt := tYes) rfl scCO.nd (pi_list (pe_words (pe_dget hu (pv 0) (pv 2) (fun _ _ => rfl)))) (blkOk_by (N := nCOf) (sc := defScope sCOf) (by decide +kernel)) (fun _ _ _ _ _ => pg_name (i := 4) scCO.nd rfl (Or.inl rfl)) (fun _ _ _ _ _ => pts_nil) (fun _ _ _ _ _ => pv 4) (fun _ _ _ _ _ => pe_int))) rfl)) pss_nil)))
      (pss_cons (ps_set (i := 3) scCO.nd rfl (.inl rfl) (pe_callTy call_tuple_of (by rfl) TP.tup (by decide +kernel) (pa_cons (pe_callB (cr_sortTx rfl) (by rfl) TP.srt (by decide +kernel) (pa_cons
          (pe_scTx2 (wi1 := iKeys (tDGet (tVar 1) (tVar 2))) (own := [("equation", 2), ("unknown", 4)]) (vs1 := [4]) (g := gName 2) (tt := tYes) (g1 := gName 4) (tt1 := tYes) rfl scCO.nd (pi_keys (pe_fz (pv 1))) (blkOk_by (N := nCOf) (sc := defScope sCOf) (by decide +kernel)) (by decide)
            (fun _ _ _ _ _ => pg_name (i := 2) scCO.nd rfl (Or.inl rfl)) (fun _ _ _ _ _ => pts_nil) (fun _ _ _ _ _ => pi_keys (pe_dget hu (pv 1) (pv 2) (fun _ _ => rfl))) (fun _ _ _ _ _ => pg_name (i := 4) scCO.nd rfl (Or.inl rfl)) (fun _ _ _ _ _ => pts_nil) (fun _ _ _ _ _ => pv 4)) pa_nil)) pa_nil)))
      (pss_one (ps_ret (pe_make TC.mkC GC hr rfl TC.g bC .nil pass0 (pa_cons (pv 3) (pa_cons (pv 1) (pa_cons
          (pe_fz (pe_dc (own := [("equation", 2)]) (g := gName 2) (tt := tYes) rfl scCO.nd (pi_keys (pv 1)) (blkOk_by (N := nCOf) (sc := defScope sCOf) (by decide +kernel)) (fun _ _ _ _ _ => pg_name (i := 2) scCO.nd rfl (Or.inl rfl)) (fun _ _ _ _ _ => pts_nil) (fun _ _ _ _ _ => pv 2) (fun _ _ _ _ _ => pe_int))) pa_nil)))))))), ?_⟩
    intro r hr0
    have s0 : Same H (upd H r (.dK [])) := same_new hr0
    have er0 : (upd H r (.dK [])) r = some (.dK (refK [])) := upd_same
    generalize upd H r (.dK []) = H0 at s0 er0 ⊢
    have ndK : ((txK ex).map (·.1)).Nodup := by
      unfold txK
      rw [List.map_map]
      have e : ((fun p : Key × V => p.1) ∘ fun p : Str × Option Str => ((Sum.inr p.1 : Key), optV p.2)) = Sum.inr ∘ fun p : Str × Option Str => p.1 := rfl
      rw [e, ← List.map_map]
      exact List.pairwise_map.mpr (few.d.imp fun ne e => ne (Sum.inr.inj e))
    refine ⟨_, rfl, d, od, rfl, .inl ⟨txK ex, s0 _ _ hd, ?_⟩⟩
    have lx : (txK ex).length = ex.length := List.length_map _
    refine for_it (walk_keys (kvs := txK ex)) (fun i σ H' => ∃ (ra : List (Str × Addr)) (z2 : Option V), σ = [some (.ref d), some (.ref r), z2, none, none] ∧ H' r = some (.dK (refK ra)) ∧
        Paired (fun (p : Str × List (Str × Int)) (q : Str × Addr) => p.1 = q.1 ∧ Fz H' q.2 (.dK (intK p.2))) (rowsOf (ex.take i)) ra ∧ Same H H') ⟨[], none, rfl, er0, .nil, s0⟩ (fun i σ H' _ ⟨_, _, _, _, _, sm⟩ => sm _ _ hd) ?_ ?_
    · rintro i x σ H1 H1' hi ⟨ra, z2, rfl, er, pr, sm⟩ y
      obtain ⟨rfl, kk, v, hkv, rfl⟩ := y
      unfold txK at hkv
      rw [List.getElem?_map] at hkv
      obtain ⟨⟨y, oy⟩, hy, e⟩ := Option.map_eq_some_iff.mp hkv
      cases e
      have hkv2 : (txK ex)[i]? = some (Sum.inr y, optV oy) := by
        unfold txK
        rw [List.getElem?_map, hy]
        rfl
      have hdg : DGet H1' d (V.str y) (some (optV oy)) := .inl ⟨_, Sum.inr y, .inr ⟨od, sm _ _ hd⟩, rfl, (valV_at ndK hkv2).symm⟩
      have lr : ra.length ≤ 24 := by
        have e1 := pair_len pr
        have e2 : (rowsOf (ex.take i)).length ≤ (ex.take i).length := List.length_filterMap_le _ _
        rw [List.length_take] at e2
        have := few.n
        omega
      refine ⟨_, rfl, _, rfl, d, _, rfl, hdg, ?_⟩
      have eR : rowsOf (ex.take (i + 1)) = rowsOf (ex.take i) ++ ((oy.map fun x => (y, onceW (Txt.words x))).toList) := take_filterMap hy
      cases oy with
      | none =>
        rw [eR]
        exact ⟨_, rfl, iteF ⟨ra, _, rfl, er, by simpa using pr, sm⟩⟩
      | some x =>
        refine ⟨_, rfl, iteT ?_⟩
        obtain ⟨lx1, lw⟩ := few.w _ (List.mem_of_getElem? hy) x rfl
        have eR : rowsOf (ex.take (i + 1)) = rowsOf (ex.take i) ++ [(y, onceW (Txt.words x))] := eR
        refine ⟨_, rfl, _, rfl, d, _, rfl, hdg, ⟨x, rfl⟩, x, rfl, rfl, by rw [sizeLine_eq]; omega, fun p hp => ⟨p, rfl, ⟨_, SqL.of upd_same⟩, fun D hD => ?_⟩⟩
        generalize Txt.words x = ws at lw eR hD ⊢
        have sp : Same H1' (upd H1' p (.lst (ws.map V.str))) := same_new hp
        have ep : (upd H1' p (.lst (ws.map V.str))) p = some (.lst (ws.map V.str)) := upd_same
        generalize upd H1' p (.lst (ws.map V.str)) = H2 at sp ep hD ⊢
        have pD : p ≠ D := ne_of_none ep hD
        refine dc_go (walk_list (K := K) (a := p) (xs := ws.map V.str)) (fun j H' => H' = upd H2 D (.dK (intK (onceW (ws.take j))))) rfl (fun j H' _ e => by rw [e]; exact SqL.of ((upd_ne pD).trans ep)) ?_ ?_
        · intro j v H3 H4 hj e y0
          subst e
          obtain ⟨rfl, hv⟩ := y0
          rw [List.getElem?_map] at hv
          obtain ⟨u, hu2, rfl⟩ := Option.map_eq_some_iff.mp hv
          refine ⟨rfl, iteT (B := True) ⟨_, rfl, intK (onceW (ws.take j)), Sum.inr u, rfl, upd_same, ?_, ?_⟩⟩
          · have h1 := onceW_len (ws.take j)
            rw [List.length_take] at h1
            rw [intK_len, sizeLine_eq]
            omega
          · rw [upd_upd, putK_W (onceW_ones _), ← onceW_take hu2]
        · intro H3 e
          subst e
          rw [List.length_map, List.take_length]
          refine ⟨D, _, rfl, upd_same, True.intro, fun oD => ?_⟩
          rw [upd_upd]
          have sD : Same H2 (upd H2 D (.frz oD (.dK (intK (onceW ws))))) := same_new hD
          have eD : Fz (upd H2 D (.frz oD (.dK (intK (onceW ws))))) D (.dK (intK (onceW ws))) := ⟨oD, upd_same⟩
          generalize upd H2 D (.frz oD (.dK (intK (onceW ws)))) = H3 at sD eD ⊢
          have er3 := sD _ _ (sp _ _ er)
          have yn : y ∉ ra.map (·.1) := by
            rw [pair_keys (fun p q z => z.1) pr]
            intro z
            have z2 := (rowsOf_keys (ex.take i)).subset z
            obtain ⟨j, hj⟩ := List.mem_iff_getElem?.mp z2
            rw [List.getElem?_map, List.getElem?_take] at hj
            split at hj
            · have hj2 : (ex.map (·.1))[j]? = some y := by rw [List.getElem?_map]; exact hj
              have hy2 : (ex.map (·.1))[i]? = some y := by rw [List.getElem?_map, hy]; rfl
              have li := (List.getElem?_eq_some_iff.mp hj2).1
              exact absurd ((List.getElem?_inj li few.d).mp (hj2.trans hy2.symm)) (by omega)
            · cases hj
          refine ⟨_, rfl, _, rfl, r, _, rfl, DPut.k (k := Sum.inr y) er3 (by rw [refK_len, sizeLine_eq]; omega), ?_⟩
          rw [putK_new _ (refK_out yn), eR]
          have e1 : refK ra ++ [((Sum.inr y : Key), V.ref D)] = refK (ra ++ [(y, D)]) := by
            unfold refK
            rw [List.map_append]
            rfl
          rw [e1]
          have keep : ∀ {q : Addr} {u : HO}, Fz H3 q u → Fz (upd H3 r (.dK (refK (ra ++ [(y, D)])))) q u := fun {q u} ⟨o, e⟩ => ⟨o, (upd_ne (ne_of e er3 (by intro z; cases z))).trans e⟩
          refine ⟨_, _, rfl, upd_same, Paired.snoc (Paired.mapP pr fun _ _ z => ⟨z.1, keep ((z.2.keep sp).keep sD)⟩) ⟨rfl, keep eD⟩, fun b o e => ?_⟩
          rw [upd_ne (ne_of_none e hr0)]
          exact sD _ _ (sp _ _ (sm _ _ e))
    · rintro σ H1 ⟨ra, z2, rfl, er, pr, sm⟩
      rw [lx, List.take_length] at pr
      generalize eRR : rowsOf ex = R at pr
      have ndR : (R.map (·.1)).Nodup := eRR ▸ (rowsOf_keys ex).nodup few.d
      have lR : R.length ≤ 24 := by
        have : (rowsOf ex).length ≤ ex.length := List.length_filterMap_le _ _
        have := few.n
        rw [← eRR]
        omega
      have keysR : ra.map (·.1) = R.map (·.1) := pair_keys (fun p q z => z.1) pr
      have lra : ra.length = R.length := (pair_len pr).symm
      have wR : ∀ p ∈ R, p.2.length ≤ 24 := fun p hp => by
        rw [← eRR] at hp
        obtain ⟨q, hq, e⟩ := List.mem_filterMap.mp hp
        obtain ⟨x, ex2, rfl⟩ := Option.map_eq_some_iff.mp e
        exact Nat.le_trans (onceW_len _) (few.w q hq x ex2).2
      have lall : ∀ n, (allOf (R.take n)).length ≤ 24 * 24 := fun n => by
        have key : ∀ (l : List (Str × List (Str × Int))), (∀ p ∈ l, p.2.length ≤ 24) → (allOf l).length ≤ l.length * 24 := fun l => by
          induction l with
          | nil => intro _; exact Nat.le_refl _
          | cons a l ih =>
            intro h
            have h1 := ih fun p hp => h p (List.mem_cons_of_mem _ hp)
            have h2 := h a List.mem_cons_self
            unfold allOf at h1 ⊢
            rw [List.flatMap_cons, List.length_append, List.length_map, List.length_cons, Nat.succ_mul]
            omega
        have h1 := key (R.take n) fun p hp => wR p (List.mem_of_mem_take hp)
        rw [List.length_take] at h1
        have : min n R.length * 24 ≤ 24 * 24 := Nat.mul_le_mul_right _ (by omega)
        omega
      have once_app : ∀ (l : List Str) (x : Str), onceTx (l ++ [x]) = addTx (onceTx l) x := fun l x => by
        unfold onceTx
        rw [List.foldl_append]
        rfl
      refine ⟨_, rfl, r, _, rfl, er, True.intro, fun oR => ⟨r, oR, rfl, .inl ⟨refK ra, upd_same, fun D hD => ?_⟩⟩⟩
      have sR : Same H (upd H1 r (.frz oR (.dK (refK ra)))) := fun b o e => by
        rw [upd_ne (ne_of_none e hr0)]
        exact sm _ _ e
      have keepR : ∀ {q : Addr} {u : HO}, Fz H1 q u → Fz (upd H1 r (.frz oR (.dK (refK ra)))) q u := fun {q u} ⟨o, e⟩ => ⟨o, (upd_ne (ne_of e er (by intro z; cases z))).trans e⟩
      have pr2 : Paired (fun (p : Str × List (Str × Int)) (q : Str × Addr) => p.1 = q.1 ∧ Fz (upd H1 r (.frz oR (.dK (refK ra)))) q.2 (.dK (intK p.2))) R ra := Paired.mapP pr fun _ _ z => ⟨z.1, keepR z.2⟩
      have er2 : (upd H1 r (.frz oR (.dK (refK ra)))) r = some (.frz oR (.dK (refK ra))) := upd_same
      generalize upd H1 r (.frz oR (.dK (refK ra))) = G at sR pr2 er2 hD ⊢
      have rD : r ≠ D := ne_of_none er2 hD
      have frz_at : ∀ {q : Addr} {o : Obj} {u : HO} {xs : List Str}, G q = some (.frz o u) → (upd G D (TxO w D xs)) q = some (.frz o u) := fun {q o u xs} e => (upd_ne (ne_of_none e hD)).trans e
      have lk : (refK ra).length = R.length := by rw [refK_len, lra]
      refine ⟨fun i m H' => (m = R.length - i ∧ i ≤ R.length) ∧ H' = upd G D (TxO w D (onceTx (allOf (R.take i)))), ⟨_, ⟨rfl, Nat.zero_le _⟩, rfl⟩, fun i m H' hw => ?_⟩
      obtain ⟨⟨rfl, hi⟩, rfl⟩ := hw
      rcases Nat.lt_or_ge i R.length with lt | ge
      · refine .inr ⟨walk_keys.goes i _ (by rw [lk]; exact lt) (frz_at er2), fun H' => H' = upd G D (TxO w D (onceTx (allOf (R.take (i + 1))))), fun H' e => ⟨R.length - (i + 1), by omega, ⟨rfl, lt⟩, e⟩, fun x H' y0 => ?_⟩
        obtain ⟨rfl, k0, v, hkv, rfl⟩ := walk_keys.yields i _ x H' (by rw [lk]; exact lt) (frz_at er2) y0
        obtain ⟨z, dz, hz, rfl, rfl⟩ := refK_at hkv
        obtain ⟨row, hrow, hrn, oz, hdz⟩ := pair_at pr2 hz
        have hvz : valV (refK ra) (Sum.inr z) = some (.ref dz) := by
          refine valV_at ?_ hkv
          rw [refK_keys, keysR]
          exact List.pairwise_map.mpr (ndR.imp fun ne e => ne (Sum.inr.inj e))
        have eT : allOf (R.take (i + 1)) = allOf (R.take i) ++ row.2.map (·.1) := by
          rw [take_snoc hrow]
          unfold allOf
          rw [List.flatMap_append, List.flatMap_cons, List.flatMap_nil, List.append_nil]
        have lrow := wR row (List.mem_of_getElem? hrow)
        have lI := lall i
        refine ⟨rfl, iteT (B := True) ?_⟩
        refine ⟨_, rfl, _, rfl, r, _, rfl, .inl ⟨_, Sum.inr z, .inr ⟨oR, frz_at er2⟩, rfl, hvz.symm⟩, dz, oz, rfl, .inl ⟨intK row.2, frz_at hdz, ?_⟩⟩
        refine ⟨fun j k H' => (k = row.2.length - j ∧ j ≤ row.2.length) ∧ H' = upd G D (TxO w D (onceTx (allOf (R.take i) ++ (row.2.take j).map (·.1)))), ⟨_, ⟨rfl, Nat.zero_le _⟩, by rw [List.take_zero, List.map_nil, List.append_nil]⟩, fun j k2 H' hw => ?_⟩
        obtain ⟨⟨rfl, hj⟩, rfl⟩ := hw
        rcases Nat.lt_or_ge j row.2.length with lt2 | ge2
        · refine .inr ⟨walk_keys.goes j _ (by rw [intK_len]; exact lt2) (frz_at hdz), fun H' => H' = upd G D (TxO w D (onceTx (allOf (R.take i) ++ (row.2.take (j + 1)).map (·.1)))), fun H' e => ⟨row.2.length - (j + 1), by omega, ⟨rfl, lt2⟩, e⟩, fun x H' y1 => ?_⟩
          obtain ⟨rfl, k1, v1, hkv1, rfl⟩ := walk_keys.yields j _ x H' (by rw [intK_len]; exact lt2) (frz_at hdz) y1
          unfold intK at hkv1
          rw [List.getElem?_map] at hkv1
          obtain ⟨⟨u, n⟩, hu1, e⟩ := Option.map_eq_some_iff.mp hkv1
          cases e
          refine ⟨rfl, iteT (B := True) ⟨_, rfl, u, _, rfl, upd_same, ?_, ?_⟩⟩
          · have h1 := len_onceTx (allOf (R.take i) ++ (row.2.take j).map (·.1))
            rw [List.length_append, List.length_map, List.length_take] at h1
            show _ < 4096
            omega
          · rw [upd_upd, ← once_app, take_snoc hu1, List.map_append, List.append_assoc]
            rfl
        · obtain rfl : j = row.2.length := Nat.le_antisymm hj ge2
          refine .inl ⟨?_, ?_⟩
          · have := (walk_keys (o := oz) (d := dz) (kvs := intK row.2)).stops _ (frz_at (xs := onceTx (allOf (R.take i) ++ (row.2.take row.2.length).map (·.1))) hdz)
            rw [intK_len] at this
            exact this
          · rw [List.take_length, eT]
      · obtain rfl : i = R.length := Nat.le_antisymm hi ge
        refine .inl ⟨?_, ?_⟩
        · have := (walk_keys (o := oR) (d := r) (kvs := refK ra)).stops _ (frz_at (xs := onceTx (allOf (R.take R.length))) er2)
          rw [lk] at this
          exact this
        rw [List.take_length]
        have fa : (onceTx (allOf R)).length < 64 := eRR ▸ few.a
        refine ⟨D, _, rfl, upd_same, fa, fun ys p5 a1 a2 a3 => ?_⟩
        obtain rfl : ys = srt (onceTx (allOf R)) := srt_of a1 a2
        refine ⟨p5, _, rfl, .inl ⟨SqL.of upd_same, fun t ht => ?_⟩⟩
        have sG : Same G (upd (upd (upd G D (TxO w D (onceTx (allOf R)))) p5 (.lst ((srt (onceTx (allOf R))).map V.str))) t (.tup ((srt (onceTx (allOf R))).map V.str))) := ((same_new hD).trans (same_new a3)).trans (same_new ht)
        have et : (upd (upd (upd G D (TxO w D (onceTx (allOf R)))) p5 (.lst ((srt (onceTx (allOf R))).map V.str))) t (.tup ((srt (onceTx (allOf R))).map V.str))) t = some (.tup ((srt (onceTx (allOf R))).map V.str)) := upd_same
        generalize upd (upd (upd G D (TxO w D (onceTx (allOf R)))) p5 (.lst ((srt (onceTx (allOf R))).map V.str))) t (.tup ((srt (onceTx (allOf R))).map V.str)) = G2 at sG et ⊢
        have er5 := sG _ _ er2
        refine ⟨_, rfl, _, rfl, _, rfl, r, oR, rfl, .inl ⟨refK ra, er5, fun D2 hD2 => ?_⟩⟩
        have rD2 : r ≠ D2 := ne_of_none er5 hD2
        refine dc_go (walk_keys (kvs := refK ra)) (fun j H' => H' = upd G2 D2 (.dK (intK ((R.take j).map fun p => (p.1, (0 : Int)))))) rfl (fun j H' _ e => by rw [e, upd_ne rD2]; exact er5) ?_ ?_
        · intro j x H3 H4 hj e y0
          subst e
          obtain ⟨rfl, k0, v, hkv, rfl⟩ := y0
          obtain ⟨z, dz, hz, rfl, rfl⟩ := refK_at hkv
          obtain ⟨row, hrow, hrn, hdz⟩ := pair_at pr2 hz
          refine ⟨rfl, iteT (B := True) ⟨_, rfl, intK ((R.take j).map fun p => (p.1, (0 : Int))), Sum.inr z, rfl, upd_same, ?_, ?_⟩⟩
          · rw [intK_len, List.length_map, List.length_take, sizeLine_eq]
            omega
          · have zn : z ∉ ((R.take j).map fun p => (p.1, (0 : Int))).map (·.1) := by
              rw [List.map_map]
              intro h
              obtain ⟨q, hq, e⟩ := List.mem_map.mp h
              obtain ⟨n, hn⟩ := List.mem_iff_getElem?.mp hq
              rw [List.getElem?_take] at hn
              split at hn
              · have h1 : (R.map (·.1))[n]? = some z := by rw [List.getElem?_map, hn]; exact congrArg some e
                have h2 : (R.map (·.1))[j]? = some z := by rw [List.getElem?_map, hrow]; exact congrArg some hrn
                have li := (List.getElem?_eq_some_iff.mp h1).1
                exact absurd ((List.getElem?_inj li ndR).mp (h1.trans h2.symm)) (by omega)
              · cases hn
            rw [upd_upd, putK_new _ (intK_out zn), take_snoc hrow, List.map_append]
            unfold intK
            rw [List.map_append, ← (show row.1 = z from hrn)]
            rfl
        · intro H3 e
          subst e
          have lk2 : R.take (refK ra).length = R := by rw [lk]; exact List.take_length
          rw [lk2]
          refine ⟨D2, _, rfl, upd_same, True.intro, fun oC => ?_⟩
          rw [upd_upd]
          have sC : Same G2 (upd G2 D2 (.frz oC (.dK (intK (R.map fun p => (p.1, (0 : Int))))))) := same_new hD2
          have eC : Fz (upd G2 D2 (.frz oC (.dK (intK (R.map fun p => (p.1, (0 : Int))))))) D2 (.dK (intK (R.map fun p => (p.1, (0 : Int))))) := ⟨oC, upd_same⟩
          generalize upd G2 D2 (.frz oC (.dK (intK (R.map fun p => (p.1, (0 : Int)))))) = G3 at sC eC ⊢
          refine mk_ct fun b dy H5 s5 hb => k b H5 ((((sR.trans sG).trans sC)).trans s5) ⟨dy, t, r, D2, ra, hb, ?_, ?_, ?_, ?_⟩
          · show SqT K H5 t ((srt (onceTx (allOf (rowsOf ex)))).map V.str)
            rw [eRR]
            exact SqT.of (s5 _ _ (sC _ _ et))
          · exact ⟨oR, s5 _ _ (sC _ _ er5)⟩
          · show Paired _ (rowsOf ex) ra
            rw [eRR]
            exact Paired.mapP pr2 fun _ _ z => ⟨z.1, ((z.2.keep sG).keep sC).keep s5⟩
          · show Fz H5 D2 (.dK (intK ((rowsOf ex).map fun p => (p.1, (0 : Int)))))
            rw [eRR]
            exact eC.keep s5
theorem sg_of {H H' : Hp} {x dx c b h : Addr} (hx : H x = none) (hd : H dx = none) (kk : ∀ q o, (upd (upd H dx (.own x)) x (.ins CS dx [])) q = some o → q ≠ x → H' q = some o) (e1 : h ≠ b) (e0 : (upd (upd H dx (.own x)) x (.ins CS dx [])) b = none) (e2 : (upd (upd H dx (.own x)) x (.ins CS dx [])) h = none)
    (Y : SgAt CS H' x dx c b h [] []) (C : CtIn K CC H' c ⟨[], [], []⟩) : SyG K CC CS H H' x ⟨[], [], []⟩ [] [] := by
  have free : ∀ q, (upd (upd H dx (.own x)) x (.ins CS dx [])) q = none → H q = none := fun q e => by
    cases z : H q with
    | none => rfl
    | some o => rw [upd_ne (ne_of_none z hx), upd_ne (ne_of_none z hd), z] at e; cases e
  exact ⟨dx, c, b, h, [], [], Y, C, .nil, .nil, e1, hx, free _ e0, free _ e2, fun q o e => kk q o (by rw [upd_ne (ne_of_none e hx), upd_ne (ne_of_none e hd)]; exact e) (ne_of_none e hx)⟩
def spOf (K : PySem.W.Frag) (CC CS : Addr) : Sp := fun vs H Q _ => ∃ (d : Addr) (Hc : Hp) (ex : List (Str × Option Str)), vs = [.ref CS, .ref d] ∧ Hc d = none ∧ H = upd Hc d (.dK (txK ex)) ∧ OfFew ex ∧ ∀ (s : Addr) (H' : Hp), SyG K CC CS Hc H' s (ctOf ex) [] [] → Q (.ref s) H'
theorem scOf : FnScope ["cls", "equations", "system"] ["cls", "equations"] (defScope sOf) := ⟨rfl, rfl, rfl, by decide +kernel, rfl, by decide +kernel, by decide +kernel⟩
/-- System.of, called with the keywords ks -/
theorem ok_of {f fO : Addr} {fd fdO fdSI : FuncData} (ks : List Str) (nd : ks.Nodup) (few : ks.length ≤ sizeLine) (F : Fun K "of" "System.of" sOf f fd) (T : SysT K mg CS fSI fTk)
    (GS : FnOk P w K mg base CX0 3 fSI fdSI ["self"] (spSInitG K CC CS)) (bS : Binds K fdSI ["self"] [])
    (GO : FnOk P w K mg base CX0 3 fO fdO ["texts"] (spCOf K CC)) (mO : mg "contents_of" = some (.ref fO)) (kO : PySem.W.keepIn K (.ref fO) = true) (bO : Binds K fdO ["texts"] [])
    (hb : ∀ (u : Value) (ws : List Value), ws.length = ks.length → bindArgs fd ⟨[u], ks.zip ws⟩ =
      ((alloc ({ cls := .type "dict", data := .dict #[] } : Obj) : Sem Addr) >>= fun d => (forIn (ks.zip ws) PUnit.unit fun x _ => (nsSet d x.1 x.2 >>= fun _ => pure (ForInStep.yield PUnit.unit))) >>= fun _ => pure [(Str.ofString "cls", u), (Str.ofString "equations", Value.ref d)])) :
    FnKw P w K mg base CX0 5 f ks (fun vs H Q E => ∃ v zs, vs = v :: zs ∧ ∀ d, H d = none → spOf K CC CS [v, .ref d] (upd H d (.dK ((ks.zip zs).map fun p => ((Sum.inr p.1 : Key), p.2)))) Q E) := by
  obtain ⟨oc, od, kV, doc, pm, an, cdv, ct, osl, rfl, lk, hcd⟩ := F.ex
  refine fn_kw lk hcd scOf cxUp0 nd few hb (fun A outer s H vs Q E hr h => ?_)
  obtain ⟨d, Hc, ex, rfl, hdn, rfl, fw, k⟩ := h
  have hr3 : Room 3 _ := hr.mono (by decide)
  refine ⟨_, pss_cons (ps_set (i := 2) scOf.nd rfl (.inl rfl) (pe_makeL (i := 0) T.mkC GS hr rfl (.inl rfl) bS pass0))
    (pss_cons (ps_fld (pv 2) (pe_call GO hr3 rfl mO kO bO .nil pass0 (pa_cons (pe_fz (pv 1)) pa_nil)) rfl) (pss_one (ps_ret (pv 2)))), ?_⟩
  refine ⟨rfl, fun x dx0 g1 g2 g3 => ⟨x, dx0, rfl, upd_same, fun c0 b0 h0 H1 kk q1 q0 q2 Y0 C00 => ⟨rfl, ?_⟩⟩⟩
  have Y := sg_of (K := K) (CC := CC) g1 g2 kk q1 q0 q2 Y0 C00
  have e1 := Y.same _ _ upd_same
  refine ⟨_, rfl, d, _, rfl, e1, True.intro, fun oD => ?_⟩
  have Yc : SyG K CC CS Hc H1 x ⟨[], [], []⟩ [] [] := Y.under (same_new hdn)
  have Y2 : SyG K CC CS Hc (upd H1 d (.frz oD (.dK (txK ex)))) x ⟨[], [], []⟩ [] [] := by
    refine Yc.but e1 hdn fun b o e n => ?_
    rw [upd_ne n]
    exact e
  have e2 : Fz (upd H1 d (.frz oD (.dK (txK ex)))) d (.dK (txK ex)) := ⟨oD, upd_same⟩
  generalize upd H1 d (.frz oD (.dK (txK ex))) = H2 at Y2 e2 ⊢
  refine ⟨d, ex, rfl, e2, fw, fun a H3 sm C => ?_⟩
  obtain ⟨dx, c, b, h, bs, hs, A0, C0, p1, p2, hne, n1, n2, n3, sm0⟩ := Y2.keep sm
  obtain rfl := pair_nil p1
  obtain rfl := pair_nil p2
  obtain ⟨sb, sh⟩ := A0.ne
  refine ⟨_, rfl, x, CS, dx, _, rfl, A0.i, T.cl, T.n1, by rw [syF_len]; decide, ?_⟩
  rw [syF_put]
  refine ⟨_, rfl, k x _ (SyG.step (bs' := []) (hs' := []) A0 (fun q o e n => ?_) hne n1 n2 n3 sm0 ⟨upd_same, ?_, ?_⟩ C .nil .nil)⟩
  · have n1 : q ≠ x := fun z => n (by rw [z]; exact List.mem_cons_self)
    rw [upd_ne n1]
    exact e
  · rw [upd_ne sb.symm]; exact A0.b
  · rw [upd_ne sh.symm]; exact A0.h
end
end Bo

set_option Elab.async false
set_option linter.all false
set_option maxRecDepth 100000
set_option maxHeartbeats 16000000
/-! the texts agree; a dict against an empty one -/
namespace Bo
open PySem PySem.Spec PyProof.Rows L2
theorem Fits.text {S : Ct} {rows : List (Str × List Str)} {us : List Str} (F : Fits S rows us) (nd : (rows.map (·.1)).Nodup) : textT S.cols (srt (S.rows.map (·.1))) (fun k => srt ((rowAt S.rows k).map (·.1))) = plainT rows us := by
  unfold plainT textT linesT
  have ndS : (S.rows.map (·.1)).Nodup := F.k.nodup_iff.mpr nd
  rw [F.c, srt_eq F.k]
  congr 2
  refine List.map_congr_left fun k hk => ?_
  have hk2 : k ∈ S.rows.map (·.1) := F.k.mem_iff.mpr (srt_mem.mp hk)
  obtain ⟨⟨k', r⟩, hm, rfl⟩ := List.mem_map.mp hk2
  obtain ⟨xs, hx, px, _⟩ := F.e _ hm
  show lineT k' (srt ((rowAt S.rows k').map (·.1))) = lineT k' (srt (rowAt rows k'))
  rw [row_at ndS hm, row_at nd hx, srt_eq px]
theorem Fits.few {S : Ct} {rows : List (Str × List Str)} {us : List Str} (F : Fits S rows us) (N : PlNm rows us) (l1 : rows.length ≤ 24) (l2 : us.length ≤ 24) : CtFew S := by
  have lS := F.k.length_eq
  rw [List.length_map, List.length_map] at lS
  refine ⟨by rw [F.c, srt_len]; omega, fun y hy => ?_, by omega, fun p hp => ?_, fun p hp => ?_⟩
  · rw [F.c] at hy
    exact name_len8 (N.u.k y (srt_mem.mp hy)).1
  · have h1 : p.1 ∈ rows.map (·.1) := F.k.mem_iff.mp (List.mem_map.mpr ⟨p, hp, rfl⟩)
    exact name_len8 (N.r.k _ h1).1
  · obtain ⟨xs, hx, px, _⟩ := F.e p hp
    have nx := N.nms hx
    have h1 : xs.length ≤ us.length := nodup_le nx.n (N.e _ hx).2
    have h2 := px.length_eq
    rw [List.length_map] at h2
    refine ⟨by omega, fun q hq => ?_⟩
    exact name_len8 (nx.k _ (px.mem_iff.mp (List.mem_map.mpr ⟨q, hq, rfl⟩))).1
theorem PlNm.few {rows : List (Str × List Str)} {us : List Str} (N : PlNm rows us) (l1 : rows.length ≤ 24) (l2 : us.length ≤ 24) : PlFew rows us := by
  refine ⟨by omega, fun y hy => name_len8 (N.u.k y hy).1, by omega, fun p hp => name_len8 (N.r.k _ (List.mem_map.mpr ⟨p, hp, rfl⟩)).1, fun p hp => ?_⟩
  have h1 : p.2.length ≤ us.length := nodup_le (N.nms hp).n (N.e _ hp).2
  exact ⟨by omega, fun q hq => name_len8 ((N.nms hp).k q hq).1⟩
/-- one row less -/
theorem Fits.drop {S : Ct} {rows : List (Str × List Str)} {us : List Str} (F : Fits S rows us) (y : Str) : Fits { S with rows := dropRow S.rows y, cons := dropRow S.cons y } (dropRow rows y) us := by
  have keys : ∀ {α : Type} (l : List (Str × α)), (dropRow l y).map (·.1) = (l.map (·.1)).filter fun k => !decide (k = y) := fun l => by
    unfold dropRow
    rw [List.filter_map]
    rfl
  refine ⟨F.c, ?_, fun p hp => ?_, ?_, fun p hp => F.z p (List.mem_filter.mp hp).1⟩
  · show (List.map (fun p : Str × List (Str × Int) => p.1) (dropRow S.rows y)).Perm _
    rw [keys, keys]
    exact F.k.filter _
  · obtain ⟨h1, h2⟩ := List.mem_filter.mp hp
    obtain ⟨xs, hx, r⟩ := F.e p h1
    exact ⟨xs, List.mem_filter.mpr ⟨hx, h2⟩, r⟩
  · show List.map (fun p : Str × Int => p.1) (dropRow S.cons y) = List.map (fun p : Str × List (Str × Int) => p.1) (dropRow S.rows y)
    rw [keys, keys, F.n]
theorem PlNm.drop {rows : List (Str × List Str)} {us : List Str} (N : PlNm rows us) (y : Str) : PlNm (dropRow rows y) us :=
  ⟨N.u, N.r.sub (List.Sublist.map _ List.filter_sublist), fun p hp => N.e p (List.mem_filter.mp hp).1⟩
theorem drop_len {α : Type} (l : List (Str × α)) (y : Str) : (dropRow l y).length ≤ l.length := List.length_filter_le _ _
section
variable {X : Cx}
/-- d != {} -/
def rNeE : R2 := fun x y H Q => ∃ a b ks, x = .ref a ∧ y = .ref b ∧ Rd H a (.dK ks) ∧ H b = some (.dK []) ∧ Q (.bl (!ks.isEmpty)) H
theorem op_neE (hu : X.A.units < cLine) : OpR X (compareOp .NotEq) rNeE := by
  intro pins s σ H x y v u Q I rx ry h
  obtain ⟨a, b, ks, rfl, rfl, ea, eb, q⟩ := h
  obtain rfl : v = Value.ref a := rx
  obtain rfl : u = Value.ref b := ry
  obtain ⟨_, ya, va, ra, da⟩ := dk_rd I.hok ea
  obtain ⟨_, yb, vb, rb, db⟩ := dk_of I.hok eb
  cases rb
  refine PySem.W.keq_ne (knd := mixKind X.prog X.w) (r := true) ya yb da db hu (fun e => ?_) ?_
  · have : va = [] := List.length_eq_zero_iff.mp (by simpa using e)
    subst this
    exact .nil
  · refine ⟨.bl (!ks.isEmpty), H, I, ?_, q⟩
    have e : ks.length = va.length := ra.length
    cases ks with
    | nil =>
      have : va = [] := List.length_eq_zero_iff.mp e.symm
      subst this
      rfl
    | cons k ks =>
      cases va with
      | nil => cases e
      | cons c va => rfl
end
end Bo

set_option Elab.async false
set_option linter.all false
set_option maxRecDepth 100000
set_option maxHeartbeats 16000000
/-! the law -/
namespace Bo
open PySem L2
abbrev sLaw : Stmt := top 71
abbrev nL : List Str := ["_law_script", "_law_tape", "_law_turn", "_law_plain", "_law_known", "_law_system", "_law_name", "_law_rest", "_law_one"]
def spLaw (K : PySem.W.Frag) : Sp := fun vs H Q _ => ∃ (a : Addr) (ns : List Int), vs = [.ref a] ∧ SqL K H a (ns.map V.int) ∧ ns.length ≤ 63 ∧ ∀ H', Q (.bl true) H'
/-- all but what stands at t -/
def hide1 (t : Addr) (H : Hp) : Hp := fun q => if q = t then none else H q
theorem hide1_same {t : Addr} {H : Hp} : Same (hide1 t H) H := fun q o e => by
  unfold hide1 at e
  split at e
  · cases e
  · exact e
theorem hide1_at {t q : Addr} {H : Hp} {o : HO} (e : H q = some o) (n : q ≠ t) : hide1 t H q = some o := (if_neg n).trans e
theorem PlG.but {H H' : Hp} {t pl r u : Addr} {rows : List (Str × List Str)} {ra : List (Str × Addr)} {us : List Str} {kvs : List (Key × V)} (p : PlG H pl r u rows ra us) (ht : H t = some (.dK kvs)) (n1 : pl ≠ t) (n2 : r ≠ t) (k : But t H H') : PlG H' pl r u rows ra us :=
  ⟨k _ _ p.d n1, p.r.elim (fun e => .inl (k _ _ e n2)) (fun ⟨o, e⟩ => .inr ⟨o, k _ _ e n2⟩), Paired.mapP p.e fun _ _ z => ⟨z.1, k _ _ z.2 (ne_of z.2 ht (by intro z; cases z))⟩, k _ _ p.u (ne_of p.u ht (by intro z; cases z))⟩
/-- the lists of a plain system -/
structure PlL (H : Hp) (u : Addr) (rows : List (Str × List Str)) (ra : List (Str × Addr)) (us : List Str) : Prop where
  e : Paired (fun (p : Str × List Str) (q : Str × Addr) => p.1 = q.1 ∧ H q.2 = some (.lst (p.2.map V.str))) rows ra
  u : H u = some (.lst (us.map V.str))
theorem SyG.call2 {K : PySem.W.Frag} {CC CS : Addr} {G H : Hp} {s t c pl r u : Addr} {cs : List Int} {p l : Int} {o : HO} {S : Ct} {Bs Hs : List Ct} {rows : List (Str × List Str)} {ra : List (Str × Addr)} {us : List Str} (Y : SyG K CC CS G H s S Bs Hs) (T : Tape H t c cs p l) (hc : G c = some o) (P : PlG H pl r u rows ra us) (L : PlL G u rows ra us) :
    ∃ B, SyG K CC CS B H s S Bs Hs ∧ Same B H ∧ ∀ H' S' Bs' Hs', SyG K CC CS B H' s S' Bs' Hs' → SyG K CC CS G H' s S' Bs' Hs' ∧ Tape H' t c cs p l ∧ PlG H' pl r u rows ra us := by
  obtain ⟨B, Y1, s1, s2, k⟩ := Y.anew
  refine ⟨B, Y1, s1, fun H' S' Bs' Hs' Y' => ⟨Y'.under s2, ⟨?_, ?_, T.n, T.m, T.p0, T.l0⟩, ?_⟩⟩
  · exact Y'.same _ _ (k _ _ T.d (fun _ _ _ z => by cases z) fun _ z => by cases z)
  · have e : B c = some (.lst (cs.map V.int)) := by
      have e1 := s2 _ _ hc
      have e2 := s1 _ _ e1
      rw [T.c] at e2
      rw [e1, ← e2]
    exact Y'.same _ _ e
  · have sm := s2.trans Y'.same
    refine ⟨Y'.same _ _ (k _ _ P.d (fun _ _ _ z => by cases z) fun _ z => by cases z), ?_, Paired.mapP L.e fun _ _ z => ⟨z.1, sm _ _ z.2⟩, sm _ _ L.u⟩
    rcases P.r with e | ⟨ob, e⟩
    · exact .inl (Y'.same _ _ (k _ _ e (fun _ _ _ z => by cases z) fun _ z => by cases z))
    · exact .inr ⟨ob, Y'.same _ _ (k _ _ e (fun _ _ _ z => by cases z) fun _ z => by cases z)⟩
theorem pair_map_mem {α β : Type} {F G : α → β → Prop} : ∀ {l : List α} {m : List β}, Paired F l m → (∀ a b, b ∈ m → F a b → G a b) → Paired G l m
  | _, _, .nil, _ => .nil
  | _, _, .cons q t, h => .cons (h _ _ List.mem_cons_self q) (pair_map_mem t fun a b hb z => h a b (List.mem_cons_of_mem _ hb) z)
theorem merge_new : ∀ {l : List (Str × Addr)} {acc : List (Str × Addr)}, ((acc ++ l).map (·.1)).Nodup → mergeK (refK acc) (refK l) = refK (acc ++ l)
  | [], acc, _ => by rw [List.append_nil]; rfl
  | p :: l, acc, nd => by
    have nd2 : (((acc ++ [p]) ++ l).map (·.1)).Nodup := by rw [List.append_assoc]; exact nd
    have np : p.1 ∉ acc.map (·.1) := by
      rw [List.map_append, List.nodup_append] at nd
      exact fun z => nd.2.2 _ z _ List.mem_cons_self rfl
    show mergeK (putK (refK acc) (Sum.inr p.1) (.ref p.2)) (refK l) = _
    have e : putK (refK acc) (Sum.inr p.1) (.ref p.2) = refK (acc ++ [p]) := by
      rw [putK_new _ (refK_out np)]
      unfold refK
      rw [List.map_append]
      rfl
    rw [e, merge_new nd2, List.append_assoc]
    rfl
theorem pair_dropG {α β : Type} {F : (Str × α) → (Str × β) → Prop} {y : Str} (h1 : ∀ p q, F p q → p.1 = q.1) : ∀ {l : List (Str × α)} {m : List (Str × β)}, Paired F l m → Paired F (dropRow l y) (dropRow m y)
  | _, _, .nil => .nil
  | _, _, .cons (a := p) (b := q) h t => by
    have e := h1 p q h
    have ih := pair_dropG (y := y) h1 t
    unfold dropRow at ih ⊢
    rw [List.filter_cons, List.filter_cons]
    show Paired F (if (!decide (p.1 = y)) = true then _ else _) (if (!decide (q.1 = y)) = true then _ else _)
    rw [e]
    split
    · exact .cons h ih
    · exact ih
theorem drop_snoc {α : Type} (l : List (Str × α)) (p : Str × α) (y : Str) : dropRow (l ++ [p]) y = dropRow l y ++ (if (!decide (p.1 = y)) = true then [p] else []) := by
  unfold dropRow
  rw [List.filter_append, List.filter_cons, List.filter_nil]
theorem srt_nil : srt [] = [] := (srt_perm []).eq_nil
theorem srt_one (x : Str) : srt [x] = [x] := List.perm_singleton.mp (srt_perm [x])
theorem words_nil : Txt.words (Str.ofString "") = [] := by decide +kernel
theorem rows_qq : rowsOf [(Str.ofString "qq", some (Str.ofString ""))] = [(Str.ofString "qq", [])] := by
  show [(Str.ofString "qq", onceW (Txt.words (Str.ofString "")))] = _
  rw [words_nil]
  rfl
theorem ct_qq : ctOf [(Str.ofString "qq", some (Str.ofString ""))] = ⟨[], [(Str.ofString "qq", [])], [(Str.ofString "qq", 0)]⟩ := by
  unfold ctOf
  rw [rows_qq]
  show (⟨srt [], _, _⟩ : Ct) = _
  rw [srt_nil]
  rfl
theorem few_qq : OfFew [(Str.ofString "qq", some (Str.ofString ""))] := by
  refine ⟨by decide, by decide +kernel, fun p hp x hx => ?_, ?_⟩
  · rw [List.mem_singleton.mp hp] at hx
    cases hx
    rw [words_nil]
    exact ⟨by decide, by decide⟩
  · rw [rows_qq]
    decide +kernel
theorem txt_qq : textT [] (srt [Str.ofString "qq"]) (fun k => srt ((rowAt [(Str.ofString "qq", ([] : List (Str × Int)))] k).map (·.1))) = Str.ofString "unknowns\nqq:" := by
  rw [srt_one]
  have e : (rowAt [(Str.ofString "qq", ([] : List (Str × Int)))] (Str.ofString "qq")).map (·.1) = [] := by decide +kernel
  show Txt.join (Str.ofString "\n") [headT [], lineT (Str.ofString "qq") (srt ((rowAt [(Str.ofString "qq", ([] : List (Str × Int)))] (Str.ofString "qq")).map (·.1)))] = _
  rw [e, srt_nil]
  decide +kernel
theorem txt_none : textT [] (srt []) (fun k => srt ((rowAt ([] : List (Str × List (Str × Int))) k).map (·.1))) = Str.ofString "unknowns" := by
  rw [srt_nil]
  show Txt.join (Str.ofString "\n") [headT []] = _
  decide +kernel
structure TxtZ (mg : Str → Option Value) : Prop where
  rng : mg "range" = none
  min_ : mg "min" = none
  len : mg "len" = none
  lst : mg "list" = none
  srt : mg "sorted" = none
  dct : mg "dict" = none
  str_ : mg "str" = none
section
variable {P : Program} {w : World} {K : PySem.W.Frag} {mg : Str → Option Value} {base : Heap} {CC fCI CN fIN CS fSI fTk : Addr}
theorem scL : FnScope nL ["_law_script"] (defScope sLaw) := ⟨rfl, rfl, rfl, by decide +kernel, rfl, by decide +kernel, by decide +kernel⟩
theorem ok_law {f fB fD fP fDr fBu fTx fStr fBg fRb fRm pO fO : Addr} {mc : Value} {fd fdB fdD fdP fdDr fdBu fdTx fdSI fdStr fdBg fdRb fdRm : FuncData} (F : Fun K "law" "law" sLaw f fd) (T : SysT K mg CS fSI fTk) (Z : TxtZ mg)
    (GB : FnOk P w K mg base CX0 1 fB fdB ["_law_script"] (spBegin K)) (mB : mg "_law_begin" = some (.ref fB)) (kB : PySem.W.keepIn K (.ref fB) = true) (bB : Binds K fdB ["_law_script"] [])
    (GD : FnOk P w K mg base CX0 1 fD fdD ["_law_tape", "_law_many"] spDraw) (mD : mg "_law_draw" = some (.ref fD)) (kD : PySem.W.keepIn K (.ref fD) = true) (bD : Binds K fdD ["_law_tape", "_law_many"] [])
    (GP : FnOk P w K mg base CX0 2 fP fdP ["_law_tape", "_law_items"] spPick) (mP : mg "_law_pick" = some (.ref fP)) (kP : PySem.W.keepIn K (.ref fP) = true) (bP : Binds K fdP ["_law_tape", "_law_items"] [])
    (GDr : FnOk P w K mg base CX0 4 fDr fdDr ["_law_tape", "_law_most"] spDrawn) (mDr : mg "_law_drawn" = some (.ref fDr)) (kDr : PySem.W.keepIn K (.ref fDr) = true) (bDr : Binds K fdDr ["_law_tape", "_law_most"] [])
    (GBu : FnOk P w K mg base CX0 8 fBu fdBu ["_law_tape", "_law_system", "_law_plain"] (spBuilt K CC CS)) (mBu : mg "_law_built" = some (.ref fBu)) (kBu : PySem.W.keepIn K (.ref fBu) = true) (bBu : Binds K fdBu ["_law_tape", "_law_system", "_law_plain"] [])
    (GTx : FnOk P w K mg base CX0 1 fTx fdTx ["_law_plain"] spText) (mTx : mg "_law_text" = some (.ref fTx)) (kTx : PySem.W.keepIn K (.ref fTx) = true) (bTx : Binds K fdTx ["_law_plain"] [])
    (GS : FnOk P w K mg base CX0 3 fSI fdSI ["self"] (spSInitG K CC CS)) (bS : Binds K fdSI ["self"] [])
    (GStr : FnOk P w K mg base CX0 2 fStr fdStr ["self"] (spStr K CC CS)) (bStr : Binds K fdStr ["self"] []) (hStr : PySem.W.findIn K (.ref CS) "__str__" = some (some (.ref fStr))) (iStr : PySem.W.isFn K (.ref fStr) = true)
    (GBg : FnOk P w K mg base CX0 1 fBg fdBg ["self"] (spBg K CC CS)) (mBg : Meth K CS "begin" fBg) (bBg : Binds K fdBg ["self"] [])
    (GRb : FnOk P w K mg base CX0 1 fRb fdRb ["self"] (spRb K CC CS)) (mRb : Meth K CS "rollback" fRb) (bRb : Binds K fdRb ["self"] [])
    (GRm : FnOk P w K mg base CX0 4 fRm fdRm ["self", "name"] (spRmEG K CC CS)) (mRm : Meth K CS "remove_equation" fRm) (bRm : Binds K fdRm ["self", "name"] [])
    (cr : ClX.CRead K CS mc) (cm : ClX.CMet K CS mc "of" pO fO) (GO : FnKw P w K mg base CX0 5 fO ["qq"] (fun vs H Q E => ∃ v zs, vs = v :: zs ∧ ∀ d, H d = none → spOf K CC CS [v, .ref d] (upd H d (.dK ((([("qq" : Str)] : List Str).zip zs).map fun p => ((Sum.inr p.1 : Key), p.2)))) Q E)) :
    FnOk P w K mg base CX0 9 f fd ["_law_script"] (spLaw K) := by
  refine F.ok scL (fun vs H Q E h => ?_) (fun cdv A outer s H vs Q E hr h => ?_)
  · obtain ⟨a, ns, rfl, _⟩ := h
    rfl
  · obtain ⟨a, ns, rfl, hS, hl, k⟩ := h
    have hu := hu_of hr
    have hu64 : (A.deeper (PyProof.Rows.envOfC "law" (defScope sLaw) s.heap.objs.size f cdv)).units + 64 < cLine := by have := hr.un; omega
    have hr1 : Room 1 _ := hr.mono (by decide)
    have hr2 : Room 2 _ := hr.mono (by decide)
    have hr4 : Room 4 _ := hr.mono (by decide)
    have hr5 : Room 5 _ := hr.mono (by decide)
    refine ⟨_, pss_cons (ps_set (i := 1) scL.nd rfl (.inl rfl) (pe_call GB hr1 rfl mB kB bB .nil pass0 (pa_cons (pv 0) pa_nil)))
      (pss_cons (ps_for PassesOwn.never rfl (pi_range1 rfl Z.rng (pa_cons (pe_op op_add pe_int (pe_callB (call_min2 rfl) (by rfl) Z.min_ (by decide +kernel) (pa_cons pe_int (pa_cons (pe_callB call_len_seq (by rfl) Z.len PySem.boot_len (pa_cons (pv 0) pa_nil)) pa_nil)))) pa_nil)) (pg_name (i := 2) scL.nd rfl (.inl rfl))
        (pss_cons (ps_set (i := 3) scL.nd rfl (.inr rfl) (pe_call GDr hr4 rfl mDr kDr bDr .nil pass0 (pa_cons (pv 1) (pa_cons (pe_call GP hr2 rfl mP kP bP .nil pass0 (pa_cons (pv 1) (pa_cons (pe_lst (pa_cons pe_int (pa_cons pe_int (pa_cons pe_int pa_nil)))) pa_nil))) pa_nil))))
        (pss_cons (ps_set (i := 4) scL.nd rfl (.inl rfl) (pe_op op_cat (pe_callTy (call_listD rfl) (by rfl) Z.lst (by decide +kernel) (pa_cons (pe_dget hu (pv 3) pe_str (fun _ _ => rfl)) pa_nil)) (pe_dget hu (pv 3) pe_str (fun _ _ => rfl))))
        (C8.pss_cut (ps_if (PW.pt (pw_and (pt_cmpR op_eq (pe_call GD hr1 rfl mD kD bD .nil pass0 (pa_cons (pv 1) (pa_cons pe_int pa_nil))) pe_int (nomark _)) (pw_and (pt_cmpR op_lt (pe_callB call_len_seq (by rfl) Z.len PySem.boot_len (pa_cons (pv 4) pa_nil)) pe_int (nomark _)) (pw_and1 (pt_cmpR op_notIn_seq pe_str (pv 4) (by rfl))))))
            (pss_cons (ps_expr (pe_bm PySem.F.plainAttrs_list PySem.F.slot_list_append PySem.F.type_list_append mt_append (pe_dget hu (pv 3) pe_str (fun _ _ => rfl)) (pa_cons pe_str pa_nil)))
            (pss_one (ps_dput hu (pe_dget hu (pv 3) pe_str (fun _ _ => rfl)) pe_str (pe_lst (pa_cons pe_str pa_nil)) rfl))) pss_nil)
        (pss_cons (ps_set (i := 5) scL.nd rfl (.inl rfl) (pe_call GBu (hr.mono (by decide)) rfl mBu kBu bBu .nil pass0 (pa_cons (pv 1) (pa_cons (pe_make0 T.mkC GS hr4 rfl T.g bS .nil pass0) (pa_cons (pv 3) pa_nil)))))
        (pss_cons (ps_if (PW.pt (pw_or (pt_cmpR op_ne (pe_callTy (call_strOwn GStr bStr hStr iStr hr4) (by rfl) Z.str_ (by decide +kernel) (pa_cons (pv 5) pa_nil)) (pe_call GTx hr1 rfl mTx kTx bTx .nil pass0 (pa_cons (pv 3) pa_nil)) (nomark _)) (pw_or1 (pt_cmpR op_ne (pe_callTy (call_strOwn GStr bStr hStr iStr hr4) (by rfl) Z.str_ (by decide +kernel) (pa_cons (pv 5) pa_nil)) (pe_call GTx hr1 rfl mTx kTx bTx .nil pass0 (pa_cons (pv 3) pa_nil)) (nomark _))))) (pss_one (ps_ret pe_bl)) pss_nil)
        (pss_cons (ps_expr (pe_meth0 (pv 5) T.cl mBg GBg hr1 bBg .nil pass0))
        (C8.pss_cut (ps_if (pt_cmpR (op_neE hr1.units0) (pe_dget hu (pv 3) pe_str (fun _ _ => rfl)) pe_dnewK (nomark _))
            (pss_cons (ps_set (i := 6) scL.nd rfl (.inr rfl) (pe_call GP hr2 rfl mP kP bP .nil pass0 (pa_cons (pv 1) (pa_cons (pe_callB (call_sortedD rfl) (by rfl) Z.srt (by decide +kernel) (pa_cons (pe_dget hu (pv 3) pe_str (fun _ _ => rfl)) pa_nil)) pa_nil))))
            (pss_cons (ps_expr (pe_meth (pv 5) T.cl mRm GRm hr4 bRm .nil pass0 (pa_cons (pv 6) pa_nil)))
            (pss_cons (ps_set (i := 7) scL.nd rfl (.inl rfl) (pe_callTy (call_dictP rfl) (by rfl) Z.dct (by decide +kernel) (pa_cons
                (pe_lc (own := [("_law_one", 8)]) (g := gName 8) rfl scL.nd (pi_keys (pe_fz (pe_dget hu (pv 3) pe_str (fun _ _ => rfl)))) (blkOk_by (N := nL) (sc := defScope sLaw) (by decide +kernel)) (fun _ _ _ _ _ => pg_name (i := 8) scL.nd rfl (Or.inl rfl))
                  (fun _ _ _ _ _ => pts_one (pt_cmpR op_ne (pv 8) (pv 6) (nomark _))) (fun _ _ _ _ _ => pe_tup (pa_cons (pv 8) (pa_cons (pe_dget hu (pe_dget hu (pv 3) pe_str (fun _ _ => rfl)) (pv 8) (fun _ _ => rfl)) pa_nil)))) pa_nil)))
            (pss_one (ps_if (pt_cmpR op_ne (pe_callTy (call_strOwn GStr bStr hStr iStr hr4) (by rfl) Z.str_ (by decide +kernel) (pa_cons (pv 5) pa_nil)) (pe_call GTx hr1 rfl mTx kTx bTx .nil pass0 (pa_cons (pe_disp (pps_cons pe_str (pv 7) (pps_cons pe_str (pe_dget hu (pv 3) pe_str (fun _ _ => rfl)) pps_nil)) (by rfl) (by rfl) (fun z => by cases z) (by decide)) pa_nil)) (nomark _)) (pss_one (ps_ret pe_bl)) pss_nil))))) pss_nil)
        (pss_cons (ps_expr (pe_meth0 (pv 5) T.cl mRb GRb hr1 bRb .nil pass0))
        (pss_one (ps_if (pt_cmpR op_ne (pe_callTy (call_strOwn GStr bStr hStr iStr hr4) (by rfl) Z.str_ (by decide +kernel) (pa_cons (pv 5) pa_nil)) (pe_call GTx hr1 rfl mTx kTx bTx .nil pass0 (pa_cons (pv 3) pa_nil)) (nomark _)) (pss_one (ps_ret pe_bl)) pss_nil)))))))))))
      (pss_one (ps_ret (pe_and (pe_cmpR op_eq (pe_callTy (call_strOwn GStr bStr hStr iStr hr4) (by rfl) Z.str_ (by decide +kernel) (pa_cons (pe_make0 T.mkC GS hr4 rfl T.g bS .nil pass0) pa_nil)) pe_str (nomark _)) (pe_one (pe_cmpR op_eq (pe_callTy (call_strOwn GStr bStr hStr iStr hr4) (by rfl) Z.str_ (by decide +kernel) (pa_cons (pe_cmethK (pe_glob (v := .ref CS) (by rfl) T.g rfl) cr cm GO hr5 pass0 (pk_cons pe_str pk_nil)) pa_nil)) pe_str (nomark _))))))), ?_⟩
    refine ⟨_, rfl, a, ns, rfl, hS, hl, fun t c cs H1 t0 c0 hT sm => ?_⟩
    have hS1 : SqL K H1 a (ns.map V.int) := SqL.keep hS sm
    refine ⟨_, rfl, a, _, rfl, .inl hS1, _, _, rfl, _, _, rfl, rfl, _, rfl, ?_, ?_, ?_⟩
    · split <;> omega
    · split <;> omega
    have hn12 : (2 + (if ((ns.map V.int).length : Int) < 3 then ((ns.map V.int).length : Int) else 3)).toNat ≤ 5 := by split <;> omega
    generalize (2 + (if ((ns.map V.int).length : Int) < 3 then ((ns.map V.int).length : Int) else 3)).toNat = nt at hn12 ⊢
    refine for_range (fun i σ H' => ∃ (p l : Int) (z2 z3 z4 z5 z6 z7 : Option V), σ = [some (.ref a), some (.ref t), z2, z3, z4, z5, z6, z7, none] ∧ Tape H' t c cs p l ∧ p ≤ 7000 * (i : Int)) ⟨0, 0, none, none, none, none, none, none, rfl, hT, by omega⟩ ?_ ?_
    rotate_left
    · rintro σ H2 ⟨p, l, z2, z3, z4, z5, z6, z7, rfl, hT2, hp⟩
      have few0 : CtFew ⟨[], [], []⟩ := ⟨by decide, (fun _ z => nomatch z), by decide, (fun _ z => nomatch z), (fun _ z => nomatch z)⟩
      refine fun x dx0 g1 g2 g3 => ⟨x, dx0, rfl, upd_same, fun c0 b0 h0 H3 kk q1 q0 q2 Y0 C0 => ⟨rfl, ?_⟩⟩
      have Y3 := sg_of (K := K) (CC := CC) g1 g2 kk q1 q0 q2 Y0 C0
      refine ⟨x, dx0, _, rfl, Y0.i, x, H2, ⟨[], [], []⟩, [], [], rfl, Y3, few0, List.nodup_nil, fun H4 s4 => ⟨⟨_, rfl⟩, rfl, ?_⟩⟩
      rw [show textT (⟨[], [], []⟩ : Ct).cols (srt ((⟨[], [], []⟩ : Ct).rows.map (·.1))) (fun k => srt ((rowAt (⟨[], [], []⟩ : Ct).rows k).map (·.1))) = Str.ofString "unknowns" from txt_none]
      rw [decide_eq_true rfl]
      refine ⟨_, rfl, iteT ⟨rfl, rfl, _, _, rfl, fun d hd => ⟨d, H4, [(Str.ofString "qq", some (Str.ofString ""))], rfl, hd, rfl, few_qq, fun y H5 Y5 => ?_⟩⟩⟩
      rw [ct_qq] at Y5
      obtain ⟨dx5, c5, b5, h5, bs5, hs5, A5, _⟩ := id Y5
      have few1 : CtFew ⟨[], [(Str.ofString "qq", [])], [(Str.ofString "qq", 0)]⟩ := ⟨by decide, (fun _ z => nomatch z), by show 1 ≤ 25; decide, fun p hp => (by rw [List.mem_singleton.mp hp]; decide), fun p hp => (by rw [List.mem_singleton.mp hp]; exact ⟨by decide, fun _ z => nomatch z⟩)⟩
      refine ⟨y, dx5, _, rfl, A5.i, y, H4, _, [], [], rfl, Y5, few1, List.nodup_cons.mpr ⟨List.not_mem_nil, List.nodup_nil⟩, fun H6 s6 => ⟨⟨_, rfl⟩, rfl, ?_⟩⟩
      have e := txt_qq
      show Q (V.bl (decide (V.str (textT [] (srt [Str.ofString "qq"]) (fun k => srt ((rowAt [(Str.ofString "qq", ([] : List (Str × Int)))] k).map (·.1)))) = V.str (Str.ofString "unknowns\nqq:")))) H6
      rw [e, decide_eq_true rfl]
      exact k H6
    rintro i σ H2 hi ⟨p, l, z2, z3, z4, z5, z6, z7, rfl, hT2, hp⟩
    refine ⟨_, rfl, _, rfl, by show 3 ≤ sizeLine; decide, fun q0 hq0 => ⟨t, c, q0, cs, p, l, _, rfl, hT2.new hq0, upd_same, by simp, by show 3 ≤ _; decide, by omega, fun j x p3 l3 H3 hx a3 b3 hT3 hB3 => ?_⟩⟩
    obtain ⟨m, rfl, hm1, hm2⟩ : ∃ m : Nat, x = .int (m : Int) ∧ 1 ≤ m ∧ m ≤ 24 := by
      match j, hx with
      | 0, hx => exact ⟨6, (Option.some.inj hx).symm, by decide, by decide⟩
      | 1, hx => exact ⟨6, (Option.some.inj hx).symm, by decide, by decide⟩
      | 2, hx => exact ⟨24, (Option.some.inj hx).symm, by decide, by decide⟩
    refine ⟨t, c, cs, p3, l3, m, rfl, hT3, hm1, hm2, by omega, fun pl r u rows ra us p4 l4 H4 hP4 er4 plr npl nr nu qu nm4 lr4 lu4 a4 b4 hT4 hB4 => ?_⟩
    have plt : pl ≠ t := fun z => by rw [z, hT3.d] at npl; cases npl
    have rt : r ≠ t := fun z => by rw [z, hT3.d] at nr; cases nr
    have ut : u ≠ t := fun z => by rw [z, hT3.d] at nu; cases nu
    refine ⟨_, rfl, pl, _, rfl, hP4.gr, r, refK ra, rfl, hP4.r, fun L hL => ?_⟩
    have ek : (refK ra).map (fun kv => kV kv.1) = (rows.map (·.1)).map V.str := by
      rw [← hP4.keys]
      unfold refK
      rw [List.map_map, List.map_map]
      rfl
    rw [ek]
    have s5 : Same H4 (upd H4 L (.lst ((rows.map (·.1)).map V.str))) := same_new hL
    have eL : (upd H4 L (.lst ((rows.map (·.1)).map V.str))) L = some (.lst ((rows.map (·.1)).map V.str)) := upd_same
    generalize upd H4 L (.lst ((rows.map (·.1)).map V.str)) = H5 at s5 eL ⊢
    have hP5 := hP4.keep s5
    refine ⟨_, rfl, pl, _, rfl, hP5.gu, L, u, _, _, rfl, rfl, eL, hP5.u, by rw [List.length_map, List.length_map, List.length_map, sizeLine_eq]; omega, fun kn hkn => ?_⟩
    have s6 : Same H5 (upd H5 kn (.lst ((rows.map (·.1)).map V.str ++ us.map V.str))) := same_new hkn
    have ekn : (upd H5 kn (.lst ((rows.map (·.1)).map V.str ++ us.map V.str))) kn = some (.lst ((rows.map (·.1) ++ us).map V.str)) := by rw [upd_same, List.map_append]
    generalize upd H5 kn (.lst ((rows.map (·.1)).map V.str ++ us.map V.str)) = H6 at s6 ekn ⊢
    have s46 := s5.trans s6
    have hP6 := hP4.keep s46
    have hT6 := hT4.keep s46
    have er6 := s46 _ _ er4
    refine ⟨fun σ H' => ∃ (rows : List (Str × List Str)) (ra : List (Str × Addr)) (us : List Str) (p l : Int), σ = [some (.ref a), some (.ref t), some (.int (0 + (i : Int))), some (.ref pl), some (.ref kn), z5, z6, z7, none] ∧ PlG H' pl r u rows ra us ∧ H' r = some (.dK (refK ra)) ∧ PlNm rows us ∧ rows.length ≤ 24 ∧ us.length ≤ 24 ∧ Tape H' t c cs p l ∧ p ≤ 7000 * (i : Int) + 3500, ?_, ?_⟩
    · refine ⟨_, rfl, t, c, cs, p4, l4, 3, rfl, hT6, by decide, by decide, by omega, fun r7 p7 l7 H7 r70 r71 a7 b7 hT7 hB7 => ?_⟩
      have hP7 := hP6.but hT6.d plt rt hB7
      have er7 := hB7 _ _ er6 rt
      have knt : kn ≠ t := ne_of ekn hT6.d (by intro z; cases z)
      have ekn7 := hB7 _ _ ekn knt
      have stay : ∃ (rows : List (Str × List Str)) (ra : List (Str × Addr)) (us : List Str) (p l : Int), [some (V.ref a), some (.ref t), some (.int (0 + (i : Int))), some (.ref pl), some (.ref kn), z5, z6, z7, none] = [some (V.ref a), some (.ref t), some (.int (0 + (i : Int))), some (.ref pl), some (.ref kn), z5, z6, z7, none] ∧ PlG H7 pl r u rows ra us ∧ H7 r = some (.dK (refK ra)) ∧ PlNm rows us ∧ rows.length ≤ 24 ∧ us.length ≤ 24 ∧ Tape H7 t c cs p l ∧ p ≤ 7000 * (i : Int) + 3500 :=
        ⟨rows, ra, us, p7, l7, rfl, hP7, er7, nm4, by omega, by omega, hT7, by omega⟩
      refine ⟨rfl, _, rfl, ite2 (fun _ => ?_) (fun _ => stay)⟩
      refine ⟨_, rfl, kn, _, rfl, .inl (SqL.of ekn7), _, _, rfl, rfl, _, rfl, ite2 (fun hlt => ?_) (fun _ => stay)⟩
      have hlt : rows.length + us.length < 24 := by
        have h1 : ((((rows.map (·.1) ++ us).map V.str).length : Nat) : Int) < 24 := of_decide_eq_true hlt
        rw [List.length_map, List.length_append, List.length_map] at h1
        omega
      refine ⟨_, rfl, kn, _, rfl, .inl (SqL.of ekn7), rfl, txts_flatV _, _, rfl, ?_⟩
      rw [inV_txt]
      refine ite2 (fun hno => ?_) (fun _ => stay)
      have hno : Str.ofString "unknowns" ∉ rows.map (·.1) ++ us := by simpa using hno
      have no1 : Str.ofString "unknowns" ∉ rows.map (·.1) := fun z => hno (List.mem_append_left _ z)
      have no2 : Str.ofString "unknowns" ∉ us := fun z => hno (List.mem_append_right _ z)
      have ru : r ≠ u := ne_of er7 hP7.u (by intro z; cases z)
      have plu : pl ≠ u := ne_of hP7.d hP7.u (by intro z; cases z)
      refine ⟨_, rfl, pl, _, rfl, hP7.gu, .inl ⟨rfl, _, SqL.of hP7.u⟩, u, _, _, rfl, rfl, hP7.u, by rw [List.length_map, sizeLine_eq]; omega, ?_⟩
      have k8 : ∀ b o, H7 b = some o → b ≠ u → (upd H7 u (.lst (us.map V.str ++ [V.str (Str.ofString "unknowns")]))) b = some o := fun b o e n => (upd_ne n).trans e
      have eu8 : (upd H7 u (.lst (us.map V.str ++ [V.str (Str.ofString "unknowns")]))) u = some (.lst ((us ++ [Str.ofString "unknowns"]).map V.str)) := by rw [upd_same, List.map_append]; rfl
      generalize upd H7 u (.lst (us.map V.str ++ [V.str (Str.ofString "unknowns")])) = H8 at k8 eu8 ⊢
      have er8 := k8 _ _ er7 ru
      have ed8 := k8 _ _ hP7.d plu
      have gr8 : DGet H8 pl (V.str (Str.ofString "rows")) (some (V.ref r)) := .inl ⟨_, kR, .inl ed8, rfl, (show some (V.ref r) = valV [(kR, V.ref r), (kU, V.ref u)] kR by rw [valV_pos rfl])⟩
      refine ⟨by show 1 ≤ sizeLine; decide, fun n hn => ?_⟩
      have s9 : Same H8 (upd H8 n (.lst [V.str (Str.ofString "unknowns")])) := same_new hn
      have en9 : (upd H8 n (.lst [V.str (Str.ofString "unknowns")])) n = some (.lst ([Str.ofString "unknowns"].map V.str)) := upd_same
      have nr9 : n ≠ r := (ne_of_none er8 hn).symm
      have nu9 : n ≠ u := (ne_of_none eu8 hn).symm
      generalize upd H8 n (.lst [V.str (Str.ofString "unknowns")]) = H9 at s9 en9 ⊢
      have er9 := s9 _ _ er8
      have lra : ra.length = rows.length := hP7.len
      have yn : Str.ofString "unknowns" ∉ ra.map (·.1) := by rw [hP7.keys]; exact no1
      refine ⟨_, rfl, pl, _, rfl, .inl ⟨_, kR, .inl (s9 _ _ ed8), rfl, (show some (V.ref r) = valV [(kR, V.ref r), (kU, V.ref u)] kR by rw [valV_pos rfl])⟩, r, _, rfl, DPut.k (k := Sum.inr (Str.ofString "unknowns")) er9 (by rw [refK_len, sizeLine_eq]; omega), ?_⟩
      rw [putK_new _ (refK_out yn)]
      have eR : refK ra ++ [((Sum.inr (Str.ofString "unknowns") : Key), V.ref n)] = refK (ra ++ [(Str.ofString "unknowns", n)]) := by
        unfold refK
        rw [List.map_append]
        rfl
      rw [eR]
      have kr : ∀ b o, H9 b = some o → b ≠ r → (upd H9 r (.dK (refK (ra ++ [(Str.ofString "unknowns", n)])))) b = some o := fun b o e n => (upd_ne n).trans e
      have okN : nameOk (Str.ofString "unknowns") = true ∧ TxtOk (Str.ofString "unknowns") := ⟨by decide +kernel, ⟨by decide +kernel, by decide +kernel⟩⟩
      have inU : ∀ y ∈ us, y ∈ us ++ [Str.ofString "unknowns"] := fun y hy => List.mem_append_left _ hy
      refine ⟨rows ++ [(Str.ofString "unknowns", [Str.ofString "unknowns"])], ra ++ [(Str.ofString "unknowns", n)], us ++ [Str.ofString "unknowns"], p7, l7, rfl, ⟨kr _ _ (s9 _ _ ed8) plr, .inl upd_same, ?_, kr _ _ (s9 _ _ eu8) ru.symm⟩, upd_same, ⟨⟨?_, fun y hy => ?_⟩, ⟨?_, fun y hy => ?_⟩, fun q hq => ?_⟩, ?_, ?_, ⟨?_, ?_, hT7.n, hT7.m, hT7.p0, hT7.l0⟩, by omega⟩
      · refine Paired.snoc ?_ ⟨rfl, kr _ _ en9 nr9⟩
        refine pair_map_mem hP7.e fun x q hq z => ⟨z.1, ?_⟩
        exact kr _ _ (s9 _ _ (k8 _ _ z.2 (qu q hq))) (ne_of z.2 er7 (by intro z; cases z))
      · exact List.nodup_append.mpr ⟨nm4.u.n, List.nodup_cons.mpr ⟨List.not_mem_nil, List.nodup_nil⟩, fun a ha b hb e => no2 (by rw [← List.mem_singleton.mp hb, ← e]; exact ha)⟩
      · rcases List.mem_append.mp hy with e | e
        · exact nm4.u.k y e
        · rw [List.mem_singleton.mp e]; exact okN
      · rw [List.map_append]
        exact List.nodup_append.mpr ⟨nm4.r.n, List.nodup_cons.mpr ⟨List.not_mem_nil, List.nodup_nil⟩, fun a ha b hb e => no1 (by rw [← (show b = Str.ofString "unknowns" from List.mem_singleton.mp hb), ← e]; exact ha)⟩
      · rw [List.map_append] at hy
        rcases List.mem_append.mp hy with e | e
        · exact nm4.r.k y e
        · rw [show y = Str.ofString "unknowns" from List.mem_singleton.mp e]; exact okN
      · rcases List.mem_append.mp hq with e | e
        · exact ⟨(nm4.e q e).1, fun y hy => inU y ((nm4.e q e).2 y hy)⟩
        · rw [List.mem_singleton.mp e]
          exact ⟨List.nodup_cons.mpr ⟨List.not_mem_nil, List.nodup_nil⟩, fun y hy => List.mem_append_right _ hy⟩
      · rw [List.length_append]; show rows.length + 1 ≤ _; omega
      · rw [List.length_append]; show us.length + 1 ≤ _; omega
      · exact kr _ _ (s9 _ _ (k8 _ _ hT7.d ut.symm)) rt.symm
      · exact kr _ _ (s9 _ _ (k8 _ _ hT7.c (ne_of_none hT3.c nu))) (ne_of hT7.c er7 (by intro z; cases z))
    · clear hP4 er4 qu nm4 lr4 lu4 a4 b4 hT4 hB4 ek s5 eL hP5 s6 ekn s46 hP6 hT6 er6
      rintro σ H8 ⟨rows, ra, us, p8, l8, rfl, hP8, er8, nm8, lr8, lu8, hT8, hp8⟩
      refine ⟨_, rfl, fun x dx0 g1 g2 g3 => ⟨x, dx0, rfl, upd_same, fun c0 b0 h0 H9 kk q1 q0 q2 Y0 C0 => ⟨rfl, _, rfl, ?_⟩⟩⟩
      have Y9 := sg_of (K := K) (CC := CC) g1 g2 kk q1 q0 q2 Y0 C0
      have hT9 := hT8.keep Y9.same
      have nt : ∀ {q : Addr} {xs : List V}, H8 q = some (.lst xs) → q ≠ t := fun e => ne_of e hT8.d (by intro z; cases z)
      have hP0 : PlG (hide1 t H8) pl r u rows ra us := ⟨hide1_at hP8.d plt, .inl (hide1_at er8 rt), Paired.mapP hP8.e fun _ _ z => ⟨z.1, hide1_at z.2 (nt z.2)⟩, hide1_at hP8.u ut⟩
      have hL0 : PlL (hide1 t H8) u rows ra us := ⟨hP0.e, hP0.u⟩
      have c0' : hide1 t H8 c = some (.lst (cs.map V.int)) := hide1_at hT8.c hT8.ne.symm
      refine ⟨t, c, x, cs, p8, l8, hide1 t H8, _, pl, r, u, rows, ra, us, rfl, hT9, if_pos rfl, c0', Y9.under hide1_same, hP0, nm8, lr8, lu8, by omega, fun S Hs p10 l10 H10 Y10 F10 lh10 a10 b10 hT10 => ?_⟩
      have er0 : hide1 t H8 r = some (.dK (refK ra)) := hide1_at er8 rt
      have g0t : hide1 t H8 t = none := if_pos rfl
      generalize hide1 t H8 = G0 at hP0 hL0 c0' Y10 er0 g0t
      have nd := nm8.r.n
      have few := F10.few nm8 lr8 lu8
      have ndS : (S.rows.map (·.1)).Nodup := F10.k.nodup_iff.mpr nd
      have pfew := nm8.few lr8 lu8
      have txt := F10.text nd
      have hP10 := hP0.keep Y10.same
      have eqF : (!decide (V.str (textT S.cols (srt (S.rows.map (·.1))) (fun k => srt ((rowAt S.rows k).map (·.1)))) = V.str (plainT rows us))) = false := by rw [txt, decide_eq_true rfl]; rfl
      obtain ⟨dx, c1, b1, h1, bs1, hs1, A10, _⟩ := id Y10
      refine ⟨_, rfl, x, dx, _, rfl, A10.i, x, G0, S, [], Hs, rfl, Y10, few, ndS, fun H11 s11 => ⟨⟨_, rfl⟩, _, rfl, pl, r, u, rows, ra, us, rfl, hP10.keep s11, pfew, nd, fun H12 s12 => ⟨rfl, _, rfl, ?_⟩⟩⟩
      rw [eqF]
      have s1012 := s11.trans s12
      refine iteF ⟨_, rfl, x, dx, _, rfl, s1012 _ _ A10.i, x, G0, S, [], Hs, rfl, Y10.keep s1012, few, ndS, fun H13 s13 => ⟨⟨_, rfl⟩, _, rfl, pl, r, u, rows, ra, us, rfl, (hP10.keep s1012).keep s13, pfew, nd, fun H14 s14 => ⟨rfl, _, rfl, ?_⟩⟩⟩
      rw [eqF]
      have sm14 := s1012.trans (s13.trans s14)
      have Y14 := Y10.keep sm14
      have hT14 := hT10.keep sm14
      have hP14 := hP10.keep sm14
      refine iteF ?_
      -- begin
      obtain ⟨B14, YB14, sB14, back14⟩ := Y14.call2 hT14 c0' hP14 hL0
      obtain ⟨dx14, c14, b14, h14, bs14, hs14, A14, _⟩ := id YB14
      refine ⟨_, rfl, x, dx14, _, rfl, A14.i, syF_no _ _ _ (by decide +kernel) (by decide +kernel) (by decide +kernel), x, B14, S, [], Hs, rfl, YB14, by decide, fun H15 Y15 => ?_⟩
      obtain ⟨Y15, hT15, hP15⟩ := back14 _ _ _ _ Y15
      refine ⟨fun σ H' => ∃ (z6 z7 : Option V) (p l : Int) (G : Hp) (S' : Ct) (Hs' : List Ct), σ = [some (.ref a), some (.ref t), some (.int (0 + (i : Int))), some (.ref pl), some (.ref kn), some (.ref x), z6, z7, none] ∧ SyG K CC CS G H' x S' [S] Hs' ∧ G c = some (.lst (cs.map V.int)) ∧ PlL G u rows ra us ∧ PlG H' pl r u rows ra us ∧ Tape H' t c cs p l ∧ p ≤ 7000 * (i : Int) + 6900, ?_, ?_⟩
      · have hr15 : Rd H15 r (.dK (refK ra)) := hP15.r
        refine ⟨_, rfl, pl, _, rfl, hP15.gr, fun e he => ⟨r, e, refK ra, rfl, rfl, Rd.keep hr15 (same_new he), upd_same, _, rfl, ite2 (fun hne => ?_) (fun _ => ?_)⟩⟩
        rotate_left
        · have k := same_new (o := .dK []) he
          exact ⟨z6, z7, p10, l10, G0, S, Hs, rfl, Y15.keep k, c0', hL0, hP15.keep k, hT15.keep k, by omega⟩
        have k16 := same_new (o := .dK []) he
        have Y16 := Y15.keep k16
        have hT16 := hT15.keep k16
        have hP16 := hP15.keep k16
        generalize upd H15 e (.dK []) = H16 at Y16 hT16 hP16 ⊢
        have lra : ra.length = rows.length := hP16.len
        have rne : rows ≠ [] := fun z => by
          rw [z] at lra
          rw [List.length_eq_zero_iff.mp lra] at hne
          cases hne
        refine ⟨_, rfl, _, rfl, pl, _, rfl, hP16.gr, r, refK ra, ra.map (·.1), rfl, hP16.r, refK_keys ra, by rw [List.length_map, lra]; omega, fun ys q pq1 pq2 pq3 => ?_⟩
        have k17 := same_new (o := .lst (ys.map V.str)) pq3
        have ly := pq1.length_eq
        rw [List.length_map, lra] at ly
        have ryne : ys.map V.str ≠ [] := fun z => by
          have : ys = [] := List.map_eq_nil_iff.mp z
          rw [this] at ly
          exact rne (List.length_eq_zero_iff.mp ly.symm)
        refine ⟨t, c, q, cs, p10, l10, _, rfl, hT16.keep k17, upd_same, ryne, by rw [List.length_map]; omega, by omega, fun j v p18 l18 H18 hv a18 b18 hT18 hB18 => ?_⟩
        rw [List.getElem?_map] at hv
        obtain ⟨y, hy, rfl⟩ := Option.map_eq_some_iff.mp hv
        have ym : y ∈ rows.map (·.1) := by
          rw [← hP16.keys]
          exact pq1.mem_iff.mp (List.mem_of_getElem? hy)
        have Y18 := (Y16.keep k17).but (hT16.keep k17).d g0t hB18
        have hP18 := (hP16.keep k17).but (hT16.keep k17).d plt rt hB18
        obtain ⟨B18, YB18, sB18, back18⟩ := Y18.call2 hT18 c0' hP18 hL0
        obtain ⟨dx18, c18, b18', h18, bs18, hs18, A18, _⟩ := id YB18
        have lSr : S.rows.length = rows.length := by
          have := F10.k.length_eq
          rwa [List.length_map, List.length_map] at this
        have lSc : S.cons.length = S.rows.length := by
          have := congrArg List.length F10.n
          rwa [List.length_map, List.length_map] at this
        refine ⟨_, rfl, x, dx18, _, rfl, A18.i, syF_no _ _ _ (by decide +kernel) (by decide +kernel) (by decide +kernel), _, rfl, x, B18, S, [S], Hs, y, rfl, YB18, by omega, ndS, by rw [F10.n]; exact ndS, F10.k.mem_iff.mpr ym, by omega, by omega, fun H19 Y19 => ?_⟩
        obtain ⟨Y19, hT19, hP19⟩ := back18 _ _ _ _ Y19
        have er19 := Y19.same _ _ er0
        have ru : u ≠ r := ne_of hL0.u er0 (by intro z; cases z)
        have cr' : c ≠ r := ne_of c0' er0 (by intro z; cases z)
        refine ⟨_, rfl, pl, _, rfl, hP19.gr, r, _, rfl, er19, True.intro, fun oR => ⟨r, oR, rfl, .inl ⟨refK ra, upd_same, fun D hD => ?_⟩⟩⟩
        have kf : ∀ b o, H19 b = some o → b ≠ r → (upd H19 r (.frz oR (.dK (refK ra)))) b = some o := fun b o e n => (upd_ne n).trans e
        have erF : (upd H19 r (.frz oR (.dK (refK ra)))) r = some (.frz oR (.dK (refK ra))) := upd_same
        have YF : SyG K CC CS (hide1 r G0) (upd H19 r (.frz oR (.dK (refK ra)))) x { S with rows := dropRow S.rows y, cons := dropRow S.cons y } [S] (histG [S] Hs S) := (Y19.under hide1_same).but er19 (if_pos rfl) kf
        have hPF : PlG (upd H19 r (.frz oR (.dK (refK ra)))) pl r u rows ra us := ⟨kf _ _ hP19.d plr, .inr ⟨oR, upd_same⟩, Paired.mapP hP19.e fun _ _ z => ⟨z.1, kf _ _ z.2 (ne_of z.2 er19 (by intro z; cases z))⟩, kf _ _ hP19.u ru⟩
        have hTF : Tape (upd H19 r (.frz oR (.dK (refK ra)))) t c cs p18 l18 := ⟨kf _ _ hT19.d rt.symm, kf _ _ hT19.c cr', hT19.n, hT19.m, hT19.p0, hT19.l0⟩
        have hLF : PlL (hide1 r G0) u rows ra us := ⟨Paired.mapP hL0.e fun _ _ z => ⟨z.1, hide1_at z.2 (ne_of z.2 er0 (by intro z; cases z))⟩, hide1_at hL0.u ru⟩
        have cF : hide1 r G0 c = some (.lst (cs.map V.int)) := hide1_at c0' cr'
        generalize upd H19 r (.frz oR (.dK (refK ra))) = Hf at kf erF YF hPF hTF hD ⊢
        have ndra : (ra.map (·.1)).Nodup := by rw [hPF.keys]; exact nd
        refine lc_it (walk_keys (kvs := refK ra)) (fun n H' => ∃ (ps : List Addr), H' D = some (.lst (ps.map V.ref)) ∧ Paired (fun (p : Addr) (kv : Key × V) => H' p = some (.tup [kV kv.1, kv.2])) ps (refK (dropRow (ra.take n) y)) ∧ Same Hf H') ⟨[], upd_same, .nil, same_new hD⟩ (fun n H' _ ⟨_, _, _, sm⟩ => sm _ _ erF) ?_ ?_
        · rintro n v H20 H21 hn ⟨ps, eD, pp, s20⟩ ⟨rfl, kk, vv, hkv, rfl⟩
          obtain ⟨z, dz, hz, rfl, rfl⟩ := refK_at hkv
          have hP20 := hPF.keep s20
          have hvz : valV (refK ra) (Sum.inr z) = some (.ref dz) := by
            refine valV_at ?_ hkv
            rw [refK_keys]
            exact List.pairwise_map.mpr (ndra.imp fun ne e => ne (Sum.inr.inj e))
          have ez : (!decide (V.str z = V.str y)) = (!decide (z = y)) := by
            by_cases c : z = y
            · rw [c, decide_eq_true rfl, decide_eq_true rfl]
            · rw [decide_eq_false (fun e => c (V.str.inj e)), decide_eq_false c]
          have et := drop_snoc (ra.take n) (z, dz) y
          rw [← take_snoc hz] at et
          refine ⟨rfl, _, rfl, _, rfl, rfl, _, rfl, ?_⟩
          show (if (!decide (V.str z = V.str y)) = true then _ else _)
          rw [ez]
          refine ite2 (fun hc => ?_) (fun hc => ?_)
          · rw [if_pos hc] at et
            have lps : ps.length ≤ 24 := by
              have h1 := pair_len pp
              have h2 := drop_len (ra.take n) y
              rw [refK_len] at h1
              rw [List.length_take] at h2
              omega
            refine ⟨_, rfl, _, rfl, pl, _, rfl, hP20.gr, _, rfl, r, .ref dz, rfl, .inl ⟨_, Sum.inr z, hP20.r, rfl, hvz.symm⟩, by show 2 ≤ sizeLine; decide, fun tp htp => ?_⟩
            have kt := same_new (o := .tup [V.str z, .ref dz]) htp
            refine ⟨ps.map V.ref, kt _ _ eD, by rw [List.length_map, sizeLine_eq]; omega, ps ++ [tp], by rw [upd_same, List.map_append]; rfl, ?_, fun b o e => ?_⟩
            · rw [et]
              unfold refK
              rw [List.map_append]
              have nD : ∀ {q : Addr} {xs : List V}, H21 q = some (.tup xs) → q ≠ D := fun e => ne_of e eD (by intro z; cases z)
              refine Paired.snoc (Paired.mapP pp fun _ _ q => (upd_ne (nD q)).trans (kt _ _ q)) ?_
              have tD : tp ≠ D := fun z => by rw [z, eD] at htp; cases htp
              show (upd _ D _) tp = _
              rw [upd_ne tD, upd_same]
            · rw [upd_ne (ne_of_none e hD)]
              exact kt _ _ (s20 _ _ e)
          · rw [if_neg hc, List.append_nil] at et
            rw [et]
            exact ⟨ps, eD, pp, s20⟩
        · rintro H20 ⟨ps, eD, pp, s20⟩
          rw [refK_len, List.take_length] at pp
          refine ⟨D, ps, _, rfl, SqL.of eD, Paired.mapP pp fun _ _ z => SqT.of z, fun dr hdr => ?_⟩
          have ndd : (List.map (fun p : Str × Addr => p.1) ([] ++ dropRow ra y)).Nodup := by
            rw [List.nil_append]
            exact (List.Sublist.map _ List.filter_sublist).nodup ndra
          have em : mergeK [] (refK (dropRow ra y)) = refK (dropRow ra y) := merge_new (acc := []) ndd
          rw [em]
          have s21 := same_new (o := .dK (refK (dropRow ra y))) hdr
          have edr : (upd H20 dr (.dK (refK (dropRow ra y)))) dr = some (.dK (refK (dropRow ra y))) := upd_same
          generalize upd H20 dr (.dK (refK (dropRow ra y))) = H21 at s21 edr ⊢
          have sF := s20.trans s21
          have Y21 := YF.keep sF
          have fewD := (F10.drop y).few (nm8.drop y) (Nat.le_trans (drop_len _ _) lr8) lu8
          have ndD := (nm8.drop y).r.n
          have ndSD : (List.map (fun p : Str × List (Str × Int) => p.1) (dropRow S.rows y)).Nodup := (F10.drop y).k.nodup_iff.mpr ndD
          obtain ⟨dx21, c21, b21, h21, bs21, hs21, A21, _⟩ := id Y21
          refine ⟨_, rfl, x, dx21, _, rfl, A21.i, x, hide1 r G0, _, [S], _, rfl, Y21, fewD, ndSD, fun H22 s22 => ⟨⟨_, rfl⟩, fun pl2 hpl2 => ?_⟩⟩
          have kp2 := same_new (o := .dK []) hpl2
          refine ⟨_, rfl, _, rfl, pl, _, rfl, (((hPF.keep sF).keep s22).keep kp2).gu, upd_same, [(kR, V.ref dr), (kU, V.ref u)], rfl, by show 2 ≤ 15; decide, ?_⟩
          rw [two_merge, upd_upd]
          have s23 : Same H22 (upd H22 pl2 (.dK [(kR, V.ref dr), (kU, V.ref u)])) := same_new hpl2
          have hPF2 := ((hPF.keep sF).keep s22).keep s23
          refine ⟨pl2, dr, u, dropRow rows y, dropRow ra y, us, rfl, ⟨upd_same, .inl (s23 _ _ (s22 _ _ edr)), pair_dropG (fun _ _ z => z.1) hPF2.e, hPF2.u⟩, (nm8.drop y).few (Nat.le_trans (drop_len _ _) lr8) lu8, ndD, fun H24 s24 => ⟨rfl, _, rfl, ?_⟩⟩
          have txD := (F10.drop y).text ndD
          rw [txD, decide_eq_true rfl]
          refine iteF ?_
          have sm := (s22.trans s23).trans s24
          exact ⟨_, _, p18, l18, hide1 r G0, _, _, rfl, Y21.keep sm, cF, hLF, (hPF.keep sF).keep sm, (hTF.keep sF).keep sm, by omega⟩
      · rintro σ H16 ⟨z6', z7', p16, l16, G, S', Hs', rfl, Y16, cG, hLG, hP16, hT16, hp16⟩
        obtain ⟨B16, YB16, sB16, back16⟩ := Y16.call2 hT16 cG hP16 hLG
        obtain ⟨dx16, c16, b16, h16, bs16, hs16, A16, _⟩ := id YB16
        refine ⟨_, rfl, x, dx16, _, rfl, A16.i, syF_no _ _ _ (by decide +kernel) (by decide +kernel) (by decide +kernel), x, B16, S', S, [], Hs', rfl, YB16, fun H17 Y17 => ?_⟩
        obtain ⟨Y17, hT17, hP17⟩ := back16 _ _ _ _ Y17
        obtain ⟨dx17, c17, b17, h17, bs17, hs17, A17, _⟩ := id Y17
        refine ⟨_, rfl, x, dx17, _, rfl, A17.i, x, G, S, [], Hs', rfl, Y17, few, ndS, fun H18 s18 => ⟨⟨_, rfl⟩, _, rfl, pl, r, u, rows, ra, us, rfl, hP17.keep s18, pfew, nd, fun H19 s19 => ⟨rfl, _, rfl, ?_⟩⟩⟩
        rw [eqF]
        exact iteF ⟨p16, l16, _, _, _, _, _, _, rfl, (hT17.keep s18).keep s19, by omega⟩
end
end Bo

set_option Elab.async false
set_option linter.all false
set_option maxRecDepth 100000
set_option maxHeartbeats 16000000
namespace Bo
open PySem L2
/-- what the written part says of the error's class -/
def errB (K : PySem.W.Frag) (C : Addr) : Bool := decide (PySem.W.findIn K (.ref C) "__getattribute__" = some (some (.builtin "BaseException.__getattribute__"))) && (decide (PySem.W.findIn K (.ref C) "__getattr__" = some none) &&
  (decide (PySem.W.subIn K (.ref C) (.type "BaseException") = some true) && (PySem.W.hasDictIn K C && (decide (PySem.W.findIn K (.ref C) "__class__" = some (some (.builtin "object.__class__"))) &&
  (decide (PySem.W.specialIn K (.builtin "object.__class__") "__get__" = some (some (.builtin "getset_descriptor.__get__"))) && (decide (PySem.W.takesIn K (.builtin "object.__class__") = some true) && (decide (PySem.W.mroIn K C (.type "object") = some true) &&
  (decide (PySem.W.typeIn K (.ref C) = some (.type "type")) && (PySem.W.keepIn K (.ref C) && decide (PySem.W.findIn K (.ref C) "__setattr__" = some (some (.builtin "object.__setattr__"))))))))))))
structure ErrF (K : PySem.W.Frag) (C : Addr) : Prop where
  ex : ExcC K C
  xf : XfC K C
  ty : PySem.W.typeIn K (.ref C) = some (.type "type")
  kp : PySem.W.keepIn K (.ref C) = true
  sa : PySem.W.findIn K (.ref C) "__setattr__" = some (some (.builtin "object.__setattr__"))
theorem errF_of {K : PySem.W.Frag} {C : Addr} (h : errB K C = true) : ErrF K C := by
  unfold errB at h
  simp only [Bool.and_eq_true, decide_eq_true_eq] at h
  obtain ⟨d1, d2, d3, d4, d5, d6, d7, d8, d9, d10, d11⟩ := h
  exact ⟨⟨d1, d2, d3, d4, d5, d6, d7, d8⟩, ⟨d1, d2, d3, d4⟩, d9, d10, d11⟩
def OexL (K : PySem.W.Frag) (C : Addr) : Prop := ∃ nm q N bs bm sn sub ab col dd k0 k1 k2 k3 k5, K.lookup C = some (excClassObj nm q C N bs bm true sn sub ab col dd k0 k1 k2 k3 k5 "ValueError.__new__") ∧ PySem.HandSPX.refsVE bm = true
/-- what the written part says of the class's own attributes read from the class -/
def cReadB (K : PySem.W.Frag) (C : Addr) : Bool := PySem.W.readsIn K C (.type "type") && decide (PySem.W.specialIn K (.ref C) "__getattribute__" = some (some (.builtin "type.__getattribute__")))
theorem cRead_of {K : PySem.W.Frag} {C : Addr} (h : cReadB K C = true) : ClX.CRead K C (.type "type") := by
  unfold cReadB at h
  simp only [Bool.and_eq_true, decide_eq_true_eq] at h
  exact ⟨h.1, h.2⟩
theorem all_mk {P : Program} {w : World} {K : PySem.W.Frag} {h : Heap} {mg : Str → Option Value} {fa : Addr} (X : K.In h) (G : h.Ns mainGlobals mg) (hfa : mg "law" = some (.ref fa))
    {CN CC CS fC fN fWU fCU fR fRm fWT fWE fWN fXE fCE fCn fCO fWL fB fD fP fSh fNs fDr fBu fTx fL fIN fCI fSI fTk fAU fAE fAn fRE fBg fRb fSr pO fO : Addr}
    (aN : PySem.W.nsIn K mainGlobals "InvalidName" = some (some (.ref CN)))
    (aC : PySem.W.nsIn K mainGlobals "Contents" = some (some (.ref CC)))
    (aS : PySem.W.nsIn K mainGlobals "System" = some (some (.ref CS)))
    (bfC : PySem.W.nsIn K mainGlobals "copied" = some (some (.ref fC)))
    (bfN : PySem.W.nsIn K mainGlobals "is_name" = some (some (.ref fN)))
    (bfWU : PySem.W.nsIn K mainGlobals "with_unknowns" = some (some (.ref fWU)))
    (bfCU : PySem.W.nsIn K mainGlobals "check_unknowns" = some (some (.ref fCU)))
    (bfR : PySem.W.nsIn K mainGlobals "replaced" = some (some (.ref fR)))
    (bfRm : PySem.W.nsIn K mainGlobals "removed" = some (some (.ref fRm)))
    (bfWT : PySem.W.nsIn K mainGlobals "with_terms" = some (some (.ref fWT)))
    (bfWE : PySem.W.nsIn K mainGlobals "with_equation" = some (some (.ref fWE)))
    (bfWN : PySem.W.nsIn K mainGlobals "with_entry" = some (some (.ref fWN)))
    (bfXE : PySem.W.nsIn K mainGlobals "without_equation" = some (some (.ref fXE)))
    (bfCE : PySem.W.nsIn K mainGlobals "check_equation" = some (some (.ref fCE)))
    (bfCn : PySem.W.nsIn K mainGlobals "check_ends" = some (some (.ref fCn)))
    (bfCO : PySem.W.nsIn K mainGlobals "contents_of" = some (some (.ref fCO)))
    (bfWL : PySem.W.nsIn K mainGlobals "written_lines" = some (some (.ref fWL)))
    (bfB : PySem.W.nsIn K mainGlobals "_law_begin" = some (some (.ref fB)))
    (bfD : PySem.W.nsIn K mainGlobals "_law_draw" = some (some (.ref fD)))
    (bfP : PySem.W.nsIn K mainGlobals "_law_pick" = some (some (.ref fP)))
    (bfSh : PySem.W.nsIn K mainGlobals "_law_shuffled" = some (some (.ref fSh)))
    (bfNs : PySem.W.nsIn K mainGlobals "_law_names" = some (some (.ref fNs)))
    (bfDr : PySem.W.nsIn K mainGlobals "_law_drawn" = some (some (.ref fDr)))
    (bfBu : PySem.W.nsIn K mainGlobals "_law_built" = some (some (.ref fBu)))
    (bfTx : PySem.W.nsIn K mainGlobals "_law_text" = some (some (.ref fTx)))
    (bfL : PySem.W.nsIn K mainGlobals "law" = some (some (.ref fL)))
    (dfIN : PySem.W.findIn K (.ref CN) "__init__" = some (some (.ref fIN)))
    (dfCI : PySem.W.findIn K (.ref CC) "__init__" = some (some (.ref fCI)))
    (dfSI : PySem.W.findIn K (.ref CS) "__init__" = some (some (.ref fSI)))
    (dfTk : PySem.W.findIn K (.ref CS) "_take" = some (some (.ref fTk)))
    (dfAU : PySem.W.findIn K (.ref CS) "add_unknown" = some (some (.ref fAU)))
    (dfAE : PySem.W.findIn K (.ref CS) "add_equation" = some (some (.ref fAE)))
    (dfAn : PySem.W.findIn K (.ref CS) "add_entry" = some (some (.ref fAn)))
    (dfRE : PySem.W.findIn K (.ref CS) "remove_equation" = some (some (.ref fRE)))
    (dfBg : PySem.W.findIn K (.ref CS) "begin" = some (some (.ref fBg)))
    (dfRb : PySem.W.findIn K (.ref CS) "rollback" = some (some (.ref fRb)))
    (dfSr : PySem.W.findIn K (.ref CS) "__str__" = some (some (.ref fSr)))
    (cO : PySem.W.findCls K (.ref CS) (.type "type") "of" = some (.get (.builtin "classmethod.__get__") (.ref pO) .none (.ref CS)))
    (rO : ∃ rest, PySem.W.recIn K pO "classmethod" = some (.ref fO :: rest))
    (hfC : ∃ fd, Fun K "copied" "copied" sCopied fC fd)
    (hfN : ∃ fd, Fun K "is_name" "is_name" sIsName fN fd)
    (hfWU : ∃ fd, Fun K "with_unknowns" "with_unknowns" sWU fWU fd)
    (hfCU : ∃ fd, Fun K "check_unknowns" "check_unknowns" sCU fCU fd)
    (hfR : ∃ fd, Fun K "replaced" "replaced" sReplaced fR fd)
    (hfRm : ∃ fd, Fun K "removed" "removed" sRem fRm fd)
    (hfWT : ∃ fd, Fun K "with_terms" "with_terms" sWT fWT fd)
    (hfWE : ∃ fd, Fun K "with_equation" "with_equation" sWE fWE fd)
    (hfWN : ∃ fd, Fun K "with_entry" "with_entry" sWEn fWN fd)
    (hfXE : ∃ fd, Fun K "without_equation" "without_equation" sWoE fXE fd)
    (hfCE : ∃ fd, Fun K "check_equation" "check_equation" sCE fCE fd)
    (hfCn : ∃ fd, Fun K "check_ends" "check_ends" sCEnds fCn fd)
    (hfCO : ∃ fd, Fun K "contents_of" "contents_of" sCOf fCO fd)
    (hfWL : ∃ fd, Fun K "written_lines" "written_lines" sWL fWL fd)
    (hfB : ∃ fd, Fun K "_law_begin" "_law_begin" sBegin fB fd)
    (hfD : ∃ fd, Fun K "_law_draw" "_law_draw" sDraw fD fd)
    (hfP : ∃ fd, Fun K "_law_pick" "_law_pick" sPick fP fd)
    (hfSh : ∃ fd, Fun K "_law_shuffled" "_law_shuffled" sShuf fSh fd)
    (hfNs : ∃ fd, Fun K "_law_names" "_law_names" sNames fNs fd)
    (hfDr : ∃ fd, Fun K "_law_drawn" "_law_drawn" sDrawn fDr fd)
    (hfBu : ∃ fd, Fun K "_law_built" "_law_built" sBuilt fBu fd)
    (hfTx : ∃ fd, Fun K "_law_text" "_law_text" sText fTx fd)
    (hfL : ∃ fd, Fun K "law" "law" sLaw fL fd)
    (hfIN : ∃ fd, Fun K "__init__" "InvalidName.__init__" sI5 fIN fd)
    (hfCI : ∃ fd, Fun K "__init__" "Contents.__init__" sCtInit fCI fd)
    (hfSI : ∃ fd, Fun K "__init__" "System.__init__" sSInit fSI fd)
    (hfTk : ∃ fd, Fun K "_take" "System._take" sTake fTk fd)
    (hfAU : ∃ fd, Fun K "add_unknown" "System.add_unknown" sAU fAU fd)
    (hfAE : ∃ fd, Fun K "add_equation" "System.add_equation" sAE fAE fd)
    (hfAn : ∃ fd, Fun K "add_entry" "System.add_entry" sAEn fAn fd)
    (hfRE : ∃ fd, Fun K "remove_equation" "System.remove_equation" sRmE fRE fd)
    (hfBg : ∃ fd, Fun K "begin" "System.begin" sBg fBg fd)
    (hfRb : ∃ fd, Fun K "rollback" "System.rollback" sRb fRb fd)
    (hfSr : ∃ fd, Fun K "__str__" "System.__str__" sStr fSr fd)
    (hO : ∃ fd, Fun K "of" "System.of" sOf fO fd)
    (iO : PySem.W.fnIn K fO = true)
    (cR : cReadB K CS = true)
    (kCC : PySem.W.plainGet K CC Str.empty = true ∧ PySem.W.hasDictIn K CC = true ∧ PySem.W.plainOver K CC = true ∧ PySem.W.findIn K (.ref CC) "__setattr__" = some (some (.builtin "object.__setattr__")))
    (mCC : PySem.W.makesIn K CC = true ∧ PySem.W.keepIn K (.ref CC) = true)
    (kCS : PySem.W.plainGet K CS Str.empty = true ∧ PySem.W.hasDictIn K CS = true ∧ PySem.W.plainOver K CS = true ∧ PySem.W.findIn K (.ref CS) "__setattr__" = some (some (.builtin "object.__setattr__")))
    (mCS : PySem.W.makesIn K CS = true ∧ PySem.W.keepIn K (.ref CS) = true)
    (nC0 : PySem.W.findIn K (.ref CC) "columns" = some none)
    (nC1 : PySem.W.findIn K (.ref CC) "rows" = some none)
    (nC2 : PySem.W.findIn K (.ref CC) "constants" = some none)
    (nS0 : PySem.W.findIn K (.ref CS) "_contents" = some none)
    (nS1 : PySem.W.findIn K (.ref CS) "_begun" = some none)
    (nS2 : PySem.W.findIn K (.ref CS) "_history" = some none)
    (ifCI : PySem.W.isFn K (.ref fCI) = true)
    (ifSI : PySem.W.isFn K (.ref fSI) = true)
    (ifTk : PySem.W.isFn K (.ref fTk) = true)
    (ifAU : PySem.W.isFn K (.ref fAU) = true)
    (ifAE : PySem.W.isFn K (.ref fAE) = true)
    (ifAn : PySem.W.isFn K (.ref fAn) = true)
    (ifRE : PySem.W.isFn K (.ref fRE) = true)
    (ifBg : PySem.W.isFn K (.ref fBg) = true)
    (ifRb : PySem.W.isFn K (.ref fRb) = true)
    (ifSr : PySem.W.isFn K (.ref fSr) = true)
    (tyI : PySem.W.typeIn K (.ref fIN) = some (.type "function"))
    (oN : OexL K CN)
    (noN : PySem.W.findIn K (.ref CN) "name" = some none)
    (cl : errB K CN = true)
    (lin : PySem.W.findIn K (.ref CS) "LINEAR" = some (some (.bool false)))
    (lng : PySem.W.specialIn K (.bool false) "__get__" = some none)
    (lL : ∃ t, PySem.W.nsIn K mainGlobals "LETTERS" = some (some (.str lets t)))
    (lD : ∃ t, PySem.W.nsIn K mainGlobals "DIGITS" = some (some (.str digs t)))
    (lO : ∃ t, PySem.W.nsIn K mainGlobals "LONGEST_NAME" = some (some (.int 8 t)))
    (lM : ∃ t, PySem.W.nsIn K mainGlobals "MOST" = some (some (.int 24 t)))
    (z_isinstance : PySem.W.nsIn K mainGlobals "isinstance" = some none)
    (z_tuple : PySem.W.nsIn K mainGlobals "tuple" = some none)
    (z_list : PySem.W.nsIn K mainGlobals "list" = some none)
    (z_dict : PySem.W.nsIn K mainGlobals "dict" = some none)
    (z_len : PySem.W.nsIn K mainGlobals "len" = some none)
    (z_str : PySem.W.nsIn K mainGlobals "str" = some none)
    (z_all : PySem.W.nsIn K mainGlobals "all" = some none)
    (z_set : PySem.W.nsIn K mainGlobals "set" = some none)
    (z_sorted : PySem.W.nsIn K mainGlobals "sorted" = some none)
    (z_enumerate : PySem.W.nsIn K mainGlobals "enumerate" = some none)
    (z_range : PySem.W.nsIn K mainGlobals "range" = some none)
    (z_min : PySem.W.nsIn K mainGlobals "min" = some none)
    : ∃ fd : FuncData, (∀ (s : Shared) (u : Value), BindsTo s fd ⟨[u], []⟩ [("_law_script", u)]) ∧
      ∀ base : Heap, K.In base → base.Ns mainGlobals mg → FnOk P w K mg base CX0 9 fa fd ["_law_script"] (spLaw K) := by
  have e := hfa.symm.trans (PySem.W.mg_of X G bfL)
  cases e
  obtain ⟨fd_fC, F_fC⟩ := hfC
  obtain ⟨fd_fN, F_fN⟩ := hfN
  obtain ⟨fd_fWU, F_fWU⟩ := hfWU
  obtain ⟨fd_fCU, F_fCU⟩ := hfCU
  obtain ⟨fd_fR, F_fR⟩ := hfR
  obtain ⟨fd_fRm, F_fRm⟩ := hfRm
  obtain ⟨fd_fWT, F_fWT⟩ := hfWT
  obtain ⟨fd_fWE, F_fWE⟩ := hfWE
  obtain ⟨fd_fWN, F_fWN⟩ := hfWN
  obtain ⟨fd_fXE, F_fXE⟩ := hfXE
  obtain ⟨fd_fCE, F_fCE⟩ := hfCE
  obtain ⟨fd_fCn, F_fCn⟩ := hfCn
  obtain ⟨fd_fCO, F_fCO⟩ := hfCO
  obtain ⟨fd_fWL, F_fWL⟩ := hfWL
  obtain ⟨fd_fB, F_fB⟩ := hfB
  obtain ⟨fd_fD, F_fD⟩ := hfD
  obtain ⟨fd_fP, F_fP⟩ := hfP
  obtain ⟨fd_fSh, F_fSh⟩ := hfSh
  obtain ⟨fd_fNs, F_fNs⟩ := hfNs
  obtain ⟨fd_fDr, F_fDr⟩ := hfDr
  obtain ⟨fd_fBu, F_fBu⟩ := hfBu
  obtain ⟨fd_fTx, F_fTx⟩ := hfTx
  obtain ⟨fd_fL, F_fL⟩ := hfL
  obtain ⟨fd_fIN, F_fIN⟩ := hfIN
  obtain ⟨fd_fCI, F_fCI⟩ := hfCI
  obtain ⟨fd_fSI, F_fSI⟩ := hfSI
  obtain ⟨fd_fTk, F_fTk⟩ := hfTk
  obtain ⟨fd_fAU, F_fAU⟩ := hfAU
  obtain ⟨fd_fAE, F_fAE⟩ := hfAE
  obtain ⟨fd_fAn, F_fAn⟩ := hfAn
  obtain ⟨fd_fRE, F_fRE⟩ := hfRE
  obtain ⟨fd_fBg, F_fBg⟩ := hfBg
  obtain ⟨fd_fRb, F_fRb⟩ := hfRb
  obtain ⟨fd_fSr, F_fSr⟩ := hfSr
  obtain ⟨fd_fO, F_fO⟩ := hO
  have B_fC := F_fC.binds (ps := ["thing"]) fun _ _ _ _ _ _ us hl => match us, hl with | [_], _ => rfl
  have B_fN := F_fN.binds (ps := ["thing"]) fun _ _ _ _ _ _ us hl => match us, hl with | [_], _ => rfl
  have B_fWU := F_fWU.binds (ps := ["contents", "names"]) fun _ _ _ _ _ _ us hl => match us, hl with | [_, _], _ => rfl
  have B_fCU := F_fCU.binds (ps := ["known", "unknowns"]) fun _ _ _ _ _ _ us hl => match us, hl with | [_, _], _ => rfl
  have B_fR := F_fR.binds (ps := ["table", "key", "thing"]) fun _ _ _ _ _ _ us hl => match us, hl with | [_, _, _], _ => rfl
  have B_fRm := F_fRm.binds (ps := ["table", "key"]) fun _ _ _ _ _ _ us hl => match us, hl with | [_, _], _ => rfl
  have B_fWT := F_fWT.binds (ps := ["contents", "name", "constant", "terms"]) fun _ _ _ _ _ _ us hl => match us, hl with | [_, _, _, _], _ => rfl
  have B_fWE := F_fWE.binds (ps := ["contents", "name", "unknowns"]) fun _ _ _ _ _ _ us hl => match us, hl with | [_, _, _], _ => rfl
  have B_fWN := F_fWN.binds (ps := ["contents", "equation", "unknown"]) fun _ _ _ _ _ _ us hl => match us, hl with | [_, _, _], _ => rfl
  have B_fXE := F_fXE.binds (ps := ["contents", "name"]) fun _ _ _ _ _ _ us hl => match us, hl with | [_, _], _ => rfl
  have B_fCE := F_fCE.binds (ps := ["contents", "equation"]) fun _ _ _ _ _ _ us hl => match us, hl with | [_, _], _ => rfl
  have B_fCn := F_fCn.binds (ps := ["contents", "equation", "unknown"]) fun _ _ _ _ _ _ us hl => match us, hl with | [_, _, _], _ => rfl
  have B_fCO := F_fCO.binds (ps := ["texts"]) fun _ _ _ _ _ _ us hl => match us, hl with | [_], _ => rfl
  have B_fWL := F_fWL.binds (ps := ["contents", "linear"]) fun _ _ _ _ _ _ us hl => match us, hl with | [_, _], _ => rfl
  have B_fB := F_fB.binds (ps := ["_law_script"]) fun _ _ _ _ _ _ us hl => match us, hl with | [_], _ => rfl
  have B_fD := F_fD.binds (ps := ["_law_tape", "_law_many"]) fun _ _ _ _ _ _ us hl => match us, hl with | [_, _], _ => rfl
  have B_fP := F_fP.binds (ps := ["_law_tape", "_law_items"]) fun _ _ _ _ _ _ us hl => match us, hl with | [_, _], _ => rfl
  have B_fSh := F_fSh.binds (ps := ["_law_tape", "_law_items"]) fun _ _ _ _ _ _ us hl => match us, hl with | [_, _], _ => rfl
  have B_fNs := F_fNs.binds (ps := ["_law_tape", "_law_many"]) fun _ _ _ _ _ _ us hl => match us, hl with | [_, _], _ => rfl
  have B_fDr := F_fDr.binds (ps := ["_law_tape", "_law_most"]) fun _ _ _ _ _ _ us hl => match us, hl with | [_, _], _ => rfl
  have B_fBu := F_fBu.binds (ps := ["_law_tape", "_law_system", "_law_plain"]) fun _ _ _ _ _ _ us hl => match us, hl with | [_, _, _], _ => rfl
  have B_fTx := F_fTx.binds (ps := ["_law_plain"]) fun _ _ _ _ _ _ us hl => match us, hl with | [_], _ => rfl
  have B_fL := F_fL.binds (ps := ["_law_script"]) fun _ _ _ _ _ _ us hl => match us, hl with | [_], _ => rfl
  have B_fIN := F_fIN.binds (ps := ["self", "name"]) fun _ _ _ _ _ _ us hl => match us, hl with | [_, _], _ => rfl
  have B_fCI := F_fCI.binds (ps := ["self", "columns", "rows", "constants"]) fun _ _ _ _ _ _ us hl => match us, hl with | [_, _, _, _], _ => rfl
  have B_fSI := F_fSI.binds (ps := ["self"]) fun _ _ _ _ _ _ us hl => match us, hl with | [_], _ => rfl
  have B_fTk := F_fTk.binds (ps := ["self", "contents"]) fun _ _ _ _ _ _ us hl => match us, hl with | [_, _], _ => rfl
  have B_fAn := F_fAn.binds (ps := ["self", "equation", "unknown"]) fun _ _ _ _ _ _ us hl => match us, hl with | [_, _, _], _ => rfl
  have B_fRE := F_fRE.binds (ps := ["self", "name"]) fun _ _ _ _ _ _ us hl => match us, hl with | [_, _], _ => rfl
  have B_fBg := F_fBg.binds (ps := ["self"]) fun _ _ _ _ _ _ us hl => match us, hl with | [_], _ => rfl
  have B_fRb := F_fRb.binds (ps := ["self"]) fun _ _ _ _ _ _ us hl => match us, hl with | [_], _ => rfl
  have B_fSr := F_fSr.binds (ps := ["self"]) fun _ _ _ _ _ _ us hl => match us, hl with | [_], _ => rfl
  have m_fC := PySem.W.mg_of X G bfC
  have m_fN := PySem.W.mg_of X G bfN
  have m_fWU := PySem.W.mg_of X G bfWU
  have m_fCU := PySem.W.mg_of X G bfCU
  have m_fR := PySem.W.mg_of X G bfR
  have m_fRm := PySem.W.mg_of X G bfRm
  have m_fWT := PySem.W.mg_of X G bfWT
  have m_fWE := PySem.W.mg_of X G bfWE
  have m_fWN := PySem.W.mg_of X G bfWN
  have m_fXE := PySem.W.mg_of X G bfXE
  have m_fCE := PySem.W.mg_of X G bfCE
  have m_fCn := PySem.W.mg_of X G bfCn
  have m_fCO := PySem.W.mg_of X G bfCO
  have m_fWL := PySem.W.mg_of X G bfWL
  have m_fB := PySem.W.mg_of X G bfB
  have m_fD := PySem.W.mg_of X G bfD
  have m_fP := PySem.W.mg_of X G bfP
  have m_fSh := PySem.W.mg_of X G bfSh
  have m_fNs := PySem.W.mg_of X G bfNs
  have m_fDr := PySem.W.mg_of X G bfDr
  have m_fBu := PySem.W.mg_of X G bfBu
  have m_fTx := PySem.W.mg_of X G bfTx
  have m_fL := PySem.W.mg_of X G bfL
  have n_isinstance := PySem.W.mg_none_of X G z_isinstance
  have n_tuple := PySem.W.mg_none_of X G z_tuple
  have n_list := PySem.W.mg_none_of X G z_list
  have n_dict := PySem.W.mg_none_of X G z_dict
  have n_len := PySem.W.mg_none_of X G z_len
  have n_str := PySem.W.mg_none_of X G z_str
  have n_all := PySem.W.mg_none_of X G z_all
  have n_set := PySem.W.mg_none_of X G z_set
  have n_sorted := PySem.W.mg_none_of X G z_sorted
  have n_enumerate := PySem.W.mg_none_of X G z_enumerate
  have n_range := PySem.W.mg_none_of X G z_range
  have n_min := PySem.W.mg_none_of X G z_min
  have cf := errF_of cl
  have ox : OexC K CN := ⟨oN, cf.sa, cf.ex.hs, cf.ty, cf.kp⟩
  have TC : TxtC mg := ⟨n_isinstance, n_tuple, n_list, n_dict⟩
  obtain ⟨t1, lL⟩ := lL
  obtain ⟨t2, lD⟩ := lD
  obtain ⟨t3, lO⟩ := lO
  obtain ⟨t4, lM⟩ := lM
  have TN : TxtN mg := ⟨TC, ⟨t1, PySem.W.mg_of X G lL⟩, ⟨t2, PySem.W.mg_of X G lD⟩, ⟨t3, PySem.W.mg_of X G lO⟩, n_len, n_str, n_all⟩
  have TCt : CtT K mg CC fCI := { cl := ⟨kCC.1, kCC.2.1, kCC.2.2.1, kCC.2.2.2⟩, mkC := ⟨mCC.1, dfCI, ifCI, mCC.2⟩, g := PySem.W.mg_of X G aC, n1 := nC0, n2 := nC1, n3 := nC2 }
  have TE : ErrC K CN fIN "name" := ⟨ox, dfIN, tyI, noN⟩
  have TS : TxtS K mg CC fCI CN fIN := { toTxtN := TN, ct := TCt, en := TE, gN := PySem.W.mg_of X G aN, set_ := n_set, srt := n_sorted, most := ⟨t4, PySem.W.mg_of X G lM⟩ }
  have TY : SysT K mg CS fSI fTk := { cl := ⟨kCS.1, kCS.2.1, kCS.2.2.1, kCS.2.2.2⟩, mkC := ⟨mCS.1, dfSI, ifSI, mCS.2⟩, g := PySem.W.mg_of X G aS, n1 := nS0, n2 := nS1, n3 := nS2, tk := ⟨dfTk, ifTk, F_fTk.kp⟩ }
  have TP : TxtP mg := ⟨n_tuple, n_sorted⟩
  have TB : TxtB mg := ⟨n_len⟩
  have TSh : TxtSh mg := ⟨n_len, n_list⟩
  have TW : TxtW mg := ⟨n_sorted⟩
  have TZ : TxtZ mg := ⟨n_range, n_min, n_len, n_list, n_sorted, n_dict, n_str⟩
  have CL : Con K CS "LINEAR" (.bl false) (.bool false) := ⟨lin, rfl, lng, by decide⟩
  have CM : ClX.CMet K CS (.type "type") "of" pO fO := ⟨cO, rO, iO⟩
  refine ⟨fd_fL, ?_, fun base hK hG => ?_⟩
  · obtain ⟨oc, od, kV, doc, pm, an, cdv, ct, osl, rfl, _, _⟩ := F_fL.ex
    exact fun s v => .of_eq rfl
  · have GC : FnOk P w K mg base CX0 2 fC fd_fC ["thing"] (spCopy K) := ok_copy F_fC TC m_fC B_fC
    have GI : FnOk P w K mg base CX0 3 fIN fd_fIN ["self", "name"] (spInit K "name") := ok_i5 F_fIN GC m_fC F_fC.kp B_fC
    have GN : FnOk P w K mg base CX0 1 fN fd_fN ["thing"] (spIsName K) := ok_isName F_fN TN
    have GCI : FnOk P w K mg base CX0 1 fCI fd_fCI ["self", "columns", "rows", "constants"] (spCtInit CC) := ok_ctInit F_fCI TCt
    have GWU : FnOk P w K mg base (L2.CX P w) 5 fWU fd_fWU ["contents", "names"] (spWU K CC CN) := ok_wu F_fWU TS GN m_fN F_fN.kp B_fN GCI B_fCI GI B_fIN
    have GCU : FnOk P w K mg base CX0 1 fCU fd_fCU ["known", "unknowns"] spCU0 := ok_cu0 F_fCU n_enumerate
    have GCU1 : FnOk P w K mg base CX0 1 fCU fd_fCU ["known", "unknowns"] (spCU1 K) := ok_cu1 F_fCU n_enumerate
    have GR : FnOk P w K mg base CX0 1 fR fd_fR ["table", "key", "thing"] spReplaced := ok_replaced F_fR
    have GRm : FnOk P w K mg base CX0 1 fRm fd_fRm ["table", "key"] spRemoved := ok_removed F_fRm
    have GWT : FnOk P w K mg base (L2.CX P w) 5 fWT fd_fWT ["contents", "name", "constant", "terms"] (spWT K CC CN) := ok_wt F_fWT TS GN m_fN F_fN.kp B_fN GCU m_fCU F_fCU.kp B_fCU GR m_fR F_fR.kp B_fR GCI B_fCI GI B_fIN
    have GWE : FnOk P w K mg base (L2.CX P w) 6 fWE fd_fWE ["contents", "name", "unknowns"] (spWE K CC CN) := ok_we F_fWE GWT m_fWT F_fWT.kp B_fWT
    have GCE : FnOk P w K mg base CX0 1 fCE fd_fCE ["contents", "equation"] (spCE K CC) := ok_ce F_fCE TCt n_list
    have GCn : FnOk P w K mg base CX0 2 fCn fd_fCn ["contents", "equation", "unknown"] (spCEnds K CC) := ok_cends F_fCn TCt GCE m_fCE F_fCE.kp B_fCE GCU1 m_fCU F_fCU.kp B_fCU
    have GWN : FnOk P w K mg base CX0 3 fWN fd_fWN ["contents", "equation", "unknown"] (spWEn K CC) := ok_wen F_fWN TCt GCn m_fCn F_fCn.kp B_fCn GR m_fR F_fR.kp B_fR GCI B_fCI
    have GXE : FnOk P w K mg base CX0 3 fXE fd_fXE ["contents", "name"] (spWoE K CC) := ok_woe F_fXE TCt GCE m_fCE F_fCE.kp B_fCE GRm m_fRm F_fRm.kp B_fRm GCI B_fCI
    have GTk : FnOk P w K mg base CX0 1 fTk fd_fTk ["self", "contents"] (spTakeG K CC CS) := ok_takeG F_fTk TY
    have GSI : FnOk P w K mg base CX0 3 fSI fd_fSI ["self"] (spSInitG K CC CS) := ok_sInitG F_fSI TY TCt GCI B_fCI
    have GAU : FnR P w K mg base CX0 6 fAU (spAUG K CC CS) := ok_auG F_fAU TY TCt GTk B_fTk GWU m_fWU F_fWU.kp B_fWU
    have GAE : FnR P w K mg base CX0 7 fAE (spAEG K CC CS) := ok_aeG F_fAE TY TCt GTk B_fTk GWE m_fWE F_fWE.kp B_fWE
    have GAn : FnOk P w K mg base CX0 4 fAn fd_fAn ["self", "equation", "unknown"] (spAEnG K CC CS) := ok_aenG F_fAn TY GTk B_fTk GWN m_fWN F_fWN.kp B_fWN
    have GRE : FnOk P w K mg base CX0 4 fRE fd_fRE ["self", "name"] (spRmEG K CC CS) := ok_rmeG F_fRE TY GTk B_fTk GXE m_fXE F_fXE.kp B_fXE
    have GBg : FnOk P w K mg base CX0 1 fBg fd_fBg ["self"] (spBg K CC CS) := ok_bg F_fBg TY
    have GRb : FnOk P w K mg base CX0 1 fRb fd_fRb ["self"] (spRb K CC CS) := ok_rb F_fRb TY
    have GWL : FnOk P w K mg base CX0 1 fWL fd_fWL ["contents", "linear"] (spWL K CC) := ok_wl F_fWL TCt TP
    have GSr : FnOk P w K mg base CX0 2 fSr fd_fSr ["self"] (spStr K CC CS) := ok_str F_fSr TY GWL m_fWL F_fWL.kp B_fWL CL
    have GTx : FnOk P w K mg base CX0 1 fTx fd_fTx ["_law_plain"] spText := ok_text F_fTx TW
    have GCO : FnOk P w K mg base CX0 3 fCO fd_fCO ["texts"] (spCOf K CC) := ok_cof F_fCO TCt TP GCI B_fCI
    have hb : ∀ (u : Value) (ws : List Value), ws.length = (["qq"] : List Str).length → bindArgs fd_fO ⟨[u], (["qq"] : List Str).zip ws⟩ =
        ((alloc ({ cls := .type "dict", data := .dict #[] } : Obj) : Sem Addr) >>= fun d => (forIn ((["qq"] : List Str).zip ws) PUnit.unit fun x _ => (nsSet d x.1 x.2 >>= fun _ => pure (ForInStep.yield PUnit.unit))) >>= fun _ => pure [(Str.ofString "cls", u), (Str.ofString "equations", Value.ref d)]) := by
      obtain ⟨oc, od, kV, doc, pm, an, cdv, ct, osl, rfl, _, _⟩ := F_fO.ex
      intro u ws hl
      match ws, hl with
      | [x], _ => rfl
    have GO := ok_of ["qq"] (by decide) (by decide) F_fO TY GSI B_fSI GCO m_fCO F_fCO.kp B_fCO hb
    have GB : FnOk P w K mg base CX0 1 fB fd_fB ["_law_script"] (spBegin K) := ok_begin F_fB
    have GD : FnOk P w K mg base CX0 1 fD fd_fD ["_law_tape", "_law_many"] spDraw := ok_draw F_fD TB
    have GP : FnOk P w K mg base CX0 2 fP fd_fP ["_law_tape", "_law_items"] spPick := ok_pick F_fP TB GD m_fD F_fD.kp B_fD
    have GPS : FnOk P w K mg base CX0 2 fP fd_fP ["_law_tape", "_law_items"] spPickS := ok_pickS F_fP TB GD m_fD F_fD.kp B_fD
    have GSh : FnOk P w K mg base CX0 2 fSh fd_fSh ["_law_tape", "_law_items"] (spShuf K) := ok_shuf F_fSh TSh GD m_fD F_fD.kp B_fD
    have GNs : FnOk P w K mg base CX0 3 fNs fd_fNs ["_law_tape", "_law_many"] spNames := ok_names F_fNs TSh n_range GD m_fD F_fD.kp B_fD GP GPS m_fP F_fP.kp B_fP
    have GDr : FnOk P w K mg base CX0 4 fDr fd_fDr ["_law_tape", "_law_most"] spDrawn := ok_drawn F_fDr GD m_fD F_fD.kp B_fD GP m_fP F_fP.kp B_fP GNs m_fNs F_fNs.kp B_fNs GSh m_fSh F_fSh.kp B_fSh
    have GBu : FnOk P w K mg base CX0 8 fBu fd_fBu ["_law_tape", "_law_system", "_law_plain"] (spBuilt K CC CS) := ok_built F_fBu TY n_list GSh m_fSh F_fSh.kp B_fSh GAU ⟨dfAU, ifAU, F_fAU.kp⟩ GAE ⟨dfAE, ifAE, F_fAE.kp⟩ GAn ⟨dfAn, ifAn, F_fAn.kp⟩ B_fAn
    exact ok_law F_fL TY TZ GB m_fB F_fB.kp B_fB GD m_fD F_fD.kp B_fD GP m_fP F_fP.kp B_fP GDr m_fDr F_fDr.kp B_fDr GBu m_fBu F_fBu.kp B_fBu GTx m_fTx F_fTx.kp B_fTx GSI B_fSI GSr B_fSr dfSr ifSr GBg ⟨dfBg, ifBg, F_fBg.kp⟩ B_fBg GRb ⟨dfRb, ifRb, F_fRb.kp⟩ B_fRb GRE ⟨dfRE, ifRE, F_fRE.kp⟩ B_fRE (cRead_of cR) CM GO
end Bo

set_option Elab.async false
set_option linter.all false
open PySem PySem.W PyProof.Rows
set_option maxRecDepth 100000 in
set_option maxHeartbeats 0 in
theorem PySem.Challenge.cw_blockorder_k36_written_forms_holds : PySem.Challenge.rw_blockorder_k36_written_forms.Holds := by
  w_on; o_law; k_head; (case hw => w_witness2)
  k_fill
  refine L2.walk_of (l := PySem.Challenge.rw_blockorder_k36_written_forms) (n := 63) (k := 9) (x := "_law_script") (CX := fun _ => L2.CX0) (sp := fun w => Bo.spLaw _) rfl (by decide) rfl ⟨rfl, by decide, by decide⟩ (fun w h Y => PySem.W.kIn_of Y) ?F (fun _ _ a ns hl _ hS => ⟨a, ns, rfl, hS, hl, fun _ => rfl⟩) fun _ _ _ _ _ z => z
  case F =>
    intro w mg fa h KX G hmg
    refine' Bo.all_mk KX G hmg ?aN ?aC ?aS ?bfC ?bfN ?bfWU ?bfCU ?bfR ?bfRm ?bfWT ?bfWE ?bfWN ?bfXE ?bfCE ?bfCn ?bfCO ?bfWL ?bfB ?bfD ?bfP ?bfSh ?bfNs ?bfDr ?bfBu ?bfTx ?bfL ?dfIN ?dfCI ?dfSI ?dfTk ?dfAU ?dfAE ?dfAn ?dfRE ?dfBg ?dfRb ?dfSr ?cO ?rO ?hfC ?hfN ?hfWU ?hfCU ?hfR ?hfRm ?hfWT ?hfWE ?hfWN ?hfXE ?hfCE ?hfCn ?hfCO ?hfWL ?hfB ?hfD ?hfP ?hfSh ?hfNs ?hfDr ?hfBu ?hfTx ?hfL ?hfIN ?hfCI ?hfSI ?hfTk ?hfAU ?hfAE ?hfAn ?hfRE ?hfBg ?hfRb ?hfSr ?hO ?iO ?cR ?kCC ?mCC ?kCS ?mCS ?nC0 ?nC1 ?nC2 ?nS0 ?nS1 ?nS2 ?ifCI ?ifSI ?ifTk ?ifAU ?ifAE ?ifAn ?ifRE ?ifBg ?ifRb ?ifSr ?tyI ?oN ?noN ?cl ?lin ?lng ?lL ?lD ?lO ?lM ?z_isinstance ?z_tuple ?z_list ?z_dict ?z_len ?z_str ?z_all ?z_set ?z_sorted ?z_enumerate ?z_range ?z_min
    (case aN => k_is)
    (case aC => k_is)
    (case aS => k_is)
    (case bfC => k_is)
    (case bfN => k_is)
    (case bfWU => k_is)
    (case bfCU => k_is)
    (case bfR => k_is)
    (case bfRm => k_is)
    (case bfWT => k_is)
    (case bfWE => k_is)
    (case bfWN => k_is)
    (case bfXE => k_is)
    (case bfCE => k_is)
    (case bfCn => k_is)
    (case bfCO => k_is)
    (case bfWL => k_is)
    (case bfB => k_is)
    (case bfD => k_is)
    (case bfP => k_is)
    (case bfSh => k_is)
    (case bfNs => k_is)
    (case bfDr => k_is)
    (case bfBu => k_is)
    (case bfTx => k_is)
    (case bfL => k_is)
    (case dfIN => k_is)
    (case dfCI => k_is)
    (case dfSI => k_is)
    (case dfTk => k_is)
    (case dfAU => k_is)
    (case dfAE => k_is)
    (case dfAn => k_is)
    (case dfRE => k_is)
    (case dfBg => k_is)
    (case dfRb => k_is)
    (case dfSr => k_is)
    (case cO => k_is)
    (case rO => exact ⟨_, by k_is⟩)
    (case hfC => exact ⟨_, L2.fun_mk (by k_is) (by k_is) (by k_is)⟩)
    (case hfN => exact ⟨_, L2.fun_mk (by k_is) (by k_is) (by k_is)⟩)
    (case hfWU => exact ⟨_, L2.fun_mk (by k_is) (by k_is) (by k_is)⟩)
    (case hfCU => exact ⟨_, L2.fun_mk (by k_is) (by k_is) (by k_is)⟩)
    (case hfR => exact ⟨_, L2.fun_mk (by k_is) (by k_is) (by k_is)⟩)
    (case hfRm => exact ⟨_, L2.fun_mk (by k_is) (by k_is) (by k_is)⟩)
    (case hfWT => exact ⟨_, L2.fun_mk (by k_is) (by k_is) (by k_is)⟩)
    (case hfWE => exact ⟨_, L2.fun_mk (by k_is) (by k_is) (by k_is)⟩)
    (case hfWN => exact ⟨_, L2.fun_mk (by k_is) (by k_is) (by k_is)⟩)
    (case hfXE => exact ⟨_, L2.fun_mk (by k_is) (by k_is) (by k_is)⟩)
    (case hfCE => exact ⟨_, L2.fun_mk (by k_is) (by k_is) (by k_is)⟩)
    (case hfCn => exact ⟨_, L2.fun_mk (by k_is) (by k_is) (by k_is)⟩)
    (case hfCO => exact ⟨_, L2.fun_mk (by k_is) (by k_is) (by k_is)⟩)
    (case hfWL => exact ⟨_, L2.fun_mk (by k_is) (by k_is) (by k_is)⟩)
    (case hfB => exact ⟨_, L2.fun_mk (by k_is) (by k_is) (by k_is)⟩)
    (case hfD => exact ⟨_, L2.fun_mk (by k_is) (by k_is) (by k_is)⟩)
    (case hfP => exact ⟨_, L2.fun_mk (by k_is) (by k_is) (by k_is)⟩)
    (case hfSh => exact ⟨_, L2.fun_mk (by k_is) (by k_is) (by k_is)⟩)
    (case hfNs => exact ⟨_, L2.fun_mk (by k_is) (by k_is) (by k_is)⟩)
    (case hfDr => exact ⟨_, L2.fun_mk (by k_is) (by k_is) (by k_is)⟩)
    (case hfBu => exact ⟨_, L2.fun_mk (by k_is) (by k_is) (by k_is)⟩)
    (case hfTx => exact ⟨_, L2.fun_mk (by k_is) (by k_is) (by k_is)⟩)
    (case hfL => exact ⟨_, L2.fun_mk (by k_is) (by k_is) (by k_is)⟩)
    (case hfIN => exact ⟨_, L2.fun_mk (by k_is) (by k_is) (by k_is)⟩)
    (case hfCI => exact ⟨_, L2.fun_mk (by k_is) (by k_is) (by k_is)⟩)
    (case hfSI => exact ⟨_, L2.fun_mk (by k_is) (by k_is) (by k_is)⟩)
    (case hfTk => exact ⟨_, L2.fun_mk (by k_is) (by k_is) (by k_is)⟩)
    (case hfAU => exact ⟨_, L2.fun_mk (by k_is) (by k_is) (by k_is)⟩)
    (case hfAE => exact ⟨_, L2.fun_mk (by k_is) (by k_is) (by k_is)⟩)
    (case hfAn => exact ⟨_, L2.fun_mk (by k_is) (by k_is) (by k_is)⟩)
    (case hfRE => exact ⟨_, L2.fun_mk (by k_is) (by k_is) (by k_is)⟩)
    (case hfBg => exact ⟨_, L2.fun_mk (by k_is) (by k_is) (by k_is)⟩)
    (case hfRb => exact ⟨_, L2.fun_mk (by k_is) (by k_is) (by k_is)⟩)
    (case hfSr => exact ⟨_, L2.fun_mk (by k_is) (by k_is) (by k_is)⟩)
    (case hO => exact ⟨_, L2.fun_mk (by k_is) (by k_is) (by k_is)⟩)
    (case iO => k_is)
    (case cR => kernel_rfl)
    (case kCC => exact ⟨by k_is, by k_is, by k_is, by k_is⟩)
    (case mCC => exact ⟨by k_is, by k_is⟩)
    (case kCS => exact ⟨by k_is, by k_is, by k_is, by k_is⟩)
    (case mCS => exact ⟨by k_is, by k_is⟩)
    (case nC0 => k_is)
    (case nC1 => k_is)
    (case nC2 => k_is)
    (case nS0 => k_is)
    (case nS1 => k_is)
    (case nS2 => k_is)
    (case ifCI => k_is)
    (case ifSI => k_is)
    (case ifTk => k_is)
    (case ifAU => k_is)
    (case ifAE => k_is)
    (case ifAn => k_is)
    (case ifRE => k_is)
    (case ifBg => k_is)
    (case ifRb => k_is)
    (case ifSr => k_is)
    (case tyI => k_is)
    (case oN => exact ⟨_, _, _, _, _, _, _, _, _, _, _, _, _, _, _, by k_is, by decide +kernel⟩)
    (case noN => k_is)
    (case cl => kernel_rfl)
    (case lin => k_is)
    (case lng => k_is)
    (case lL => exact ⟨_, by k_is⟩)
    (case lD => exact ⟨_, by k_is⟩)
    (case lO => exact ⟨_, by k_is⟩)
    (case lM => exact ⟨_, by k_is⟩)
    (case z_isinstance => k_is)
    (case z_tuple => k_is)
    (case z_list => k_is)
    (case z_dict => k_is)
    (case z_len => k_is)
    (case z_str => k_is)
    (case z_all => k_is)
    (case z_set => k_is)
    (case z_sorted => k_is)
    (case z_enumerate => k_is)
    (case z_range => k_is)
    (case z_min => k_is)
#print axioms PySem.Challenge.cw_blockorder_k36_written_forms_holds

