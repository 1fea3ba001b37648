import PyProof.Rows.All
import Wide.All
import OpenK.AllK
import Wide.FinOn
import HandS.ForMost
import HandS.Set
import HandS.Strs
import HandS.SetKeys
import HandS.Flow
import HandS.Wide
import HandS.Small
import HandS.Exc
import HandS.ExcOwn
import HandS.RaiseMore
import PyProof.ReprRoads
import HandS.Conv
import HandS.DictComp
import HandS.Walk
import HandS.IsInst
import HandS.ListItems
import HandS.Text
import HandS.ExcInit
import HandS.ExcIs
import HandS.ExcField
import HandS.WordsExc
import HandS.TryOnly
import HandS.Star
import HandS.Property
import PyProof.DictCopy
import PyProof.RowDictHeap
import PyProof.StrBlock2
import HandS.Codes
import PyProof.Rows.StrSigns2
import HandS.Style
import PyProof.NeKinds
import KE.KEqDict
import HandS.Lambda
import KE.KExcIs
import PyProof.Rows.CountFlat
import HandS.Defaults
import PyProof.ReprLen
import HandS.EndTab
import PySem.Challenge.RW_blockorder_k40_errors_of_transactions_an
set_option Elab.async false
set_option linter.all false
set_option maxRecDepth 100000
set_option maxHeartbeats 4000000
/-! sets of texts whose members can be walked: set(texts), add, in, len, sorted -/
namespace Bo
open PySem PySem.Spec PyProof.Rows L2
/-- the text that a set's place holds -/
def txtOf (z : Int × Value) : Str := match z.2 with | .str x _ => x | _ => Str.empty
def TxtAt (w : World) (z : Int × Value) : Prop := ∃ (x : Str) (k : Tok), z.2 = Value.str x k ∧ z.1 = hashStr w x
/-- at a stands the set of the texts xs -/
def SetTx (w : World) (a : Addr) (xs : List Str) (h : Heap) : Prop :=
  ∃ (ob : Obj) (zs : Array (Int × Value)) (gen : Nat) (tb : SetTable), (h.get? a = some ob ∧ ob.ExactSet ∧ ob.data = .set zs gen tb) ∧ (∀ z ∈ zs.toList, TxtAt w z) ∧ (zs.toList.map txtOf).Perm xs ∧ xs.Nodup ∧
    (zs.size < scanBound ∧ tb.fits zs.size = true) ∧ Ris tb.place.toList ∧ (w.params.followText "set-order" = true ∨ tb.led = true)
section
variable {P : Program} {w : World} {A : Around} {E : Value → Shared → Prop} {s : Shared} {a : Addr} {xs : List Str}
theorem txt_elems {zs : List (Int × Value)} (g : ∀ z ∈ zs, TxtAt w z) : ElemsOf (PySem.strKind P w) zs := fun z hz => by
  obtain ⟨x, k, h1, h2⟩ := g z hz
  refine ⟨⟨x, ?_, h2⟩, ?_⟩
  · rw [h1]; exact strKind_is P w x k
  · rw [h1]; rfl
theorem txt_is {z : Int × Value} (g : TxtAt w z) (x : Str) : (PySem.strKind P w).is x z.2 = true ↔ txtOf z = x := by
  obtain ⟨y, k, h1, _⟩ := g
  unfold txtOf
  rw [h1]
  constructor
  · intro h
    obtain ⟨k', h'⟩ := Value.isStrOf_shape (x := x) (v := Value.str y k) h
    injection h' with h1 _
  · rintro rfl
    exact strKind_is P w _ _
theorem txt_mem {zs : List (Int × Value)} (g : ∀ z ∈ zs, TxtAt w z) (x : Str) : x ∈ zs.map txtOf ↔ ∃ z ∈ zs, (PySem.strKind P w).is x z.2 = true := by
  rw [List.mem_map]
  exact ⟨fun ⟨z, hz, q⟩ => ⟨z, hz, (txt_is (g z hz) x).2 q⟩, fun ⟨z, hz, q⟩ => ⟨z, hz, (txt_is (g z hz) x).1 q⟩⟩
theorem SetTx.size {h : Heap} {ob : Obj} {zs : Array (Int × Value)} (p : (zs.toList.map txtOf).Perm xs) : zs.size = xs.length := by
  rw [← p.length_eq, List.length_map, Array.length_toList]
theorem SetTx.setOf {h : Heap} (R : SetTx w a xs h) : h.SetOf (PySem.strKind P w) a (fun x => decide (x ∈ xs)) xs.length := by
  obtain ⟨ob, zs, gen, tb, ⟨e1, e2, e3⟩, g, p, nd, ⟨b1, b2⟩, _, _⟩ := R
  refine ⟨ob, zs, gen, tb, e1, e2, e3, txt_elems g, fun x => ?_, b1, b2, SetTx.size (h := h) (ob := ob) p⟩
  rw [decide_eq_true_eq, ← p.mem_iff]
  exact txt_mem g x
/-- behind the table's turn -/
theorem txt_store {g : Bool → Sem Unit} (hg : ∀ (b : Bool) (s1 : Shared) (Q' : Unit → Shared → Prop), Q' () s1 → wpAny (model P w) A (g b) Q' E s1)
    {ob : Obj} {zs zs1 : Array (Int × Value)} {gen : Nat} {tb tb1 : SetTable} (e1 : s.heap.get? a = some ob) (e2 : ob.ExactSet) (e3 : ob.data = .set zs gen tb)
    (g1 : ∀ z ∈ zs1.toList, TxtAt w z) (p1 : (zs1.toList.map txtOf).Perm xs) (nd : xs.Nodup) (b1 : zs1.size < scanBound) (f1 : tb1.fits zs1.size = true) (r1 : Ris tb1.place.toList) (l1 : w.params.followText "set-order" = true ∨ tb1.led = true)
    {wd : Bool} {R : Option Bool → Shared → Prop} (hR : ∀ h', Heap.SameBut a s.heap h' → SetTx w a xs h' → R (some true) { s with heap := h' }) :
    wpAny (model P w) A (do
        storeSet a zs1 tb1
        if (!wd && tb1.tooFull) = true then do
            g (relayAll tb1 zs1 (SetTable.grown zs1.size)).2.2
            storeSet a (relayAll tb1 zs1 (SetTable.grown zs1.size)).1 (relayAll tb1 zs1 (SetTable.grown zs1.size)).2.1
            pure (some true)
          else pure (some true)) R E s := by
  have at1 := L2.store_at (es' := zs1) (t' := tb1) e1 e3
  have same1 := Heap.SameBut.update s.heap a (Obj.putSet zs1 tb1)
  refine wpAny_bind (wpAny_storeSet_of e1 e3 ?_ (fits_of_scanBound b1))
  split
  · have q1 := relayAll_perm tb1 zs1 (SetTable.grown zs1.size)
    have q2 := relayAll_fits tb1 zs1 (SetTable.grown zs1.size)
    have q3 := L2.relayAll_ris tb1 zs1 (SetTable.grown zs1.size)
    have q4 := L2.relayAll_led tb1 zs1 (SetTable.grown zs1.size)
    generalize relayAll tb1 zs1 (SetTable.grown zs1.size) = T at q1 q2 q3 q4 ⊢
    obtain ⟨zs2, tb2, gave⟩ := T
    dsimp only at q1 q2 q3 q4 ⊢
    have n2 : zs2.size = zs1.size := by rw [← Array.length_toList, q1.length_eq, Array.length_toList]
    have b2 : zs2.size < scanBound := by rw [n2]; exact b1
    refine wpAny_bind (hg _ _ _ (wpAny_bind (wpAny_storeSet_of at1 rfl (wpAny_pure (hR _ (same1.trans (Heap.SameBut.update _ a _)) ?_)) (fits_of_scanBound b2))))
    refine ⟨_, zs2, _, tb2, ⟨L2.store_at (es' := zs2) (t' := tb2) at1 rfl, e2, rfl⟩, fun z hz => g1 z (q1.mem_iff.mp hz), (q1.map txtOf).trans p1, nd, ⟨b2, q2⟩, q3, ?_⟩
    rw [q4]
    exact l1
  · exact wpAny_pure (hR _ same1 ⟨_, zs1, _, tb1, ⟨at1, e2, rfl⟩, g1, p1, nd, ⟨b1, f1⟩, r1, l1⟩)
/-- what a member's adding makes of the texts -/
def addTx (xs : List Str) (x : Str) : List Str := if x ∈ xs then xs else x :: xs
theorem addTx_nd {xs : List Str} {x : Str} (h : xs.Nodup) : (addTx xs x).Nodup := by
  unfold addTx
  split
  · exact h
  · rename_i n
    exact List.nodup_cons.mpr ⟨n, h⟩
theorem addTx_mem {xs : List Str} {x y : Str} : y ∈ addTx xs x ↔ y = x ∨ y ∈ xs := by
  unfold addTx
  split
  · rename_i h
    exact ⟨.inr, fun z => z.elim (fun e => e ▸ h) id⟩
  · exact List.mem_cons
theorem addTx_len {xs : List Str} {x : Str} : (addTx xs x).length ≤ xs.length + 1 := by
  unfold addTx
  split
  · omega
  · simp
theorem txt_addHashed {x : Str} {k : Tok} {Q : Bool → Shared → Prop} (R : SetTx w a xs s.heap) (room : xs.length + 1 < scanBound)
    (hQ : ∀ (b : Bool) (h' : Heap), Heap.SameBut a s.heap h' → SetTx w a (addTx xs x) h' → Q b { s with heap := h' }) :
    wpAny (model P w) A (setAddHashed a (.str x k) ((PySem.strKind P w).hash x)) Q E s := by
  obtain ⟨ob, zs, gen, tb, ⟨e1, e2, e3⟩, g, p, nd, ⟨b1, f1⟩, r1, l1⟩ := R
  have ky : (PySem.strKind P w).is x (.str x k) = true := strKind_is P w x k
  have sc : (Value.str x k).scannable = true := rfl
  have el : ElemsOf (PySem.strKind P w) zs.toList := txt_elems g
  have nz : zs.size = xs.length := SetTx.size (h := s.heap) (ob := ob) p
  unfold setAddHashed setAddHashedIn
  refine wpAny_holding (wpAny_bind (wpAny_setState_of e1 e3 f1 ?_))
  dsimp only
  rw [byScan_of sc b1 el]
  simp only [↓reduceIte]
  unfold setAddByScan
  refine wpAny_bind (wpAny_bind (wpAny_rule (wpAny_bind (wpAny_setScan_of ky e1 e3 f1 el ?_))))
  cases hf : List.findIdx? (fun e => (PySem.strKind P w).is x e.2) zs.toList with
  | some j =>
    dsimp only
    obtain ⟨hj, pj, _⟩ := List.findIdx?_eq_some_iff_getElem.mp hf
    have hin : x ∈ xs := p.mem_iff.mp ((txt_mem (P := P) (w := w) g x).2 ⟨zs.toList[j], List.getElem_mem hj, pj⟩)
    refine wpAny_pure (wpAny_pure (hQ _ s.heap (Heap.SameBut.refl a s.heap) ⟨ob, zs, gen, tb, ⟨e1, e2, e3⟩, g, ?_, addTx_nd nd, ⟨b1, f1⟩, r1, l1⟩))
    unfold addTx
    rw [if_pos hin]
    exact p
  | none =>
    dsimp only
    have hno : x ∉ xs := fun z => by
      obtain ⟨e, he, q⟩ := (txt_mem (P := P) (w := w) g x).1 (p.mem_iff.mpr z)
      rw [List.findIdx?_eq_none_iff.mp hf e he] at q
      cases q
    have gw : ∀ (b : Bool) {s1 : Shared} {Q' : Unit → Shared → Prop}, Q' () s1 → wpAny (model P w) A (match b with | true => rule "set.scan.the-table-gave-way" | false => pure ()) Q' E s1 :=
      fun b _ _ q => by
        cases b
        · exact wpAny_pure q
        · exact wpAny_rule q
    have q1 := layNew_perm tb zs ((PySem.strKind P w).hash x) (.str x k)
    have q2 := layNew_fits tb zs ((PySem.strKind P w).hash x) (.str x k)
    have q3 := L2.layNew_ris tb zs ((PySem.strKind P w).hash x) (.str x k) r1
    have q4 := L2.layNew_led tb zs ((PySem.strKind P w).hash x) (.str x k)
    generalize layNew tb zs ((PySem.strKind P w).hash x) (.str x k) = T at q1 q2 q3 q4 ⊢
    obtain ⟨zs1, tb1, wd, gave⟩ := T
    dsimp only at q1 q2 q3 q4 ⊢
    rw [Array.toList_push] at q1
    have pc : zs1.toList.Perm (((PySem.strKind P w).hash x, Value.str x k) :: zs.toList) := q1.trans (List.perm_append_singleton _ _)
    have px : (zs1.toList.map txtOf).Perm (addTx xs x) := by
      unfold addTx
      rw [if_neg hno]
      exact (pc.map txtOf).trans (p.cons x)
    have g1 : ∀ z ∈ zs1.toList, TxtAt w z := fun z hz => by
      rcases List.mem_cons.mp (pc.mem_iff.mp hz) with e | hz
      · rw [e]
        exact ⟨x, k, rfl, rfl⟩
      · exact g z hz
    have n1 : zs1.size = xs.length + 1 := by rw [← Array.length_toList, pc.length_eq, List.length_cons, Array.length_toList, nz]
    have bb : zs1.size < scanBound := by rw [n1]; exact room
    have ll : w.params.followText "set-order" = true ∨ tb1.led = true := l1.imp id fun z => by rw [q4]; exact z
    have fin : ∀ h', Heap.SameBut a s.heap h' → SetTx w a (addTx xs x) h' → Q true { s with heap := h' } := fun h' m r => hQ _ h' m r
    refine wpAny_bind (gw _ ?_)
    split
    · refine wpAny_bind ?_
      rw [hashByValue_scannable 8 sc]
      refine wpAny_pure (txt_store ?_ e1 e2 e3 g1 px (addTx_nd nd) bb ?_ ?_ ?_ ?_)
      · intro b s1 Q' q
        exact gw b q
      · first | (split <;> first | exact q2 | exact SetTable.fits_plain_off q2) | exact q2
      · first | (split <;> exact q3) | exact q3
      · first | (split <;> exact ll) | exact ll
      · intro h' m r
        dsimp only
        exact wpAny_pure (fin h' m r)
    · refine wpAny_bind (wpAny_pure ?_)
      simp only [↓reduceIte]
      refine txt_store ?_ e1 e2 e3 g1 px (addTx_nd nd) bb q2 q3 ll ?_
      · intro b s1 Q' q
        exact gw b q
      · intro h' m r
        dsimp only
        exact wpAny_pure (fin h' m r)
end
end Bo

set_option Elab.async false
set_option linter.all false
set_option maxRecDepth 100000
set_option maxHeartbeats 8000000
namespace Bo
open PySem PySem.Spec PyProof.Rows L2
/-- the texts of a list, each once -/
def onceTx : List Str → List Str := fun ys => ys.foldl addTx []
theorem onceTx_go_nd : ∀ (ys acc : List Str), acc.Nodup → (ys.foldl addTx acc).Nodup
  | [], _, h => h
  | y :: r, acc, h => onceTx_go_nd r (addTx acc y) (addTx_nd h)
theorem onceTx_nd (ys : List Str) : (onceTx ys).Nodup := onceTx_go_nd ys [] List.nodup_nil
theorem onceTx_go_mem {y : Str} : ∀ (ys acc : List Str), y ∈ ys.foldl addTx acc ↔ y ∈ ys ∨ y ∈ acc
  | [], acc => by simp
  | z :: r, acc => by
    rw [List.foldl_cons, onceTx_go_mem r (addTx acc z), addTx_mem, List.mem_cons]
    constructor
    · rintro (h | h | h)
      · exact .inl (.inr h)
      · exact .inl (.inl h)
      · exact .inr h
    · rintro ((h | h) | h)
      · exact .inr (.inl h)
      · exact .inl h
      · exact .inr (.inr h)
theorem onceTx_mem {ys : List Str} {y : Str} : y ∈ onceTx ys ↔ y ∈ ys := by
  unfold onceTx
  rw [onceTx_go_mem]
  simp
theorem onceTx_take {ys : List Str} {i : Nat} {y : Str} (h : ys[i]? = some y) : onceTx (ys.take (i + 1)) = addTx (onceTx (ys.take i)) y := by
  have e : ys.take (i + 1) = ys.take i ++ [y] := by
    rw [List.take_add_one, h]
    rfl
  unfold onceTx
  rw [e, List.foldl_append]
  rfl
theorem addTx_new {xs : List Str} {x : Str} (h : x ∉ xs) : addTx xs x = x :: xs := if_neg h
/-- no text twice: the same texts, turned round -/
theorem onceTx_perm : ∀ {ys : List Str}, ys.Nodup → (onceTx ys).Perm ys := by
  intro ys
  have key : ∀ (ys acc : List Str), (ys ++ acc).Nodup → (ys.foldl addTx acc).Perm (ys ++ acc) := by
    intro ys
    induction ys with
    | nil => intro acc _; exact List.Perm.refl _
    | cons y r ih =>
      intro acc h
      obtain ⟨h1, h2⟩ := List.nodup_cons.mp (show (y :: (r ++ acc)).Nodup from h)
      have hn : y ∉ acc := fun z => h1 (List.mem_append.mpr (.inr z))
      rw [List.foldl_cons, addTx_new hn]
      have h3 : (r ++ y :: acc).Nodup := (List.perm_middle.nodup_iff).mpr h
      exact (ih (y :: acc) h3).trans List.perm_middle
  intro h
  have q := key ys [] (by rw [List.append_nil]; exact h)
  rw [List.append_nil] at q
  exact q
theorem len_onceTx (ys : List Str) : (onceTx ys).length ≤ ys.length := by
  have key : ∀ (ys acc : List Str), (ys.foldl addTx acc).length ≤ ys.length + acc.length := by
    intro ys
    induction ys with
    | nil => intro acc; simp
    | cons y r ih =>
      intro acc
      have h1 := ih (addTx acc y)
      have h2 := addTx_len (xs := acc) (x := y)
      rw [List.foldl_cons, List.length_cons]
      omega
  have h := key ys []
  rw [List.length_nil, Nat.add_zero] at h
  exact h
section
variable {prog : Program} {w : World} {A : Around} {R : Result → Shared → Prop} {I : Addr} {fp wr : List Addr} {G : Array GenState → Array GenState → Prop} {n : Nat} {Pv : Nat → Value → Prop} {St : Nat → Shared → Prop}
theorem SetTx.at {xs : List Str} {a : Addr} {h h' : Heap} (R : SetTx w a xs h) (k : ∀ o, h.get? a = some o → h'.get? a = some o) : SetTx w a xs h' := by
  obtain ⟨ob, zs, gen, tb, ⟨e1, e2⟩, r⟩ := R
  exact ⟨ob, zs, gen, tb, ⟨k ob e1, e2⟩, r⟩
/-- the loop of set(..): one member a turn -/
theorem set_turns (W : WalksS prog w A.in1 I fp wr G n Pv St) (C : Addr) (hC : C ∉ fp) (ys : List Str) (hn : ys.length = n) (hb : n + 1 < scanBound) (hv : ∀ i v, Pv i v → ∃ t, v = .str (ys.getD i Str.empty) t) :
    ∀ (m i : Nat) (s : Shared), n - i = m → i ≤ n → St i s → SetTx w C (onceTx (ys.take i)) s.heap → (∀ s', Moved (C :: wr) G s s' → SetTx w C (onceTx ys) s'.heap → R (.ok (.ret .none)) s') →
      codeAny (model prog w) A (.builtin "set.update.loop" ⟨[.ref C, .ref I], []⟩) R s := by
  have hCw : C ∉ wr := fun z => hC (W.sub _ z)
  have up : ∀ b ∈ wr, b ∈ C :: wr := fun b z => List.mem_cons_of_mem _ z
  intro m
  induction m with
  | zero =>
    intro i s hm hi hst hS hR
    obtain rfl : i = n := by omega
    refine codeAny_builtin PyProof.Rows.F.entry_set_update_loop ?_
    rw [Around.under_plainId PyProof.Rows.F.plain_set_update_loop _]
    show wpAny _ A.in1 (pyNext (.ref I) >>= _) _ _ s
    refine wpAny_bind (W.done s _ _ hst fun s' mv => wpAny_pure (hR s' (mv.mono up) ?_))
    have e : ys.take i = ys := by rw [← hn, List.take_length]
    rw [e] at hS
    exact hS.at fun o ho => mv.heap C o hCw ho
  | succ m ih =>
    intro i s hm hi hst hS hR
    have hlt : i < n := by omega
    refine codeAny_builtin PyProof.Rows.F.entry_set_update_loop ?_
    rw [Around.under_plainId PyProof.Rows.F.plain_set_update_loop _]
    show wpAny _ A.in1 (pyNext (.ref I) >>= _) _ _ s
    refine wpAny_bind (W.item i s _ _ hlt hst fun v s' hP hst' mv => ?_)
    obtain ⟨t, rfl⟩ := hv i v hP
    have hy : ys[i]? = some (ys.getD i Str.empty) := by
      have hl : i < ys.length := by omega
      rw [List.getD_eq_getElem?_getD, List.getElem?_eq_getElem hl]
      rfl
    have hS' : SetTx w C (onceTx (ys.take i)) s'.heap := hS.at fun o ho => mv.heap C o hCw ho
    show wpAny _ _ (holding [Value.str (ys.getD i Str.empty) t] (setAdd C (.str (ys.getD i Str.empty) t)) >>= _) _ _ s'
    refine wpAny_bind (wpAny_holding ?_)
    unfold setAdd
    refine wpAny_holding (wpAny_bind ((PySem.strKind prog w).pyHash (k := ys.getD i Str.empty) (strKind_is _ _ _ _) ?_))
    have few : (onceTx (ys.take i)).length + 1 < scanBound := by
      have h1 := len_onceTx (ys.take i)
      rw [List.length_take] at h1
      omega
    refine txt_addHashed (P := prog) (s := { s' with toks := s'.toks + 1 }) hS' few fun _ h' sb hS2 => ?_
    rw [← onceTx_take hy] at hS2
    refine wpAny_pure ⟨plainId_quiet PyProof.Rows.F.plain_set_update_loop _, ih (i + 1) _ (by omega) hlt (W.frame _ s' _ _ hst' (Nat.le_succ _) fun b hb o e => ?_) hS2 fun s2 mv2 hS3 => ?_⟩
    · rw [sb.2 b (fun z : b = C => hC (by rw [← z]; exact hb))]
      exact e
    · refine hR s2 (Moved.trans W.gtrans ((mv.mono up).then_heap (Nat.le_succ _) fun b o hb e => ?_) mv2) hS3
      rw [sb.2 b (fun z : b = C => hb (by rw [z]; exact List.mem_cons_self))]
      exact e
end

def freshSet (w : World) : Obj := { cls := .type "set", dict := none, data := .set #[] 0 (.fresh 0 0 (!w.params.followText "set-order")) }
theorem freshSet_tx {h : Heap} (w : World) : SetTx w h.objs.size (onceTx (([] : List Str).take 0)) (h.push (freshSet w)) := by
  refine ⟨_, #[], 0, _, ⟨Heap.get?_push_size _ rfl, ⟨rfl, rfl, rfl⟩, rfl⟩, fun z hz => by simp at hz, List.Perm.refl _, List.nodup_nil, ⟨by decide, by rfl⟩, List.Pairwise.nil, ?_⟩
  show _ ∨ (!w.params.followText "set-order") = true
  cases w.params.followText "set-order"
  · exact .inr rfl
  · exact .inl rfl
section
variable {P : Program} {w : World} {A : Around} {E : Value → Shared → Prop} {s : Shared}
theorem code_setNew (a : Value) {Q : Value → Shared → Prop} (h : Q (.ref s.heap.objs.size) { s with heap := s.heap.push (freshSet w) }) :
    codeAny (model P w) A (.call (.builtin "set.__new__") ⟨[.type "set", a], []⟩) (wants Q E) s := by
  refine codeAny_of_tree ?_
  show wpAny _ A.in1 (do checkBuiltinCall "set.__new__" ⟨[.type "set", a], []⟩; again (.builtin "set.__new__" ⟨[.type "set", a], []⟩)) _ _ s
  refine wpAny_bind (wpAny_of_eq (PySem.F.newCall_set_1 a) (wpAny_pure ⟨plainId_quiet PySem.F.plain_set_new _, codeAny_builtin PySem.F.entry_set_new ?_⟩))
  rw [Around.under_plainId PySem.F.plain_set_new _]
  unfold Builtin.«set.__new__» Builtin.Frozenset.newClass
  have self := sub_set_self
  obtain ⟨hp, g, d, tk, os⟩ := s
  dsimp only
  wp_walk
  refine wpAny_askSetting (wpAny_pure ?_)
  dsimp only
  simp only [newObj]
  exact wpAny_bind (wpAny_alloc (wpAny_pure (wpAny_pure h)))
end

section
variable {prog : Program} {w : World} {A : Around} {E : Value → Shared → Prop} {s : Shared}
/-- set(ys), ys a tuple of texts -/
theorem set_of_tuple {l : Addr} {its : Array Value} {ys : List Str} {Q : Value → Shared → Prop} (hh : A.handled = none) (hl : s.heap.IsTuple l its) (hi : StrsAre its.toList ys) (hb : ys.length + 1 < scanBound)
    (hQ : ∀ (h' : Heap) (tk : Nat), SetTx w s.heap.objs.size (onceTx ys) h' → (∀ b o, b < s.heap.objs.size → s.heap.get? b = some o → h'.get? b = some o) → Q (.ref s.heap.objs.size) { s with heap := h', toks := tk }) :
    wpAny (model prog w) A (call (.type "set") [.ref l]) Q E s := by
  obtain ⟨c, tl, mro⟩ := PySem.F.called_set.mro
  have f1 := PySem.F.called_set.made
  have f2 := PySem.F.called_set.sub
  refine wpAny_call (codeAny_of_tree (?_ : wpAny _ _ (callAny (.type "set") _) _ _ _))
  refine wpAny_pure ⟨Code.quiet_builtin _ (by decide +kernel), codeAny_builtin PySem.F.entry_type_call ?_⟩
  rw [Around.under_plain (weight_type_call_type "set" [.ref l] []) rfl]
  have f3 := PySem.F.called_set.notType
  have f4 := PySem.F.called_set.canCreate
  have f5 := PySem.F.typeCall_set_1 (.ref l)
  repeat (any_goals (first | assumption | wp_step))
  refine codeAny_mono (code_setNew (.ref l) (E := E) (Q := fun v s1 => v = .ref s.heap.objs.size ∧ s1 = { s with heap := s.heap.push (freshSet w) }) ⟨rfl, rfl⟩) fun r s1 hr => ?_
  match r, hr with
  | .error e, hr => exact hr
  | .ok (.ret v), hr =>
    obtain ⟨rfl, rfl⟩ := hr
    have at0 : (s.heap.push (freshSet w)).get? s.heap.objs.size = some (freshSet w) := Heap.get?_push_size _ rfl
    have ty0 : Shared.TypeIs { s with heap := s.heap.push (freshSet w) } (.ref s.heap.objs.size) "set" := ⟨_, at0, rfl⟩
    have f6 := PySem.F.called_set.init.lookup
    have f7 := PySem.F.called_set.init.bind (.ref s.heap.objs.size)
    repeat (any_goals (first | assumption | wp_step))
    refine codeAny_mono (codeAny_call_builtin (R := wants (fun r s2 => r = .none ∧ ∃ h' tk, s2 = { s with heap := h', toks := tk } ∧ SetTx w s.heap.objs.size (onceTx ys) h' ∧
        (∀ b o, b < s.heap.objs.size → s.heap.get? b = some o → h'.get? b = some o)) E) PySem.F.called_set.init.plain PySem.F.entry_set_init (check_set_init_1 ty0 ?_)) fun r2 s2 hr2 => ?_
    · obtain ⟨⟨lc, ld, ldat, lsl⟩, hol, hcl, nl, hdl⟩ := hl
      simp only at hcl hdl
      subst hcl
      subst hdl
      have at1 : (s.heap.push (freshSet w)).get? l = some { cls := .type "tuple", dict := ld, data := .seq its nl, slots := lsl } := Heap.get?_push_of_some _ hol
      have g1 := PySem.F.sub_tuple_set
      have g2 := PySem.F.sub_tuple_frozenset
      have g3 : (Value.type "tuple" == Value.type "dict") = false := by decide
      have is1 : (s.heap.push (freshSet w)).IsTuple l its := ⟨_, at1, rfl, nl, rfl⟩
      unfold Builtin.«set.__init__» noKeywords Builtin.Frozenset.updateFrom
      generalize hPI : pyIter = PI
      wp_walk
      subst hPI
      refine wpAny_pyIter_tuple is1 (wpAny_bind (wpAny_runValue ?_))
      have lt1 : l < s.heap.objs.size := Heap.lt_size hol
      have hh3 : A.in1.in1.in1.handled = none := by simp [hh]
      have ne1 : l ≠ (s.heap.push (freshSet w)).objs.size := by
        rw [Heap.size_push]
        exact Nat.ne_of_lt (Nat.lt_succ_of_lt lt1)
      have out1 : s.heap.objs.size ∉ [(s.heap.push (freshSet w)).objs.size, l] := by
        rw [Heap.size_push]
        intro z
        rcases List.mem_cons.mp z with z | z
        · exact absurd z (Nat.ne_of_lt (Nat.lt_succ_self _))
        · exact absurd (List.mem_singleton.mp z) (Nat.ne_of_gt lt1)
      have n1 : ys.length = its.size := by rw [← StrsAre.len_eq hi, Array.length_toList]
      have val1 : ∀ (i : Nat) (v : Value), its[i]? = some v → ∃ t, v = .str (ys.getD i Str.empty) t := fun i v hv => SS.strs_at hi i v (by rw [Array.getElem?_toList]; exact hv)
      refine set_turns ((Walks.tuple hh3 _ l ne1 its).toS) s.heap.objs.size out1 ys n1 (by rw [← n1]; exact hb) val1 (its.size - 0) 0 _ rfl (Nat.zero_le _) ⟨⟨_, Heap.get?_push_size _ rfl, rfl, rfl⟩, is1.push _⟩ ?h0 ?hR
      case h0 => exact (freshSet_tx w).at fun o ho => Heap.get?_push_of_some _ ho
      case hR =>
        rintro ⟨h', g', d', tk', os'⟩ mv hS'
        obtain rfl : g' = s.gens := mv.gens
        obtain rfl : d' = s.drawn := mv.drawn
        obtain rfl : os' = s.os := mv.os
        refine wpAny_pure (?_ : wpAny _ _ (ret Value.none) _ _ _)
        refine wpAny_pure ⟨rfl, h', tk', rfl, hS', fun b o hb e => ?_⟩
        refine mv.heap b o (fun z => ?_) (Heap.get?_push_of_some _ (Heap.get?_push_of_some _ e))
        rcases List.mem_cons.mp z with z | z
        · exact absurd z (Nat.ne_of_lt hb)
        · have z := List.mem_singleton.mp z
          rw [Heap.size_push] at z
          exact absurd z (Nat.ne_of_lt (Nat.lt_succ_of_lt hb))
    · match r2, hr2 with
      | .error e, hr2 => exact hr2
      | .ok (.ret r), hr2 =>
        obtain ⟨e1, h', tk, e2, hS', hk'⟩ := hr2
        subst e1 e2
        repeat (any_goals (first | assumption | wp_step))
        exact hQ _ _ hS' hk'
end
end Bo

set_option Elab.async false
set_option linter.all false
set_option maxRecDepth 100000
set_option maxHeartbeats 4000000
namespace Bo
open PySem PySem.Spec PyProof.Rows L2
/-- the set of the texts xs, as a thing of the abstract heap -/
def TxO (w : World) (a : Addr) (xs : List Str) : HO := .ext (SetTx w a xs)
theorem txO_new {P : Program} {w : World} {H : Hp} {h : Heap} {a : Addr} {xs : List Str} (R : SetTx w a xs h) : ObjOk P w H h a (TxO w a xs) := by
  refine ⟨R, ?_, fun _ _ q k => q.at k⟩
  obtain ⟨ob, _, _, _, ⟨e, _⟩, _⟩ := R
  exact ⟨ob, e⟩
section
variable {X : Cx} {pins : List (Addr × Obj)} {σ : L2.St} {H : Hp} {s : Shared} {a : Addr} {xs : List Str}
theorem txO_get (I : L2.Inv X pins σ H s) (ha : H a = some (TxO X.w a xs)) : SetTx X.w a xs s.heap := (I.hok a _ ha).1
/-- set(ys), ys a tuple of texts -/
def rSetTx (K : PySem.W.Frag) (w : World) : List V → Hp → VK → Prop := fun vs H Q => ∃ (l : Addr) (ys : List Str), vs = [.ref l] ∧ SqT K H l (ys.map V.str) ∧ ys.length + 1 < scanBound ∧ ∀ a, H a = none → Q (.ref a) (upd H a (TxO w a (onceTx ys)))
theorem cr_setTx (hc : X.calm = true) : CallR X (.type "set") (rSetTx X.K X.w) := by
  intro pins s σ H vs us Q I r h
  obtain ⟨l, ys, rfl, hq, hb, q⟩ := h
  rw [Vals.ref1 r]
  obtain ⟨its, rv, hT, _⟩ := I.tuple hq
  refine set_of_tuple (I.ok.hd hc) hT (ys := ys) (by simpa using strsAre_of rv) hb fun h' tk hS k => ?_
  have n0 : H s.heap.objs.size = none := I.hok.fresh (Nat.le_refl _)
  exact ⟨.ref s.heap.objs.size, _, I.laid (t' := tk) (a := s.heap.objs.size) (o := TxO X.w s.heap.objs.size (onceTx ys)) (h' := h') (fun b o e => k b o (Heap.lt_size e) e) (Nat.le_refl _) (txO_new hS), rfl, q _ n0⟩
/-- x in ys, x not in ys -/
def rInTx (w : World) (neg : Bool) : V → V → Hp → VK → Prop := fun x y H Q => ∃ (z : Str) (a : Addr) (xs : List Str), x = .str z ∧ y = .ref a ∧ H a = some (TxO w a xs) ∧ Q (.bl (if neg then !decide (z ∈ xs) else decide (z ∈ xs))) H
theorem op_inTx : OpR X (compareOp .In) (rInTx X.w false) := by
  intro pins s σ H x y u v Q I rx ry h
  obtain ⟨z, a, xs, rfl, rfl, ha, q⟩ := h
  obtain ⟨k, rfl⟩ := rx
  cases ry
  exact wpAny_inSet_of (knd := PySem.strKind X.prog X.w) (strKind_is _ _ _ _) rfl (txO_get I ha).setOf ⟨.bl (decide (z ∈ xs)), H, I.tok _, rfl, q⟩
theorem op_ninTx : OpR X (compareOp .NotIn) (rInTx X.w true) := by
  intro pins s σ H x y u v Q I rx ry h
  obtain ⟨z, a, xs, rfl, rfl, ha, q⟩ := h
  obtain ⟨k, rfl⟩ := rx
  cases ry
  exact wpAny_notInSet_of (knd := PySem.strKind X.prog X.w) (strKind_is _ _ _ _) rfl (txO_get I ha).setOf ⟨.bl (!decide (z ∈ xs)), H, I.tok _, rfl, q⟩
/-- len(s) -/
def rLenTx (w : World) : List V → Hp → VK → Prop := fun vs H Q => ∃ (a : Addr) (xs : List Str), vs = [.ref a] ∧ H a = some (TxO w a xs) ∧ Q (.int xs.length) H
theorem call_lenTx : CallR X (.builtin "len") (rLenTx X.w) := by
  intro pins s σ H vs us Q I r h
  obtain ⟨a, xs, rfl, ha, q⟩ := h
  rw [Vals.ref1 r]
  obtain ⟨ob, zs, gen, tb, ⟨e1, e2, e3⟩, g, p, nd, ⟨b1, f1⟩, _⟩ := txO_get I ha
  have n1 : zs.size = xs.length := SetTx.size (h := s.heap) (ob := ob) p
  have b2 : (zs.size : Int) < 2 ^ 63 := by
    have : scanBound = 4096 := rfl
    omega
  refine call_len_set e1 e2 e3 f1 b2 ⟨.int xs.length, H, I.tok _, ⟨s.toks + 1, by rw [n1]⟩, q⟩
/-- sorted(s), fewer than 64 members -/
def rSortTx (w : World) : List V → Hp → VK → Prop := fun vs H Q => ∃ (a : Addr) (xs : List Str), vs = [.ref a] ∧ H a = some (TxO w a xs) ∧ xs.length < 64 ∧
  ∀ (ys : List Str) (p : Addr), ys.Perm xs → sortedS ys = true → H p = none → Q (.ref p) (upd H p (.lst (ys.map V.str)))
theorem txts_are {w : World} : ∀ {vs : List Value}, (∀ v ∈ vs, ∃ x k, v = Value.str x k) → StrsAre vs (vs.map fun v => match v with | .str x _ => x | _ => Str.empty)
  | [], _ => .nil
  | v :: r, h => by
    obtain ⟨x, k, rfl⟩ := h v List.mem_cons_self
    exact .cons x k (txts_are (w := w) fun u hu => h u (List.mem_cons_of_mem _ hu))
theorem cr_sortTx (hc : X.calm = true) : CallR X (.builtin "sorted") (rSortTx X.w) := by
  intro pins s σ H vs us Q I r h
  obtain ⟨a, xs, rfl, ha, few, q⟩ := h
  rw [Vals.ref1 r]
  obtain ⟨ob, zs, gen, tb, ⟨e1, e2, e3⟩, g, p, nd, ⟨b1, f1⟩, r1, l1⟩ := txO_get I ha
  have n1 : zs.size = xs.length := SetTx.size (h := s.heap) (ob := ob) p
  refine Calls.call_function_entry kind_sorted plain_sorted entry_sorted (args_sorted1 _) ?_
  unfold Builtin.«sorted»
  refine wpAny_bind (m := checkCount "sorted" 1 1 _) (wpAny_pure (wpAny_bind (L2.collect_set (A := X.A.in1) (I.ok.hd hc) ⟨ob, e1, e2.1, e3⟩ f1 b1 r1 l1 fun s1 vs k1 z1 g1 o1 pm => ?_)))
  have nv : vs.length = xs.length := by rw [pm.length_eq, List.length_map, Array.length_toList]; exact n1
  have sa : StrsAre vs (vs.map fun v => match v with | .str x _ => x | _ => Str.empty) := txts_are (w := X.w) fun v hv => by
    obtain ⟨z, hz, e⟩ := List.mem_map.mp (pm.mem_iff.mp hv)
    obtain ⟨x, k, h1, _⟩ := g z hz
    exact ⟨x, k, by rw [← e]; exact h1⟩
  have pk : (vs.map fun v => match v with | .str x _ => x | _ => Str.empty).Perm xs := by
    have q1 := pm.map fun v => match v with | .str x _ => x | _ => Str.empty
    rw [List.map_map] at q1
    exact q1.trans p
  refine wpAny_bind (wpAny_newList ?_ (by rw [nv, sizeLine_eq]; omega))
  have at1 : (s1.heap.push (seqObj "list" vs.toArray 0)).get? s1.heap.objs.size = some (seqObj "list" vs.toArray 0) := Heap.get?_push_size _ rfl
  refine wpAny_bind (wpAny_holding (wpAny_call_entry slot_list_sort ⟨_, at1, rfl⟩ entry_list_sort (list_sort_treeK strKind_oneLt at1 sa.keysOf (fun v1 v2 rest e => keyKind_strs (by rw [← e]; exact sa)) (by rw [nv]; exact few) fun st hp hs => ?_) (args_list_sort _)))
  obtain ⟨ys, q1, q2, q3⟩ := sorted_out_str sa hp hs
  obtain ⟨c, hc2⟩ := sortedHeap_at (vs := vs) (out := (arrOf st).map (·.2)) at1
  refine ⟨_, rfl, wpAny_pure ⟨_, rfl, ?_⟩⟩
  have hn : H s1.heap.objs.size = none := I.hok.fresh z1
  have py : ys.Perm xs := q2.trans pk
  have nl : (ys.map V.str).length ≤ sizeLine := by rw [List.length_map, py.length_eq, sizeLine_eq]; omega
  have kp : ∀ b o, s.heap.get? b = some o → (sortedHeap (s1.heap.push (seqObj "list" vs.toArray 0)) s1.heap.objs.size vs ((arrOf st).map (·.2))).get? b = some o := fun b o e => by
    have e' := k1 b o e
    have lt := Heap.lt_size e'
    rw [sortedHeap_old (Nat.ne_of_lt lt) (by rw [size_push']; exact Nat.lt_succ_of_lt lt)]
    exact Heap.get?_push_of_some _ e'
  have J : L2.Inv X pins σ (upd H s1.heap.objs.size (.lst (ys.map V.str))) { s with heap := sortedHeap (s1.heap.push (seqObj "list" vs.toArray 0)) s1.heap.objs.size vs ((arrOf st).map (·.2)), gens := s1.gens, drawn := s1.drawn, toks := s1.toks } :=
    I.call (ch := []) (Un.laid kp z1 hn) (I.hok.laid kp z1 ⟨nl, _, c, vals_of_strs q1, hc2⟩) (by rw [g1]; exact I.bare) (fun _ z => nomatch z)
  have e : ({ s1 with heap := sortedHeap (s1.heap.push (seqObj "list" vs.toArray 0)) s1.heap.objs.size vs ((arrOf st).map (·.2)) } : Shared) = { s with heap := sortedHeap (s1.heap.push (seqObj "list" vs.toArray 0)) s1.heap.objs.size vs ((arrOf st).map (·.2)), gens := s1.gens, drawn := s1.drawn, toks := s1.toks } := by
    cases s1
    cases s
    cases o1
    rfl
  show EP X pins σ Q _ ({ s1 with heap := _ } : Shared)
  rw [e]
  exact ⟨.ref s1.heap.objs.size, _, J, rfl, q ys _ py q3 hn⟩
/-- s.add(x) -/
def tAddTx (w : World) (to : TE) (t : TA) : TE := fun σ H Q => to σ H fun x H1 => (∃ a xs, x = V.ref a ∧ H1 a = some (TxO w a xs)) ∧ t σ H1 fun vs H2 => ∃ (a : Addr) (xs : List Str) (z : Str), x = .ref a ∧ vs = [.str z] ∧ H2 a = some (TxO w a xs) ∧ xs.length + 1 < scanBound ∧ Q .non (upd H2 a (TxO w a (addTx xs z)))
theorem pe_addTx {o e : Expr} {es : List Expr} {to : TE} {t : TA} {apos cpos : Pos} (ho : PE X o to) (ha : PA X (e :: es) t) (hbase : attributeBase o "add" X.env (eval o X.env) = eval o X.env := by rfl)
    (hfew : ((backTo cpos (starEach (e :: es) X.env)).all (fun x => !x.1) && (backToKw cpos (keywordEach [] X.env)).all (fun x => x.1.isSome) && decide ((e :: es).length + ([] : List Keyword).length + (if ([] : List Keyword).isEmpty then 0 else 1) < 30)) = true := by rfl)
    (hline : (apos.endLine == cpos.line) = true := by rfl) (hs : starEach (e :: es) X.env = (false, eval e X.env) :: starEach es X.env := by rfl) (hpl : (backTo cpos (starEach es X.env)).any (·.1) = false := by rfl) :
    PE X (.Call (.Attribute o "add" apos) (e :: es) [] cpos) (tAddTx X.w to t) := by
  refine ⟨fun pins s σ H Q I h => wpAny_Call_method_late hbase hfew hline rfl (thn (ho.run pins s σ H _ I h) fun v s1 ⟨x, H1, I1, r1, ty, q1⟩ => ?_)⟩
  obtain ⟨a, xs, rfl, ha1⟩ := ty
  have st := (txO_get I1 ha1).setOf (P := X.prog)
  cases r1
  refine ⟨"set", "set.add", PySem.F.plainAttrs_set, PySem.F.slot_set_add, PySem.F.type_set_add, st.typeIs, st.noDict, ?_⟩
  have hA := ha.run cpos pins s1 σ H1 _ I1 q1
  rw [hs] at hA ⊢
  refine Calls.callWith_builtin (by show (false || (backTo cpos (starEach es X.env)).any (·.1)) = false; rw [hpl]; rfl) (Calls.evalArgs_plain (thn hA fun us s2 ⟨vs, H2, I2, r2, a', ys, z, ea, ev, ha2, room, q2⟩ => ?_))
  cases ea
  subst ev
  obtain ⟨u, rfl, k, rfl⟩ := vals1 r2
  have R2 := txO_get I2 ha2
  refine wpAny_call_entry PySem.F.slot_set_add (R2.setOf (P := X.prog)).typeIs PySem.F.entry_set_add ?_ (PySem.F.args_set_add_2 _ _)
  unfold Builtin.«set.add» Builtin.Frozenset.oneOther
  simp only [List.isEmpty_nil, bind_assoc]
  unfold Builtin.Frozenset.addrOf setAdd
  refine wpAny_bind (wpAny_pure ?_)
  try dsimp only
  refine wpAny_bind (wpAny_holding (wpAny_bind ((PySem.strKind X.prog X.w).pyHash (strKind_is X.prog X.w z k) (txt_addHashed (P := X.prog) (s := { s2 with toks := s2.toks + 1 }) R2 room fun b h' sb R3 => ?_))))
  refine wpAny_pure ⟨_, rfl, ?_⟩
  have he : ∃ u, h'.get? a = some u := by
    obtain ⟨ob, _, _, _, ⟨e, _⟩, _⟩ := R3
    exact ⟨ob, e⟩
  exact ⟨.non, _, I2.write (e := a) (x := a) (o := TxO X.w a (addTx ys z)) (t' := s2.toks + 1) (by rw [ha2]; trivial) (.inl rfl) (fun b u hb hu => (sb.2 b hb).trans hu) he (txO_new R3), rfl, q2⟩
end
end Bo

set_option Elab.async false
set_option linter.all false
set_option maxRecDepth 100000
set_option maxHeartbeats 4000000
namespace Bo
open PySem L2
def top (i : Nat) : Stmt := PySem.Challenge.pw_blockorder_k40_errors_of_transactions_an.main.body.getD i (.Pass ⟨0, 0, 0, 0⟩)
abbrev sBegin : Stmt := top 65
abbrev sDraw : Stmt := top 66
abbrev sPick : Stmt := top 67

/-! ### the tape -/
abbrev kC : Key := Sum.inr (Str.ofString "cells")
abbrev kP : Key := Sum.inr (Str.ofString "place")
abbrev kL : Key := Sum.inr (Str.ofString "left")
theorem ne1 : ¬ (kC = kP) := by decide +kernel
theorem ne2 : ¬ (kC = kL) := by decide +kernel
theorem ne3 : ¬ (kP = kL) := by decide +kernel
theorem same_new {H : Hp} {p : Addr} {o : HO} (h : H p = none) : Same H (upd H p o) := fun b u e => by rw [upd_ne (ne_of_none e h)]; exact e
def tapeK (c : Addr) (p l : Int) : List (Key × V) := [(kC, V.ref c), (kP, V.int p), (kL, V.int l)]
theorem tk_cells (c : Addr) (p l : Int) : valV (tapeK c p l) kC = some (V.ref c) := by
  unfold tapeK; rw [valV_pos rfl]
theorem tk_place (c : Addr) (p l : Int) : valV (tapeK c p l) kP = some (V.int p) := by
  unfold tapeK; rw [valV_neg ne1, valV_pos rfl]
theorem tk_left (c : Addr) (p l : Int) : valV (tapeK c p l) kL = some (V.int l) := by
  unfold tapeK; rw [valV_neg ne2, valV_neg ne3, valV_pos rfl]
theorem tp_place (c : Addr) (p l q : Int) : putK (tapeK c p l) kP (V.int q) = tapeK c q l := by
  unfold tapeK putK
  have e : ([(kC, V.ref c), (kP, V.int p), (kL, V.int l)].any fun kv => decide (kv.1 = kP)) = true := by
    rw [List.any_cons, List.any_cons, decide_eq_true (rfl : kP = kP), Bool.true_or, Bool.or_true]
  rw [if_pos e]
  show [if kC = kP then _ else _, if kP = kP then _ else _, if kL = kP then _ else _] = _
  rw [if_neg ne1, if_pos rfl, if_neg (Ne.symm ne3)]
theorem tp_left (c : Addr) (p l q : Int) : putK (tapeK c p l) kL (V.int q) = tapeK c p q := by
  unfold tapeK putK
  have e : ([(kC, V.ref c), (kP, V.int p), (kL, V.int l)].any fun kv => decide (kv.1 = kL)) = true := by
    rw [List.any_cons, List.any_cons, List.any_cons, decide_eq_true (rfl : kL = kL), Bool.true_or, Bool.or_true, Bool.or_true]
  rw [if_pos e]
  show [if kC = kL then _ else _, if kP = kL then _ else _, if kL = kL then _ else _] = _
  rw [if_neg ne2, if_neg ne3, if_pos rfl]
theorem tk_merge (c : Addr) (p l : Int) : mergeK [] (tapeK c p l) = tapeK c p l := by
  have e1 : putK ([] : List (Key × V)) kC (V.ref c) = [(kC, V.ref c)] := rfl
  have e2 : putK [(kC, V.ref c)] kP (V.int p) = [(kC, V.ref c), (kP, V.int p)] := putK_new _ (by rw [valV_neg ne1]; rfl)
  have e3 : putK [(kC, V.ref c), (kP, V.int p)] kL (V.int l) = tapeK c p l := putK_new _ (by rw [valV_neg ne2, valV_neg ne3]; rfl)
  show putK (putK (putK [] kC (V.ref c)) kP (V.int p)) kL (V.int l) = _
  rw [e1, e2, e3]
/-- all that was tracked but t is as it was -/
def But (t : Addr) (H H' : Hp) : Prop := ∀ b o, H b = some o → b ≠ t → H' b = some o
theorem But.refl {t : Addr} {H : Hp} : But t H H := fun _ _ e _ => e
theorem But.trans {t : Addr} {H H1 H2 : Hp} (a : But t H H1) (b : But t H1 H2) : But t H H2 := fun c o e n => b c o (a c o e n) n
theorem But.upd {t : Addr} {H H1 : Hp} {o : HO} (a : But t H H1) : But t H (upd H1 t o) := fun c u e n => by rw [upd_ne n]; exact a c u e n
theorem But.new {t q : Addr} {H H1 : Hp} {o : HO} (a : But t H H1) (h : H1 q = none) : But t H (L2.upd H1 q o) := fun c u e n => by
  have e1 := a c u e n
  rw [upd_ne (ne_of_none e1 h)]; exact e1
/-- a reader of draws stands at t -/
structure Tape (H : Hp) (t c : Addr) (cs : List Int) (p l : Int) : Prop where
  d : H t = some (.dK (tapeK c p l))
  c : H c = some (.lst (cs.map V.int))
  n : cs ≠ []
  m : cs.length ≤ 63
  p0 : 0 ≤ p
  l0 : 0 ≤ l
theorem Tape.ne {H : Hp} {t c : Addr} {cs : List Int} {p l : Int} (T : Tape H t c cs p l) : t ≠ c := ne_of T.d T.c (by intro z; cases z)
theorem Tape.keep {H H' : Hp} {t c : Addr} {cs : List Int} {p l : Int} (T : Tape H t c cs p l) (k : Same H H') : Tape H' t c cs p l := ⟨k _ _ T.d, k _ _ T.c, T.n, T.m, T.p0, T.l0⟩

theorem Tape.gl {H : Hp} {t c : Addr} {cs : List Int} {p l : Int} (T : Tape H t c cs p l) : DGet H t (V.str (Str.ofString "left")) (some (V.int l)) := tk_left c p l ▸ DGet.k (k := kL) T.d
theorem Tape.gp {H : Hp} {t c : Addr} {cs : List Int} {p l : Int} (T : Tape H t c cs p l) : DGet H t (V.str (Str.ofString "place")) (some (V.int p)) := tk_place c p l ▸ DGet.k (k := kP) T.d
theorem Tape.gc {H : Hp} {t c : Addr} {cs : List Int} {p l : Int} (T : Tape H t c cs p l) : DGet H t (V.str (Str.ofString "cells")) (some (V.ref c)) := tk_cells c p l ▸ DGet.k (k := kC) T.d
theorem Tape.pp {H : Hp} {t c : Addr} {cs : List Int} {p l : Int} (T : Tape H t c cs p l) (q : Int) : DPut H t (V.str (Str.ofString "place")) (V.int q) (upd H t (.dK (tapeK c q l))) := tp_place c p l q ▸ DPut.k (k := kP) T.d (by show 3 < sizeLine; decide)
theorem Tape.pl {H : Hp} {t c : Addr} {cs : List Int} {p l : Int} (T : Tape H t c cs p l) (q : Int) : DPut H t (V.str (Str.ofString "left")) (V.int q) (upd H t (.dK (tapeK c p q))) := tp_left c p l q ▸ DPut.k (k := kL) T.d (by show 3 < sizeLine; decide)
theorem Tape.put {H : Hp} {t c : Addr} {cs : List Int} {p l : Int} (T : Tape H t c cs p l) {p' l' : Int} (h1 : 0 ≤ p') (h2 : 0 ≤ l') : Tape (upd H t (.dK (tapeK c p' l'))) t c cs p' l' :=
  ⟨upd_same, by rw [upd_ne T.ne.symm]; exact T.c, T.n, T.m, h1, h2⟩
theorem Tape.new {H : Hp} {t c : Addr} {cs : List Int} {p l : Int} (T : Tape H t c cs p l) {q : Addr} {o : HO} (h : H q = none) : Tape (upd H q o) t c cs p l := T.keep (same_new h)
def spBegin (K : PySem.W.Frag) : Sp := fun vs H Q _ => ∃ (a : Addr) (ns : List Int), vs = [.ref a] ∧ SqL K H a (ns.map V.int) ∧ ns.length ≤ 63 ∧
  ∀ (t c : Addr) (cs : List Int) (H' : Hp), H t = none → H c = none → Tape H' t c cs 0 0 → Same H H' → Q (.ref t) H'
structure TxtB (mg : Str → Option Value) : Prop where
  len : mg "len" = none
section
variable {P : Program} {w : World} {K : PySem.W.Frag} {mg : Str → Option Value} {base : Heap}
theorem scB : FnScope ["_law_script"] ["_law_script"] (defScope sBegin) := ⟨rfl, rfl, rfl, by decide +kernel, rfl, by decide +kernel, by decide +kernel⟩
theorem ok_begin {f : Addr} {fd : FuncData} (F : Fun K "_law_begin" "_law_begin" sBegin f fd) : FnOk P w K mg base CX0 1 f fd ["_law_script"] (spBegin K) := by
  refine F.ok scB (fun vs H Q E h => ?_) (fun cdv A outer s H vs Q E hr h => ?_)
  · obtain ⟨a, ns, rfl, _⟩ := h
    rfl
  · obtain ⟨a, ns, rfl, hS, hl, k⟩ := h
    refine ⟨_, pss_one (ps_ret (pe_disp (pps_cons pe_str (pe_orT (pe_slice sl_list (pv 0) po_none (po_some pe_int)) (pe_one (pe_lst (pa_cons pe_int pa_nil)))) (pps_cons pe_str pe_int (pps_cons pe_str pe_int pps_nil))) (by rfl) (by rfl) (fun z => by cases z) (by decide))), ?_⟩
    intro t ht
    have s1 : Same H (upd H t (HO.dK [])) := same_new ht
    refine ⟨_, rfl, ⟨63, rfl, a, _, rfl, s1.seq hS, fun c hc => ?_⟩⟩
    have hcn : H c = none := s1.free hc
    have tc : t ≠ c := fun e => by rw [← e, upd_same] at hc; cases hc
    have ecut : cutV (ns.map V.int) none (some 63) = ns.map V.int := by
      unfold cutV
      rw [HT.sIx_none, Nat.sub_zero, List.drop_zero]
      have : HT.sIx (ns.map V.int).length (ns.map V.int).length (some (63 : Int)) = (ns.map V.int).length := by
        have h2 : (ns.map V.int).length ≤ 63 := by rw [List.length_map]; exact hl
        exact (HT.sIx_nat _ _ 63).trans (by omega)
      rw [this, List.take_length]
    rw [ecut]
    cases ns with
    | nil =>
      refine ⟨false, .inl ⟨[], .inl (.inl upd_same), rfl⟩, ?_⟩
      refine iteF ?_
      refine ⟨by decide, fun d hd => ?_⟩
      have td : t ≠ d := fun e => by rw [← e, upd_ne tc, upd_same] at hd; cases hd
      have cd : c ≠ d := fun e => by rw [← e, upd_same] at hd; cases hd
      have hdn : H d = none := by rw [upd_ne cd.symm, upd_ne td.symm] at hd; exact hd
      refine ⟨by rw [upd_ne td, upd_ne tc]; exact upd_same, tapeK d 0 0, rfl, by show 3 ≤ 15; decide, ?_⟩
      have em : mergeK [] (tapeK d 0 0) = tapeK d 0 0 := tk_merge d 0 0
      rw [em]
      refine k t d [0] _ ht hdn ⟨upd_same, by rw [upd_ne td.symm]; exact upd_same, by simp, by decide, by decide, by decide⟩ fun b o e => ?_
      rw [upd_ne (ne_of_none e ht), upd_ne (ne_of_none e hdn), upd_ne (ne_of_none e hcn), upd_ne (ne_of_none e ht)]
      exact e
    | cons n r =>
      refine ⟨true, .inl ⟨_, .inl (.inl upd_same), rfl⟩, ?_⟩
      refine iteT ?_
      refine ⟨by rw [upd_ne tc]; exact upd_same, tapeK c 0 0, rfl, by show 3 ≤ 15; decide, ?_⟩
      have em : mergeK [] (tapeK c 0 0) = tapeK c 0 0 := tk_merge c 0 0
      rw [em]
      refine k t c (n :: r) _ ht hcn ⟨upd_same, by rw [upd_ne tc.symm]; exact upd_same, by simp, hl, by decide, by decide⟩ fun b o e => ?_
      rw [upd_ne (ne_of_none e ht), upd_ne (ne_of_none e hcn), upd_ne (ne_of_none e ht)]
      exact e
/-- draw(tape, m) -/
def spDraw : Sp := fun vs H Q _ => ∃ (t c : Addr) (cs : List Int) (p l m : Int), vs = [.ref t, .int m] ∧ Tape H t c cs p l ∧ 0 < m ∧ m < 1073741824 ∧ p < 1000000000000 ∧
  ∀ (r p' l' : Int) (H' : Hp), 0 ≤ r → r < m → p ≤ p' → p' ≤ p + 1 → Tape H' t c cs p' l' → But t H H' → Q (.int r) H'
theorem scD : FnScope ["_law_tape", "_law_many", "_law_place", "_law_cap", "_law_cell", "_law_found"] ["_law_tape", "_law_many"] (defScope sDraw) := ⟨rfl, rfl, rfl, by decide +kernel, rfl, by decide +kernel, by decide +kernel⟩
theorem ok_draw {f : Addr} {fd : FuncData} (F : Fun K "_law_draw" "_law_draw" sDraw f fd) (T : TxtB mg) : FnOk P w K mg base CX0 1 f fd ["_law_tape", "_law_many"] spDraw := by
  refine F.ok scD (fun vs H Q E h => ?_) (fun cdv A outer s H vs Q E hr h => ?_)
  · obtain ⟨t, c, cs, p, l, m, rfl, _⟩ := h
    rfl
  · obtain ⟨t, c, cs, p, l, m, rfl, hT, hm0, hm1, hp, k⟩ := h
    have hu := hu_of hr
    refine ⟨_, pss_cons (ps_if (pt_cmpR op_lt (pe_dget hu (pv 0) pe_str (fun _ _ => rfl)) (pv 1) (nomark _))
        (pss_cons (ps_par (i := 2) (j := 3) (by rfl) scD.nd rfl rfl (by decide) rfl rfl (pa_cons (pe_dget hu (pv 0) pe_str (fun _ _ => rfl)) (pa_cons (pe_callB call_len_seq (by rfl) T.len PySem.boot_len (pa_cons (pe_dget hu (pv 0) pe_str (fun _ _ => rfl)) pa_nil)) pa_nil)) (by rfl))
        (pss_cons (ps_asg (pe_tup (pa_cons (pe_ix ix_list (pe_dget hu (pv 0) pe_str (fun _ _ => rfl)) (pe_op op_mod (pv 2) (pv 3)) (fun _ _ => rfl)) (pa_cons (pe_op op_add (pv 2) pe_int) pa_nil)))
          (pg_tup (by rfl) (pgs_cons (pg_name (i := 4) scD.nd rfl (.inl rfl)) (pgs_cons (pg_sub (pv 0) pe_str (set_dict hu)) pgs_nil))))
        (pss_cons (ps_dput hu (pv 0) pe_str (pe_op op_mod (pe_op op_pow (pe_op op_add (pe_op op_add (pe_op op_mod (pv 4) pe_int) (pe_op op_mul pe_int (pv 2))) pe_int) pe_int) (pe_op op_add (pe_op op_pow pe_int pe_int) pe_int)) rfl)
        (pss_one (ps_if (PW.pt (pw_and (pt_cmpR op_ge (pv 4) (pe_op op_pow pe_int pe_int) (nomark _)) (pw_and1 (pt_cmpR op_lt (pv 2) (pv 3) (nomark _)))))
          (pss_one (ps_dput hu (pv 0) pe_str (pe_op op_sub (pv 4) (pe_op op_pow pe_int pe_int)) rfl)) pss_nil))))) pss_nil)
      (pss_cons (ps_asg (pe_tup (pa_cons (pe_op op_mod (pe_dget hu (pv 0) pe_str (fun _ _ => rfl)) (pv 1)) (pa_cons (pe_op op_fdivW (pe_dget hu (pv 0) pe_str (fun _ _ => rfl)) (pv 1)) pa_nil)))
          (pg_tup (by rfl) (pgs_cons (pg_name (i := 5) scD.nd rfl (.inl rfl)) (pgs_cons (pg_sub (pv 0) pe_str (set_dict hu)) pgs_nil))))
      (pss_one (ps_ret (pv 5)))), ?_⟩
    refine ⟨_, rfl, t, _, rfl, hT.gl, _, rfl, _, _, rfl, rfl, _, rfl, ?_⟩
    -- behind the if: the left is what it is
    have last : ∀ (H1 : Hp) (σ : St) (p1 l1 : Int), σ[0]? = some (some (V.ref t)) → σ[1]? = some (some (V.int m)) → σ.length = 6 → Tape H1 t c cs p1 l1 → p ≤ p1 → p1 ≤ p + 1 → But t H H1 →
      (tSeq (tAsg (tTup (tCons (tOp (rI (fun _ j => 0 < j) fun i j => .int (i % j)) (tDGet (tVar 0) (tC (V.str (Str.ofString "left")))) (tVar 1)) (tCons (tOp (rI CDivW fun i j => .int (i / j)) (tDGet (tVar 0) (tC (V.str (Str.ofString "left")))) (tVar 1)) tNil))) (gTup K 2 (gCons (gName 5) (gCons (gSub (tVar 0) (tC (V.str (Str.ofString "left"))) rSetD) gNil)))) (tRet (tVar 5))) { nx := fun _ H' => Q .non H', rt := Q } σ H1 := by
      intro H1 σ p1 l1 e0 e1 el T1 a1 a2 sm
      refine ⟨_, e0, t, _, rfl, T1.gl, _, e1, _, _, rfl, rfl, hm0, _, e0, t, _, rfl, T1.gl, _, e1, _, _, rfl, rfl, wide_div (b := 40) hm0 (by omega) (by decide) (by decide), by show 2 ≤ sizeLine; decide, fun q hq => ?_⟩
      have T2 := T1.new (q := q) (o := .tup [.int (l1 % m), .int (l1 / m)]) hq
      have hr0 : 0 ≤ l1 % m := Int.emod_nonneg l1 (by omega)
      have hr1 : l1 % m < m := Int.emod_lt_of_pos l1 hm0
      have hl0 : 0 ≤ l1 / m := Int.ediv_nonneg T1.l0 (by omega)
      refine ⟨q, _, rfl, SqT.of upd_same, rfl, _, _, rfl, _, _, rfl, ?_⟩
      have g0 : (σ.set 5 (some (V.int (l1 % m))))[0]? = some (some (V.ref t)) := by rw [List.getElem?_set_ne (by decide)]; exact e0
      have g5 : (σ.set 5 (some (V.int (l1 % m))))[5]? = some (some (V.int (l1 % m))) := by rw [List.getElem?_set_self (by omega)]
      refine ⟨_, g0, t, _, rfl, T2.pl _, rfl, _, g5, ?_⟩
      exact k _ p1 _ _ hr0 hr1 a1 a2 (T2.put T1.p0 hl0) (But.upd (But.new sm hq))
    refine ite2 (fun hlt => ?_) (fun hge => ?_)
    · -- the cell is read
      have hlen : (0 : Int) < (cs.length : Int) := by
        have := List.length_pos_iff.mpr hT.n
        omega
      have hp0 := hT.p0
      have hix : ∃ cell, cs[(p % (cs.length : Int)).toNat]? = some cell := by
        have h1 : p % (cs.length : Int) < (cs.length : Int) := Int.emod_lt_of_pos _ hlen
        have h0 : 0 ≤ p % (cs.length : Int) := Int.emod_nonneg _ (by omega)
        exact ⟨_, List.getElem?_eq_getElem (by omega)⟩
      obtain ⟨cell, hcell⟩ := hix
      have hcv : atI (cs.map V.int) (p % ((cs.map V.int).length : Int)) = some (V.int cell) := by
        have h0 : 0 ≤ p % (cs.length : Int) := Int.emod_nonneg _ (by omega)
        rw [List.length_map]
        have e : p % (cs.length : Int) = ((p % (cs.length : Int)).toNat : Int) := by omega
        rw [e]
        exact atI_nat (by rw [List.getElem?_map, hcell]; rfl)
      refine ⟨_, rfl, t, _, rfl, hT.gp, _, rfl, t, _, rfl, hT.gc, c, _, rfl, .inl (SqL.of hT.c), _, _, rfl, ?_⟩
      refine ⟨_, rfl, t, _, rfl, hT.gc, _, rfl, _, rfl, _, _, rfl, rfl, by rw [List.length_map]; exact hlen, c, _, _, _, rfl, rfl, SqL.of hT.c, hcv, _, rfl, _, _, rfl, rfl, by show 2 ≤ sizeLine; decide, fun q hq => ?_⟩
      have T2 := hT.new (q := q) (o := .tup [V.int cell, .int (p + 1)]) hq
      refine ⟨q, _, rfl, SqT.of upd_same, rfl, _, _, rfl, _, _, rfl, ?_⟩
      refine ⟨_, rfl, t, _, rfl, T2.pp _, rfl, ?_⟩
      have T3 := T2.put (p' := p + 1) (l' := l) (by omega) T2.l0
      have B3 : But t H (upd (upd H q (.tup [V.int cell, .int (p + 1)])) t (.dK (tapeK c (p + 1) l))) := But.upd (But.new But.refl hq)
      -- left = (..) ** 17 .. 
      have hb0 : 0 ≤ cell % 2147483647 := Int.emod_nonneg _ (by decide)
      have hb1 : cell % 2147483647 < 2147483647 := Int.emod_lt_of_pos _ (by decide)
      refine ⟨_, rfl, _, _, rfl, rfl, (by show (0 : Int) < 2147483647; decide), _, rfl, _, _, rfl, rfl, .inl ⟨by decide, by decide⟩, _, _, rfl, rfl, _, _, rfl, rfl, _, _, rfl, rfl, ⟨by decide, by decide, by omega⟩, _, _, rfl, rfl, ⟨by decide, by decide, by decide⟩, _, _, rfl, rfl, _, _, rfl, rfl, ?_, ?_⟩
      · show (0 : Int) < 10 ^ 50 + 151
        decide
      have hbig : (0 : Int) ≤ ((cell % 2147483647 + 69621 * p + 48271) ^ Int.toNat 17) % (10 ^ Int.toNat 50 + 151) := Int.emod_nonneg _ (by show (10 : Int) ^ 50 + 151 ≠ 0; decide)
      refine ⟨_, rfl, t, _, rfl, T3.pl _, ?_⟩
      have T4 := T3.put (p' := p + 1) (l' := ((cell % 2147483647 + 69621 * p + 48271) ^ Int.toNat 17) % (10 ^ Int.toNat 50 + 151)) (by omega) hbig
      have B4 := B3.upd (o := .dK (tapeK c (p + 1) (((cell % 2147483647 + 69621 * p + 48271) ^ Int.toNat 17) % (10 ^ Int.toNat 50 + 151))))
      refine ⟨_, rfl, _, _, rfl, rfl, ⟨by decide, by decide, by decide⟩, _, _, rfl, rfl, _, rfl, ?_⟩
      refine ite2 (fun hc => ?_) (fun hc => iteF (last _ _ (p + 1) _ rfl rfl rfl T4 (by omega) (by omega) B4))
      refine ⟨_, rfl, _, rfl, _, _, rfl, rfl, _, rfl, ?_⟩
      refine ite2 (fun _ => ?_) (fun _ => last _ _ (p + 1) _ rfl rfl rfl T4 (by omega) (by omega) B4)
      refine ⟨_, rfl, _, _, rfl, rfl, ⟨by decide, by decide, by decide⟩, _, _, rfl, rfl, _, rfl, t, _, rfl, T4.pl _, ?_⟩
      have hc' : (10 : Int) ^ Int.toNat 18 ≤ cell := of_decide_eq_true hc
      exact last _ _ (p + 1) _ rfl rfl rfl (T4.put (by omega) (by omega)) (by omega) (by omega) B4.upd
    · exact last H _ p l rfl rfl rfl hT (by omega) (by omega) But.refl
/-- pick(tape, items): one of the items, which stands as before -/
def spPick : Sp := fun vs H Q _ => ∃ (t c a : Addr) (cs : List Int) (p l : Int) (xs : List V), vs = [.ref t, .ref a] ∧ Tape H t c cs p l ∧ H a = some (.lst xs) ∧ xs ≠ [] ∧ xs.length ≤ 1000000 ∧ p < 1000000000000 ∧
  ∀ (i : Nat) (x : V) (p' l' : Int) (H' : Hp), xs[i]? = some x → p ≤ p' → p' ≤ p + 1 → Tape H' t c cs p' l' → But t H H' → Q x H'
theorem scP : FnScope ["_law_tape", "_law_items"] ["_law_tape", "_law_items"] (defScope sPick) := ⟨rfl, rfl, rfl, by decide +kernel, rfl, by decide +kernel, by decide +kernel⟩
theorem ok_pick {f fD : Addr} {fd fdD : FuncData} (F : Fun K "_law_pick" "_law_pick" sPick f fd) (T : TxtB mg) (G : FnOk P w K mg base CX0 1 fD fdD ["_law_tape", "_law_many"] spDraw) (mD : mg "_law_draw" = some (.ref fD)) (kD : PySem.W.keepIn K (.ref fD) = true) (bD : Binds K fdD ["_law_tape", "_law_many"] []) :
    FnOk P w K mg base CX0 2 f fd ["_law_tape", "_law_items"] spPick := by
  refine F.ok scP (fun vs H Q E h => ?_) (fun cdv A outer s H vs Q E hr h => ?_)
  · obtain ⟨t, c, a, cs, p, l, xs, rfl, _⟩ := h
    rfl
  · obtain ⟨t, c, a, cs, p, l, xs, rfl, hT, ha, hn, hx, hp, k⟩ := h
    have hl : 0 < xs.length := List.length_pos_iff.mpr hn
    refine ⟨_, pss_one (ps_ret (pe_ix ix_list (pv 1) (pe_call G hr rfl mD kD bD .nil pass0 (pa_cons (pv 0) (pa_cons (pe_callB call_len_seq (by rfl) T.len PySem.boot_len (pa_cons (pv 1) pa_nil)) pa_nil))) (fun _ _ => rfl))), ?_⟩
    refine ⟨_, rfl, _, rfl, _, rfl, a, xs, rfl, .inl (SqL.of ha), t, c, cs, p, l, _, rfl, hT, by omega, by omega, hp, fun r p' l' H' h0 h1 a1 a2 hT' hB => ?_⟩
    have hat : a ≠ t := ne_of ha hT.d (by intro z; cases z)
    obtain ⟨i, rfl⟩ : ∃ i : Nat, r = (i : Int) := ⟨r.toNat, by omega⟩
    have hi : i < xs.length := by omega
    refine ⟨a, xs, _, _, rfl, rfl, SqL.of (hB _ _ ha hat), atI_nat (List.getElem?_eq_getElem hi), k i _ p' l' H' (List.getElem?_eq_getElem hi) a1 a2 hT' hB⟩
end
end Bo

set_option Elab.async false
set_option linter.all false
set_option maxRecDepth 100000
set_option maxHeartbeats 4000000
/-! defs that ask repr: what runs around them is known to bear no repr in progress -/
namespace Bo
open PySem PySem.Spec PyProof.Rows L2
/-- room, and no repr in progress -/
structure Quiet (k : Nat) (A : Around) : Prop where
  room : Room k A
  gd : A.guards = some []
theorem Quiet.mono {j k : Nat} {A : Around} (q : Quiet k A) (h : j ≤ k) : Quiet j A := ⟨q.room.mono h, q.gd⟩
/-- a def's promise, kept where no repr is in progress -/
structure FnQ (P : Program) (w : World) (K : PySem.W.Frag) (mg : Str → Option Value) (base : Heap) (CX : CXT) (k : Nat) (f : Addr) (fd : FuncData) (ps : List Str) (sp : Sp) : Prop where
  len : ∀ vs H Q E, sp vs H Q E → vs.length = ps.length
  run : ∀ (A : Around) (outer : List Env) (s : Shared) (H : Hp) (args : Args) (us : List Value) (vs : List V) (Q : VK) (E : XK), Quiet k A → Env0 P w K mg base A outer s H → BindsTo s fd args (ps.zip us) → Vals vs us → sp vs H Q E →
    codeAny (model P w) A (.call (.ref f) args) (CR CX outer P w H s Q E) s
theorem FnQ.of {P : Program} {w : World} {K : PySem.W.Frag} {mg : Str → Option Value} {base : Heap} {CX : CXT} {k : Nat} {f : Addr} {fd : FuncData} {ps : List Str} {sp : Sp} (F : FnOk P w K mg base CX k f fd ps sp) : FnQ P w K mg base CX k f fd ps sp :=
  ⟨F.len, fun A outer s H args us vs Q E hr => F.run A outer s H args us vs Q E hr.room⟩
section
variable {CX : CXT} {P : Program} {w : World} {K : PySem.W.Frag} {mg : Str → Option Value} {base : Heap}
theorem fnq_of {k : Nat} {f : Addr} {name qual : Str} {params : Arguments} {body : List Stmt} {scope : Scope} {dV kV doc pm cdv ct oc : Value} {an od : Option Addr}
    {osl : Array (Option Value)} {N ps : List Str} {sp : Sp} (lk : K.lookup f = some ⟨oc, od, .func (PySem.W.fnOf name qual params body scope dV kV doc pm an cdv ct), osl⟩) (hcd : PySem.W.codeIn K cdv qual = true) (S : FnScope N ps scope)
    (len : ∀ vs H Q E, sp vs H Q E → vs.length = ps.length)
    (hbody : ∀ (A : Around) (outer : List Env) (s : Shared) (H : Hp) (vs : List V) (Q : VK) (E : XK), Quiet k (A.deeper (envOfC qual scope s.heap.objs.size f cdv)) → sp vs H Q E →
      ∃ t, PSs (cxOf CX P w K mg base N qual scope f cdv A outer s H E) body t ∧ t { nx := fun _ H' => Q .non H', rt := Q } (start N vs) H) :
    FnQ P w K mg base CX (k + 1) f (PySem.W.fnOf name qual params body scope dV kV doc pm an cdv ct) ps sp := by
  refine ⟨len, fun A outer s H args us vs Q E hq0 e0 hb r hsp => ?_⟩
  have hr := hq0.room
  have hl := len _ _ _ _ hsp
  have KX : K.In s.heap := e0.mod.kin.keeps fun b o e => (e0.bs b o e).1
  have lim : s.heap.NoLimit := e0.mod.nolimit.keeps fun b o e => (e0.bs b o e).1
  have hk : ∀ y ∈ ps.zip us, scope.names.lookup y.1 = some .local ∨ (scope.names.lookup y.1 = some .cell ∧ ((cellsFrom (s.heap.objs.size + 1) scope.names []).lookup y.1).isSome = true) := fun ⟨n, v⟩ hy => by
    rcases S.par n (List.of_mem_zip hy).1 with q | q
    · exact .inl q
    · exact .inr ⟨q, PySem.W.cellsFrom_some _ _ _ (.inl q)⟩
  refine codeAny_call_function hr.depth (KX _ _ lk) rfl S.co S.gen rfl (PySem.W.codeRec_of KX hcd) (hb _ _ _ _ (wpAny_newFunctionEnv_cells S.kind hk fun env he s1 x => ?_))
  subst he
  refine ⟨lim.keeps x.toInCall.keep, codeAny_func ?_⟩
  have hq1 : Quiet k (A.deeper (envOfC qual scope s.heap.objs.size f cdv)) := ⟨hr.deeper _, hq0.gd⟩
  obtain ⟨t, ht, hq⟩ := hbody A outer s H vs Q E hq1 hsp
  have I : L2.Inv (cxOf CX P w K mg base N qual scope f cdv A outer s H E) [] (start N vs) H s1 := inv_start S hr.hd e0 hl r x
  refine wpAny_mono (ht.run [] s1 (start N vs) H _ I hq) (fun fl s' hs => ?_) fun e s' hs => hs
  cases fl with
  | ret u =>
    obtain ⟨v, σ', H', J, rv, q⟩ := hs
    exact ⟨v, H', J.os, J.bare, J.base, J.hok, rv, q⟩
  | next =>
    obtain ⟨σ', H', J, q⟩ := hs
    exact ⟨V.non, H', J.os, J.bare, J.base, J.hok, rfl, q⟩
  | brk => exact (let ⟨_, _, _, q⟩ := hs; False.elim q)
  | cont => exact (let ⟨_, _, _, q⟩ := hs; False.elim q)
/-- THE RULE for a def of the text that asks repr -/
theorem fun_okQ {x qual : Str} {st : Stmt} {f : Addr} {fd : FuncData} {N ps : List Str} {k : Nat} {sp : Sp} (F : Fun K x qual st f fd) (S : FnScope N ps (defScope st)) (len : ∀ vs H Q E, sp vs H Q E → vs.length = ps.length)
    (hbody : ∀ (cdv : Value) (A : Around) (outer : List Env) (s : Shared) (H : Hp) (vs : List V) (Q : VK) (E : XK), Quiet k (A.deeper (envOfC qual (defScope st) s.heap.objs.size f cdv)) → sp vs H Q E →
      ∃ t, PSs (cxOf CX P w K mg base N qual (defScope st) f cdv A outer s H E) (defBody st) t ∧ t { nx := fun _ H' => Q .non H', rt := Q } (start N vs) H) : FnQ P w K mg base CX (k + 1) f fd ps sp := by
  obtain ⟨oc, od, kV, doc, pm, an, cdv, ct, osl, rfl, lk, hcd⟩ := F.ex
  exact fnq_of lk hcd S len fun A outer s H vs Q E hr hsp => hbody cdv A outer s H vs Q E hr hsp
/-- .. which no exception leaves -/
theorem fun_okQ0 {x qual : Str} {st : Stmt} {f : Addr} {fd : FuncData} {N ps : List Str} {k : Nat} {sp : Sp} (F : Fun K x qual st f fd) (S : FnScope N ps (defScope st)) (len : ∀ vs H Q E, sp vs H Q E → vs.length = ps.length)
    (hbody : ∀ (cdv : Value) (A : Around) (outer : List Env) (s : Shared) (H : Hp) (vs : List V) (Q : VK) (E : XK), Quiet k (A.deeper (envOfC qual (defScope st) s.heap.objs.size f cdv)) → sp vs H Q E →
      ∃ t, PSs (cxOf CX0 P w K mg base N qual (defScope st) f cdv A outer s H E).nox (defBody st) t ∧ t { nx := fun _ H' => Q .non H', rt := Q } (start N vs) H) : FnQ P w K mg base CX0 (k + 1) f fd ps sp :=
  fun_okQ F S len fun cdv A outer s H vs Q E hq hsp => let ⟨t, h, q⟩ := hbody cdv A outer s H vs Q E hq hsp; ⟨t, h.nox, q⟩
end
section
variable {X : Cx} {CX : CXT} {k : Nat} {f C : Addr} {fd : FuncData} {ps : List Str} {ds : List Value} {dvs : List V} {sp : Sp} {E : XK} {x m : Str} {p pos apos : Pos} {e o : Expr} {es : List Expr} {ta : TE} {t : TA}
theorem run_fnQ {pins : List (Addr × Obj)} {σ : L2.St} {H : Hp} {s : Shared} {Q : VK} {us : List Value} {vs : List V} (F : FnQ X.prog X.w X.K X.mg X.base CX k f fd ps sp) (hr : Quiet k X.A) (hb : Binds X.K fd ps ds) (hd : Vals dvs ds) (hx : Passes CX X E)
    (I : L2.Inv X pins σ H s) (r : Vals vs us) (h : sp (vs ++ dvs) H Q E) : wpAny (model X.prog X.w) X.A (call (.ref f) us) (EP X pins σ Q) X.xe s := by
  have r2 : Vals (vs ++ dvs) (us ++ ds) := r.append hd
  have hl : (us ++ ds).length = ps.length := r2.length.symm.trans (F.len _ _ _ _ h)
  refine wpAny_call (codeAny_mono (F.run X.A X.stack s H ⟨us, []⟩ (us ++ ds) (vs ++ dvs) Q E hr I.env0 (hb s us I.kIn hl) r2 h) fun r s' hq => ?_)
  match r, hq with
  | .error e, hq => exact hx pins σ H s e s' I hq
  | .ok (.ret u), hq => exact I.after hq
/-- f(e, ..) of such a def -/
theorem pe_callQ (F : FnQ X.prog X.w X.K X.mg X.base CX k f fd ps sp) (hr : Quiet k X.A) (hg : Gl X x) (hm : X.mg x = some (.ref f)) (hk : PySem.W.keepIn X.K (.ref f) = true) (hb : Binds X.K fd ps ds) (hd : Vals dvs ds) (hx : Passes CX X E)
    (ha : PA X (e :: es) t) (hdb : (x == ("__debug__" : Str)) = false := by decide) (he : starEach (e :: es) X.env = (false, eval e X.env) :: starEach es X.env := by rfl) (hpl : (backTo pos (starEach es X.env)).any (·.1) = false := by rfl) :
    PE X (.Call (.Name x p) (e :: es) [] pos) (tCall sp dvs E t) :=
  ⟨fun pins s σ H Q I h => wpAny_Call_Name_kw (ld_glob I hg hm
    (PySem.W.callWith_K (h₀ := X.base) I.ok.mod.kin hk (thn (ha.run pos pins s σ H _ I h) fun us s1 ⟨vs, H1, I1, r, q⟩ => ⟨I1.kIn, run_fnQ F hr hb hd hx I1 r q⟩) he hpl) hdb)⟩
mutual
theorem dp_hasDict {K : PySem.W.Frag} {H : Hp} : ∀ (d : PyData) (v : V), Dp K H v d → d.hasDict = false
  | .none, _, _ => rfl
  | .bool _, _, _ => rfl
  | .int _, _, _ => rfl
  | .str _, _, _ => rfl
  | .list ds, _, h => by
    cases h with
    | lst _ ha => unfold PyData.hasDict; exact dp_hasDictAll ds _ ha
  | .tuple ds, _, h => by
    cases h with
    | tup _ ha => unfold PyData.hasDict; exact dp_hasDictAll ds _ ha
  | .dict _, _, h => by cases h
theorem dp_hasDictAll {K : PySem.W.Frag} {H : Hp} : ∀ (ds : List PyData) (vs : List V), DpAll K H vs ds → PyData.hasDictAll ds = false
  | [], _, _ => rfl
  | d :: ds, _, h => by
    cases h with
    | cons h1 h2 => unfold PyData.hasDictAll; rw [dp_hasDict d _ h1, dp_hasDictAll ds _ h2]; rfl
end
/-- repr(x), x data of any depth without dicts: its text -/
def rRepr (K : PySem.W.Frag) : List V → Hp → VK → Prop := fun xs H Q => ∃ (x : V) (d : PyData), xs = [x] ∧ Dp K H x d ∧ d.showable = true ∧ d.depth ≤ 60 ∧ d.shown.length ≤ sizeLine ∧ Q (.str d.shown) H
theorem call_reprQ {k : Nat} (hr : Quiet k X.A) : CallR X (.builtin "repr") (rRepr X.K) := by
  intro pins s σ H xs us Q I r h
  obtain ⟨x, d, rfl, hd, hs, hdep, hz, q⟩ := h
  obtain ⟨u, rfl, ru⟩ := vals1 r
  have hun := hr.room.un
  have hnd := dp_hasDict d x hd
  obtain ⟨as, R⟩ := Dp.reads I d x u hd ru
  have big : ∀ a, u = Value.ref a → wpAny (model X.prog X.w) X.A (call (.builtin "repr") [u]) (EP X pins σ Q) X.xe s := fun a e => by
    subst e
    refine repr_of_reads' R hs (fun z => by rw [hnd] at z; cases z) hr.gd (by omega) (fun _ _ e => e) (fun h' u tk hk => ?_) hz
    exact ⟨.str d.shown, H, I.kept (t' := tk) hk, ⟨u, rfl⟩, q⟩
  cases hd with
  | non =>
    cases (show u = Value.none from ru)
    exact P.repr_of_none ⟨.str PyData.none.shown, H, I.tok _, ⟨_, rfl⟩, q⟩
  | bl b =>
    cases (show u = Value.bool b from ru)
    refine P.repr_of_bool ⟨.str (PyData.bool b).shown, H, I.tok _, ⟨s.toks, ?_⟩, q⟩
    cases b <;> rfl
  | int i =>
    obtain ⟨t, rfl⟩ := (show ∃ t, u = Value.int i t from ru)
    exact P.repr_of_int (of_decide_eq_true hs) ⟨.str (PyData.int i).shown, H, I.tok _, ⟨_, rfl⟩, q⟩
  | str y =>
    obtain ⟨t, rfl⟩ := (show ∃ t, u = Value.str y t from ru)
    exact P.repr_of_str ⟨.str (PyData.str y).shown, H, I.tok _, ⟨_, rfl⟩, q⟩ hz
  | lst _ _ => exact big _ ru
  | tup _ _ => exact big _ ru
end
/-- THE HEAD for a law that asks repr -/
theorem law_callQ {P : Program} {w : World} {K : PySem.W.Frag} {mg mb : Str → Option Value} {CX : CXT} {k : Nat} {fa a : Addr} {fd : FuncData} {x : Str} {sp : Sp} {s₁ : Shared} {vs : List Value} {ns : List Int}
    (KX : K.In s₁.heap) (hns : s₁.heap.Ns mainGlobals mg) (hb : s₁.heap.Ns builtinsNs mb) (hbb : ∀ x : Str, x ≠ "__name__" → mb x = bootBuiltins x) (hlim : s₁.heap.NoLimit) (hg : s₁.gens = #[])
    (ha : s₁.heap.get? a = some { cls := .type "list", data := .seq vs.toArray }) (hi : IntsAre vs ns) (hl : ns.length ≤ sizeLine) (hr : Quiet k callerA)
    (F : ∀ base : Heap, K.In base → base.Ns mainGlobals mg → FnQ P w K mg base CX k fa fd [x] sp) (hbind : ∀ (s : Shared) (u : Value), BindsTo s fd ⟨[u], []⟩ [(x, u)])
    (hsp : ∀ H : Hp, Only H → SqL K H a (ns.map V.int) → sp [.ref a] H (fun v _ => v = .bl true) fun _ _ _ => False)
    (hCX : ∀ H e s', CX [] H s₁ (fun _ _ _ => False) e s' → False) :
    codeAny (model P w) callerA (.call (.ref fa) ⟨[.ref a], []⟩) (fun r s' => r = .ok (.ret (.bool true)) ∧ OldK s₁.heap s'.heap ∧ s'.os = s₁.os ∧ AllBare s'.gens) s₁ := by
  have rv := vals_ints hi
  have core : ∀ H : Hp, Only H → SqL K H a (ns.map V.int) → HOk P w H s₁.heap → (∀ b, H b ≠ none → b = a) → (H a ≠ none → K.lookup a = none) →
      codeAny (model P w) callerA (.call (.ref fa) ⟨[.ref a], []⟩) (fun r s' => r = .ok (.ret (.bool true)) ∧ OldK s₁.heap s'.heap ∧ s'.os = s₁.os ∧ AllBare s'.gens) s₁ := by
    intro H hO hS hok hA hK
    -- what is no list is not tracked
    have free : ∀ {b : Addr} {o : Obj}, s₁.heap.get? b = some o → (b = a → False) → H b = none := fun {b o} _ n => by
      cases q : H b with
      | none => rfl
      | some u => exact (n (hA b (by rw [q]; simp))).elim
    have nsK : ∀ {b : Addr} {m : Str → Option Value}, s₁.heap.Ns b m → (hidT s₁.heap H).Ns b m := fun {b m} ⟨o, es, ep, e, d, r⟩ => ⟨o, es, ep, hidT_get e (free e fun z => by
      subst z
      rw [ha] at e
      cases e
      have d' : Data.seq vs.toArray _ = Data.dict es ep := d
      cases d'), d, r⟩
    have hKb : K.In (hidT s₁.heap H) := fun b o e => hidT_get (KX b o e) (by
      cases q : H b with
      | none => rfl
      | some u =>
        have z : b = a := hA b (by rw [q]; simp)
        subst z
        rw [hK (by rw [q]; simp)] at e
        cases e)
    have hM : Mod K mg (hidT s₁.heap H) := ⟨hKb, nsK hns, ⟨mb, nsK hb, hbb⟩, let ⟨mc, h1, h2⟩ := hlim; ⟨mc, nsK h1, h2⟩⟩
    have e0 : Env0 P w K mg (hidT s₁.heap H) callerA [] s₁ H := ⟨rfl, hM, fun b o e => of_hidT e, Nat.le_of_eq (hidT_size _ _), trivial, fun b hb => absurd (show b ∈ ([] : List Addr) from hb) (by simp), hok, .of_eq hg⟩
    refine codeAny_mono ((F _ hKb (nsK hns)).run callerA [] s₁ H ⟨[.ref a], []⟩ [.ref a] [.ref a] _ _ hr e0 (hbind s₁ (.ref a)) (.cons rfl .nil) (hsp H hO hS)) fun r s' h => ?_
    match r, h with
    | .error e, h => exact (hCX H e s' h).elim
    | .ok (.ret u), ⟨v, H', os, bare, un, hok', r', q⟩ =>
      obtain rfl : v = .bl true := q
      obtain rfl : u = Value.bool true := r'
      refine ⟨rfl, OldK.of_keep fun b o e => ?_, os, bare⟩
      rcases hO b with z | ⟨ob, xs, z⟩
      · exact un.keep b o e z (by intro z; exact absurd (show b ∈ ([] : List Addr) from z) (by simp)) (by simp)
      · obtain ⟨e1, _⟩ := hok b _ z
        obtain ⟨e2, _⟩ := hok' b _ (un.frzs b ob _ z)
        rw [e] at e1
        cases e1
        exact e2
  cases hk : K.lookup a with
  | some o =>
    have e := KX a o hk
    rw [ha] at e
    cases e
    exact core (fun _ => none) (fun _ => .inl rfl) (.inr ⟨_, vs.toArray, _, hk, rfl, rfl, rfl, by rw [List.size_toArray, hi.length]; exact hl, by simpa using rv⟩) (fun b u z => nomatch (show (none : Option HO) = some u from z)) (fun b z => absurd rfl z) fun z => absurd rfl z
  | none =>
    refine core (fun b => if b = a then some (.frz { cls := .type "list", data := .seq vs.toArray } (.lst (ns.map V.int))) else none) (fun b => ?_) (.inl (.inr ⟨{ cls := .type "list", data := .seq vs.toArray }, if_pos rfl⟩)) (fun b u z => ?_) (fun b z => ?_) fun _ => hk
    · by_cases hb : b = a
      · exact .inr ⟨_, _, if_pos hb⟩
      · exact .inl (if_neg hb)
    · by_cases hb : b = a
      · cases (if_pos hb).symm.trans z
        subst hb
        exact ⟨ha, by rw [List.length_map]; exact hl, vs, _, rv, ha⟩
      · cases (if_neg hb).symm.trans z
    · by_cases hb : b = a
      · exact hb
      · exact absurd (if_neg hb) z
theorem quiet_caller {k : Nat} (h : Room k callerA) : Quiet k callerA := ⟨h, rfl⟩
theorem walkQ {l : PySem.W.OpenLaw} {n k : Nat} {q : Program} {loose : List Str} {XP : (Str → Option Value) → Heap → Prop} {YP : World → Heap → Prop} {d : DefRec} {K : Params → PySem.W.Frag} {CX : World → CXT} {sp : World → Sp} {x : Str}
    (hn : l.most = some n) (hn2 : n ≤ sizeLine) (hdf : d.params.defaults = []) (hr : Room k callerA)
    (hY : ∀ (w : World) (h : Heap), YP w h → (K w.params).In h)
    (F : ∀ (w : World) (mg : Str → Option Value) (fa : Addr) (h : Heap), (K w.params).In h → h.Ns mainGlobals mg → mg d.name = some (.ref fa) →
      ∃ fd : FuncData, (∀ (s : Shared) (u : Value), BindsTo s fd ⟨[u], []⟩ [(x, u)]) ∧
        ∀ base : Heap, (K w.params).In base → base.Ns mainGlobals mg → FnQ l.prog w (K w.params) mg base (CX w) k fa fd [x] (sp w))
    (hsp : ∀ (w : World) (H : Hp) (a : Addr) (ns : List Int), ns.length ≤ n → Only H → SqL (K w.params) H a (ns.map V.int) → sp w [.ref a] H (fun v _ => v = .bl true) fun _ _ _ => False)
    (hCX : ∀ (w : World) (H : Hp) (s : Shared) (e : Value) (s' : Shared), CX w [] H s (fun _ _ _ => False) e s' → False) :
    PySem.W.WalkO q loose XP YP l.row.toRowW d [] (fun f vs => PySem.call f vs) := by
  refine Att.attach_call hn hdf fun w s₀ s₁ mg mb fa o pm cd doc a vs ns G Y ho hd hcd hmg hobj hints hlen hg => ?_
  have KX := hY w _ Y
  obtain ⟨fd, hb, hF⟩ := F w mg fa _ KX G.T.g hmg
  exact law_callQ KX G.T.g G.T.b G.T.builtins G.T.nolimit hg hobj hints (Nat.le_trans hlen hn2) (quiet_caller hr) hF hb (fun H hO hS => hsp w H a ns hlen hO hS) fun H e s' => hCX w H s₁ e s'
end Bo

set_option Elab.async false
set_option linter.all false
set_option maxRecDepth 100000
set_option maxHeartbeats 8000000
namespace Bo
open PySem PySem.Spec PyProof.Rows L2
/-! ### a thing that is known from now on: it is never written again -/
def tFz (t : TE) : TE := fun σ H Q => t σ H fun x H1 => ∃ d u, x = .ref d ∧ H1 d = some u ∧ Mut (some u) ∧ ∀ od, Q x (upd H1 d (.frz od u))
theorem pe_fz {X : Cx} {e : Expr} {t : TE} (h : PE X e t) : PE X e (tFz t) :=
  ⟨fun pins s σ H Q I hw => thn (h.run pins s σ H _ I hw) fun v s1 ⟨x, H1, I1, r, d, u, ex, hd, mu, q⟩ => by
    obtain ⟨od, I2⟩ := I1.lock hd mu
    exact ⟨x, _, I2, r, q od⟩⟩
def Fz (H : Hp) (a : Addr) (u : HO) : Prop := ∃ o, H a = some (.frz o u)
theorem Fz.rd {H : Hp} {a : Addr} {u : HO} (h : Fz H a u) : Rd H a u := .inr h
theorem Fz.keep {H H' : Hp} {a : Addr} {u : HO} (h : Fz H a u) (k : Same H H') : Fz H' a u := by
  obtain ⟨o, e⟩ := h
  exact ⟨o, k _ _ e⟩
theorem Rd.keep {H H' : Hp} {a : Addr} {u : HO} (h : Rd H a u) (k : Same H H') : Rd H' a u := h.elim (fun e => .inl (k _ _ e)) fun ⟨o, e⟩ => .inr ⟨o, k _ _ e⟩
theorem SqT.keep {K : PySem.W.Frag} {H H' : Hp} {a : Addr} {xs : List V} (h : SqT K H a xs) (k : Same H H') : SqT K H' a xs := h.elim (fun e => .inl (Rd.keep e k)) .inr
theorem SqL.keep {K : PySem.W.Frag} {H H' : Hp} {a : Addr} {xs : List V} (h : SqL K H a xs) (k : Same H H') : SqL K H' a xs := h.elim (fun e => .inl (Rd.keep e k)) .inr
theorem same_fz {H H1 : Hp} {d : Addr} {u w : HO} (k : Same H H1) (h : H d = none) : Same H (upd H1 d w) := fun b o e => by rw [upd_ne (ne_of_none e h)]; exact k _ _ e
/-- a comprehension that makes a dict -/
theorem dc_go {J : It} {n : Nat} {G : Hp → Prop} {Y : Nat → Hp → V → Hp → Prop} (w : L2.Walk J n G Y) {g : TG} {tt : TT} {tk tv : TE} {vs : List Nat} {σ : L2.St} {H1 : Hp} {D : Addr} {Qd : Hp → Prop} (Pv : Nat → Hp → Prop) (h0 : Pv 0 (upd H1 D (.dK [])))
    (hG : ∀ i H, i ≤ n → Pv i H → G H) (hs : ∀ i x H H', i < n → Pv i H → Y i H x H' → g x (wipe σ vs) H' fun σ2 H2 => wipe σ2 vs = wipe σ vs ∧ tt σ2 H2 fun b H3 =>
      if b = true then tk σ2 H3 fun y H4 => tv σ2 H4 fun z H5 => ∃ kvs k, y = kV k ∧ H5 D = some (.dK kvs) ∧ kvs.length < sizeLine ∧ Pv (i + 1) (upd H5 D (.dK (putK kvs k z))) else Pv (i + 1) H3) (hd : ∀ H, Pv n H → Qd H) :
    ∃ W : Nat → Nat → Hp → Prop, (∃ m, W 0 m (upd H1 D (.dK []))) ∧ ∀ i m H, W i m H → (J.stop i H ∧ Qd H) ∨ (J.go i H ∧ ∃ Nx : Hp → Prop, (∀ H', Nx H' → ∃ m', m' < m ∧ W (i + 1) m' H') ∧ ∀ x H', J.yld i H x H' → g x (wipe σ vs) H' fun σ2 H2 => wipe σ2 vs = wipe σ vs ∧ tt σ2 H2 fun b H3 =>
        if b = true then tk σ2 H3 fun y H4 => tv σ2 H4 fun z H5 => ∃ kvs k, y = kV k ∧ H5 D = some (.dK kvs) ∧ kvs.length < sizeLine ∧ Nx (upd H5 D (.dK (putK kvs k z))) else Nx H3) := by
  refine ⟨fun i m H => (m = n - i ∧ i ≤ n) ∧ Pv i H, ⟨n, ⟨rfl, Nat.zero_le _⟩, h0⟩, fun i m H hw => ?_⟩
  obtain ⟨⟨hm, hi⟩, p⟩ := hw
  have g1 := hG i H hi p
  rcases Nat.lt_or_ge i n with lt | ge
  · refine .inr ⟨w.goes i H lt g1, Pv (i + 1), fun H' p' => ⟨n - (i + 1), by omega, ⟨rfl, lt⟩, p'⟩, fun x H' y => hs i x H H' lt p (w.yields i H x H' lt g1 y)⟩
  · obtain rfl : i = n := Nat.le_antisymm hi ge
    exact .inl ⟨w.stops H g1, hd H p⟩
/-! ### flat data: an atom; a tuple or a list of atoms; a dict with texts as keys and atoms as values -/
def atomV : V → Bool
  | .non => true
  | .bl _ => true
  | .int _ => true
  | .str _ => true
  | _ => false
def tyA : V → String
  | .non => "NoneType"
  | .bl _ => "bool"
  | .int _ => "int"
  | _ => "str"
theorem atom_ty {K : PySem.W.Frag} {H : Hp} : ∀ {v : V}, atomV v = true → TyX K H v (.type (tyA v))
  | .non, _ => .base .non
  | .bl _, _ => .base (.bl _)
  | .int _, _ => .base (.int _)
  | .str _, _ => .base (.str _)
theorem atom_no {v : V} (h : atomV v = true) (K : PySem.W.Frag) {c : String} (hc : c = "tuple" ∨ c = "list" ∨ c = "dict") : PySem.W.kitOne K (.type (tyA v)) (.type c) = some false := by
  cases v with
  | non => rcases hc with rfl | rfl | rfl <;> exact kit_ty (by decide +kernel)
  | bl b => rcases hc with rfl | rfl | rfl <;> exact kit_ty (a := "bool") (by decide +kernel)
  | int i => rcases hc with rfl | rfl | rfl <;> exact kit_ty (a := "int") (by decide +kernel)
  | str x => rcases hc with rfl | rfl | rfl <;> exact kit_ty (a := "str") (by decide +kernel)
  | _ => cases h
def dataA : V → PyData
  | .bl b => .bool b
  | .int i => .int i
  | .str x => .str x
  | _ => .none
def Atoms (xs : List V) : Prop := ∀ x ∈ xs, atomV x = true
def strK (ps : List (Str × V)) : List (Key × V) := ps.map fun p => (Sum.inr p.1, p.2)
def strD (ps : List (Str × V)) : List (PyData × PyData) := ps.map fun p => (.str p.1, dataA p.2)
inductive Flat (K : PySem.W.Frag) (H : Hp) : V → PyData → Prop where
  | atom {v : V} (h : atomV v = true) : Flat K H v (dataA v)
  | tup {a : Addr} {xs : List V} (h : SqT K H a xs) (x : Atoms xs) (l : xs.length ≤ 1000) : Flat K H (.ref a) (.tuple (xs.map dataA))
  | lst {a : Addr} {xs : List V} (h : H a = some (.lst xs)) (x : Atoms xs) (l : xs.length ≤ 1000) : Flat K H (.ref a) (.list (xs.map dataA))
  | dct {a : Addr} {ps : List (Str × V)} (h : H a = some (.dK (strK ps))) (x : Atoms (ps.map (·.2))) (nd : (ps.map (·.1)).Nodup) (l : ps.length ≤ 1000) : Flat K H (.ref a) (.dict (strD ps))
theorem Flat.keep {K : PySem.W.Frag} {H H' : Hp} {v : V} {d : PyData} (h : Flat K H v d) (k : Same H H') : Flat K H' v d := by
  cases h with
  | atom h => exact .atom h
  | tup h x l => exact .tup (SqT.keep h k) x l
  | lst h x l => exact .lst (k _ _ h) x l
  | dct h x nd l => exact .dct (k _ _ h) x nd l
theorem take_snoc {α : Type} : ∀ {l : List α} {i : Nat} {x : α}, l[i]? = some x → l.take (i + 1) = l.take i ++ [x]
  | [], i, x, h => by simp at h
  | a :: l, 0, x, h => by simp at h; simp [h]
  | a :: l, i + 1, x, h => by simpa using take_snoc (l := l) (i := i) (x := x) (by simpa using h)
end Bo

set_option Elab.async false
set_option linter.all false
set_option maxRecDepth 100000
set_option maxHeartbeats 8000000
namespace Bo
open PySem L2
abbrev sCopied : Stmt := top 2
structure TxtC (mg : Str → Option Value) : Prop where
  isi : mg "isinstance" = none
  tup : mg "tuple" = none
  lst : mg "list" = none
  dct : mg "dict" = none
def spAtom : Sp := fun vs H Q _ => ∃ v, vs = [v] ∧ atomV v = true ∧ Q v H
section
variable {P : Program} {w : World} {K : PySem.W.Frag} {mg : Str → Option Value} {base : Heap}
theorem scC : FnScope ["thing", "inner", "key"] ["thing"] (defScope sCopied) := ⟨rfl, rfl, rfl, by decide +kernel, rfl, by decide +kernel, by decide +kernel⟩
theorem ok_atom {f : Addr} {fd : FuncData} (F : Fun K "copied" "copied" sCopied f fd) (T : TxtC mg) : FnOk P w K mg base CX0 1 f fd ["thing"] spAtom := by
  refine F.ok scC (fun vs H Q E h => ?_) (fun cdv A outer s H vs Q E hr h => ?_)
  · obtain ⟨v, rfl, _⟩ := h
    rfl
  · obtain ⟨v, rfl, hv, q⟩ := h
    refine ⟨_, pss_cons (ps_if (pt_val (pe_callB call_isi (by rfl) T.isi (by decide +kernel) (pa_cons (pv 0) (pa_cons (pe_bltn (v := .ty "tuple") (by rfl) T.tup (by decide +kernel) rfl) pa_nil)))) (pss_one ps_never) pss_nil)
      (pss_cons (ps_if (pt_val (pe_callB call_isi (by rfl) T.isi (by decide +kernel) (pa_cons (pv 0) (pa_cons (pe_bltn (v := .ty "list") (by rfl) T.lst (by decide +kernel) rfl) pa_nil)))) (pss_one ps_never) pss_nil)
      (pss_cons (ps_if (pt_val (pe_callB call_isi (by rfl) T.isi (by decide +kernel) (pa_cons (pv 0) (pa_cons (pe_bltn (v := .ty "dict") (by rfl) T.dct (by decide +kernel) rfl) pa_nil)))) (pss_one ps_never) pss_nil)
      (pss_one (ps_ret (pv 0))))), ?_⟩
    refine ⟨_, rfl, v, _, _, _, false, rfl, .ty "tuple", atom_ty hv, atom_no hv K (.inl rfl), _, rfl, iteF ?_⟩
    refine ⟨_, rfl, v, _, _, _, false, rfl, .ty "list", atom_ty hv, atom_no hv K (.inr (.inl rfl)), _, rfl, iteF ?_⟩
    refine ⟨_, rfl, v, _, _, _, false, rfl, .ty "dict", atom_ty hv, atom_no hv K (.inr (.inr rfl)), _, rfl, iteF ?_⟩
    exact ⟨_, rfl, q⟩
theorem sqT_ty {H : Hp} {a : Addr} {xs : List V} (h : SqT K H a xs) : TyX K H (.ref a) (.type "tuple") := by
  rcases h with (h | ⟨o, h⟩) | ⟨o, its, n, h, c, _⟩
  · exact .base (.tup h)
  · exact .fTuple h
  · exact .kTuple h c
/-- a tuple of atoms: a new tuple of the same -/
def spTupA (K : PySem.W.Frag) : Sp := fun vs H Q _ => ∃ (a : Addr) (xs : List V), vs = [.ref a] ∧ SqT K H a xs ∧ Atoms xs ∧ xs.length ≤ 1000 ∧ ∀ (b : Addr) (H' : Hp), Same H H' → H b = none → H' b = some (.tup xs) → Q (.ref b) H'
theorem ok_tupA {f : Addr} {fd : FuncData} (F : Fun K "copied" "copied" sCopied f fd) (T : TxtC mg) (mC : mg "copied" = some (.ref f)) (bC : Binds K fd ["thing"] []) : FnOk P w K mg base CX0 2 f fd ["thing"] (spTupA K) := by
  have G : FnOk P w K mg base CX0 1 f fd ["thing"] spAtom := ok_atom F T
  refine F.ok scC (fun vs H Q E h => ?_) (fun cdv A outer s H vs Q E hr h => ?_)
  · obtain ⟨a, xs, rfl, _⟩ := h
    rfl
  · obtain ⟨a, xs, rfl, ha, hat, hl, k⟩ := h
    refine ⟨_, pss_cons (ps_if (pt_val (pe_callB call_isi (by rfl) T.isi (by decide +kernel) (pa_cons (pv 0) (pa_cons (pe_bltn (v := .ty "tuple") (by rfl) T.tup (by decide +kernel) rfl) pa_nil)))) (pss_one (ps_ret (pe_callTy call_tuple_of (by rfl) T.tup (by decide +kernel)
          (pa_cons (pe_lc (own := [("inner", 1)]) (g := gName 1) (tt := tYes) rfl scC.nd (pi_tup (pv 0)) (blkOk_by (N := ["thing", "inner", "key"]) (sc := defScope sCopied) (by decide +kernel)) (fun _ _ _ _ _ => pg_name (i := 1) scC.nd rfl (Or.inl rfl)) (fun _ _ _ _ _ => pts_nil) (fun _ _ _ _ _ => pe_call G hr rfl mC F.kp bC .nil pass0 (pa_cons (pv 1) pa_nil))) pa_nil)))) pss_nil)
      (pss_cons ps_never (pss_cons ps_never (pss_one ps_never))), ?_⟩
    refine ⟨_, rfl, _, _, _, _, true, rfl, .ty "tuple", sqT_ty ha, kit_ty (by decide +kernel), _, rfl, iteT ?_⟩
    refine ⟨_, rfl, a, rfl, ⟨xs, ha⟩, fun D hD => ?_⟩
    refine lc_tup (xs := xs) (fun i H' => H' = upd H D (.lst (xs.take i))) rfl (fun i H' _ e => by subst e; exact SqT.keep ha (same_new hD)) ?_ ?_
    · intro i x H' hx e
      subst e
      refine ⟨rfl, iteT (B := True) ⟨x, rfl, x, rfl, hat x (List.mem_of_getElem? hx), xs.take i, upd_same, ?_, ?_⟩⟩
      · rw [sizeLine_eq, List.length_take]; omega
      · rw [upd_upd, ← take_snoc hx]
    · intro H' e
      subst e
      rw [List.take_length]
      refine ⟨D, xs, rfl, .inl ⟨SqL.of upd_same, fun b hb => ?_⟩⟩
      have bD : b ≠ D := fun z => by rw [z, upd_same] at hb; cases hb
      have hbn : H b = none := by rw [upd_ne bD] at hb; exact hb
      exact k b _ ((same_new hD).trans (same_new hb)) hbn upd_same
/-- a list of atoms: a new list of the same -/
def spLstA : Sp := fun vs H Q _ => ∃ (a : Addr) (xs : List V), vs = [.ref a] ∧ H a = some (.lst xs) ∧ Atoms xs ∧ xs.length ≤ 1000 ∧ ∀ (b : Addr) (H' : Hp), Same H H' → H b = none → H' b = some (.lst xs) → Q (.ref b) H'
theorem ok_lstA {f : Addr} {fd : FuncData} (F : Fun K "copied" "copied" sCopied f fd) (T : TxtC mg) (mC : mg "copied" = some (.ref f)) (bC : Binds K fd ["thing"] []) : FnOk P w K mg base CX0 2 f fd ["thing"] spLstA := by
  have G : FnOk P w K mg base CX0 1 f fd ["thing"] spAtom := ok_atom F T
  refine F.ok scC (fun vs H Q E h => ?_) (fun cdv A outer s H vs Q E hr h => ?_)
  · obtain ⟨a, xs, rfl, _⟩ := h
    rfl
  · obtain ⟨a, xs, rfl, ha, hat, hl, k⟩ := h
    refine ⟨_, pss_cons (ps_if (pt_val (pe_callB call_isi (by rfl) T.isi (by decide +kernel) (pa_cons (pv 0) (pa_cons (pe_bltn (v := .ty "tuple") (by rfl) T.tup (by decide +kernel) rfl) pa_nil)))) (pss_one ps_never) pss_nil)
      (pss_cons (ps_if (pt_val (pe_callB call_isi (by rfl) T.isi (by decide +kernel) (pa_cons (pv 0) (pa_cons (pe_bltn (v := .ty "list") (by rfl) T.lst (by decide +kernel) rfl) pa_nil)))) (pss_one (ps_ret
          (pe_lc (own := [("inner", 1)]) (g := gName 1) (tt := tYes) rfl scC.nd (pi_list (pv 0)) (blkOk_by (N := ["thing", "inner", "key"]) (sc := defScope sCopied) (by decide +kernel)) (fun _ _ _ _ _ => pg_name (i := 1) scC.nd rfl (Or.inl rfl)) (fun _ _ _ _ _ => pts_nil) (fun _ _ _ _ _ => pe_call G hr rfl mC F.kp bC .nil pass0 (pa_cons (pv 1) pa_nil))))) pss_nil)
      (pss_cons ps_never (pss_one ps_never))), ?_⟩
    refine ⟨_, rfl, _, _, _, _, false, rfl, .ty "tuple", .base (.lst ha), kit_ty (by decide +kernel), _, rfl, iteF ?_⟩
    refine ⟨_, rfl, _, _, _, _, true, rfl, .ty "list", .base (.lst ha), kit_ty (by decide +kernel), _, rfl, iteT ?_⟩
    refine ⟨_, rfl, a, rfl, ⟨xs, SqL.of ha⟩, fun D hD => ?_⟩
    refine lc_list (xs := xs) (fun i H' => H' = upd H D (.lst (xs.take i))) rfl (fun i H' _ e => by subst e; exact SqL.of (same_new hD _ _ ha)) ?_ ?_
    · intro i x H' hx e
      subst e
      refine ⟨rfl, iteT (B := True) ⟨x, rfl, x, rfl, hat x (List.mem_of_getElem? hx), xs.take i, upd_same, ?_, ?_⟩⟩
      · rw [sizeLine_eq, List.length_take]; omega
      · rw [upd_upd, ← take_snoc hx]
    · intro H' e
      subst e
      rw [List.take_length]
      exact k D _ (same_new hD) hD upd_same
theorem strK_get {ps : List (Str × V)} {i : Nat} {k : Key} {v : V} (h : (strK ps)[i]? = some (k, v)) : ∃ x, ps[i]? = some (x, v) ∧ k = Sum.inr x := by
  unfold strK at h
  rw [List.getElem?_map] at h
  obtain ⟨p, hp, e⟩ := Option.map_eq_some_iff.mp h
  cases e
  exact ⟨p.1, hp, rfl⟩
theorem strK_val {ps : List (Str × V)} (nd : (ps.map (·.1)).Nodup) {i : Nat} {x : Str} {v : V} (h : ps[i]? = some (x, v)) : valV (strK ps) (Sum.inr x) = some v := by
  induction ps generalizing i with
  | nil => simp at h
  | cons p r ih =>
    obtain ⟨n1, n2⟩ := List.nodup_cons.mp (show (p.1 :: r.map (·.1)).Nodup from nd)
    cases i with
    | zero =>
      simp at h
      subst h
      exact valV_pos (p := (Sum.inr x, v)) rfl
    | succ i =>
      have h' : r[i]? = some (x, v) := by simpa using h
      have hne : ¬ (Sum.inr p.1 : Key) = Sum.inr x := fun e => by
        cases e
        exact n1 (List.mem_map.mpr ⟨_, List.mem_of_getElem? h', rfl⟩)
      exact (valV_neg (p := (Sum.inr p.1, p.2)) hne).trans (ih n2 h')
theorem strK_put {ps : List (Str × V)} (nd : (ps.map (·.1)).Nodup) {i : Nat} {x : Str} {v : V} (h : ps[i]? = some (x, v)) : putK (strK (ps.take i)) (Sum.inr x) v = strK (ps.take (i + 1)) := by
  have hn : valV (strK (ps.take i)) (Sum.inr x) = none := by
    have key : ∀ qs : List (Str × V), x ∉ qs.map (·.1) → valV (strK qs) (Sum.inr x) = none := by
      intro qs
      induction qs with
      | nil => intro _; rfl
      | cons q r ih =>
        intro hx
        have hne : ¬ (Sum.inr q.1 : Key) = Sum.inr x := fun e => by
          cases e
          exact hx List.mem_cons_self
        exact (valV_neg (p := (Sum.inr q.1, q.2)) hne).trans (ih fun z => hx (List.mem_cons_of_mem _ z))
    refine key _ fun z => ?_
    rw [List.map_take] at z
    have hi : (ps.map (·.1))[i]? = some x := by rw [List.getElem?_map, h]; rfl
    obtain ⟨j, hj, e⟩ := List.getElem_of_mem z
    rw [List.length_take] at hj
    rw [List.getElem_take] at e
    obtain ⟨hl, e2⟩ := List.getElem?_eq_some_iff.mp hi
    have := (List.pairwise_iff_getElem.mp nd) j i (by omega) hl (by omega)
    exact this (e.trans e2.symm)
  rw [putK_new _ hn, take_snoc h]
  unfold strK
  rw [List.map_append]
  rfl
/-- a dict of atoms: a new dict of the same -/
def spDctA : Sp := fun vs H Q _ => ∃ (a : Addr) (ps : List (Str × V)), vs = [.ref a] ∧ H a = some (.dK (strK ps)) ∧ Atoms (ps.map (·.2)) ∧ (ps.map (·.1)).Nodup ∧ ps.length ≤ 1000 ∧ ∀ (b : Addr) (H' : Hp), Same H H' → H b = none → H' b = some (.dK (strK ps)) → Q (.ref b) H'
theorem ok_dctA {f : Addr} {fd : FuncData} (F : Fun K "copied" "copied" sCopied f fd) (T : TxtC mg) (mC : mg "copied" = some (.ref f)) (bC : Binds K fd ["thing"] []) : FnOk P w K mg base CX0 2 f fd ["thing"] spDctA := by
  have G : FnOk P w K mg base CX0 1 f fd ["thing"] spAtom := ok_atom F T
  refine F.ok scC (fun vs H Q E h => ?_) (fun cdv A outer s H vs Q E hr h => ?_)
  · obtain ⟨a, ps, rfl, _⟩ := h
    rfl
  · obtain ⟨a, ps, rfl, ha, hat, nd, hl, k⟩ := h
    refine ⟨_, pss_cons (ps_if (pt_val (pe_callB call_isi (by rfl) T.isi (by decide +kernel) (pa_cons (pv 0) (pa_cons (pe_bltn (v := .ty "tuple") (by rfl) T.tup (by decide +kernel) rfl) pa_nil)))) (pss_one ps_never) pss_nil)
      (pss_cons (ps_if (pt_val (pe_callB call_isi (by rfl) T.isi (by decide +kernel) (pa_cons (pv 0) (pa_cons (pe_bltn (v := .ty "list") (by rfl) T.lst (by decide +kernel) rfl) pa_nil)))) (pss_one ps_never) pss_nil)
      (pss_cons (ps_if (pt_val (pe_callB call_isi (by rfl) T.isi (by decide +kernel) (pa_cons (pv 0) (pa_cons (pe_bltn (v := .ty "dict") (by rfl) T.dct (by decide +kernel) rfl) pa_nil)))) (pss_one (ps_ret
          (pe_lock (pe_dc (own := [("key", 2)]) (g := gName 2) (tt := tYes) rfl scC.nd (pi_keys (pv 0)) (blkOk_by (N := ["thing", "inner", "key"]) (sc := defScope sCopied) (by decide +kernel)) (fun _ _ _ _ _ => pg_name (i := 2) scC.nd rfl (Or.inl rfl)) (fun _ _ _ _ _ => pts_nil) (fun _ _ _ _ _ => pv 2) (fun _ _ _ _ _ => pe_call G hr rfl mC F.kp bC .nil pass0 (pa_cons (pe_dget (hu_of hr) (pv 0) (pv 2) (fun _ _ => rfl)) pa_nil)))))) pss_nil)
      (pss_one ps_never))), ?_⟩
    refine ⟨_, rfl, _, _, _, _, false, rfl, .ty "tuple", .base (.dK ha), kit_ty (by decide +kernel), _, rfl, iteF ?_⟩
    refine ⟨_, rfl, _, _, _, _, false, rfl, .ty "list", .base (.dK ha), kit_ty (by decide +kernel), _, rfl, iteF ?_⟩
    refine ⟨_, rfl, _, _, _, _, true, rfl, .ty "dict", .base (.dK ha), kit_ty (by decide +kernel), _, rfl, iteT ?_⟩
    refine ⟨a, _, ha, True.intro, fun od => ?_⟩
    refine ⟨_, rfl, a, od, rfl, .inl ⟨_, upd_same, fun D hD => ?_⟩⟩
    have aD : D ≠ a := fun z => by rw [z, upd_same] at hD; cases hD
    have nD : H D = none := by rw [upd_ne aD] at hD; exact hD
    refine dc_go (walk_keys (kvs := strK ps)) (fun i H' => H' = upd (upd H a (.frz od (.dK (strK ps)))) D (.dK (strK (ps.take i)))) rfl (fun i H' _ e => by subst e; rw [upd_ne aD.symm]; exact upd_same) ?_ ?_
    · intro i x H1 H' hi e y
      subst e
      obtain ⟨eH, kk, v, hkv, rfl⟩ := y
      subst eH
      obtain ⟨z, hz, rfl⟩ := strK_get hkv
      refine ⟨rfl, iteT (B := True) ⟨_, rfl, _, rfl, _, rfl, a, v, rfl, ?_, v, rfl, hat v (List.mem_map.mpr ⟨_, List.mem_of_getElem? hz, rfl⟩), strK (ps.take i), Sum.inr z, rfl, upd_same, ?_, ?_⟩⟩
      · exact .inl ⟨_, Sum.inr z, .inr ⟨od, by rw [upd_ne aD.symm]; exact upd_same⟩, rfl, (strK_val nd hz).symm⟩
      · unfold strK
        rw [sizeLine_eq, List.length_map, List.length_take]; omega
      · rw [upd_upd, strK_put nd hz]
    · intro H' e
      subst e
      have hlen : (strK ps).length = ps.length := by unfold strK; rw [List.length_map]
      rw [hlen, List.take_length]
      refine ⟨by rw [upd_ne aD.symm]; exact upd_same, ?_⟩
      refine k D _ (fun b o e => ?_) nD (by rw [upd_ne aD, upd_same])
      by_cases hb : b = a
      · subst hb
        rw [ha] at e
        cases e
        exact upd_same
      · rw [upd_ne hb, upd_ne (ne_of_none e nD), upd_ne hb]
        exact e
def spCopy (K : PySem.W.Frag) : Sp := fun vs H Q _ => ∃ (v : V) (d : PyData), vs = [v] ∧ Flat K H v d ∧ ∀ v' H', Same H H' → Flat K H' v' d → Q v' H'
theorem ok_copy {f : Addr} {fd : FuncData} (F : Fun K "copied" "copied" sCopied f fd) (T : TxtC mg) (mC : mg "copied" = some (.ref f)) (bC : Binds K fd ["thing"] []) : FnOk P w K mg base CX0 2 f fd ["thing"] (spCopy K) := by
  have G1 : FnOk P w K mg base CX0 2 f fd ["thing"] spAtom := (ok_atom F T).mono (by decide)
  have G2 : FnOk P w K mg base CX0 2 f fd ["thing"] (spTupA K) := ok_tupA F T mC bC
  have G3 : FnOk P w K mg base CX0 2 f fd ["thing"] spLstA := ok_lstA F T mC bC
  have G4 : FnOk P w K mg base CX0 2 f fd ["thing"] spDctA := ok_dctA F T mC bC
  refine ⟨fun vs H Q E h => ?_, fun A outer s H args us vs Q E hr he hb hv hs => ?_⟩
  · obtain ⟨v, d, rfl, _⟩ := h
    rfl
  · obtain ⟨v, d, rfl, hp, k⟩ := hs
    cases id hp with
    | atom h => exact G1.run A outer s H args us _ Q E hr he hb hv ⟨v, rfl, h, k v H (Same.refl H) hp⟩
    | tup h x l => exact G2.run A outer s H args us _ Q E hr he hb hv ⟨_, _, rfl, h, x, l, fun b H' sm _ e => k _ H' sm (.tup (SqT.of e) x l)⟩
    | lst h x l => exact G3.run A outer s H args us _ Q E hr he hb hv ⟨_, _, rfl, h, x, l, fun b H' sm _ e => k _ H' sm (.lst e x l)⟩
    | dct h x nd l => exact G4.run A outer s H args us _ Q E hr he hb hv ⟨_, _, rfl, h, x, nd, l, fun b H' sm _ e => k _ H' sm (.dct e x nd l)⟩
end
end Bo

set_option Elab.async false
set_option linter.all false
set_option maxRecDepth 100000
set_option maxHeartbeats 8000000
namespace Bo
open PySem L2
abbrev sIsName : Stmt := top 23
def lets : Str := Str.ofString "abcdefghijklmnopqrstuvwxyz"
def digs : Str := Str.ofString "0123456789"
def isLet (c : Nat) : Bool := decide (c ∈ lets.cps.toList)
def isSign (c : Nat) : Bool := decide (c ∈ lets.cps.toList) || decide (c ∈ digs.cps.toList)
/-- x is a name -/
def nameOk (x : Str) : Bool := decide (1 ≤ x.cps.toList.length) && (decide (x.cps.toList.length ≤ 8) && ((x.cps.toList.head?.any isLet) && x.cps.toList.all isSign))
def nameV : V → Bool
  | .str x => nameOk x
  | _ => false
structure TxtN (mg : Str → Option Value) : Prop extends TxtC mg where
  let_ : ∃ t, mg "LETTERS" = some (.str lets t)
  dig : ∃ t, mg "DIGITS" = some (.str digs t)
  lon : ∃ t, mg "LONGEST_NAME" = some (.int 8 t)
  len : mg "len" = none
  str_ : mg "str" = none
  all_ : mg "all" = none
/-- v is no text, of one of the kinds of flat data -/
theorem flat_ty {K : PySem.W.Frag} {H : Hp} {v : V} {d : PyData} (h : Flat K H v d) : (∃ x, v = .str x) ∨ ∃ t : Value, TyX K H v t ∧ PySem.W.kitOne K t (.type "str") = some false := by
  cases h with
  | atom h =>
    cases v with
    | str x => exact .inl ⟨x, rfl⟩
    | non => exact .inr ⟨_, .base .non, kit_ty (by decide +kernel)⟩
    | bl b => exact .inr ⟨_, .base (.bl b), kit_ty (by decide +kernel)⟩
    | int i => exact .inr ⟨_, .base (.int i), kit_ty (by decide +kernel)⟩
    | _ => cases h
  | tup h x l => exact .inr ⟨_, sqT_ty h, kit_ty (by decide +kernel)⟩
  | lst h x l => exact .inr ⟨_, .base (.lst h), kit_ty (by decide +kernel)⟩
  | dct h x nd l => exact .inr ⟨_, .base (.dK h), kit_ty (by decide +kernel)⟩
theorem nameV_no {v : V} (h : ∀ x, v ≠ .str x) : nameV v = false := by
  cases v with
  | str x => exact absurd rfl (h x)
  | _ => rfl
/-- is_name(thing) -/
def spIsName (K : PySem.W.Frag) : Sp := fun vs H Q _ => ∃ (v : V) (d : PyData), vs = [v] ∧ Flat K H v d ∧ (∀ x, v = .str x → x.length ≤ 1000) ∧ ∀ H', Same H H' → Q (.bl (nameV v)) H'
section
variable {P : Program} {w : World} {K : PySem.W.Frag} {mg : Str → Option Value} {base : Heap}
theorem scN : FnScope ["thing", "sign"] ["thing"] (defScope sIsName) := ⟨rfl, rfl, rfl, by decide +kernel, rfl, by decide +kernel, by decide +kernel⟩
theorem ok_isName {f : Addr} {fd : FuncData} (F : Fun K "is_name" "is_name" sIsName f fd) (T : TxtN mg) : FnOk P w K mg base CX0 1 f fd ["thing"] (spIsName K) := by
  obtain ⟨t1, mL⟩ := T.let_
  obtain ⟨t2, mD⟩ := T.dig
  obtain ⟨t3, mO⟩ := T.lon
  refine F.ok scN (fun vs H Q E h => ?_) (fun cdv A outer s H vs Q E hr h => ?_)
  · obtain ⟨v, d, rfl, _⟩ := h
    rfl
  · obtain ⟨v, d, rfl, hf, hz, k⟩ := h
    refine ⟨_, pss_cons (ps_if (PW.pt (pw_or (pt_not (pt_val (pe_callB call_isi (by rfl) T.isi (by decide +kernel) (pa_cons (pv 0) (pa_cons (pe_bltn (v := .ty "str") (by rfl) T.str_ (by decide +kernel) rfl) pa_nil)))))
          (pw_or1 (pt_not (pt_chain op_le op_le pe_int (pe_callB call_len_str (by rfl) T.len PySem.boot_len (pa_cons (pv 0) pa_nil)) (pe_glob (v := .int 8) (by rfl) mO ⟨_, rfl⟩)))))) (pss_one (ps_ret pe_bl)) pss_nil)
      (pss_one (ps_ret (pe_and (pe_cmpR op_in_sign (pe_ix ix_str (pv 0) pe_int (fun _ _ => rfl)) (pe_glob (v := .str lets) (by rfl) mL ⟨_, rfl⟩) (by rfl))
        (pe_one (pe_callB (cr_all rfl) (by rfl) T.all_ (by decide +kernel) (pa_cons (pe_lc (own := [("sign", 1)]) (g := gName 1) (tt := tYes) rfl scN.nd (pi_str (pv 0)) (blkOk_by (N := ["thing", "sign"]) (sc := defScope sIsName) (by decide +kernel)) (fun _ _ _ _ _ => pg_name (i := 1) scN.nd rfl (Or.inl rfl)) (fun _ _ _ _ _ => pts_nil)
          (fun _ _ _ _ _ => pe_or (pe_cmpR op_in_sign (pv 1) (pe_glob (v := .str lets) (by rfl) mL ⟨_, rfl⟩) (by rfl)) (pe_one (pe_cmpR op_in_sign (pv 1) (pe_glob (v := .str digs) (by rfl) mD ⟨_, rfl⟩) (by rfl))))) pa_nil)))))), ?_⟩
    rcases flat_ty hf with ⟨x, rfl⟩ | ⟨t, ty, kn⟩
    · have hl := hz x rfl
      refine ⟨_, rfl, _, _, _, _, true, rfl, .ty "str", .base (.str x), kit_ty (by decide +kernel), _, rfl, iteF ?_⟩
      refine ⟨_, rfl, x, rfl, by rw [sizeLine_eq]; omega, _, _, rfl, rfl, _, rfl, ?_⟩
      have lenE : x.cps.toList.length = x.length := by show _ = x.cps.size; exact Array.length_toList
      have bad : (1 ≤ x.cps.toList.length ∧ x.cps.toList.length ≤ 8 → False) → Q (.bl false) H := fun hb => by
        have e : nameV (.str x) = false := by
          show (decide _ && (decide _ && _)) = false
          by_cases h1 : 1 ≤ x.cps.toList.length
          · rw [decide_eq_false (fun h2 => hb ⟨h1, h2⟩), Bool.false_and, Bool.and_false]
          · rw [decide_eq_false h1, Bool.false_and]
        rw [← e]
        exact k H (Same.refl H)
      refine ite2 (fun h1 => ?_) (fun h1 => ⟨_, rfl, iteT (bad fun z => h1 (decide_eq_true (by omega)))⟩)
      have h1 : (1 : Int) ≤ x.length := of_decide_eq_true h1
      refine ⟨_, _, rfl, rfl, _, rfl, ite2 (fun h2 => bad fun z => ?_) (fun h2 => ?_)⟩
      · rw [decide_eq_true (show ((x.length : Nat) : Int) ≤ 8 by omega)] at h2
        cases h2
      have h2 : (x.length : Int) ≤ 8 := by
        by_cases z : (x.length : Int) ≤ 8
        · exact z
        · exact absurd (by rw [decide_eq_false z]; rfl) h2
      obtain ⟨c, hc⟩ : ∃ c, x.cps.toList[0]? = some c := ⟨_, List.getElem?_eq_getElem (by omega)⟩
      have hhd : x.cps.toList.head? = some c := by
        rw [List.head?_eq_getElem?]
        exact hc
      have val : nameV (.str x) = (isLet c && x.cps.toList.all isSign) := by
        show (decide _ && (decide _ && _)) = _
        rw [decide_eq_true (show 1 ≤ x.cps.toList.length by omega), decide_eq_true (show x.cps.toList.length ≤ 8 by omega), hhd, Bool.true_and, Bool.true_and]
        rfl
      refine ⟨_, rfl, x, 0, c, rfl, rfl, by rw [sizeLine_eq]; omega, atI_nat (j := 0) hc, c, lets, rfl, rfl, _, rfl, ite2 (fun h3 => ?_) (fun h3 => ?_)⟩
      · refine ⟨_, rfl, x, rfl, fun D hD => ?_⟩
        refine lc_it walk_str (fun i H' => H' = upd H D (.lst ((x.cps.toList.take i).map fun c => V.bl (isSign c)))) rfl (fun _ _ _ _ => True.intro) ?_ ?_
        · intro i v H1 H' hi e y
          subst e
          obtain ⟨eH, c', hc', rfl⟩ := y
          subst eH
          have hc2 : x.cps.toList[i]? = some c' := by rw [Array.getElem?_toList]; exact hc'
          have fin : ∀ b : Bool, b = isSign c' → ∃ acc, (upd H D (.lst ((x.cps.toList.take i).map fun c => V.bl (isSign c)))) D = some (.lst acc) ∧ acc.length < sizeLine ∧ upd (upd H D (.lst ((x.cps.toList.take i).map fun c => V.bl (isSign c)))) D (.lst (acc ++ [V.bl b])) = upd H D (.lst ((x.cps.toList.take (i + 1)).map fun c => V.bl (isSign c))) := fun b hb => by
            refine ⟨_, upd_same, by rw [sizeLine_eq, List.length_map, List.length_take]; omega, ?_⟩
            rw [upd_upd, take_snoc hc2, List.map_append, hb]
            rfl
          refine ⟨rfl, iteT (B := True) ⟨_, rfl, c', lets, rfl, rfl, _, rfl, ite2 (fun h4 => fin true ?_) (fun h4 => ⟨_, rfl, c', digs, rfl, rfl, fin _ ?_⟩)⟩⟩
          · show true = (decide _ || _)
            rw [h4]
            rfl
          · show _ = (decide (c' ∈ lets.cps.toList) || _)
            rw [decide_eq_false (fun z => h4 (decide_eq_true z)), Bool.false_or]
        · intro H' e
          subst e
          have en : x.cps.toList.take x.cps.size = x.cps.toList := by
            rw [← Array.length_toList, List.take_length]
          refine ⟨D, x.cps.toList.map isSign, rfl, SqL.of ?_, ?_⟩
          · rw [en, List.map_map]
            exact upd_same
          · have e2 : ((x.cps.toList.map isSign).all id) = nameV (.str x) := by
              rw [val, List.all_map]
              show _ = (decide (c ∈ lets.cps.toList) && _)
              rw [h3, Bool.true_and]
              rfl
            rw [e2, en]
            exact k _ (same_new hD)
      · have e : nameV (.str x) = false := by
          rw [val]
          show (decide (c ∈ lets.cps.toList) && _) = false
          rw [decide_eq_false (fun z => h3 (decide_eq_true z)), Bool.false_and]
        rw [← e]
        exact k H (Same.refl H)
    · have hno : nameV v = false := nameV_no fun x e => by
        subst e
        cases ty with
        | base h =>
          cases h
          rw [show PySem.W.kitOne K (.type "str") (.type "str") = some true from kit_ty (by decide +kernel)] at kn
          cases kn
      refine ⟨_, rfl, v, _, _, _, false, rfl, .ty "str", ty, kn, _, rfl, iteT (iteT ?_)⟩
      rw [← hno]
      exact k H (Same.refl H)
end
end Bo

set_option Elab.async false
set_option linter.all false
set_option maxRecDepth 100000
set_option maxHeartbeats 8000000
namespace Bo
open PySem L2
/-! ### an error's __init__: self.f = copied(f) -/
def spInit (K : PySem.W.Frag) (f : Str) : Sp := fun vs H Q _ => ∃ (a C : Addr) (v : V) (d : PyData), vs = [.ref a, v] ∧ H a = some (exo a C none) ∧ OexC K C ∧ PySem.W.findIn K (.ref C) f = some none ∧ Flat K H v d ∧
  ∀ (v' : V) (dx : Addr) (H' : Hp), (∀ b o, H b = some o → b ≠ a → H' b = some o) → H' a = some (exo a C (some dx)) → H' dx = some (exd dx [(f, v')]) → H dx = none → dx ≠ a → Flat K (del H' a) v' d → Q .non H'
theorem Flat.step {K : PySem.W.Frag} {H H' : Hp} {v : V} {d : PyData} (h : Flat K H v d) (kt : ∀ a xs, SqT K H a xs → SqT K H' a xs) (kl : ∀ a xs, H a = some (.lst xs) → H' a = some (.lst xs)) (kd : ∀ a kvs, H a = some (.dK kvs) → H' a = some (.dK kvs)) : Flat K H' v d := by
  cases h with
  | atom h => exact .atom h
  | tup h x l => exact .tup (kt _ _ h) x l
  | lst h x l => exact .lst (kl _ _ h) x l
  | dct h x nd l => exact .dct (kd _ _ h) x nd l
theorem exo_lst {e C : Addr} {d : Option Addr} {xs : List V} : exo e C d ≠ .lst xs := fun z => by cases (show HO.ext _ = HO.lst xs from z)
theorem exo_dK {e C : Addr} {d : Option Addr} {xs : List (Key × V)} : exo e C d ≠ .dK xs := fun z => by cases (show HO.ext _ = HO.dK xs from z)
theorem sqT_off {K : PySem.W.Frag} {H H' : Hp} {a : Addr} (k : ∀ b o, H b = some o → b ≠ a → H' b = some o) (ha : ∀ xs, H a ≠ some (.tup xs)) (hf : ∀ o xs, H a ≠ some (.frz o (.tup xs))) {b : Addr} {xs : List V} (h : SqT K H b xs) : SqT K H' b xs := by
  rcases h with (h | ⟨o, h⟩) | h
  · exact .inl (.inl (k _ _ h fun z => ha xs (z ▸ h)))
  · exact .inl (.inr ⟨o, k _ _ h fun z => hf o xs (z ▸ h)⟩)
  · exact .inr h
theorem init_read {K : PySem.W.Frag} {a C : Addr} {f : Str} {v : V} {d : PyData} {H : Hp} {Q : VK} (ha : H a = some (exo a C none)) (T : OexC K C) (hno : PySem.W.findIn K (.ref C) f = some none) (hp : Flat K H v d)
    (k : ∀ (v' : V) (dx : Addr) (H' : Hp), (∀ b o, H b = some o → b ≠ a → H' b = some o) → H' a = some (exo a C (some dx)) → H' dx = some (exd dx [(f, v')]) → H dx = none → dx ≠ a → Flat K (del H' a) v' d → Q .non H') :
    tOst K f (tVar 0) (tCall (spCopy K) [] E0 (tCons (tVar 1) tNil)) { nx := fun _ H' => Q .non H', rt := Q } [some (.ref a), some v] H := by
  refine ⟨v, rfl, v, d, rfl, hp, fun v' H1 sm hp' => ⟨_, rfl, a, C, rfl, T, hno, .inl ⟨sm _ _ ha, fun dx hdx ne => ?_⟩⟩⟩
  have keepO : ∀ b o, H1 b = some o → b ≠ a → (del (upd (upd H1 dx (exd dx [(f, v')])) a (exo a C (some dx))) a) b = some o := fun b o e ba => by
    rw [del_ne ba, upd_ne ba, upd_ne (ne_of_none e hdx)]
    exact e
  have ea := sm _ _ ha
  refine k v' dx _ (fun b o e ba => ?_) upd_same (by rw [upd_ne ne]; exact upd_same) (sm.free hdx) ne (hp'.step (fun b xs h => sqT_off keepO (fun xs e => ?_) (fun o xs e => ?_) h) (fun b xs e => keepO b _ e (at_ne ea e exo_lst)) fun b xs e => keepO b _ e (at_ne ea e exo_dK))
  · rw [upd_ne ba, upd_ne (ne_of_none (sm _ _ e) hdx)]
    exact sm _ _ e
  · rw [ea] at e
    exact exo_tup (Option.some.inj e)
  · rw [ea] at e
    exact exo_frz (Option.some.inj e)
section
variable {P : Program} {w : World} {K : PySem.W.Frag} {mg : Str → Option Value} {base : Heap}
abbrev sI5 : Stmt := inClass (top 5) 0
theorem scI5 : FnScope ["self", "name"] ["self", "name"] (defScope sI5) := ⟨rfl, rfl, rfl, by decide +kernel, rfl, by decide +kernel, by decide +kernel⟩
theorem ok_i5 {f fC : Addr} {fd fdC : FuncData} (F : Fun K "__init__" "InvalidName.__init__" sI5 f fd) (G : FnOk P w K mg base CX0 2 fC fdC ["thing"] (spCopy K)) (mC : mg "copied" = some (.ref fC)) (kC : PySem.W.keepIn K (.ref fC) = true) (bC : Binds K fdC ["thing"] []) :
    FnOk P w K mg base CX0 3 f fd ["self", "name"] (spInit K "name") := by
  refine F.ok scI5 (fun vs H Q E h => ?_) (fun cdv A outer s H vs Q E hr h => ?_)
  · obtain ⟨a, C, v, d, rfl, _⟩ := h
    rfl
  · obtain ⟨a, C, v, d, rfl, ha, T, hno, hp, k⟩ := h
    exact ⟨_, pss_one (ps_ost (pv 0) (pe_call G hr rfl mC kC bC .nil pass0 (pa_cons (pv 1) pa_nil))), init_read ha T hno hp k⟩
end
/-- what the written part says of an error class with one field -/
structure ErrC (K : PySem.W.Frag) (C fI : Addr) (f : Str) : Prop where
  o : OexC K C
  i : PySem.W.findIn K (.ref C) "__init__" = some (some (.ref fI))
  t : PySem.W.typeIn K (.ref fI) = some (.type "function")
  no : PySem.W.findIn K (.ref C) f = some none
/-- the error of the class at C, its field data d, is let out -/
def Thrown (K : PySem.W.Frag) (E : XK) (H : Hp) (C : Addr) (f : Str) (d : PyData) : Prop := ∀ (dx : Addr) (v : V) (H' : Hp), Same H H' → H' dx = some (.xd [(f, v)]) → Flat K H' v d → E (.ref C) (some dx) H'
theorem Thrown.later {K : PySem.W.Frag} {E : XK} {H H1 : Hp} {C : Addr} {f : Str} {d : PyData} (h : Thrown K E H C f d) (k : Same H H1) : Thrown K E H1 C f d := fun dx v H' k' e1 e2 => h dx v H' (k.trans k') e1 e2
/-- the reading of raise C(v) -/
theorem raise_read {K : PySem.W.Frag} {E : XK} {H : Hp} {C fI : Addr} {f : Str} {d : PyData} {v : V} (T : ErrC K C fI f) (hf : Flat K H v d) (h : Thrown K E H C f d) :
    [v].length ≤ 1000 ∧ ∀ a, H a = none → spInit K f (.ref a :: ([v] ++ [])) (upd H a (exo a C none)) (fun v H2 => v = .non ∧ ∃ (d : Addr) (fs : List (Str × V)), H2 a = some (exo a C (some d)) ∧ H2 d = some (exd d fs) ∧ H d = none ∧ E (.ref C) (some d) (upd (del H2 a) d (.xd fs))) (fun _ _ _ => False) := by
  refine ⟨by show 1 ≤ 1000; decide, fun a ha => ⟨a, C, v, d, rfl, upd_same, T.o, T.no, hf.keep (same_new ha), fun v' dx H' k e1 e2 e3 e4 e5 => ⟨rfl, dx, _, e1, e2, ?_, h dx v' _ (fun b o e => ?_) upd_same (e5.step ?_ ?_ ?_)⟩⟩⟩
  · rw [upd_ne e4] at e3
    exact e3
  · have ba := ne_of_none e ha
    have nd : b ≠ dx := fun z => by
      rw [upd_ne e4, ← z] at e3
      rw [e] at e3
      cases e3
    rw [upd_ne nd, del_ne ba]
    exact k b o (by rw [upd_ne ba]; exact e) ba
  · have hx : del H' a dx = some (exd dx [(f, v')]) := by rw [del_ne e4]; exact e2
    exact fun b xs q => sqT_off (fun c o e n => by rw [upd_ne n]; exact e) (fun xs e => by rw [hx] at e; exact exd_tup (Option.some.inj e)) (fun o xs e => by rw [hx] at e; cases (show HO.ext _ = HO.frz _ _ from Option.some.inj e)) q
  · have hx : del H' a dx = some (exd dx [(f, v')]) := by rw [del_ne e4]; exact e2
    exact fun b xs q => by
      have n : b ≠ dx := fun z => by rw [z, hx] at q; cases (show HO.ext _ = HO.lst _ from Option.some.inj q)
      rw [upd_ne n]; exact q
  · have hx : del H' a dx = some (exd dx [(f, v')]) := by rw [del_ne e4]; exact e2
    exact fun b xs q => by
      have n : b ≠ dx := fun z => by rw [z, hx] at q; cases (show HO.ext _ = HO.dK _ from Option.some.inj q)
      rw [upd_ne n]; exact q
end Bo

set_option Elab.async false
set_option linter.all false
set_option maxRecDepth 100000
set_option maxHeartbeats 8000000
namespace Bo
open PySem PySem.Spec PyProof.Rows L2
section
variable {X : Cx}
/-- d.copy(), d a dict that may be known -/
def tDCopy (to : TE) : TE := fun σ H Q => to σ H fun x H1 => ∃ a kvs, x = .ref a ∧ Rd H1 a (.dK kvs) ∧ ∀ p, H1 p = none → Q (.ref p) (upd H1 p (.dK kvs))
theorem pe_dcopy {o : Expr} {to : TE} {apos cpos : Pos} (ho : PE X o to) (hbase : attributeBase o "copy" X.env (eval o X.env) = eval o X.env := by rfl) (hline : (apos.endLine == cpos.line) = true := by rfl) :
    PE X (.Call (.Attribute o "copy" apos) [] [] cpos) (tDCopy to) := by
  refine ⟨fun pins s σ H Q I h => wpAny_Call_method0_late hbase hline (thn (ho.run pins s σ H _ I h) fun v s1 ⟨x, H1, I1, r1, a, kvs, ex, hd, q⟩ => ?_)⟩
  subst ex
  obtain rfl : v = Value.ref a := r1
  obtain ⟨z, sysn, vs, rel, dd⟩ := dk_rd I1.hok hd
  obtain ⟨ob, es, ep, ho1, hex, _⟩ := id dd
  refine ⟨"dict", "dict.copy", PySem.F.plainAttrs_dict, PySem.F.slot_dict_copy, PySem.F.type_dict_copy, ⟨ob, ho1, hex.1⟩, fun b e => ?_, Calls.callWith_builtin rfl (PySem.evalArgs_none ?_)⟩
  · cases e
    exact ⟨ob, ho1, hex.2.1⟩
  refine call_meetsIn PySem.F.slot_dict_copy ⟨ob, ho1, hex.1⟩ PySem.F.entry_dict_copy (PySem.F.args_dict_copy_1 _) (meets_dict_copy (mixKind X.prog X.w) a sysn) ⟨vs, dd, by rw [← rel.length]; exact z, fun h' d1 d2 k => ?_⟩
  exact ⟨.ref s1.heap.objs.size, _, I1.laid (t' := s1.toks) (a := s1.heap.objs.size) (o := .dK kvs) k (Nat.le_refl _) (dk_new z (beq_eq_false_iff_ne.mpr (Ne.symm (Nat.ne_of_lt I1.big))) rel d1), rfl, q _ (I1.hok.fresh (Nat.le_refl _))⟩
/-- len(d), d a dict that may be known -/
theorem call_lenR : CallR X (.builtin "len") (fun xs H Q => ∃ a kvs, xs = [V.ref a] ∧ Rd H a (.dK kvs) ∧ Q (.int kvs.length) H) := by
  intro pins s σ H xs us Q I r h
  obtain ⟨a, kvs, rfl, ha, q⟩ := h
  obtain ⟨u, rfl, ru⟩ := vals1 r
  cases ru
  exact d_len I ha fun t s' I' => ⟨.int kvs.length, H, I', ⟨t, rfl⟩, q⟩
end
/-! ### what a system consists of -/
structure Ct where
  cols : List Str
  rows : List (Str × List (Str × Int))
  cons : List (Str × Int)
def refK (rs : List (Str × Addr)) : List (Key × V) := rs.map fun p => (Sum.inr p.1, V.ref p.2)
def intK (l : List (Str × Int)) : List (Key × V) := l.map fun p => (Sum.inr p.1, V.int p.2)
theorem putF_len (f : Str) (v : V) : ∀ fs : List (Str × V), (putF f v fs).length ≤ fs.length + 1
  | [] => Nat.le_refl _
  | (g, x) :: r => by
    show (if g = f then _ else _ : List (Str × V)).length ≤ _
    split
    · simp
    · have := putF_len f v r
      simp only [List.length_cons]
      omega
/-- the fields of Contents -/
def ctF (ac ar ak : Addr) : List (Str × V) := putF "constants" (.ref ak) (putF "rows" (.ref ar) (putF "columns" (.ref ac) []))
theorem ctF_c (ac ar ak : Addr) : (ctF ac ar ak).lookup ("columns" : Str) = some (.ref ac) := by
  unfold ctF
  rw [lookup_putF, if_neg (by decide +kernel), lookup_putF, if_neg (by decide +kernel), lookup_putF, if_pos rfl]
theorem ctF_r (ac ar ak : Addr) : (ctF ac ar ak).lookup ("rows" : Str) = some (.ref ar) := by
  unfold ctF
  rw [lookup_putF, if_neg (by decide +kernel), lookup_putF, if_pos rfl]
theorem ctF_k (ac ar ak : Addr) : (ctF ac ar ak).lookup ("constants" : Str) = some (.ref ak) := by
  unfold ctF
  rw [lookup_putF, if_pos rfl]
/-- at a stands a Contents with the state S -/
structure CtAt (K : PySem.W.Frag) (CC : Addr) (H : Hp) (a : Addr) (S : Ct) (dx ac ar ak : Addr) (rs : List (Str × Addr)) : Prop where
  i : H a = some (.ins CC dx (ctF ac ar ak))
  c : SqT K H ac (S.cols.map V.str)
  r : Fz H ar (.dK (refK rs))
  p : Paired (fun (p : Str × List (Str × Int)) (q : Str × Addr) => p.1 = q.1 ∧ Fz H q.2 (.dK (intK p.2))) S.rows rs
  k : Fz H ak (.dK (intK S.cons))
def CtIn (K : PySem.W.Frag) (CC : Addr) (H : Hp) (a : Addr) (S : Ct) : Prop := ∃ dx ac ar ak rs, CtAt K CC H a S dx ac ar ak rs
theorem CtAt.keep {K : PySem.W.Frag} {CC : Addr} {H H' : Hp} {a : Addr} {S : Ct} {dx ac ar ak : Addr} {rs : List (Str × Addr)} (h : CtAt K CC H a S dx ac ar ak rs) (m : Same H H') : CtAt K CC H' a S dx ac ar ak rs :=
  ⟨m _ _ h.i, SqT.keep h.c m, h.r.keep m, Paired.mapP h.p fun p q z => ⟨z.1, z.2.keep m⟩, h.k.keep m⟩
theorem CtIn.keep {K : PySem.W.Frag} {CC : Addr} {H H' : Hp} {a : Addr} {S : Ct} (h : CtIn K CC H a S) (m : Same H H') : CtIn K CC H' a S :=
  let ⟨dx, ac, ar, ak, rs, z⟩ := h; ⟨dx, ac, ar, ak, rs, z.keep m⟩
/-- what the written part says of a class without more -/
structure ClsT (K : PySem.W.Frag) (C fI : Addr) : Prop where
  cl : Cls K C
  mkC : Mk K C fI
abbrev sCtInit : Stmt := inClass (top 30) 0
/-- Contents.__init__ -/
def spCtInit (CC : Addr) : Sp := fun vs H Q _ => ∃ (p dx ac ar ak : Addr), vs = [.ref p, .ref ac, .ref ar, .ref ak] ∧ H p = some (.ins CC dx []) ∧ ∀ H', (∀ b o, H b = some o → b ≠ p → H' b = some o) → H' p = some (.ins CC dx (ctF ac ar ak)) → Q .non H'
section
variable {P : Program} {w : World} {K : PySem.W.Frag} {mg : Str → Option Value} {base : Heap} {CC : Addr}
structure CtT (K : PySem.W.Frag) (mg : Str → Option Value) (CC fI : Addr) : Prop extends ClsT K CC fI where
  g : mg "Contents" = some (.ref CC)
  n1 : NoAttr K CC "columns"
  n2 : NoAttr K CC "rows"
  n3 : NoAttr K CC "constants"
theorem scCI : FnScope ["self", "columns", "rows", "constants"] ["self", "columns", "rows", "constants"] (defScope sCtInit) := ⟨rfl, rfl, rfl, by decide +kernel, rfl, by decide +kernel, by decide +kernel⟩
theorem ok_ctInit {f : Addr} {fd : FuncData} (F : Fun K "__init__" "Contents.__init__" sCtInit f fd) {fI : Addr} (T : CtT K mg CC fI) : FnOk P w K mg base CX0 1 f fd ["self", "columns", "rows", "constants"] (spCtInit CC) := by
  refine F.ok scCI (fun vs H Q E h => ?_) (fun cdv A outer s H vs Q E hr h => ?_)
  · obtain ⟨p, dx, ac, ar, ak, rfl, _⟩ := h
    rfl
  · obtain ⟨p, dx, ac, ar, ak, rfl, hp, k⟩ := h
    refine ⟨_, pss_cons (ps_fld (pv 0) (pv 1) rfl) (pss_cons (ps_fld (pv 0) (pv 2) rfl) (pss_one (ps_fld (pv 0) (pv 3) rfl))), ?_⟩
    refine ⟨_, rfl, _, rfl, p, CC, dx, [], rfl, hp, T.cl, T.n1, by decide, ?_⟩
    refine ⟨_, rfl, _, rfl, p, CC, dx, _, rfl, upd_same, T.cl, T.n2, by have := putF_len "columns" (.ref ac) []; simp only [List.length_nil] at this; omega, ?_⟩
    refine ⟨_, rfl, _, rfl, p, CC, dx, _, rfl, upd_same, T.cl, T.n3, by have := putF_len "columns" (.ref ac) []; have := putF_len "rows" (.ref ar) (putF "columns" (.ref ac) []); simp only [List.length_nil] at *; omega, ?_⟩
    rw [upd_upd, upd_upd]
    exact k _ (fun b o e n => by rw [upd_ne n]; exact e) upd_same
/-- Contents(c, r, k): what it gives -/
theorem mk_ct {H : Hp} {Q : VK} {E : XK} {ac ar ak : Addr} (k : ∀ (a dx : Addr) (H' : Hp), Same H H' → H' a = some (.ins CC dx (ctF ac ar ak)) → Q (.ref a) H') :
    ∀ x dx, H x = none → H dx = none → dx ≠ x → spCtInit CC (.ref x :: ([.ref ac, .ref ar, .ref ak] ++ [])) (upd (upd H dx (.own x)) x (.ins CC dx [])) (fun v H2 => v = .non ∧ Q (.ref x) H2) E :=
  fun x dx hx hd ne => ⟨x, dx, ac, ar, ak, rfl, upd_same, fun H' kk e => ⟨rfl, k x dx H' (fun b o q => kk b o (by rw [upd_ne (ne_of_none q hx), upd_ne (ne_of_none q hd)]; exact q) (ne_of_none q hx)) e⟩⟩
/-- replaced(table, key, thing) -/
abbrev sReplaced : Stmt := top 47
def spReplaced : Sp := fun vs H Q _ => ∃ (a : Addr) (kvs : List (Key × V)) (k : Key) (v : V), vs = [.ref a, kV k, v] ∧ Rd H a (.dK kvs) ∧ kvs.length < sizeLine ∧ ∀ (p : Addr), H p = none → Q (.ref p) (upd H p (.dK (putK kvs k v)))
theorem scRp : FnScope ["table", "key", "thing", "changed"] ["table", "key", "thing"] (defScope sReplaced) := ⟨rfl, rfl, rfl, by decide +kernel, rfl, by decide +kernel, by decide +kernel⟩
theorem ok_replaced {f : Addr} {fd : FuncData} (F : Fun K "replaced" "replaced" sReplaced f fd) : FnOk P w K mg base CX0 1 f fd ["table", "key", "thing"] spReplaced := by
  refine F.ok scRp (fun vs H Q E h => ?_) (fun cdv A outer s H vs Q E hr h => ?_)
  · obtain ⟨a, kvs, k, v, rfl, _⟩ := h
    rfl
  · obtain ⟨a, kvs, k, v, rfl, ha, hl, q⟩ := h
    have hu := hu_of hr
    refine ⟨_, pss_cons (ps_set (i := 3) scRp.nd rfl (.inl rfl) (pe_dcopy (pv 0))) (pss_cons (ps_dput hu (pv 3) (pv 1) (pv 2) rfl) (pss_one (ps_ret (pv 3)))), ?_⟩
    refine ⟨_, rfl, a, kvs, rfl, ha, fun p hp => ?_⟩
    refine ⟨_, rfl, _, rfl, _, rfl, p, _, rfl, DPut.k (k := k) upd_same hl, _, rfl, ?_⟩
    rw [upd_upd]
    exact q p hp
end
end Bo

set_option Elab.async false
set_option linter.all false
set_option maxRecDepth 100000
set_option maxHeartbeats 8000000
namespace Bo
open PySem L2
abbrev sWU : Stmt := top 33
structure TxtS (K : PySem.W.Frag) (mg : Str → Option Value) (CC fCI CN fIN : Addr) : Prop extends TxtN mg where
  ct : CtT K mg CC fCI
  en : ErrC K CN fIN "name"
  gN : mg "InvalidName" = some (.ref CN)
  set_ : mg "set" = none
  srt : mg "sorted" = none
  most : ∃ t, mg "MOST" = some (.int 24 t)
/-- with_unknowns(contents, names): all are names, none twice, none there, room for all; or the first that is none is told -/
def spWU (K : PySem.W.Frag) (CC CN : Addr) : Sp := fun vs H Q E => ∃ (c n : Addr) (S : Ct) (xs : List V), vs = [.ref c, .ref n] ∧ CtIn K CC H c S ∧ SqT K H n xs ∧ xs.length ≤ 100 ∧ S.cols.length ≤ 24 ∧ (∀ x ∈ xs, ∃ d, Flat K H x d) ∧ (∀ z, V.str z ∈ xs → z.length ≤ 1000) ∧
  ((∃ (i : Nat) (v : V) (d : PyData), xs[i]? = some v ∧ Flat K H v d ∧ nameV v = false ∧ (∀ j x, j < i → xs[j]? = some x → nameV x = true) ∧ Thrown K E H CN "name" d) ∨
   (∃ ys : List Str, xs = ys.map V.str ∧ (∀ y ∈ ys, nameOk y = true) ∧ (ys ++ S.cols).Nodup ∧ (ys ++ S.cols).length ≤ 24 ∧
     ∀ (a : Addr) (H' : Hp) (zs : List Str), Same H H' → zs.Perm (ys ++ S.cols) → PyProof.Rows.sortedS zs = true → CtIn K CC H' a { S with cols := zs } → Q (.ref a) H'))
section
variable {P : Program} {w : World} {K : PySem.W.Frag} {mg : Str → Option Value} {base : Heap} {CC fCI CN fIN : Addr}
theorem scWU : FnScope ["contents", "names", "name", "seen"] ["contents", "names"] (defScope sWU) := ⟨rfl, rfl, rfl, by decide +kernel, rfl, by decide +kernel, by decide +kernel⟩
theorem ok_wu {f fN : Addr} {fd fdN fdCI fdIN : FuncData} (F : Fun K "with_unknowns" "with_unknowns" sWU f fd) (T : TxtS K mg CC fCI CN fIN) 
    (GN : FnOk P w K mg base CX0 1 fN fdN ["thing"] (spIsName K)) (mN : mg "is_name" = some (.ref fN)) (kN : PySem.W.keepIn K (.ref fN) = true) (bN : Binds K fdN ["thing"] [])
    (GC : FnOk P w K mg base CX0 1 fCI fdCI ["self", "columns", "rows", "constants"] (spCtInit CC)) (bC : Binds K fdCI ["self", "columns", "rows", "constants"] [])
    (GI : FnOk P w K mg base CX0 3 fIN fdIN ["self", "name"] (spInit K "name")) (bI : Binds K fdIN ["self", "name"] []) :
    FnOk P w K mg base (L2.CX P w) 5 f fd ["contents", "names"] (spWU K CC CN) := by
  obtain ⟨tm, mM⟩ := T.most
  refine F.okX scWU (fun vs H Q E h => ?_) (fun cdv A outer s H vs Q E hr h => ?_)
  · obtain ⟨c, n, S, xs, rfl, _⟩ := h
    rfl
  · obtain ⟨c, n, S, xs, rfl, hc, hn, hl, hcl, hfl, hz, alt⟩ := h
    have hr1 : Room 1 _ := hr.mono (by decide)
    have hr2 : Room 2 _ := hr.mono (by decide)
    refine ⟨_, pss_cons (ps_for (passes_of rfl) rfl (pi_tup (pv 1)) (pg_name (i := 2) scWU.nd rfl (.inl rfl))
        (pss_one (ps_if (pt_not (pt_val (pe_call GN hr1 rfl mN kN bN .nil pass0 (pa_cons (pv 2) pa_nil)))) (pss_one (ps_raise rfl (takes_of rfl rfl rfl rfl) (pmk_oex T.en.o T.en.i T.en.t GI hr bI .nil pass0 rfl T.gN (pa_cons (pv 2) pa_nil)))) pss_nil)))
      (pss_cons (ps_set (i := 3) scWU.nd rfl (.inl rfl) (pe_callTy (cr_setTx rfl) (by rfl) T.set_ (by decide +kernel) (pa_cons (pe_fld (pv 0) rfl) pa_nil)))
      (pss_cons (ps_for (passes_of rfl) rfl (pi_tup (pv 1)) (pg_name (i := 2) scWU.nd rfl (.inl rfl))
        (pss_cons (ps_if (pt_cmpR op_inTx (pv 2) (pv 3) (by rfl)) (pss_one ps_never) pss_nil)
        (pss_one (ps_expr (pe_addTx (pv 3) (pa_cons (pv 2) pa_nil))))))
      (pss_cons (ps_if (pt_cmpR op_gt (pe_callB call_lenTx (by rfl) T.len PySem.boot_len (pa_cons (pv 3) pa_nil)) (pe_glob (v := .int 24) (by rfl) mM ⟨_, rfl⟩) (nomark _)) (pss_one ps_never) pss_nil)
      (pss_one (ps_ret (pe_make T.ct.mkC GC hr2 rfl T.ct.g bC .nil pass0 (pa_cons (pe_callTy call_tuple_of (by rfl) T.tup (by decide +kernel) (pa_cons (pe_callB (cr_sortTx rfl) (by rfl) T.srt (by decide +kernel) (pa_cons (pv 3) pa_nil)) pa_nil)) (pa_cons (pe_fld (pv 0) rfl) (pa_cons (pe_fld (pv 0) rfl) pa_nil))))))))), ?_⟩
    refine ⟨_, rfl, n, rfl, ⟨xs, hn⟩, ?_⟩
    refine for_tup (xs := xs) (fun i σ H' => (∃ z, σ = [some (.ref c), some (.ref n), z, none]) ∧ Same H H' ∧ ∀ j x, j < i → xs[j]? = some x → nameV x = true) ⟨⟨_, rfl⟩, Same.refl H, fun _ _ h => absurd h (by omega)⟩ (fun i σ H' _ p => SqT.keep hn p.2.1) ?_ ?_
    · -- one name
      rintro i x σ H1 hx ⟨⟨z, rfl⟩, sm, hp⟩
      obtain ⟨d, fx⟩ := hfl x (List.mem_of_getElem? hx)
      refine ⟨x, rfl, x, d, rfl, fx.keep sm, fun z e => hz z (e ▸ List.mem_of_getElem? hx), fun H2 sm2 => ⟨_, rfl, ?_⟩⟩
      cases hnx : nameV x with
      | true =>
        refine iteF ⟨⟨_, rfl⟩, sm.trans sm2, fun j y hj hy => ?_⟩
        by_cases e : j = i
        · subst e
          rw [hx] at hy
          cases hy
          exact hnx
        · exact hp j y (by omega) hy
      | false =>
        refine iteT ?_
        rcases alt with ⟨k, v, d2, hk, fv, hnv, hbef, thr⟩ | ⟨ys, rfl, hok, _⟩
        · have ek : k = i := by
            rcases Nat.lt_trichotomy k i with c | c | c
            · rw [hp k v c hk] at hnv
              cases hnv
            · exact c
            · rw [hbef i x c hx] at hnx
              cases hnx
          subst ek
          rw [hx] at hk
          cases hk
          exact ⟨_, rfl, raise_read T.en ((fv.keep sm).keep sm2) ((thr.later sm).later sm2)⟩
        · rw [List.getElem?_map] at hx
          obtain ⟨y, hy, rfl⟩ := Option.map_eq_some_iff.mp hx
          have := hok y (List.mem_of_getElem? hy)
          rw [show nameV (.str y) = nameOk y from rfl, this] at hnx
          cases hnx
    · -- all are names
      rintro σ H1 ⟨⟨z, rfl⟩, sm, hp⟩
      rcases alt with ⟨k, v, d2, hk, fv, hnv, hbef, thr⟩ | ⟨ys, rfl, hok, hnd, hfew, q⟩
      · rw [hp k v (List.getElem?_eq_some_iff.mp hk).1 hk] at hnv
        cases hnv
      obtain ⟨dx, ac, ar, ak, rs, hC⟩ := hc.keep sm
      refine ⟨_, rfl, c, CC, dx, _, _, rfl, hC.i, T.ct.cl, T.ct.n1, ctF_c _ _ _, ac, S.cols, rfl, hC.c, by show _ < 4096; omega, fun a ha => ?_⟩
      obtain ⟨nd1, nd2, nd3⟩ := List.nodup_append.mp hnd
      have sm1 : Same H1 (upd H1 a (TxO w a (onceTx S.cols))) := same_new ha
      refine ⟨_, rfl, n, rfl, ⟨_, SqT.keep (SqT.keep hn sm) sm1⟩, ?_⟩
      refine for_tup (xs := ys.map V.str) (fun i σ H' => (∃ z, σ = [some (.ref c), some (.ref n), z, some (.ref a)]) ∧ Same H1 H' ∧ ∃ us, us.Perm (ys.take i ++ S.cols) ∧ H' a = some (TxO w a us)) ⟨⟨_, rfl⟩, sm1, _, onceTx_perm nd2, upd_same⟩ (fun i σ H' _ p => SqT.keep (SqT.keep hn sm) p.2.1) ?_ ?_
      · rintro i x σ H2 hx ⟨⟨z, rfl⟩, sm2, us, pu, hu⟩
        rw [List.getElem?_map] at hx
        obtain ⟨y, hy, rfl⟩ := Option.map_eq_some_iff.mp hx
        have hyt : ys.take (i + 1) = ys.take i ++ [y] := take_snoc hy
        have hno : y ∉ us := fun hm => by
          have h2 : ((ys.take i ++ [y]) ++ S.cols).Nodup := by
            rw [← hyt]
            refine List.nodup_append.mpr ⟨nd1.sublist (List.take_sublist _ _), nd2, fun p hp q hq => nd3 p (List.mem_of_mem_take hp) q hq⟩
          have h3 : (y :: (ys.take i ++ S.cols)).Nodup := by
            have e : ((ys.take i ++ [y]) ++ S.cols).Perm (y :: (ys.take i ++ S.cols)) := by
              rw [List.append_assoc]
              exact List.perm_middle
            exact e.nodup_iff.mp h2
          exact (List.nodup_cons.mp h3).1 (pu.mem_iff.mp hm)
        refine ⟨_, rfl, _, rfl, y, a, us, rfl, rfl, hu, _, rfl, ?_⟩
        rw [show (if false = true then !decide (y ∈ us) else decide (y ∈ us)) = false from by rw [if_neg Bool.false_ne_true, decide_eq_false hno]]
        refine iteF ⟨_, rfl, ⟨a, us, rfl, hu⟩, _, rfl, a, us, y, rfl, rfl, hu, ?_, ?_⟩
        · have h1 := pu.length_eq
          rw [List.length_append, List.length_take] at h1
          rw [List.length_append] at hfew
          show _ < 4096
          omega
        · refine ⟨⟨_, rfl⟩, fun b o e => ?_, y :: us, ?_, ?_⟩
          · by_cases hb : b = a
            · subst hb
              rw [ha] at e
              cases e
            · rw [upd_ne hb]
              exact sm2 _ _ e
          · rw [hyt, List.append_assoc]
            exact (pu.cons y).trans List.perm_middle.symm
          · rw [addTx_new hno]
            exact upd_same
      · rintro σ H2 ⟨⟨z, rfl⟩, sm2, us, pu, hu⟩
        have el : (ys.map V.str).length = ys.length := List.length_map _
        rw [el, List.take_length] at pu
        have lu : us.length ≤ 24 := by rw [pu.length_eq]; exact hfew
        refine ⟨_, rfl, a, us, rfl, hu, _, _, rfl, rfl, _, rfl, ?_⟩
        rw [decide_eq_false (show ¬ ((24 : Int) < (us.length : Int)) by omega)]
        refine iteF ?_
        refine ⟨_, rfl, a, us, rfl, hu, by omega, fun zs p hp1 hp2 hp3 => ?_⟩
        have sm3 : Same H2 (upd H2 p (.lst (zs.map V.str))) := same_new hp3
        refine ⟨p, _, rfl, .inl ⟨SqL.of upd_same, fun t ht => ?_⟩⟩
        have sm4 := sm3.trans (same_new (o := .tup (zs.map V.str)) ht)
        have hC4 := (hC.keep sm2).keep sm4
        refine ⟨_, rfl, c, CC, dx, _, _, rfl, hC4.i, T.ct.cl, T.ct.n2, ctF_r _ _ _, _, rfl, c, CC, dx, _, _, rfl, hC4.i, T.ct.cl, T.ct.n3, ctF_k _ _ _, ?_⟩
        refine mk_ct fun b dy H5 sm5 hb => q b H5 zs ((sm.trans sm2).trans (sm4.trans sm5)) (hp1.trans pu) hp2 ⟨dy, t, ar, ak, rs, hb, SqT.of (sm5 _ _ upd_same), (hC4.keep sm5).r, (hC4.keep sm5).p, (hC4.keep sm5).k⟩
end
end Bo

set_option Elab.async false
set_option linter.all false
set_option maxRecDepth 100000
set_option maxHeartbeats 8000000
namespace Bo
open PySem L2
abbrev sCU : Stmt := top 44
abbrev sWE : Stmt := top 34
abbrev sWT : Stmt := top 36
theorem valV_out {k : Key} : ∀ {kvs : List (Key × V)}, k ∉ kvs.map (·.1) → valV kvs k = none
  | [], _ => rfl
  | p :: r, h => by
    have h1 : ¬ p.1 = k := fun e => h (by rw [List.map_cons, e]; exact List.mem_cons_self)
    exact (valV_neg (p := p) h1).trans (valV_out fun z => h (List.mem_cons_of_mem _ z))
theorem refK_out {rs : List (Str × Addr)} {y : Str} (h : y ∉ rs.map (·.1)) : valV (refK rs) (Sum.inr y) = none := valV_out fun z => by
  unfold refK at z
  rw [List.map_map] at z
  obtain ⟨p, hp, e⟩ := List.mem_map.mp z
  cases e
  exact h (List.mem_map.mpr ⟨p, hp, rfl⟩)
theorem intK_out {rs : List (Str × Int)} {y : Str} (h : y ∉ rs.map (·.1)) : valV (intK rs) (Sum.inr y) = none := valV_out fun z => by
  unfold intK at z
  rw [List.map_map] at z
  obtain ⟨p, hp, e⟩ := List.mem_map.mp z
  cases e
  exact h (List.mem_map.mpr ⟨p, hp, rfl⟩)
theorem pair_keys {F : (Str × List (Str × Int)) → (Str × Addr) → Prop} (hF : ∀ p q, F p q → p.1 = q.1) : ∀ {rows : List (Str × List (Str × Int))} {rs : List (Str × Addr)}, Paired F rows rs → rs.map (·.1) = rows.map (·.1)
  | _, _, .nil => rfl
  | _, _, .cons h t => by rw [List.map_cons, List.map_cons, pair_keys hF t, hF _ _ h]
theorem pair_snoc {α β : Type} {F : α → β → Prop} : ∀ {l₁ : List α} {l₂ : List β} {a : α} {b : β}, Paired F l₁ l₂ → F a b → Paired F (l₁ ++ [a]) (l₂ ++ [b])
  | _, _, _, _, .nil, h => .cons h .nil
  | _, _, _, _, .cons q t, h => .cons q (pair_snoc t h)
def spCU0 : Sp := fun vs H Q _ => ∃ (k u : Addr), vs = [.ref k, .ref u] ∧ H u = some (.lst []) ∧ Q .non H
/-- with_terms(contents, name, constant, []) -/
def spWT (K : PySem.W.Frag) (CC CN : Addr) : Sp := fun vs H Q E => ∃ (c l : Addr) (S : Ct) (v : V) (d : PyData) (m : Int), vs = [.ref c, v, .int m, .ref l] ∧ CtIn K CC H c S ∧ H l = some (.lst []) ∧ Flat K H v d ∧ (∀ z, v = .str z → z.length ≤ 1000) ∧
  ((nameV v = false ∧ Thrown K E H CN "name" d) ∨
   (∃ y : Str, v = .str y ∧ nameOk y = true ∧ y ∉ S.rows.map (·.1) ∧ y ∉ S.cons.map (·.1) ∧ S.rows.length < 24 ∧ S.cons.length < 24 ∧
     ∀ (a : Addr) (H' : Hp), Same H H' → CtIn K CC H' a { S with rows := S.rows ++ [(y, [])], cons := S.cons ++ [(y, m)] } → Q (.ref a) H'))
/-- with_equation(contents, name, ()) -/
def spWE (K : PySem.W.Frag) (CC CN : Addr) : Sp := fun vs H Q E => ∃ (c n : Addr) (S : Ct) (v : V) (d : PyData), vs = [.ref c, v, .ref n] ∧ CtIn K CC H c S ∧ SqT K H n [] ∧ Flat K H v d ∧ (∀ z, v = .str z → z.length ≤ 1000) ∧
  ((nameV v = false ∧ Thrown K E H CN "name" d) ∨
   (∃ y : Str, v = .str y ∧ nameOk y = true ∧ y ∉ S.rows.map (·.1) ∧ y ∉ S.cons.map (·.1) ∧ S.rows.length < 24 ∧ S.cons.length < 24 ∧
     ∀ (a : Addr) (H' : Hp), Same H H' → CtIn K CC H' a { S with rows := S.rows ++ [(y, [])], cons := S.cons ++ [(y, 0)] } → Q (.ref a) H'))
section
variable {P : Program} {w : World} {K : PySem.W.Frag} {mg : Str → Option Value} {base : Heap} {CC fCI CN fIN : Addr}
theorem scCU : FnScope ["known", "unknowns", "unknown", "at"] ["known", "unknowns"] (defScope sCU) := ⟨rfl, rfl, rfl, by decide +kernel, rfl, by decide +kernel, by decide +kernel⟩
theorem ok_cu0 {f : Addr} {fd : FuncData} (F : Fun K "check_unknowns" "check_unknowns" sCU f fd) (mE : mg "enumerate" = none) : FnOk P w K mg base CX0 1 f fd ["known", "unknowns"] spCU0 := by
  refine F.ok scCU (fun vs H Q E h => ?_) (fun cdv A outer s H vs Q E hr h => ?_)
  · obtain ⟨k, u, rfl, _⟩ := h
    rfl
  · obtain ⟨k, u, rfl, hu, q⟩ := h
    refine ⟨_, pss_cons (ps_for PassesOwn.never rfl (pi_list (pv 1)) (pg_name (i := 2) scCU.nd rfl (.inl rfl)) (pss_cons ps_never pss_nil))
      (pss_one (ps_for PassesOwn.never rfl (pi_enum (by rfl) mE (pa_cons (pv 1) pa_nil)) (pg_tup (by rfl) (pgs_cons (pg_name (i := 3) scCU.nd rfl (.inl rfl)) (pgs_cons (pg_name (i := 2) scCU.nd rfl (.inl rfl)) pgs_nil))) (pss_cons ps_never pss_nil))), ?_⟩
    refine ⟨_, rfl, u, rfl, ⟨[], SqL.of hu⟩, ?_⟩
    refine for_list (xs := []) (fun i σ H' => σ = [some (.ref k), some (.ref u), none, none] ∧ H' = H) ⟨rfl, rfl⟩ (fun i σ H' _ p => by rw [p.2]; exact SqL.of hu) (fun i x σ H' hx _ => by simp at hx) ?_
    rintro σ H' ⟨rfl, rfl⟩
    refine ⟨_, rfl, u, [], rfl, SqL.of hu, ?_⟩
    refine for_it (walk_enum (a := u) (xs := [])) (fun i σ H'' => H'' = H') rfl (fun i σ H'' _ p => by rw [p]; exact SqL.of hu) (fun i x σ H1 H2 hi => absurd hi (by simp)) ?_
    intro σ H'' e
    rw [e]
    exact q
theorem scWT : FnScope ["contents", "name", "constant", "terms", "rows", "unknown", "number"] ["contents", "name", "constant", "terms"] (defScope sWT) := ⟨rfl, rfl, rfl, by decide +kernel, rfl, by decide +kernel, by decide +kernel⟩
theorem ok_wt {f fN fU fR : Addr} {fd fdN fdCI fdIN fdU fdR : FuncData} (F : Fun K "with_terms" "with_terms" sWT f fd) (T : TxtS K mg CC fCI CN fIN) 
    (GN : FnOk P w K mg base CX0 1 fN fdN ["thing"] (spIsName K)) (mN : mg "is_name" = some (.ref fN)) (kN : PySem.W.keepIn K (.ref fN) = true) (bN : Binds K fdN ["thing"] [])
    (GU : FnOk P w K mg base CX0 1 fU fdU ["known", "unknowns"] spCU0) (mU : mg "check_unknowns" = some (.ref fU)) (kU : PySem.W.keepIn K (.ref fU) = true) (bU : Binds K fdU ["known", "unknowns"] [])
    (GR : FnOk P w K mg base CX0 1 fR fdR ["table", "key", "thing"] spReplaced) (mR : mg "replaced" = some (.ref fR)) (kR : PySem.W.keepIn K (.ref fR) = true) (bR : Binds K fdR ["table", "key", "thing"] [])
    (GC : FnOk P w K mg base CX0 1 fCI fdCI ["self", "columns", "rows", "constants"] (spCtInit CC)) (bC : Binds K fdCI ["self", "columns", "rows", "constants"] [])
    (GI : FnOk P w K mg base CX0 3 fIN fdIN ["self", "name"] (spInit K "name")) (bI : Binds K fdIN ["self", "name"] []) :
    FnOk P w K mg base (L2.CX P w) 5 f fd ["contents", "name", "constant", "terms"] (spWT K CC CN) := by
  obtain ⟨tm, mM⟩ := T.most
  refine F.okX scWT (fun vs H Q E h => ?_) (fun cdv A outer s H vs Q E hr h => ?_)
  · obtain ⟨c, l, S, v, d, m, rfl, _⟩ := h
    rfl
  · obtain ⟨c, l, S, v, d, m, rfl, hc, hl, hf, hz, alt⟩ := h
    have hr1 : Room 1 _ := hr.mono (by decide)
    have hr2 : Room 2 _ := hr.mono (by decide)
    have hu := hu_of hr
    refine ⟨_, pss_cons (ps_if (pt_not (pt_val (pe_call GN hr1 rfl mN kN bN .nil pass0 (pa_cons (pv 1) pa_nil)))) (pss_one (ps_raise rfl (takes_of rfl rfl rfl rfl) (pmk_oex T.en.o T.en.i T.en.t GI hr bI .nil pass0 rfl T.gN (pa_cons (pv 1) pa_nil)))) pss_nil)
      (pss_cons (ps_if (pt_cmp (pc_din hu (pv 1) (pe_fld (pv 0) rfl))) (pss_one ps_never) pss_nil)
      (pss_cons (ps_if (pt_cmpR op_ge (pe_callB call_lenR (by rfl) T.len PySem.boot_len (pa_cons (pe_fld (pv 0) rfl) pa_nil)) (pe_glob (v := .int 24) (by rfl) mM ⟨_, rfl⟩) (nomark _)) (pss_one ps_never) pss_nil)
      (pss_cons (ps_expr (pe_call GU hr1 rfl mU kU bU .nil pass0 (pa_cons (pe_fld (pv 0) rfl) (pa_cons
          (pe_lc (own := [("unknown", 5), ("number", 6)]) (g := gTup K 2 (gCons (gName 5) (gCons (gName 6) gNil))) (tt := tYes) rfl scWT.nd (pi_list (pv 3)) (blkOk_by (N := ["contents", "name", "constant", "terms", "rows", "unknown", "number"]) (sc := defScope sWT) (by decide +kernel))
            (fun _ _ _ _ _ => pg_tup (by rfl) (pgs_cons (pg_name (i := 5) scWT.nd rfl (Or.inl rfl)) (pgs_cons (pg_name (i := 6) scWT.nd rfl (Or.inl rfl)) pgs_nil))) (fun _ _ _ _ _ => pts_nil) (fun _ _ _ _ _ => pv 5)) pa_nil))))
      (pss_cons (ps_set (i := 4) scWT.nd rfl (.inl rfl) (pe_fz (pe_call GR hr1 rfl mR kR bR .nil pass0 (pa_cons (pe_fld (pv 0) rfl) (pa_cons (pv 1) (pa_cons (pe_fz
          (pe_dc (own := [("unknown", 5), ("number", 6)]) (g := gTup K 2 (gCons (gName 5) (gCons (gName 6) gNil))) (tt := tYes) rfl scWT.nd (pi_list (pv 3)) (blkOk_by (N := ["contents", "name", "constant", "terms", "rows", "unknown", "number"]) (sc := defScope sWT) (by decide +kernel))
            (fun _ _ _ _ _ => pg_tup (by rfl) (pgs_cons (pg_name (i := 5) scWT.nd rfl (Or.inl rfl)) (pgs_cons (pg_name (i := 6) scWT.nd rfl (Or.inl rfl)) pgs_nil))) (fun _ _ _ _ _ => pts_nil) (fun _ _ _ _ _ => pv 5) (fun _ _ _ _ _ => pv 6))) pa_nil))))))
      (pss_one (ps_ret (pe_make T.ct.mkC GC hr2 rfl T.ct.g bC .nil pass0 (pa_cons (pe_fld (pv 0) rfl) (pa_cons (pv 4) (pa_cons (pe_fz (pe_call GR hr1 rfl mR kR bR .nil pass0 (pa_cons (pe_fld (pv 0) rfl) (pa_cons (pv 1) (pa_cons (pv 2) pa_nil))))) pa_nil)))))))))), ?_⟩
    refine ⟨v, rfl, v, d, rfl, hf, hz, fun H1 sm => ⟨_, rfl, ?_⟩⟩
    rcases alt with ⟨hno, thr⟩ | ⟨y, rfl, hok, hy1, hy2, hl1, hl2, q⟩
    · rw [hno]
      exact iteT ⟨_, rfl, raise_read T.en (hf.keep sm) (thr.later sm)⟩
    · rw [show nameV (.str y) = true from hok]
      refine iteF ?_
      obtain ⟨dx, ac, ar, ak, rs, hC⟩ := hc.keep sm
      have hks : rs.map (·.1) = S.rows.map (·.1) := pair_keys (fun p q z => z.1) hC.p
      have hlr : rs.length = S.rows.length := by
        have e := congrArg List.length hks
        rw [List.length_map, List.length_map] at e
        exact e
      refine ⟨_, rfl, _, rfl, c, CC, dx, _, _, rfl, hC.i, T.ct.cl, T.ct.n2, ctF_r _ _ _, ar, _, rfl, .inl ⟨_, Sum.inr y, hC.r.rd, rfl, rfl⟩, _, rfl, ?_⟩
      rw [refK_out (by rw [hks]; exact hy1)]
      refine iteF ⟨_, rfl, c, CC, dx, _, _, rfl, hC.i, T.ct.cl, T.ct.n2, ctF_r _ _ _, ar, _, rfl, hC.r.rd, _, _, rfl, rfl, _, rfl, ?_⟩
      have hrl : (refK rs).length = S.rows.length := by unfold refK; rw [List.length_map, hlr]
      rw [decide_eq_false (show ¬ ((24 : Int) ≤ ((refK rs).length : Int)) by rw [hrl]; omega)]
      refine iteF ⟨_, rfl, c, CC, dx, _, _, rfl, hC.i, T.ct.cl, T.ct.n1, ctF_c _ _ _, _, rfl, l, rfl, ⟨[], SqL.of (sm _ _ hl)⟩, fun D hD => ?_⟩
      have smD : Same H1 (upd H1 D (.lst [])) := same_new hD
      refine lc_list (xs := []) (fun i H' => H' = upd H1 D (.lst [])) rfl (fun i H' _ e => by rw [e]; exact SqL.of (smD _ _ (sm _ _ hl))) (fun i x H' hx => by simp at hx) ?_
      intro H' e
      subst e
      refine ⟨ac, D, rfl, upd_same, ?_⟩
      have hC1 := hC.keep smD
      refine ⟨_, rfl, c, CC, dx, _, _, rfl, hC1.i, T.ct.cl, T.ct.n2, ctF_r _ _ _, _, rfl, _, rfl, l, rfl, ⟨[], SqL.of (smD _ _ (sm _ _ hl))⟩, fun D2 hD2 => ?_⟩
      have smD2 : Same (upd H1 D (.lst [])) (upd (upd H1 D (.lst [])) D2 (.dK [])) := same_new hD2
      refine dc_go (walk_list (K := K) (a := l) (xs := [])) (fun i H' => H' = upd (upd H1 D (.lst [])) D2 (.dK [])) rfl (fun i H' _ e => by rw [e]; exact SqL.of (smD2 _ _ (smD _ _ (sm _ _ hl)))) (fun i x H1 H2 hi => absurd hi (by simp)) ?_
      intro H' e
      subst e
      refine ⟨D2, _, rfl, upd_same, True.intro, fun od => ?_⟩
      rw [upd_upd]
      have smF : Same (upd H1 D (.lst [])) (upd (upd H1 D (.lst [])) D2 (.frz od (.dK []))) := same_new hD2
      have hC2 := hC1.keep smF
      refine ⟨ar, refK rs, Sum.inr y, .ref D2, rfl, hC2.r.rd, by rw [hrl, sizeLine_eq]; omega, fun p hp => ⟨p, _, rfl, upd_same, True.intro, fun od2 => ?_⟩⟩
      rw [upd_upd]
      have smP := same_new (o := .frz od2 (.dK (putK (refK rs) (Sum.inr y) (.ref D2)))) hp
      have hC3 := hC2.keep smP
      refine ⟨_, rfl, c, CC, dx, _, _, rfl, hC3.i, T.ct.cl, T.ct.n1, ctF_c _ _ _, _, rfl, _, rfl, c, CC, dx, _, _, rfl, hC3.i, T.ct.cl, T.ct.n3, ctF_k _ _ _, _, rfl, _, rfl, ?_⟩
      have hkl : (intK S.cons).length = S.cons.length := by unfold intK; rw [List.length_map]
      refine ⟨ak, intK S.cons, Sum.inr y, .int m, rfl, hC3.k.rd, by rw [hkl, sizeLine_eq]; omega, fun p2 hp2 => ⟨p2, _, rfl, upd_same, True.intro, fun od3 => ?_⟩⟩
      rw [upd_upd]
      have smQ := same_new (o := .frz od3 (.dK (putK (intK S.cons) (Sum.inr y) (.int m)))) hp2
      have hC4 := hC3.keep smQ
      refine mk_ct fun b dy H5 sm5 hb => q b H5 (((((sm.trans smD).trans smF).trans smP).trans smQ).trans sm5) ⟨dy, ac, p, p2, rs ++ [(y, D2)], hb, (hC4.keep sm5).c, ?_, ?_, ?_⟩
      · refine ⟨od2, sm5 _ _ (smQ _ _ ?_)⟩
        rw [upd_same, putK_new _ (refK_out (by rw [hks]; exact hy1))]
        unfold refK
        rw [List.map_append]
        rfl
      · exact pair_snoc (hC4.keep sm5).p ⟨rfl, od, sm5 _ _ (smQ _ _ (smP _ _ upd_same))⟩
      · refine ⟨od3, sm5 _ _ ?_⟩
        rw [upd_same, putK_new _ (intK_out hy2)]
        unfold intK
        rw [List.map_append]
        rfl
theorem scWE : FnScope ["contents", "name", "unknowns", "unknown"] ["contents", "name", "unknowns"] (defScope sWE) := ⟨rfl, rfl, rfl, by decide +kernel, rfl, by decide +kernel, by decide +kernel⟩
theorem ok_we {f fT : Addr} {fd fdT : FuncData} (F : Fun K "with_equation" "with_equation" sWE f fd) (GT : FnOk P w K mg base (L2.CX P w) 5 fT fdT ["contents", "name", "constant", "terms"] (spWT K CC CN)) (mT : mg "with_terms" = some (.ref fT)) (kT : PySem.W.keepIn K (.ref fT) = true) (bT : Binds K fdT ["contents", "name", "constant", "terms"] []) :
    FnOk P w K mg base (L2.CX P w) 6 f fd ["contents", "name", "unknowns"] (spWE K CC CN) := by
  refine F.okX scWE (fun vs H Q E h => ?_) (fun cdv A outer s H vs Q E hr h => ?_)
  · obtain ⟨c, n, S, v, d, rfl, _⟩ := h
    rfl
  · obtain ⟨c, n, S, v, d, rfl, hc, hn, hf, hz, alt⟩ := h
    refine ⟨_, pss_one (ps_ret (pe_call GT hr rfl mT kT bT .nil (passes_call (takes_of rfl rfl rfl rfl) (fun _ _ _ _ h => h)) (pa_cons (pv 0) (pa_cons (pv 1) (pa_cons pe_int (pa_cons
          (pe_lc (own := [("unknown", 3)]) (g := gName 3) (tt := tYes) rfl scWE.nd (pi_tup (pv 2)) (blkOk_by (N := ["contents", "name", "unknowns", "unknown"]) (sc := defScope sWE) (by decide +kernel)) (fun _ _ _ _ _ => pg_name (i := 3) scWE.nd rfl (Or.inl rfl)) (fun _ _ _ _ _ => pts_nil)
            (fun _ _ _ _ _ => pe_tup (pa_cons (pv 3) (pa_cons pe_int pa_nil)))) pa_nil)))))), ?_⟩
    refine ⟨_, rfl, _, rfl, _, rfl, n, rfl, ⟨[], hn⟩, fun D hD => ?_⟩
    have smD : Same H (upd H D (.lst [])) := same_new hD
    refine lc_tup (xs := []) (fun i H' => H' = upd H D (.lst [])) rfl (fun i H' _ e => by rw [e]; exact SqT.keep hn smD) (fun i x H' hx => by simp at hx) ?_
    intro H' e
    subst e
    refine ⟨c, D, S, v, d, 0, rfl, hc.keep smD, upd_same, hf.keep smD, hz, ?_⟩
    rcases alt with ⟨hno, thr⟩ | ⟨y, rfl, hok, hy1, hy2, hl1, hl2, q⟩
    · exact .inl ⟨hno, thr.later smD⟩
    · exact .inr ⟨y, rfl, hok, hy1, hy2, hl1, hl2, fun a H2 sm hC => q a H2 (smD.trans sm) hC⟩
end
end Bo

set_option Elab.async false
set_option linter.all false
set_option maxRecDepth 100000
set_option maxHeartbeats 8000000
namespace Bo
open PySem L2
abbrev sEO : Stmt := top 32
abbrev sSys : Stmt := top 63
abbrev sSInit : Stmt := inClass sSys 2
abbrev sAU : Stmt := inClass sSys 5
abbrev sAE : Stmt := inClass sSys 6
abbrev sEqs : Stmt := inClass sSys 16
abbrev sUns : Stmt := inClass sSys 17
abbrev sEns : Stmt := inClass sSys 18
abbrev sTake : Stmt := inClass sSys 23
/-- the fields of a System -/
def syF (c b h : Addr) : List (Str × V) := putF "_history" (.ref h) (putF "_begun" (.ref b) (putF "_contents" (.ref c) []))
theorem syF_c (c b h : Addr) : (syF c b h).lookup ("_contents" : Str) = some (.ref c) := by
  unfold syF
  rw [lookup_putF, if_neg (by decide +kernel), lookup_putF, if_neg (by decide +kernel), lookup_putF, if_pos rfl]
theorem syF_b (c b h : Addr) : (syF c b h).lookup ("_begun" : Str) = some (.ref b) := by
  unfold syF
  rw [lookup_putF, if_neg (by decide +kernel), lookup_putF, if_pos rfl]
theorem syF_h (c b h : Addr) : (syF c b h).lookup ("_history" : Str) = some (.ref h) := by
  unfold syF
  rw [lookup_putF, if_pos rfl]
theorem syF_no (c b h : Addr) {x : Str} (h1 : x ≠ "_contents") (h2 : x ≠ "_begun") (h3 : x ≠ "_history") : (syF c b h).lookup x = none := by
  unfold syF
  rw [lookup_putF, if_neg h3, lookup_putF, if_neg h2, lookup_putF, if_neg h1]
  rfl
theorem syF_eq (c b h : Addr) : syF c b h = [(("_contents" : Str), V.ref c), (("_begun" : Str), V.ref b), (("_history" : Str), V.ref h)] := by
  have e1 : ¬ (("_contents" : Str) = "_begun") := by decide +kernel
  have e2 : ¬ (("_contents" : Str) = "_history") := by decide +kernel
  have e3 : ¬ (("_begun" : Str) = "_history") := by decide +kernel
  show putF "_history" (.ref h) (if ("_contents" : Str) = "_begun" then _ else _) = _
  rw [if_neg e1]
  show (if ("_contents" : Str) = "_history" then _ else _) = _
  rw [if_neg e2]
  show _ :: (if ("_begun" : Str) = "_history" then _ else _) = _
  rw [if_neg e3]
  rfl
theorem syF_put (c c' b h : Addr) : putF "_contents" (.ref c') (syF c b h) = syF c' b h := by
  rw [syF_eq, syF_eq]
  show (if ("_contents" : Str) = "_contents" then _ else _) = _
  rw [if_pos rfl]
theorem syF_len (c b h : Addr) : (syF c b h).length = 3 := by
  rw [syF_eq]
  rfl
/-- at s stands a System without open transactions -/
structure SyAt (CS : Addr) (H : Hp) (s dx c b h : Addr) (hs : List V) : Prop where
  i : H s = some (.ins CS dx (syF c b h))
  b : H b = some (.lst [])
  h : H h = some (.lst hs)
/-- all but the things at M is as it was -/
def Off (M : List Addr) (H H' : Hp) : Prop := ∀ b o, H b = some o → b ∉ M → H' b = some o
theorem CtAt.off {K : PySem.W.Frag} {CC CS : Addr} {H H' : Hp} {a : Addr} {S : Ct} {d1 ac ar ak : Addr} {rs : List (Str × Addr)} {s dx c b h : Addr} {hs : List V} (C : CtAt K CC H a S d1 ac ar ak rs) (Y : SyAt CS H s dx c b h hs) (o : Off [s, h] H H') : CtAt K CC H' a S d1 ac ar ak rs := by
  have ins : H' a = some (.ins CC d1 (ctF ac ar ak)) := o _ _ C.i fun z => by
    rcases List.mem_cons.mp z with z | z
    · have e := C.i
      rw [z, Y.i] at e
      injection e with e
      injection e with _ _ e3
      have l1 := ctF_c ac ar ak
      rw [← e3, syF_no _ _ _ (by decide +kernel) (by decide +kernel) (by decide +kernel)] at l1
      cases l1
    · have e := C.i
      rw [List.mem_singleton.mp z, Y.h] at e
      cases e
  have out : ∀ q u, H q = some u → (∀ C' d' f', u ≠ .ins C' d' f') → (∀ xs, u ≠ .lst xs) → H' q = some u := fun q u e n1 n2 => o _ _ e fun z => by
    rcases List.mem_cons.mp z with z | z
    · rw [z, Y.i] at e
      exact n1 _ _ _ (Option.some.inj e).symm
    · rw [List.mem_singleton.mp z, Y.h] at e
      exact n2 _ (Option.some.inj e).symm
  have fz : ∀ q u, Fz H q u → Fz H' q u := fun q u ⟨ob, e⟩ => ⟨ob, out _ _ e (fun _ _ _ z => by cases z) fun _ z => by cases z⟩
  refine ⟨ins, ?_, fz _ _ C.r, Paired.mapP C.p fun p q z => ⟨z.1, fz _ _ z.2⟩, fz _ _ C.k⟩
  rcases C.c with (e | e) | e
  · exact .inl (.inl (out _ _ e (fun _ _ _ z => by cases z) fun _ z => by cases z))
  · exact .inl (.inr (fz _ _ e))
  · exact .inr e
theorem CtIn.off {K : PySem.W.Frag} {CC CS : Addr} {H H' : Hp} {a : Addr} {S : Ct} {s dx c b h : Addr} {hs : List V} (C : CtIn K CC H a S) (Y : SyAt CS H s dx c b h hs) (o : Off [s, h] H H') : CtIn K CC H' a S :=
  let ⟨d1, ac, ar, ak, rs, z⟩ := C; ⟨d1, ac, ar, ak, rs, z.off Y o⟩
theorem SyAt.keep {CS : Addr} {H H' : Hp} {s dx c b h : Addr} {hs : List V} (Y : SyAt CS H s dx c b h hs) (m : Same H H') : SyAt CS H' s dx c b h hs := ⟨m _ _ Y.i, m _ _ Y.b, m _ _ Y.h⟩
structure SysT (K : PySem.W.Frag) (mg : Str → Option Value) (CS fSI fTk : Addr) : Prop where
  cl : Cls K CS
  mkC : Mk K CS fSI
  g : mg "System" = some (.ref CS)
  n1 : NoAttr K CS "_contents"
  n2 : NoAttr K CS "_begun"
  n3 : NoAttr K CS "_history"
  tk : Meth K CS "_take" fTk
def spTake (CS : Addr) : Sp := fun vs H Q _ => ∃ (s c' dx c b h : Addr) (hs : List V), vs = [.ref s, .ref c'] ∧ SyAt CS H s dx c b h hs ∧ hs.length < 1000 ∧ h ≠ b ∧ ∀ H', Off [s, h] H H' → SyAt CS H' s dx c' b h (hs ++ [.ref c]) → Q .non H'
/-- System.__init__ -/
def spSInit (K : PySem.W.Frag) (CC CS : Addr) : Sp := fun vs H Q _ => ∃ (s dx : Addr), vs = [.ref s] ∧ H s = some (.ins CS dx []) ∧ ∀ (c b h : Addr) (H' : Hp), (∀ q o, H q = some o → q ≠ s → H' q = some o) → h ≠ b → H h = none → SyAt CS H' s dx c b h [] → CtIn K CC H' c ⟨[], [], []⟩ → Q .non H'
section
variable {P : Program} {w : World} {K : PySem.W.Frag} {mg : Str → Option Value} {base : Heap} {CC fCI CN fIN CS fSI fTk : Addr}
theorem scTk : FnScope ["self", "contents"] ["self", "contents"] (defScope sTake) := ⟨rfl, rfl, rfl, by decide +kernel, rfl, by decide +kernel, by decide +kernel⟩
theorem ok_take {f : Addr} {fd : FuncData} (F : Fun K "_take" "System._take" sTake f fd) (T : SysT K mg CS fSI fTk) : FnOk P w K mg base CX0 1 f fd ["self", "contents"] (spTake CS) := by
  refine F.ok scTk (fun vs H Q E h => ?_) (fun cdv A outer s H vs Q E hr h => ?_)
  · obtain ⟨s, c', dx, c, b, h, hs, rfl, _⟩ := h
    rfl
  · obtain ⟨s, c', dx, c, b, h, hs, rfl, Y, hl, hne, k⟩ := h
    refine ⟨_, pss_cons (ps_if (pt_not (pt_truth (pe_fld (pv 0) rfl) (by intro _; rfl))) (pss_one (ps_expr (pe_bm PySem.F.plainAttrs_list PySem.F.slot_list_append PySem.F.type_list_append mt_append (pe_fld (pv 0) rfl) (pa_cons (pe_fld (pv 0) rfl) pa_nil)))) pss_nil)
      (pss_one (ps_fld (pv 0) (pv 1) rfl)), ?_⟩
    refine ⟨_, rfl, s, CS, dx, _, _, rfl, Y.i, T.cl, T.n2, syF_b _ _ _, _, .inl ⟨[], SqL.of Y.b, rfl⟩, iteT ?_⟩
    refine ⟨_, rfl, s, CS, dx, _, _, rfl, Y.i, T.cl, T.n3, syF_h _ _ _, .inl ⟨rfl, _, SqL.of Y.h⟩, _, rfl, s, CS, dx, _, _, rfl, Y.i, T.cl, T.n1, syF_c _ _ _, h, hs, _, rfl, rfl, Y.h, by rw [sizeLine_eq]; omega, ?_⟩
    have sh : s ≠ h := ne_of Y.i Y.h (by intro z; cases z)
    have sb : s ≠ b := ne_of Y.i Y.b (by intro z; cases z)
    refine ⟨_, rfl, _, rfl, s, CS, dx, _, rfl, (upd_ne sh).trans Y.i, T.cl, T.n1, by rw [syF_len]; decide, ?_⟩
    rw [syF_put]
    refine k _ (fun q o e n => ?_) ⟨upd_same, ?_, ?_⟩
    · have n1 : q ≠ s := fun z => n (by rw [z]; exact List.mem_cons_self)
      have n2 : q ≠ h := fun z => n (by rw [z]; exact List.mem_cons_of_mem _ List.mem_cons_self)
      rw [upd_ne n1, upd_ne n2]
      exact e
    · rw [upd_ne sb.symm, upd_ne hne.symm]
      exact Y.b
    · rw [upd_ne sh.symm, upd_same]
theorem scSI : FnScope ["self"] ["self"] (defScope sSInit) := ⟨rfl, rfl, rfl, by decide +kernel, rfl, by decide +kernel, by decide +kernel⟩
theorem ok_sInit {f : Addr} {fd fdCI : FuncData} (F : Fun K "__init__" "System.__init__" sSInit f fd) (T : SysT K mg CS fSI fTk) (TC : CtT K mg CC fCI) (GC : FnOk P w K mg base CX0 1 fCI fdCI ["self", "columns", "rows", "constants"] (spCtInit CC)) (bC : Binds K fdCI ["self", "columns", "rows", "constants"] []) :
    FnOk P w K mg base CX0 3 f fd ["self"] (spSInit K CC CS) := by
  refine F.ok scSI (fun vs H Q E h => ?_) (fun cdv A outer s H vs Q E hr h => ?_)
  · obtain ⟨s, dx, rfl, _⟩ := h
    rfl
  · obtain ⟨s, dx, rfl, hs, k⟩ := h
    refine ⟨_, pss_cons (ps_fld (pv 0) (pe_make TC.mkC GC hr rfl TC.g bC .nil pass0 (pa_cons (pe_tup pa_nil) (pa_cons (pe_fz pe_dnewK) (pa_cons (pe_fz pe_dnewK) pa_nil)))) rfl)
      (pss_cons (ps_fld (pv 0) (pe_lst pa_nil) rfl) (pss_one (ps_fld (pv 0) (pe_lst pa_nil) rfl))), ?_⟩
    refine ⟨by decide, fun t ht d1 hd1 => ⟨d1, _, rfl, upd_same, True.intro, fun od1 => ?_⟩⟩
    rw [upd_upd]
    intro d2 hd2
    refine ⟨d2, _, rfl, upd_same, True.intro, fun od2 => ?_⟩
    rw [upd_upd]
    have s1 : Same H (upd H t (.tup [])) := same_new ht
    have s2 := same_new (o := .frz od1 (.dK [])) hd1
    have s3 := same_new (o := .frz od2 (.dK [])) hd2
    intro x0 dx0 h0 h1 h2
    refine ⟨x0, dx0, t, d1, d2, rfl, upd_same, fun H4 kk hc => ⟨rfl, ?_⟩⟩
    have s4 : Same (upd (upd (upd H t (.tup [])) d1 (.frz od1 (.dK []))) d2 (.frz od2 (.dK []))) H4 := fun b o q => kk b o (by rw [upd_ne (ne_of_none q h0), upd_ne (ne_of_none q h1)]; exact q) (ne_of_none q h0)
    have e0 : H4 s = some (.ins CS dx []) := s4 _ _ (s3 _ _ (s2 _ _ (s1 _ _ hs)))
    refine ⟨_, rfl, s, CS, dx, [], rfl, e0, T.cl, T.n1, by decide, ?_⟩
    have C0 : CtAt K CC H4 x0 ⟨[], [], []⟩ dx0 t d1 d2 [] := ⟨hc, SqT.of (s4 _ _ (s3 _ _ (s2 _ _ upd_same))), ⟨od1, s4 _ _ (s3 _ _ upd_same)⟩, .nil, ⟨od2, s4 _ _ upd_same⟩⟩
    refine ⟨by decide, fun b hb => ⟨_, rfl, s, CS, dx, (putF "_contents" (.ref x0) []), rfl, ?_, T.cl, T.n2, by have := putF_len "_contents" (.ref x0) []; simp only [List.length_nil] at this; omega, ?_⟩⟩
    · have sb : s ≠ b := fun z => by rw [← z, upd_same] at hb; cases hb
      rw [upd_ne sb, upd_same]
    refine ⟨by decide, fun h hh => ⟨_, rfl, s, CS, dx, (putF "_begun" (.ref b) (putF "_contents" (.ref x0) [])), rfl, ?_, T.cl, T.n3, by have := putF_len "_contents" (.ref x0) []; have := putF_len "_begun" (.ref b) (putF "_contents" (.ref x0) []); simp only [List.length_nil] at *; omega, ?_⟩⟩
    · have sh : s ≠ h := fun z => by rw [← z, upd_same] at hh; cases hh
      rw [upd_ne sh, upd_same]
    have sb : b ≠ s := fun z => by rw [z, upd_same] at hb; cases hb
    have sh : h ≠ s := fun z => by rw [z, upd_same] at hh; cases hh
    have bh : h ≠ b := fun z => by rw [z, upd_ne sb, upd_same] at hh; cases hh
    have hbn : H4 b = none := by rw [upd_ne sb] at hb; exact hb
    have hhn : H4 h = none := by rw [upd_ne sh, upd_ne bh, upd_ne sh] at hh; exact hh
    have all : ∀ q o, H4 q = some o → q ≠ s → (upd (upd (upd (upd (upd H4 s (.ins CS dx (putF "_contents" (.ref x0) []))) b (.lst [])) s (.ins CS dx (putF "_begun" (.ref b) (putF "_contents" (.ref x0) [])))) h (.lst [])) s (.ins CS dx (syF x0 b h))) q = some o := fun q o e n => by
      rw [upd_ne n, upd_ne (ne_of_none e hhn), upd_ne n, upd_ne (ne_of_none e hbn), upd_ne n]
      exact e
    have c_s : ∀ q o, H4 q = some o → (∀ fs, o ≠ .ins CS dx fs) → q ≠ s := fun q o e n z => by
      rw [z, e0] at e
      exact n _ (Option.some.inj e).symm
    refine k x0 b h _ (fun q o e n => all q o (s4 _ _ (s3 _ _ (s2 _ _ (s1 _ _ e)))) n) bh ?_ ⟨upd_same, ?_, ?_⟩ ⟨dx0, t, d1, d2, [], ?_, ?_, ?_, .nil, ?_⟩
    · cases q : H h with
      | none => rfl
      | some o => rw [s4 _ _ (s3 _ _ (s2 _ _ (s1 _ _ q)))] at hhn; cases hhn
    · rw [upd_ne sb, upd_ne bh.symm, upd_ne sb, upd_same]
    · rw [upd_ne sh, upd_same]
    · refine all _ _ hc fun z => ?_
      rw [z, e0] at hc
      injection hc with hc
      injection hc with _ _ hc
      have l1 := ctF_c t d1 d2
      rw [← hc] at l1
      cases l1
    · exact SqT.of (all _ _ (s4 _ _ (s3 _ _ (s2 _ _ upd_same))) (c_s _ _ (s4 _ _ (s3 _ _ (s2 _ _ upd_same))) fun _ z => by cases z))
    · exact ⟨od1, all _ _ (s4 _ _ (s3 _ _ upd_same)) (c_s _ _ (s4 _ _ (s3 _ _ upd_same)) fun _ z => by cases z)⟩
    · exact ⟨od2, all _ _ (s4 _ _ upd_same) (c_s _ _ (s4 _ _ upd_same) fun _ z => by cases z)⟩
end
end Bo

set_option Elab.async false
set_option linter.all false
set_option maxRecDepth 100000
set_option maxHeartbeats 8000000
namespace Bo
open PySem L2
/-- a System with the state S stands at s; it was made behind H0, and what H0 has is as it was -/
def SyOn (K : PySem.W.Frag) (CC CS : Addr) (H0 H : Hp) (s : Addr) (S : Ct) (m : Nat) : Prop := ∃ dx c b h hs, SyAt CS H s dx c b h hs ∧ CtIn K CC H c S ∧ h ≠ b ∧ hs.length ≤ m ∧ H0 s = none ∧ H0 h = none ∧ Same H0 H
theorem SyOn.keep {K : PySem.W.Frag} {CC CS : Addr} {H0 H H' : Hp} {s : Addr} {S : Ct} {m : Nat} (h : SyOn K CC CS H0 H s S m) (k : Same H H') : SyOn K CC CS H0 H' s S m :=
  let ⟨dx, c, b, h, hs, Y, C, e1, e2, e3, e4, e5⟩ := h; ⟨dx, c, b, h, hs, Y.keep k, C.keep k, e1, e2, e3, e4, e5.trans k⟩
theorem SyOn.same {K : PySem.W.Frag} {CC CS : Addr} {H0 H : Hp} {s : Addr} {S : Ct} {m : Nat} (h : SyOn K CC CS H0 H s S m) : Same H0 H := let ⟨_, _, _, _, _, _, _, _, _, _, _, e⟩ := h; e
theorem SyOn.more {K : PySem.W.Frag} {CC CS : Addr} {H0 H : Hp} {s : Addr} {S : Ct} {m m' : Nat} (h : SyOn K CC CS H0 H s S m) (l : m ≤ m') : SyOn K CC CS H0 H s S m' :=
  let ⟨dx, c, b, h, hs, Y, C, e1, e2, e3⟩ := h; ⟨dx, c, b, h, hs, Y, C, e1, Nat.le_trans e2 l, e3⟩
/-- System() -/
theorem sy_made {K : PySem.W.Frag} {CC CS : Addr} {H : Hp} {Q : VK} {E : XK} (k : ∀ (s : Addr) (H' : Hp), SyOn K CC CS H H' s ⟨[], [], []⟩ 0 → Q (.ref s) H') :
    ∀ x dx, H x = none → H dx = none → dx ≠ x → spSInit K CC CS (.ref x :: ([] ++ [])) (upd (upd H dx (.own x)) x (.ins CS dx [])) (fun v H2 => v = .non ∧ Q (.ref x) H2) E :=
  fun x dx hx hd ne => ⟨x, dx, rfl, upd_same, fun c b h H' kk e1 e2 Y C => ⟨rfl, k x H' ⟨dx, c, b, h, [], Y, C, e1, Nat.le_refl _, hx, (by
      cases q : H h with
      | none => rfl
      | some o =>
        rw [upd_ne (ne_of_none q hx), upd_ne (ne_of_none q hd), q] at e2
        cases e2),
    fun q o e => kk q o (by rw [upd_ne (ne_of_none e hx), upd_ne (ne_of_none e hd)]; exact e) (ne_of_none e hx)⟩⟩⟩
/-- s.add_unknown(..) -/
def spAU (K : PySem.W.Frag) (CC CN CS : Addr) : Sp := fun vs H Q E => ∃ (s : Addr) (H0 : Hp) (S : Ct) (m : Nat) (xs : List V), vs = .ref s :: xs ∧ SyOn K CC CS H0 H s S m ∧ m < 1000 ∧ xs.length ≤ 100 ∧ S.cols.length ≤ 24 ∧ (∀ x ∈ xs, ∃ d, Flat K H x d) ∧ (∀ z, V.str z ∈ xs → z.length ≤ 1000) ∧
  ((∃ (i : Nat) (v : V) (d : PyData), xs[i]? = some v ∧ Flat K H v d ∧ nameV v = false ∧ (∀ j x, j < i → xs[j]? = some x → nameV x = true) ∧ Thrown K E H CN "name" d) ∨
   (∃ ys : List Str, xs = ys.map V.str ∧ (∀ y ∈ ys, nameOk y = true) ∧ (ys ++ S.cols).Nodup ∧ (ys ++ S.cols).length ≤ 24 ∧
     ∀ (H' : Hp) (zs : List Str), zs.Perm (ys ++ S.cols) → PyProof.Rows.sortedS zs = true → SyOn K CC CS H0 H' s { S with cols := zs } (m + 1) → Q .non H'))
/-- .. its names in a tuple -/
def spAUt (K : PySem.W.Frag) (CC CN CS : Addr) : Sp := fun vs H Q E => ∃ (s n : Addr) (xs : List V), vs = [.ref s, .ref n] ∧ H n = some (.tup xs) ∧ spAU K CC CN CS (.ref s :: xs) H Q E
theorem spAU_new {K : PySem.W.Frag} {CC CN CS : Addr} {xs : List V} {H : Hp} {Q : VK} {E : XK} {p : Addr} {o : HO} (hp : H p = none) (h : spAU K CC CN CS xs H Q E) : spAU K CC CN CS xs (upd H p o) Q E := by
  obtain ⟨s, H0, S, m, xs, rfl, Y, hm, hx, hc, hf, hz, alt⟩ := h
  have sm : Same H (upd H p o) := same_new hp
  refine ⟨s, H0, S, m, xs, rfl, Y.keep sm, hm, hx, hc, fun x hx => let ⟨d, f⟩ := hf x hx; ⟨d, f.keep sm⟩, hz, ?_⟩
  rcases alt with ⟨i, v, d, h1, h2, h3, h4, h5⟩ | ⟨ys, h1, h2, h3, h4, h5⟩
  · exact .inl ⟨i, v, d, h1, h2.keep sm, h3, h4, h5.later sm⟩
  · exact .inr ⟨ys, h1, h2, h3, h4, h5⟩
/-- s.add_equation(x) -/
def spAE (K : PySem.W.Frag) (CC CN CS : Addr) : Sp := fun vs H Q E => ∃ (s : Addr) (H0 : Hp) (S : Ct) (m : Nat) (v : V) (d : PyData), vs = [.ref s, v] ∧ SyOn K CC CS H0 H s S m ∧ m < 1000 ∧ Flat K H v d ∧ (∀ z, v = .str z → z.length ≤ 1000) ∧
  ((nameV v = false ∧ Thrown K E H CN "name" d) ∨
   (∃ y : Str, v = .str y ∧ nameOk y = true ∧ y ∉ S.rows.map (·.1) ∧ y ∉ S.cons.map (·.1) ∧ S.rows.length < 24 ∧ S.cons.length < 24 ∧
     ∀ (H' : Hp), SyOn K CC CS H0 H' s { S with rows := S.rows ++ [(y, [])], cons := S.cons ++ [(y, 0)] } (m + 1) → Q .non H'))
def spAEt (K : PySem.W.Frag) (CC CN CS : Addr) : Sp := fun vs H Q E => ∃ (s n : Addr) (v : V), vs = [.ref s, v, .ref n] ∧ H n = some (.tup []) ∧ spAE K CC CN CS [.ref s, v] H Q E
theorem spAE_new {K : PySem.W.Frag} {CC CN CS : Addr} {xs : List V} {H : Hp} {Q : VK} {E : XK} {p : Addr} {o : HO} (hp : H p = none) (h : spAE K CC CN CS xs H Q E) : spAE K CC CN CS xs (upd H p o) Q E := by
  obtain ⟨s, H0, S, m, v, d, rfl, Y, hm, hf, hz, alt⟩ := h
  have sm : Same H (upd H p o) := same_new hp
  refine ⟨s, H0, S, m, v, d, rfl, Y.keep sm, hm, hf.keep sm, hz, ?_⟩
  rcases alt with ⟨h1, h2⟩ | h
  · exact .inl ⟨h1, h2.later sm⟩
  · exact .inr h
theorem Off.of {M : List Addr} {H0 H1 H2 : Hp} (a : Same H0 H1) (o : Off M H1 H2) (n : ∀ q ∈ M, H0 q = none) : Same H0 H2 := fun q u e => o _ _ (a _ _ e) fun z => by
  rw [n q z] at e
  cases e
section
variable {P : Program} {w : World} {K : PySem.W.Frag} {mg : Str → Option Value} {base : Heap} {CC fCI CN fIN CS fSI fTk : Addr}
theorem scAU : FnScope ["self", "names"] ([("self" : Str)] ++ [("names" : Str)]) (defScope sAU) := ⟨rfl, rfl, rfl, by decide +kernel, rfl, by decide +kernel, by decide +kernel⟩
theorem ok_au {f fW : Addr} {fd fdW fdTk : FuncData} (F : Fun K "add_unknown" "System.add_unknown" sAU f fd) (T : SysT K mg CS fSI fTk) (TC : CtT K mg CC fCI)
    (GT : FnOk P w K mg base CX0 1 fTk fdTk ["self", "contents"] (spTake CS)) (bT : Binds K fdTk ["self", "contents"] [])
    (GW : FnOk P w K mg base (L2.CX P w) 5 fW fdW ["contents", "names"] (spWU K CC CN)) (mW : mg "with_unknowns" = some (.ref fW)) (kW : PySem.W.keepIn K (.ref fW) = true) (bW : Binds K fdW ["contents", "names"] []) :
    FnR P w K mg base (L2.CX P w) 6 f (spAU K CC CN CS) := by
  obtain ⟨oc, od, kV, doc, pm, an, cdv, ct, osl, rfl, lk, hcd⟩ := F.ex
  have R : FnR P w K mg base (L2.CX P w) 6 f (fun vs H Q E => ∃ ws rest, vs = ws ++ rest ∧ ws.length = (["self"] : List Str).length ∧ rest.length ≤ sizeLine ∧ ∀ p, H p = none → spAUt K CC CN CS (ws ++ [V.ref p]) (upd H p (.tup rest)) Q E) := by
    refine StX.fn_star lk hcd scAU StX.cxUp (StX.bind_star1 (B := fun vs => bindArgs _ ⟨vs, []⟩) (fun _ => rfl) (fun _ _ _ => rfl)) (fun A outer s H vs Q E hr h => ?_)
    obtain ⟨s, n, xs, rfl, hn, h⟩ := h
    obtain ⟨s', H0, S, m, xs', e, ⟨dx, c, b, h, hs, Y, C, hne, hlh, n1, n2, sm0⟩, hm, hx, hc, hf, hz, alt⟩ := h
    cases e
    have hr1 : Room 1 _ := hr.mono (by decide)
    refine ⟨_, pss_one (ps_expr (pe_meth (pv 0) T.cl T.tk GT hr1 bT .nil pass0 (pa_cons (pe_call GW hr rfl mW kW bW .nil (passes_call (takes_of rfl rfl rfl rfl) (fun _ _ _ _ h => h)) (pa_cons (pe_fld (pv 0) rfl) (pa_cons (pv 1) pa_nil))) pa_nil))), ?_⟩
    refine ⟨_, rfl, s, dx, _, rfl, Y.i, syF_no _ _ _ (by decide +kernel) (by decide +kernel) (by decide +kernel), _, rfl, s, CS, dx, _, _, rfl, Y.i, T.cl, T.n1, syF_c _ _ _, _, rfl, ?_⟩
    refine ⟨c, n, S, xs, rfl, C, SqT.of hn, hx, hc, hf, hz, ?_⟩
    rcases alt with h1 | ⟨ys, h1, h2, h3, h4, h5⟩
    · exact .inl h1
    · refine .inr ⟨ys, h1, h2, h3, h4, fun a H1 zs sm p1 p2 C1 => ⟨s, a, dx, c, b, h, hs, rfl, Y.keep sm, by omega, hne, fun H2 o Y2 => h5 H2 zs p1 p2 ⟨dx, a, b, h, hs ++ [.ref c], Y2, C1.off (Y.keep sm) o, hne, ?_, n1, n2, Off.of (sm0.trans sm) o fun q hq => ?_⟩⟩⟩
      · rw [List.length_append]
        show _ + 1 ≤ _
        omega
      · rcases List.mem_cons.mp hq with z | z
        · rw [z]; exact n1
        · rw [List.mem_singleton.mp z]; exact n2
  refine R.imp fun vs H Q E h => ?_
  obtain ⟨s, H0, S, m, xs, rfl, r⟩ := id h
  refine ⟨[.ref s], xs, rfl, rfl, ?_, fun p hp => ⟨s, p, xs, rfl, upd_same, spAU_new hp h⟩⟩
  have := r.2.2.1
  rw [sizeLine_eq]
  omega
theorem scAE : FnScope ["self", "name", "unknowns"] ([("self" : Str), ("name" : Str)] ++ [("unknowns" : Str)]) (defScope sAE) := ⟨rfl, rfl, rfl, by decide +kernel, rfl, by decide +kernel, by decide +kernel⟩
theorem ok_ae {f fW : Addr} {fd fdW fdTk : FuncData} (F : Fun K "add_equation" "System.add_equation" sAE f fd) (T : SysT K mg CS fSI fTk) (TC : CtT K mg CC fCI)
    (GT : FnOk P w K mg base CX0 1 fTk fdTk ["self", "contents"] (spTake CS)) (bT : Binds K fdTk ["self", "contents"] [])
    (GW : FnOk P w K mg base (L2.CX P w) 6 fW fdW ["contents", "name", "unknowns"] (spWE K CC CN)) (mW : mg "with_equation" = some (.ref fW)) (kW : PySem.W.keepIn K (.ref fW) = true) (bW : Binds K fdW ["contents", "name", "unknowns"] []) :
    FnR P w K mg base (L2.CX P w) 7 f (spAE K CC CN CS) := by
  obtain ⟨oc, od, kV, doc, pm, an, cdv, ct, osl, rfl, lk, hcd⟩ := F.ex
  have R : FnR P w K mg base (L2.CX P w) 7 f (fun vs H Q E => ∃ ws rest, vs = ws ++ rest ∧ ws.length = (["self", "name"] : List Str).length ∧ rest.length ≤ sizeLine ∧ ∀ p, H p = none → spAEt K CC CN CS (ws ++ [V.ref p]) (upd H p (.tup rest)) Q E) := by
    refine StX.fn_star lk hcd scAE StX.cxUp (StX.bind_star2 (B := fun vs => bindArgs _ ⟨vs, []⟩) (fun _ _ => rfl) (fun _ _ _ _ => rfl)) (fun A outer s H vs Q E hr h => ?_)
    obtain ⟨s, n, v, rfl, hn, h⟩ := h
    obtain ⟨s', H0, S, m, v', d, e, ⟨dx, c, b, h, hs, Y, C, hne, hlh, n1, n2, sm0⟩, hm, hf, hz, alt⟩ := h
    cases e
    have hr1 : Room 1 _ := hr.mono (by decide)
    refine ⟨_, pss_one (ps_expr (pe_meth (pv 0) T.cl T.tk GT hr1 bT .nil pass0 (pa_cons (pe_call GW hr rfl mW kW bW .nil (passes_call (takes_of rfl rfl rfl rfl) (fun _ _ _ _ h => h)) (pa_cons (pe_fld (pv 0) rfl) (pa_cons (pv 1) (pa_cons (pv 2) pa_nil)))) pa_nil))), ?_⟩
    refine ⟨_, rfl, s, dx, _, rfl, Y.i, syF_no _ _ _ (by decide +kernel) (by decide +kernel) (by decide +kernel), _, rfl, s, CS, dx, _, _, rfl, Y.i, T.cl, T.n1, syF_c _ _ _, _, rfl, _, rfl, ?_⟩
    refine ⟨c, n, S, v, d, rfl, C, SqT.of hn, hf, hz, ?_⟩
    rcases alt with h1 | ⟨y, h1, h2, h3, h4, l1, l2, h5⟩
    · exact .inl h1
    · refine .inr ⟨y, h1, h2, h3, h4, l1, l2, fun a H1 sm C1 => ⟨s, a, dx, c, b, h, hs, rfl, Y.keep sm, by omega, hne, fun H2 o Y2 => h5 H2 ⟨dx, a, b, h, hs ++ [.ref c], Y2, C1.off (Y.keep sm) o, hne, ?_, n1, n2, Off.of (sm0.trans sm) o fun q hq => ?_⟩⟩⟩
      · rw [List.length_append]
        show _ + 1 ≤ _
        omega
      · rcases List.mem_cons.mp hq with z | z
        · rw [z]; exact n1
        · rw [List.mem_singleton.mp z]; exact n2
  refine R.imp fun vs H Q E h => ?_
  obtain ⟨s, H0, S, m, v, d, rfl, r⟩ := id h
  exact ⟨[.ref s, v], [], rfl, rfl, Nat.zero_le _, fun p hp => ⟨s, p, v, rfl, upd_same, spAE_new hp h⟩⟩
/-! ### what a system tells -/
structure TxtP (mg : Str → Option Value) : Prop where
  tup : mg "tuple" = none
  srt : mg "sorted" = none
def spEqs (K : PySem.W.Frag) (CC CS : Addr) : Sp := fun vs H Q _ => ∃ (s : Addr) (H0 : Hp) (S : Ct) (m : Nat), vs = [.ref s] ∧ SyOn K CC CS H0 H s S m ∧ S.rows.length < 64 ∧ ∀ (t : Addr) (H' : Hp) (ys : List Str), Same H H' → ys.Perm (S.rows.map (·.1)) → PyProof.Rows.sortedS ys = true → SqT K H' t (ys.map V.str) → Q (.ref t) H'
theorem scEqs : FnScope ["self"] ["self"] (defScope sEqs) := ⟨rfl, rfl, rfl, by decide +kernel, rfl, by decide +kernel, by decide +kernel⟩
theorem refK_keys (rs : List (Str × Addr)) : (refK rs).map (·.1) = (rs.map (·.1)).map Sum.inr := by
  unfold refK
  rw [List.map_map, List.map_map]
  rfl
theorem ok_eqs {f : Addr} {fd : FuncData} (F : Fun K "equations" "System.equations" sEqs f fd) (T : SysT K mg CS fSI fTk) (TC : CtT K mg CC fCI) (TP : TxtP mg) : FnOk P w K mg base CX0 1 f fd ["self"] (spEqs K CC CS) := by
  refine F.ok scEqs (fun vs H Q E h => ?_) (fun cdv A outer s H vs Q E hr h => ?_)
  · obtain ⟨s, H0, S, m, rfl, _⟩ := h
    rfl
  · obtain ⟨s, H0, S, m, rfl, ⟨dx, c, b, h, hs, Y, ⟨d1, ac, ar, ak, rs, C⟩, _⟩, hl, q⟩ := h
    refine ⟨_, pss_one (ps_ret (pe_callTy call_tuple_of (by rfl) TP.tup (by decide +kernel) (pa_cons (pe_callB (call_sortedD rfl) (by rfl) TP.srt (by decide +kernel) (pa_cons (pe_fld (pe_fld (pv 0) rfl) rfl) pa_nil)) pa_nil))), ?_⟩
    have hks : rs.map (·.1) = S.rows.map (·.1) := pair_keys (fun p q z => z.1) C.p
    have hln : (rs.map (·.1)).length = S.rows.length := by rw [hks, List.length_map]
    refine ⟨_, rfl, s, CS, dx, _, _, rfl, Y.i, T.cl, T.n1, syF_c _ _ _, c, CC, d1, _, _, rfl, C.i, TC.cl, TC.n2, ctF_r _ _ _, ar, _, _, rfl, C.r.rd, refK_keys rs, by rw [hln]; exact hl, fun ys p hp1 hp2 hp3 => ?_⟩
    have sm : Same H (upd H p (.lst (ys.map V.str))) := same_new hp3
    refine ⟨p, _, rfl, .inl ⟨SqL.of upd_same, fun t ht => ?_⟩⟩
    exact q t _ ys (sm.trans (same_new ht)) (hks ▸ hp1) hp2 (SqT.of upd_same)
def spUns (K : PySem.W.Frag) (CC CS : Addr) : Sp := fun vs H Q _ => ∃ (s : Addr) (H0 : Hp) (S : Ct) (m : Nat), vs = [.ref s] ∧ SyOn K CC CS H0 H s S m ∧ ∀ (t : Addr), SqT K H t (S.cols.map V.str) → Q (.ref t) H
theorem scUns : FnScope ["self"] ["self"] (defScope sUns) := ⟨rfl, rfl, rfl, by decide +kernel, rfl, by decide +kernel, by decide +kernel⟩
theorem ok_uns {f : Addr} {fd : FuncData} (F : Fun K "unknowns" "System.unknowns" sUns f fd) (T : SysT K mg CS fSI fTk) (TC : CtT K mg CC fCI) : FnOk P w K mg base CX0 1 f fd ["self"] (spUns K CC CS) := by
  refine F.ok scUns (fun vs H Q E h => ?_) (fun cdv A outer s H vs Q E hr h => ?_)
  · obtain ⟨s, H0, S, m, rfl, _⟩ := h
    rfl
  · obtain ⟨s, H0, S, m, rfl, ⟨dx, c, b, h, hs, Y, ⟨d1, ac, ar, ak, rs, C⟩, _⟩, q⟩ := h
    refine ⟨_, pss_one (ps_ret (pe_fld (pe_fld (pv 0) rfl) rfl)), ?_⟩
    exact ⟨_, rfl, s, CS, dx, _, _, rfl, Y.i, T.cl, T.n1, syF_c _ _ _, c, CC, d1, _, _, rfl, C.i, TC.cl, TC.n1, ctF_c _ _ _, q ac C.c⟩
/-- entries_of(contents), all rows empty -/
def spEO0 (K : PySem.W.Frag) (CC : Addr) : Sp := fun vs H Q _ => ∃ (c : Addr) (S : Ct), vs = [.ref c] ∧ CtIn K CC H c S ∧ (∀ p ∈ S.rows, p.2 = []) ∧ ∀ (t : Addr) (H' : Hp), Same H H' → SqT K H' t [] → Q (.ref t) H'
theorem scEO : FnScope ["contents", "equation", "unknown"] ["contents"] (defScope sEO) := ⟨rfl, rfl, rfl, by decide +kernel, rfl, by decide +kernel, by decide +kernel⟩
theorem pair_at {α β : Type} {F : α → β → Prop} : ∀ {l₁ : List α} {l₂ : List β} {i : Nat} {b : β}, Paired F l₁ l₂ → l₂[i]? = some b → ∃ a, l₁[i]? = some a ∧ F a b
  | _, _, i, b, .nil, h => by simp at h
  | _, _, 0, b, .cons (a := a) q t, h => by
    simp at h
    subst h
    exact ⟨a, by simp, q⟩
  | _, _, i + 1, b, .cons q t, h => by
    obtain ⟨a, h1, h2⟩ := pair_at t (by simpa using h)
    exact ⟨a, by simpa using h1, h2⟩
theorem refK_at {rs : List (Str × Addr)} {i : Nat} {k : Key} {v : V} (h : (refK rs)[i]? = some (k, v)) : ∃ y d, rs[i]? = some (y, d) ∧ k = Sum.inr y ∧ v = .ref d := by
  unfold refK at h
  rw [List.getElem?_map] at h
  obtain ⟨p, hp, e⟩ := Option.map_eq_some_iff.mp h
  cases e
  exact ⟨p.1, p.2, hp, rfl, rfl⟩
theorem refK_in {y : Str} : ∀ {rs : List (Str × Addr)}, y ∈ rs.map (·.1) → ∃ d, valV (refK rs) (Sum.inr y) = some (.ref d) ∧ (y, d) ∈ rs
  | p :: r, h => by
    by_cases e : p.1 = y
    · exact ⟨p.2, valV_pos (p := (Sum.inr p.1, V.ref p.2)) (congrArg Sum.inr e), by rw [← e]; exact List.mem_cons_self⟩
    · rw [List.map_cons, List.mem_cons] at h
      obtain ⟨d, h1, h2⟩ := refK_in (h.resolve_left (Ne.symm e))
      exact ⟨d, (valV_neg (p := (Sum.inr p.1, V.ref p.2)) (fun z => e (Sum.inr.inj z))).trans h1, List.mem_cons_of_mem _ h2⟩
theorem ok_eo0 {f : Addr} {fd : FuncData} (F : Fun K "entries_of" "entries_of" sEO f fd) (TC : CtT K mg CC fCI) (TP : TxtP mg) : FnOk P w K mg base CX0 1 f fd ["contents"] (spEO0 K CC) := by
  refine F.ok scEO (fun vs H Q E h => ?_) (fun cdv A outer s H vs Q E hr h => ?_)
  · obtain ⟨c, S, rfl, _⟩ := h
    rfl
  · obtain ⟨c, S, rfl, ⟨d1, ac, ar, ak, rs, C⟩, he, q⟩ := h
    refine ⟨_, pss_one (ps_ret (pe_callTy call_tuple_of (by rfl) TP.tup (by decide +kernel) (pa_cons (pe_callB cr_sorted (by rfl) TP.srt (by decide +kernel) (pa_cons
      (pe_lc2 (wi1 := iKeys (tDGet (tFld K (tVar 0) "rows") (tVar 1))) (own := [("equation", 1), ("unknown", 2)]) (vs1 := [2]) (g := gName 1) (tt := tYes) (g1 := gName 2) (tt1 := tYes) rfl scEO.nd (pi_keys (pe_fld (pv 0) rfl)) (blkOk_by (N := ["contents", "equation", "unknown"]) (sc := defScope sEO) (by decide +kernel)) (by decide)
        (fun _ _ _ _ _ => pg_name (i := 1) scEO.nd rfl (Or.inl rfl)) (fun _ _ _ _ _ => pts_nil)
        (fun _ _ _ _ _ => pi_keys (pe_dget (hu_of hr) (pe_fld (pv 0) rfl) (pv 1) (fun _ _ => rfl))) (fun _ _ _ _ _ => pg_name (i := 2) scEO.nd rfl (Or.inl rfl)) (fun _ _ _ _ _ => pts_nil)
        (fun _ _ _ _ _ => pe_tup (pa_cons (pv 1) (pa_cons (pv 2) pa_nil)))) pa_nil)) pa_nil))), ?_⟩
    have hks : rs.map (·.1) = S.rows.map (·.1) := pair_keys (fun p q z => z.1) C.p
    obtain ⟨or, hr0⟩ := C.r
    refine ⟨_, rfl, c, CC, d1, _, _, rfl, C.i, TC.cl, TC.n2, ctF_r _ _ _, ar, or, rfl, .inl ⟨_, hr0, fun D hD => ?_⟩⟩
    have sm : Same H (upd H D (.lst [])) := same_new hD
    have e1 : upd H D (.lst []) ar = some (.frz or (.dK (refK rs))) := sm _ _ hr0
    refine ⟨fun i m H' => (m = (refK rs).length - i ∧ i ≤ (refK rs).length) ∧ H' = upd H D (.lst []), ⟨_, ⟨rfl, Nat.zero_le _⟩, rfl⟩, fun i m H' hw => ?_⟩
    obtain ⟨⟨rfl, hi⟩, rfl⟩ := hw
    rcases Nat.lt_or_ge i (refK rs).length with lt | ge
    · refine .inr ⟨walk_keys.goes i _ lt e1, fun H' => H' = upd H D (.lst []), fun H' e => ⟨(refK rs).length - (i + 1), by omega, ⟨rfl, lt⟩, e⟩, fun x H' y => ?_⟩
      obtain ⟨rfl, k, v, hkv, rfl⟩ := walk_keys.yields i _ x H' lt e1 y
      obtain ⟨z, d, hz, rfl, rfl⟩ := refK_at hkv
      obtain ⟨d2, hv, hm⟩ := refK_in (rs := rs) (y := z) (List.mem_map.mpr ⟨_, List.mem_of_getElem? hz, rfl⟩)
      obtain ⟨j, hj⟩ := List.mem_iff_getElem?.mp hm
      obtain ⟨row, hrow, hrn, od2, hd2⟩ := pair_at C.p hj
      have hre : row.2 = [] := he row (List.mem_of_getElem? hrow)
      rw [hre] at hd2
      have hd2 : upd H D (.lst []) d2 = some (.frz od2 (.dK [])) := sm _ _ hd2
      refine ⟨rfl, iteT (B := True) ?_⟩
      refine ⟨_, rfl, c, CC, d1, _, _, rfl, sm _ _ C.i, TC.cl, TC.n2, ctF_r _ _ _, _, rfl, ar, _, rfl, .inl ⟨_, Sum.inr z, .inr ⟨or, e1⟩, rfl, hv.symm⟩, d2, od2, rfl, .inl ⟨[], hd2, ?_⟩⟩
      refine ⟨fun j k H' => j = 0 ∧ H' = upd H D (.lst []), ⟨0, rfl, rfl⟩, fun j k H' hw => .inl ?_⟩
      obtain ⟨rfl, rfl⟩ := hw
      exact ⟨(walk_keys (kvs := [])).stops _ hd2, rfl⟩
    · obtain rfl : i = (refK rs).length := Nat.le_antisymm hi ge
      refine .inl ⟨walk_keys.stops _ e1, ?_⟩
      refine ⟨D, [], rfl, SqL.of upd_same, by decide, fun ns p hp _ hn => ?_⟩
      obtain rfl : ns = [] := hp.eq_nil
      have sm2 := sm.trans (same_new (o := .lst []) hn)
      refine ⟨p, _, rfl, .inl ⟨SqL.of upd_same, fun t ht => ?_⟩⟩
      exact q t _ (sm2.trans (same_new ht)) (SqT.of upd_same)
def spEns (K : PySem.W.Frag) (CC CS : Addr) : Sp := fun vs H Q _ => ∃ (s : Addr) (H0 : Hp) (S : Ct) (m : Nat), vs = [.ref s] ∧ SyOn K CC CS H0 H s S m ∧ (∀ p ∈ S.rows, p.2 = []) ∧ ∀ (t : Addr) (H' : Hp), Same H H' → SqT K H' t [] → Q (.ref t) H'
theorem scEns : FnScope ["self"] ["self"] (defScope sEns) := ⟨rfl, rfl, rfl, by decide +kernel, rfl, by decide +kernel, by decide +kernel⟩
theorem ok_ens {f fO : Addr} {fd fdO : FuncData} (F : Fun K "entries" "System.entries" sEns f fd) (T : SysT K mg CS fSI fTk) (GO : FnOk P w K mg base CX0 1 fO fdO ["contents"] (spEO0 K CC)) (mO : mg "entries_of" = some (.ref fO)) (kO : PySem.W.keepIn K (.ref fO) = true) (bO : Binds K fdO ["contents"] []) :
    FnOk P w K mg base CX0 2 f fd ["self"] (spEns K CC CS) := by
  refine F.ok scEns (fun vs H Q E h => ?_) (fun cdv A outer s H vs Q E hr h => ?_)
  · obtain ⟨s, H0, S, m, rfl, _⟩ := h
    rfl
  · obtain ⟨s, H0, S, m, rfl, ⟨dx, c, b, h, hs, Y, C, _⟩, he, q⟩ := h
    refine ⟨_, pss_one (ps_ret (pe_call GO hr rfl mO kO bO .nil pass0 (pa_cons (pe_fld (pv 0) rfl) pa_nil))), ?_⟩
    exact ⟨_, rfl, s, CS, dx, _, _, rfl, Y.i, T.cl, T.n1, syF_c _ _ _, c, S, rfl, C, he, q⟩
end
end Bo

set_option Elab.async false
set_option linter.all false
set_option maxRecDepth 100000
set_option maxHeartbeats 4000000
/-! repr of flat data, also of dicts, and of a pair of a text and flat data -/
namespace Bo
open PySem PySem.Spec PyProof.Rows L2
theorem atom_reads {h : Heap} {v : V} {u : Value} (a : atomV v = true) (r : RelV v u) : Reads h u (dataA v) [] := by
  cases v with
  | non =>
    cases (show u = Value.none from r)
    exact .none
  | bl b =>
    cases (show u = Value.bool b from r)
    exact .bool b
  | int i =>
    obtain ⟨t, rfl⟩ := (show ∃ t, u = Value.int i t from r)
    exact .int i t
  | str x =>
    obtain ⟨t, rfl⟩ := (show ∃ t, u = Value.str x t from r)
    exact .str x t
  | _ => cases a
theorem atoms_reads {h : Heap} : ∀ {xs : List V} {us : List Value}, Atoms xs → Vals xs us → ReadsAll h us (xs.map dataA) []
  | [], _, _, .nil => .nil
  | x :: xs, _, a, .cons r t => ReadsAll.cons (as := []) (bs := []) (atom_reads (a x List.mem_cons_self) r) (atoms_reads (fun y hy => a y (List.mem_cons_of_mem _ hy)) t)
def encK : Key → PyData
  | .inl i => .int i
  | .inr x => .str x
theorem encK_reads {P : Program} {w : World} {h : Heap} (k : Key) (u : Value) (e : (mixKind P w).is k u = true) : Reads h u (encK k) [] := by
  rcases keyIs_shape e with ⟨i, t, rfl, rfl⟩ | ⟨x, t, rfl, rfl⟩
  · exact .int i t
  · exact .str x t
theorem strK_reads {h : Heap} : ∀ {ps : List (Str × V)} {vs : List (Key × Value)}, Atoms (ps.map (·.2)) → KV (strK ps) vs → PyProof.V.PairsRead h encK vs (strD ps) []
  | [], vs, _, r => by
    cases r
    exact .nil
  | p :: ps, vs, a, r => by
    cases r with
    | cons r1 r2 =>
      rename_i q qs
      obtain ⟨k, v⟩ := q
      obtain ⟨e1, e2⟩ := r1
      subst e1
      exact PyProof.V.PairsRead.cons (as := []) (bs := []) (atom_reads (a p.2 List.mem_cons_self) e2) (strK_reads (fun y hy => a y (List.mem_cons_of_mem _ hy)) r2)
theorem atoms_nodict : ∀ xs : List V, PyData.hasDictAll (xs.map dataA) = false
  | [] => rfl
  | x :: xs => by
    show (PyData.hasDict (dataA x) || PyData.hasDictAll (xs.map dataA)) = false
    rw [atoms_nodict xs, Bool.or_false]
    cases x <;> rfl
section
variable {X : Cx} {pins : List (Addr × Obj)} {σ : L2.St} {H : Hp} {s : Shared}
theorem Flat.reads (I : L2.Inv X pins σ H s) {v : V} {d : PyData} {u : Value} (f : Flat X.K H v d) (r : RelV v u) : ∃ as, Reads s.heap u d as ∧ (d.hasDict = true → sysModules ∉ as) := by
  cases f with
  | atom h => exact ⟨[], atom_reads h r, fun _ => List.not_mem_nil⟩
  | tup h x l =>
    cases r
    obtain ⟨its, rv, ⟨o, ho, hc, n, hd⟩, _⟩ := I.tuple h
    exact ⟨[], Reads.tuple ho hc hd (atoms_reads x rv), fun _ => List.not_mem_nil⟩
  | lst h x l =>
    cases r
    obtain ⟨its, rv, ⟨o, n, ho, hc, _, hd⟩, _⟩ := I.list (SqL.of h)
    refine ⟨_, Reads.list ho hc hd (atoms_reads x rv), fun z => ?_⟩
    rw [show PyData.hasDict (.list _) = PyData.hasDictAll _ from rfl, atoms_nodict] at z
    cases z
  | dct h x nd l =>
    cases r
    obtain ⟨_, z, vs, rel, dd⟩ := dk_of I.hok h
    refine ⟨_, PyProof.V.reads_dictOf encK_reads dd (strK_reads x rel), fun _ m => ?_⟩
    rw [List.mem_singleton.mp m] at z
    simp at z
end
/-- what _law_error tells: flat data, or a pair of a text and flat data -/
inductive Rp (K : PySem.W.Frag) (H : Hp) : V → PyData → Prop where
  | flat {v : V} {d : PyData} (h : Flat K H v d) : Rp K H v d
  | pair {a : Addr} {x : Str} {v : V} {d : PyData} (h : SqT K H a [.str x, v]) (f : Flat K H v d) : Rp K H (.ref a) (.tuple [.str x, d])
theorem Rp.keep {K : PySem.W.Frag} {H H' : Hp} {v : V} {d : PyData} (h : Rp K H v d) (k : Same H H') : Rp K H' v d := by
  cases h with
  | flat h => exact .flat (h.keep k)
  | pair h f => exact .pair (SqT.keep h k) (f.keep k)
section
variable {X : Cx} {pins : List (Addr × Obj)} {σ : L2.St} {H : Hp} {s : Shared}
theorem Rp.reads (I : L2.Inv X pins σ H s) {v : V} {d : PyData} {u : Value} (f : Rp X.K H v d) (r : RelV v u) : ∃ as, Reads s.heap u d as ∧ (d.hasDict = true → sysModules ∉ as) := by
  cases f with
  | flat h => exact h.reads I r
  | @pair a y w e h f =>
    cases r
    obtain ⟨its, rv, ⟨o, ho, hc, n, hd⟩, _⟩ := I.tuple h
    cases rv with
    | cons r1 r2 =>
      cases r2 with
      | cons r2 r3 =>
        cases r3
        obtain ⟨t, rfl⟩ := r1
        obtain ⟨as, h1, h2⟩ := f.reads I r2
        have ra : ReadsAll s.heap [Value.str y t, _] [PyData.str y, e] ([] ++ (as ++ [])) := ReadsAll.cons (.str y t) (ReadsAll.cons h1 .nil)
        rw [List.nil_append, List.append_nil] at ra
        refine ⟨as, Reads.tuple ho hc hd ra, fun z => h2 ?_⟩
        have e2 : PyData.hasDict (.tuple [.str y, e]) = (false || (PyData.hasDict e || false)) := rfl
        rw [e2, Bool.false_or, Bool.or_false] at z
        exact z
/-- repr(x) of such data: its text -/
def rReprX (K : PySem.W.Frag) : List V → Hp → VK → Prop := fun xs H Q => ∃ (x : V) (d : PyData), xs = [x] ∧ Rp K H x d ∧ d.showable = true ∧ d.depth ≤ 60 ∧ d.shown.length ≤ sizeLine ∧ Q (.str d.shown) H
theorem call_reprX {k : Nat} (hr : Quiet k X.A) : CallR X (.builtin "repr") (rReprX X.K) := by
  intro pins s σ H xs us Q I r h
  obtain ⟨x, d, rfl, hd, hs, hdep, hz, q⟩ := h
  obtain ⟨u, rfl, ru⟩ := vals1 r
  have hun := hr.room.un
  obtain ⟨as, R, hsm⟩ := Rp.reads I hd ru
  have big : ∀ a, u = Value.ref a → wpAny (model X.prog X.w) X.A (call (.builtin "repr") [u]) (EP X pins σ Q) X.xe s := fun a e => by
    subst e
    refine repr_of_reads' R hs hsm hr.gd (by omega) (fun _ _ e => e) (fun h' u tk hk => ?_) hz
    exact ⟨.str d.shown, H, I.kept (t' := tk) hk, ⟨u, rfl⟩, q⟩
  cases hd with
  | pair _ _ => exact big _ ru
  | flat f =>
    cases f with
    | tup _ _ _ => exact big _ ru
    | lst _ _ _ => exact big _ ru
    | dct _ _ _ _ => exact big _ ru
    | atom a =>
      cases x with
      | non =>
        cases (show u = Value.none from ru)
        exact P.repr_of_none ⟨.str PyData.none.shown, H, I.tok _, ⟨_, rfl⟩, q⟩
      | bl b =>
        cases (show u = Value.bool b from ru)
        refine P.repr_of_bool ⟨.str (PyData.bool b).shown, H, I.tok _, ⟨s.toks, ?_⟩, q⟩
        cases b <;> rfl
      | int i =>
        obtain ⟨t, rfl⟩ := (show ∃ t, u = Value.int i t from ru)
        exact P.repr_of_int (of_decide_eq_true hs) ⟨.str (PyData.int i).shown, H, I.tok _, ⟨_, rfl⟩, q⟩
      | str y =>
        obtain ⟨t, rfl⟩ := (show ∃ t, u = Value.str y t from ru)
        exact P.repr_of_str ⟨.str (PyData.str y).shown, H, I.tok _, ⟨_, rfl⟩, q⟩ hz
      | _ => cases a
end
end Bo

set_option Elab.async false
set_option linter.all false
set_option maxRecDepth 100000
set_option maxHeartbeats 8000000
namespace Bo
open PySem L2
/-! ### a letter of a text -/
def spPickS : Sp := fun vs H Q _ => ∃ (t c : Addr) (cs : List Int) (p l : Int) (z : Str), vs = [.ref t, .str z] ∧ Tape H t c cs p l ∧ 0 < z.cps.toList.length ∧ z.cps.toList.length ≤ 1000000 ∧ p < 1000000000000 ∧
  ∀ (u : Nat) (p' l' : Int) (H' : Hp), u ∈ z.cps.toList → p ≤ p' → p' ≤ p + 1 → Tape H' t c cs p' l' → But t H H' → Q (.str ⟨#[u]⟩) H'
section
variable {P : Program} {w : World} {K : PySem.W.Frag} {mg : Str → Option Value} {base : Heap}
theorem ok_pickS {f fD : Addr} {fd fdD : FuncData} (F : Fun K "_law_pick" "_law_pick" sPick f fd) (T : TxtB mg) (G : FnOk P w K mg base CX0 1 fD fdD ["_law_tape", "_law_many"] spDraw) (mD : mg "_law_draw" = some (.ref fD)) (kD : PySem.W.keepIn K (.ref fD) = true) (bD : Binds K fdD ["_law_tape", "_law_many"] []) :
    FnOk P w K mg base CX0 2 f fd ["_law_tape", "_law_items"] spPickS := by
  refine F.ok scP (fun vs H Q E h => ?_) (fun cdv A outer s H vs Q E hr h => ?_)
  · obtain ⟨t, c, cs, p, l, z, rfl, _⟩ := h
    rfl
  · obtain ⟨t, c, cs, p, l, z, rfl, hT, hn, hx, hp, k⟩ := h
    have hsz : z.length = z.cps.toList.length := (Array.length_toList (xs := z.cps)).symm
    refine ⟨_, pss_one (ps_ret (pe_ix ix_str (pv 1) (pe_call G hr rfl mD kD bD .nil pass0 (pa_cons (pv 0) (pa_cons (pe_callB call_len_str (by rfl) T.len PySem.boot_len (pa_cons (pv 1) pa_nil)) pa_nil))) (fun _ _ => rfl))), ?_⟩
    refine ⟨_, rfl, _, rfl, _, rfl, z, rfl, by rw [sizeLine_eq]; omega, t, c, cs, p, l, _, rfl, hT, by omega, by omega, hp, fun r p' l' H' h0 h1 a1 a2 hT' hB => ?_⟩
    obtain ⟨i, rfl⟩ : ∃ i : Nat, r = (i : Int) := ⟨r.toNat, by omega⟩
    have hi : i < z.cps.toList.length := by omega
    exact ⟨z, _, _, rfl, rfl, by rw [sizeLine_eq]; omega, atI_nat (List.getElem?_eq_getElem hi), k _ p' l' H' (List.getElem_mem hi) a1 a2 hT' hB⟩
end
theorem op_mulTx {X : Cx} : OpR X (binaryOp .Mult) (fun x y H Q => ∃ a n, x = .str a ∧ y = .int n ∧ MulOk a n ∧ Q (.str (Txt.mul a n)) H) := by
  intro pins s σ H x y v u Q I rx ry h
  obtain ⟨a, n, rfl, rfl, hm, q⟩ := h
  obtain ⟨t, rfl⟩ := rx
  obtain ⟨t', rfl⟩ := ry
  exact SB.mul hm fun t' tk => ⟨.str (Txt.mul a n), H, I.tok _, ⟨_, rfl⟩, q⟩
/-! ### what _law_thing gives -/
structure TxtOk (x : Str) : Prop where
  l : x.cps.toList.length ≤ 20
  c : ∀ u ∈ x.cps.toList, u < 128
structure Thg (K : PySem.W.Frag) (H : Hp) (v : V) (d : PyData) : Prop where
  f : Flat K H v d
  t : ∀ x, v = .str x → TxtOk x
  s : d.showable = true
  p : d.depth ≤ 5
  z : d.shown.length ≤ 1000
  o : d.hasDict = false → SeqAt.shaped d = true
theorem Thg.keep {K : PySem.W.Frag} {H H' : Hp} {v : V} {d : PyData} (h : Thg K H v d) (k : Same H H') : Thg K H' v d := ⟨h.f.keep k, h.t, h.s, h.p, h.z, h.o⟩
theorem Flat.but {K : PySem.W.Frag} {H H' : Hp} {v : V} {d : PyData} {t : Addr} (h : Flat K H v d) (n : v ≠ .ref t) (b : But t H H') : Flat K H' v d := by
  have n' : ∀ a, v = .ref a → a ≠ t := fun a e z => n (by rw [e, z])
  cases h with
  | atom h => exact .atom h
  | tup h x l =>
    refine .tup ?_ x l
    rcases h with (h | ⟨o, h⟩) | h
    · exact .inl (.inl (b _ _ h (n' _ rfl)))
    · exact .inl (.inr ⟨o, b _ _ h (n' _ rfl)⟩)
    · exact .inr h
  | lst h x l => exact .lst (b _ _ h (n' _ rfl)) x l
  | dct h x nd l => exact .dct (b _ _ h (n' _ rfl)) x nd l
theorem txt_thg {K : PySem.W.Frag} {H : Hp} {x : Str} (h : TxtOk x) : Thg K H (.str x) (.str x) := by
  refine ⟨.atom (v := .str x) rfl, fun y e => by cases e; exact h, rfl, by show 0 ≤ 5; decide, ?_, fun _ => ?_⟩
  rotate_left
  · show (PyData.strOk x && decide (0 ≤ 64)) = true
    rw [Bool.and_eq_true]
    refine ⟨?_, rfl⟩
    show Array.all _ _ = true
    rw [← Array.all_toList, List.all_eq_true]
    intro u hu
    have := h.c u hu
    exact decide_eq_true (by omega)
  have h1 := PySem.StrLaws.reprText_len x fun c hc => Nat.lt_of_lt_of_le (h.c c hc) (by decide)
  have h2 : x.length = x.cps.toList.length := (Array.length_toList (xs := x.cps)).symm
  have h3 := h.l
  show (reprText x).length ≤ 1000
  omega
theorem atom_thg {K : PySem.W.Frag} {H : Hp} {v : V} (h : atomV v = true) (n : ∀ x, v ≠ .str x) (s : (dataA v).showable = true) (z : (dataA v).shown.length ≤ 1000) : Thg K H v (dataA v) := by
  refine ⟨.atom h, fun x e => absurd e (n x), s, ?_, z, fun _ => ?_⟩
  · cases v <;> (show 0 ≤ 5; decide)
  · cases v with
    | str x => exact absurd rfl (n x)
    | _ => rfl
theorem cat_ok {x y : Str} (h1 : ∀ u ∈ x.cps.toList, u < 128) (h2 : ∀ u ∈ y.cps.toList, u < 128) (l : x.cps.toList.length + y.cps.toList.length ≤ 20) : TxtOk (x ++ y) := by
  have e : (x ++ y).cps.toList = x.cps.toList ++ y.cps.toList := Array.toList_append
  refine ⟨by rw [e, List.length_append]; exact l, fun u hu => ?_⟩
  rw [e] at hu
  rcases List.mem_append.mp hu with z | z
  · exact h1 u z
  · exact h2 u z
end Bo

set_option Elab.async false
set_option linter.all false
set_option maxRecDepth 100000
set_option maxHeartbeats 8000000
namespace Bo
open PySem L2
def both : Str := Str.ofString "abcdefghijklmnopqrstuvwxyz0123456789"
theorem both_eq : both.cps.toList = lets.cps.toList ++ digs.cps.toList := by decide +kernel
theorem lets_eq : lets.cps.toList = List.range' 97 26 := by decide +kernel
theorem both_sign (c : Nat) : decide (c ∈ both.cps.toList) = isSign c := by
  unfold isSign
  rw [both_eq]
  by_cases h1 : c ∈ lets.cps.toList
  · rw [decide_eq_true (List.mem_append.mpr (.inl h1)), decide_eq_true h1, Bool.true_or]
  · by_cases h2 : c ∈ digs.cps.toList
    · rw [decide_eq_true (List.mem_append.mpr (.inr h2)), decide_eq_true h2, Bool.or_true]
    · rw [decide_eq_false (fun z => (List.mem_append.mp z).elim h1 h2), decide_eq_false h1, decide_eq_false h2, Bool.or_false]
theorem isLet_eq (c : Nat) : isLet c = decide (97 ≤ c ∧ c ≤ 122) := by
  unfold isLet
  rw [lets_eq]
  by_cases h : 97 ≤ c ∧ c ≤ 122
  · rw [decide_eq_true h, decide_eq_true (List.mem_range'_1.mpr ⟨h.1, by omega⟩)]
  · rw [decide_eq_false h, decide_eq_false (fun z => h ⟨(List.mem_range'_1.mp z).1, by have := (List.mem_range'_1.mp z).2; omega⟩)]
def oneTx (c : Nat) : V := V.str ⟨#[c]⟩
def oneD (c : Nat) : PyData := .str ⟨#[c]⟩
theorem ones_dp {K : PySem.W.Frag} {H : Hp} : ∀ cs : List Nat, DpAll K H (cs.map oneTx) (cs.map oneD)
  | [] => .nil
  | c :: cs => .cons (.str _) (ones_dp cs)
theorem ones_lay : ∀ {cs : List Nat}, (∀ c ∈ cs, c < 128) → PyData.canLayAll0 (cs.map oneD) = true
  | [], _ => rfl
  | c :: cs, h => by
    show (PyData.strOk ⟨#[c]⟩ && PyData.canLayAll0 (cs.map oneD)) = true
    rw [ones_lay fun x hx => h x (List.mem_cons_of_mem _ hx), Bool.and_true]
    have hc := h c List.mem_cons_self
    unfold PyData.strOk
    simp
    omega
theorem ones_depth : ∀ cs : List Nat, PyData.depthAll (cs.map oneD) = 0
  | [] => rfl
  | c :: cs => by
    show max (PyData.depth (oneD c)) (PyData.depthAll (cs.map oneD)) = 0
    rw [ones_depth cs]
    rfl
theorem ones_shaped {cs : List Nat} (h : ∀ c ∈ cs, c < 128) : SeqAt.shaped (.list (cs.map oneD)) = true := by
  show (PyData.canLayAll0 (cs.map oneD) && decide (PyData.depthAll (cs.map oneD) + 1 ≤ 64)) = true
  rw [ones_lay h, ones_depth]
  rfl
theorem ones_none : ∀ cs : List Nat, PyData.eqv (.list (cs.map oneD)) (.list []) = cs.isEmpty
  | [] => by simp [PyData.eqv, PyData.eqvAll]
  | c :: cs => by simp [PyData.eqv, PyData.eqvAll]
def oneS (c : Nat) : Str := ⟨#[c]⟩
theorem ones_map (us : List Nat) : us.map oneTx = (us.map oneS).map V.str := by
  rw [List.map_map]
  rfl
theorem ones_join (us : List Nat) : (Txt.join (Str.ofString "") (us.map oneS)).cps.toList = us := by
  have h := PySem.StrLaws.glued_eq_join (Str.ofString "") (us.map oneS)
  show (Builtin.Str.glued (Str.ofString "") (us.map oneS)).cps.toList = us
  unfold Builtin.Str.glued
  have key : ∀ (l : List Nat) (acc : Array Nat), ((l.map oneS).foldl (fun acc p => acc ++ (Str.ofString "").cps ++ p.cps) acc).toList = acc.toList ++ l := by
    intro l
    induction l with
    | nil => intro acc; simp
    | cons c l ih =>
      intro acc
      rw [List.map_cons, List.foldl_cons, ih]
      have e : (Str.ofString "").cps = #[] := rfl
      rw [e]
      simp [oneS]
  cases us with
  | nil => rfl
  | cons c l =>
    show ((l.map oneS).foldl (fun acc p => acc ++ (Str.ofString "").cps ++ p.cps) (oneS c).cps).toList = _
    rw [key]
    rfl
theorem ones_sum : ∀ us : List Nat, ((us.map oneS).map (·.length)).sum = us.length
  | [] => rfl
  | c :: us => by
    rw [List.map_cons, List.map_cons, List.sum_cons, ones_sum us]
    show 1 + us.length = us.length + 1
    omega
theorem cut_mem {z : Str} {lo hi : Option Int} {u : Nat} (h : u ∈ (cutS z lo hi).cps.toList) : u ∈ z.cps.toList := by
  unfold cutS at h
  rw [List.toList_toArray] at h
  exact List.mem_of_mem_drop (List.mem_of_mem_take h)
theorem cut_len (z : Str) (lo hi : Option Int) : (cutS z lo hi).cps.toList.length ≤ z.cps.toList.length := by
  have := cutS_length z lo hi
  rw [show (cutS z lo hi).length = (cutS z lo hi).cps.toList.length from (Array.length_toList (xs := (cutS z lo hi).cps)).symm, show z.length = z.cps.toList.length from (Array.length_toList (xs := z.cps)).symm] at this
  exact this
theorem str_app (x y : Str) : (x ++ y).cps.toList = x.cps.toList ++ y.cps.toList := Array.toList_append
theorem str_len (x : Str) : x.length = x.cps.toList.length := (Array.length_toList (xs := x.cps)).symm
theorem lets_ok : ∀ u ∈ lets.cps.toList, u < 128 := by decide +kernel
theorem both_ok : ∀ u ∈ both.cps.toList, u < 128 := by decide +kernel
end Bo

set_option Elab.async false
set_option linter.all false
set_option maxRecDepth 100000
set_option maxHeartbeats 4000000
/-! the one sorted order of texts -/
namespace Bo
open PySem PySem.Spec PyProof.Rows
def leT (a b : Str) : Bool := !ltCps b.cps.toList a.cps.toList
theorem leT_iff {a b : Str} : leT a b = true ↔ a.cps.toList ≤ b.cps.toList := by
  unfold leT
  rw [ltCps_eq, Bool.not_eq_true', decide_eq_false_iff_not]
  exact List.not_lt
theorem str_ext {x y : Str} (h : x.cps.toList = y.cps.toList) : x = y := by
  cases x; cases y
  congr 1
  exact Array.toList_inj.mp h
theorem leT_trans {a b c : Str} (h1 : leT a b = true) (h2 : leT b c = true) : leT a c = true := leT_iff.mpr (List.le_trans (leT_iff.mp h1) (leT_iff.mp h2))
theorem leT_total (a b : Str) : (leT a b || leT b a) = true := by
  rw [Bool.or_eq_true, leT_iff, leT_iff]
  exact List.le_total _ _
theorem leT_anti {a b : Str} (h1 : leT a b = true) (h2 : leT b a = true) : a = b := str_ext (List.le_antisymm (leT_iff.mp h1) (leT_iff.mp h2))
def srt (xs : List Str) : List Str := xs.mergeSort leT
theorem srt_perm (xs : List Str) : (srt xs).Perm xs := List.mergeSort_perm _ _
theorem srt_pair (xs : List Str) : (srt xs).Pairwise fun a b => leT a b = true := List.pairwise_mergeSort (le := leT) (fun a b c h1 h2 => leT_trans (a := a) (b := b) (c := c) h1 h2) (fun a b => leT_total a b) xs
theorem risingS_pair : ∀ {p : Str} {l : List Str}, risingS p l = true → (p :: l).Pairwise fun a b => leT a b = true
  | p, [], _ => List.pairwise_singleton _ _
  | p, x :: r, h => by
    have h : (leT p x && risingS x r) = true := h
    rw [Bool.and_eq_true] at h
    have ih := risingS_pair h.2
    refine List.pairwise_cons.mpr ⟨fun y hy => ?_, ih⟩
    rcases List.mem_cons.mp hy with e | e
    · rw [e]; exact h.1
    · exact leT_trans h.1 ((List.pairwise_cons.mp ih).1 y e)
theorem sortedS_pair : ∀ {l : List Str}, sortedS l = true → l.Pairwise fun a b => leT a b = true
  | [], _ => .nil
  | x :: r, h => risingS_pair h
theorem pair_sortedS {l : List Str} (h : l.Pairwise fun a b => leT a b = true) : sortedS l = true := sortedS_of_pairwise l (h.imp fun {a b} q => by
  unfold leT at q
  simpa using q)
theorem sort_one : ∀ {l m : List Str}, l.Pairwise (fun a b => leT a b = true) → m.Pairwise (fun a b => leT a b = true) → l.Perm m → l = m
  | [], m, _, _, p => (p.symm.eq_nil).symm
  | x :: l, [], _, _, p => absurd p.eq_nil (by simp)
  | x :: l, y :: m, h1, h2, p => by
    have e : x = y := by
      have a1 : x ∈ y :: m := p.mem_iff.mp List.mem_cons_self
      have a2 : y ∈ x :: l := p.mem_iff.mpr List.mem_cons_self
      rcases List.mem_cons.mp a1 with e | e
      · exact e
      · rcases List.mem_cons.mp a2 with e2 | e2
        · exact e2.symm
        · exact leT_anti ((List.pairwise_cons.mp h1).1 y e2) ((List.pairwise_cons.mp h2).1 x e)
    subst e
    rw [sort_one (List.pairwise_cons.mp h1).2 (List.pairwise_cons.mp h2).2 (List.perm_cons x |>.mp p)]
/-- a sorted arrangement is the sorted one -/
theorem srt_of {zs xs : List Str} (p : zs.Perm xs) (h : sortedS zs = true) : zs = srt xs := sort_one (sortedS_pair h) (srt_pair xs) (p.trans (srt_perm xs).symm)
theorem srt_eq {xs ys : List Str} (p : xs.Perm ys) : srt xs = srt ys := sort_one (srt_pair _) (srt_pair _) ((srt_perm xs).trans (p.trans (srt_perm ys).symm))
theorem srt_sorted (xs : List Str) : sortedS (srt xs) = true := pair_sortedS (srt_pair xs)
theorem srt_mem {x : Str} {xs : List Str} : x ∈ srt xs ↔ x ∈ xs := (srt_perm xs).mem_iff
theorem srt_len (xs : List Str) : (srt xs).length = xs.length := (srt_perm xs).length_eq
end Bo

set_option Elab.async false
set_option linter.all false
set_option maxRecDepth 100000
set_option maxHeartbeats 8000000
namespace Bo
open PySem L2
theorem txts_dp {K : PySem.W.Frag} {H : Hp} : ∀ ys : List Str, DpAll K H (ys.map V.str) (ys.map PyData.str)
  | [] => .nil
  | y :: ys => .cons (.str y) (txts_dp ys)
theorem txts_lay : ∀ {ys : List Str}, (∀ y ∈ ys, PyData.strOk y = true) → PyData.canLayAll0 (ys.map PyData.str) = true
  | [], _ => rfl
  | y :: ys, h => by
    show (PyData.strOk y && PyData.canLayAll0 (ys.map PyData.str)) = true
    rw [h y List.mem_cons_self, txts_lay fun x hx => h x (List.mem_cons_of_mem _ hx)]
    rfl
theorem txts_flat : ∀ ys : List Str, PyData.depthAll (ys.map PyData.str) = 0
  | [] => rfl
  | y :: ys => by
    show max 0 (PyData.depthAll (ys.map PyData.str)) = 0
    rw [txts_flat ys]
    rfl
theorem txts_shaped {ys : List Str} (h : ∀ y ∈ ys, PyData.strOk y = true) : SeqAt.shaped (.list (ys.map PyData.str)) = true := by
  show (PyData.canLayAll0 (ys.map PyData.str) && decide (PyData.depthAll (ys.map PyData.str) + 1 ≤ 64)) = true
  rw [txts_lay h, txts_flat]
  rfl
theorem txts_none (ys : List Str) : PyData.eqv (.list (ys.map PyData.str)) (.list []) = ys.isEmpty := by
  cases ys with
  | nil => simp [PyData.eqv, PyData.eqvAll]
  | cons y ys => simp [PyData.eqv, PyData.eqvAll]
theorem Tape.off {H : Hp} {t c D : Addr} {cs : List Int} {p l : Int} {o : HO} (T : Tape H t c cs p l) (n : D ≠ t) (m : c ≠ D) : Tape (upd H D o) t c cs p l := ⟨by rw [upd_ne n.symm]; exact T.d, by rw [upd_ne m]; exact T.c, T.n, T.m, T.p0, T.l0⟩
theorem erase_map {α β : Type} (f : α → β) : ∀ (l : List α) (i : Nat), (l.map f).eraseIdx i = (l.eraseIdx i).map f
  | [], _ => rfl
  | _ :: _, 0 => rfl
  | x :: l, i + 1 => congrArg (f x :: ·) (erase_map f l i)
theorem erase_perm {α : Type} : ∀ {l : List α} {i : Nat} (h : i < l.length), ([l[i]] ++ l.eraseIdx i).Perm l
  | x :: l, 0, _ => List.Perm.refl _
  | x :: l, i + 1, h => by
    have q := erase_perm (l := l) (i := i) (Nat.lt_of_succ_lt_succ h)
    exact (List.Perm.swap x _ _).trans (q.cons x)
/-- the items in any order -/
def spShuf (K : PySem.W.Frag) : Sp := fun vs H Q _ => ∃ (t c a : Addr) (cs : List Int) (p l : Int) (xs : List Str), vs = [.ref t, .ref a] ∧ Tape H t c cs p l ∧ (SqL K H a (xs.map V.str) ∨ SqT K H a (xs.map V.str)) ∧ (∀ x ∈ xs, PyData.strOk x = true) ∧ xs.length ≤ 1000 ∧ p + xs.length < 100000000000 ∧
  ∀ (q : Addr) (ys : List Str) (p' l' : Int) (H' : Hp), ys.Perm xs → H q = none → H' q = some (.lst (ys.map V.str)) → p ≤ p' → p' ≤ p + xs.length → Tape H' t c cs p' l' → But t H H' → Q (.ref q) H'
structure TxtSh (mg : Str → Option Value) : Prop where
  len : mg "len" = none
  lst : mg "list" = none
end Bo

set_option Elab.async false
set_option linter.all false
set_option maxRecDepth 100000
set_option maxHeartbeats 8000000
namespace Bo
open PySem L2
abbrev sNames : Stmt := top 68
abbrev nNm : List Str := ["_law_tape", "_law_many", "_law_letters", "_law_k", "_law_stem", "_law_place", "_law_first", "_law_cut", "_law_step", "_law_found", "_law_front", "_law_back"]
/-- different names -/
def spNames : Sp := fun vs H Q _ => ∃ (t c : Addr) (cs : List Int) (p l m : Int), vs = [.ref t, .int m] ∧ Tape H t c cs p l ∧ 0 ≤ m ∧ m ≤ 26 ∧ p + 20 < 100000000000 ∧
  ∀ (q : Addr) (ys : List Str) (p' l' : Int) (H' : Hp), H q = none → H' q = some (.lst (ys.map V.str)) → ys.length = m.toNat → ys.Nodup → (∀ y ∈ ys, nameOk y = true ∧ TxtOk y) → p ≤ p' → p' ≤ p + 20 → Tape H' t c cs p' l' → But t H H' → Q (.ref q) H'
def lets26 : List Nat := List.range' 97 26
theorem lets26_eq : lets.cps.toList = lets26 := by decide +kernel
theorem let_at {j : Nat} (h : j < 26) : lets.cps.toList[j]? = some (97 + j) := by
  rw [lets26_eq]
  unfold lets26
  rw [List.getElem?_range' h]
  simp
def steps : List Int := [1, 3, 5, 7, 9, 11, 15, 17, 19, 21, 23, 25]
theorem steps_inj {s f : Int} (hs : s ∈ steps) {k k' : Nat} (h1 : k < 26) (h2 : k' < 26) (e : (f + s * (k : Int)) % 26 = (f + s * (k' : Int)) % 26) : k = k' := by
  unfold steps at hs
  simp only [List.mem_cons, List.not_mem_nil, or_false] at hs
  rcases hs with rfl | rfl | rfl | rfl | rfl | rfl | rfl | rfl | rfl | rfl | rfl | rfl <;> omega
/-- the name of turn k -/
def nameAt (front back : List Nat) (f s : Int) (cut : Bool) (k : Nat) : List Nat := front ++ ((97 + ((f + s * (k : Int)) % 26).toNat) :: (if cut then back.take (k % 3) else back))
theorem nameAt_inj {front back : List Nat} {f s : Int} {cut : Bool} (hs : s ∈ steps) {k k' : Nat} (h1 : k < 26) (h2 : k' < 26) (e : nameAt front back f s cut k = nameAt front back f s cut k') : k = k' := by
  have e2 := List.append_cancel_left e
  injection e2 with e3 _
  refine steps_inj (f := f) hs h1 h2 ?_
  have a := Int.emod_nonneg (f + s * (k : Int)) (show (26 : Int) ≠ 0 by decide)
  have b := Int.emod_nonneg (f + s * (k' : Int)) (show (26 : Int) ≠ 0 by decide)
  omega
theorem But.same {t : Addr} {H H' : Hp} (h : Same H H') : But t H H' := fun q o e _ => h q o e
theorem sign_let {c : Nat} (h : c ∈ lets.cps.toList) : isSign c = true := by
  unfold isSign
  rw [decide_eq_true h]
  rfl
theorem sign_both {c : Nat} (h : c ∈ (lets ++ digs).cps.toList) : isSign c = true := by
  rw [str_app] at h
  unfold isSign
  rcases List.mem_append.mp h with z | z
  · rw [decide_eq_true z]; rfl
  · rw [decide_eq_true z, Bool.or_true]
theorem sign_small : ∀ {c : Nat}, isSign c = true → c < 128 := fun {c} h => by
  unfold isSign at h
  rw [Bool.or_eq_true, decide_eq_true_eq, decide_eq_true_eq] at h
  rcases h with z | z
  · exact lets_ok c z
  · exact both_ok c (by rw [both_eq]; exact List.mem_append_right _ z)
theorem let_mem {j : Nat} (h : j < 26) : 97 + j ∈ lets.cps.toList := List.mem_of_getElem? (let_at h)
/-- a list of signs that begins with a letter -/
theorem name_of {l : List Nat} (h1 : 1 ≤ l.length) (h2 : l.length ≤ 8) (h3 : ∃ c, l.head? = some c ∧ c ∈ lets.cps.toList) (h4 : ∀ c ∈ l, isSign c = true) : nameOk ⟨l.toArray⟩ = true ∧ TxtOk ⟨l.toArray⟩ := by
  obtain ⟨c, hc, hl⟩ := h3
  have e : (⟨l.toArray⟩ : Str).cps.toList = l := List.toList_toArray
  refine ⟨?_, by rw [e]; omega, fun u hu => ?_⟩
  · show (decide _ && (decide _ && (_ && _))) = true
    rw [e, decide_eq_true h1, decide_eq_true h2, hc, show (some c).any isLet = isLet c from rfl, show isLet c = true from decide_eq_true hl, List.all_eq_true.mpr h4]
    rfl
  · rw [e] at hu
    exact sign_small (h4 u hu)
theorem cut_take {l : List Nat} {n : Nat} (h : n ≤ l.length) : cutV (l.map oneTx) none (some (n : Int)) = ((l.take n).map oneS).map V.str := by
  unfold cutV
  rw [HT.sIx_none, HT.sIx_nat, List.length_map, Nat.min_eq_left h, Nat.sub_zero, List.drop_zero, ← List.map_take, ones_map]
theorem cut_drop {l : List Nat} {n : Nat} (h : n ≤ l.length) : cutV (l.map oneTx) (some (n : Int)) none = ((l.drop n).map oneS).map V.str := by
  unfold cutV
  rw [HT.sIx_none, HT.sIx_nat, List.length_map, Nat.min_eq_left h, ← List.map_drop, List.take_of_length_le (by rw [List.length_map, List.length_drop]; exact Nat.le_refl _), ones_map]
theorem str_of {x : Str} {l : List Nat} (h : x.cps.toList = l) : x = ⟨l.toArray⟩ := by
  cases x
  rw [← h]
theorem cutS_take {x : Str} {n : Nat} : (cutS x none (some (n : Int))).cps.toList = x.cps.toList.take n := by
  unfold cutS
  rw [HT.sIx_none, HT.sIx_nat, Nat.sub_zero, List.drop_zero, List.toList_toArray, str_len, Nat.min_def]
  split
  · rfl
  · rw [List.take_of_length_le (Nat.le_refl _), List.take_of_length_le (by omega)]
section
variable {P : Program} {w : World} {K : PySem.W.Frag} {mg : Str → Option Value} {base : Heap}
theorem scNm : FnScope nNm ["_law_tape", "_law_many"] (defScope sNames) := ⟨rfl, rfl, rfl, by decide +kernel, rfl, by decide +kernel, by decide +kernel⟩
theorem ok_names {f fD fP : Addr} {fd fdD fdP : FuncData} (F : Fun K "_law_names" "_law_names" sNames f fd) (T : TxtSh mg) (hrng : mg "range" = none)
    (GD : FnOk P w K mg base CX0 1 fD fdD ["_law_tape", "_law_many"] spDraw) (mD : mg "_law_draw" = some (.ref fD)) (kD : PySem.W.keepIn K (.ref fD) = true) (bD : Binds K fdD ["_law_tape", "_law_many"] [])
    (GP : FnOk P w K mg base CX0 2 fP fdP ["_law_tape", "_law_items"] spPick) (GS : FnOk P w K mg base CX0 2 fP fdP ["_law_tape", "_law_items"] spPickS) (mP : mg "_law_pick" = some (.ref fP)) (kP : PySem.W.keepIn K (.ref fP) = true) (bP : Binds K fdP ["_law_tape", "_law_items"] []) :
    FnOk P w K mg base CX0 3 f fd ["_law_tape", "_law_many"] spNames := by
  refine F.ok scNm (fun vs H Q E h => ?_) (fun cdv A outer s H vs Q E hr h => ?_)
  · obtain ⟨t, c, cs, p, l, m, rfl, _⟩ := h
    rfl
  obtain ⟨t, c, cs, p, l, m, rfl, hT, hm0, hm1, hp, k⟩ := h
  have hr1 : Room 1 _ := hr.mono (by decide)
  refine ⟨_, pss_cons (ps_set (i := 2) scNm.nd rfl (.inr rfl) pe_str)
    (pss_cons (ps_set (i := 4) scNm.nd rfl (.inl rfl) (pe_op op_cat (pe_lst (pa_cons (pe_call GS hr rfl mP kP bP .nil pass0 (pa_cons (pv 0) (pa_cons (pv 2) pa_nil))) pa_nil))
      (pe_lc (own := [("_law_k", 3)]) (g := gName 3) (tt := tYes) rfl scNm.nd (pi_range1 rfl hrng (pa_cons (pe_call GD hr1 rfl mD kD bD .nil pass0 (pa_cons (pv 0) (pa_cons pe_int pa_nil))) pa_nil)) (blkOk_by (N := nNm) (sc := defScope sNames) (by decide +kernel)) (fun _ _ _ _ _ => pg_name (i := 3) scNm.nd rfl (Or.inl rfl)) (fun _ _ _ _ _ => pts_nil)
        (fun _ _ _ _ _ => pe_call GS hr rfl mP kP bP .nil pass0 (pa_cons (pv 0) (pa_cons (pe_op op_add_str (pv 2) pe_str) pa_nil))))))
    (pss_cons (ps_par3 (i := 5) (j := 6) (l := 7) (by rfl) scNm.nd rfl rfl rfl (by decide) (by decide) (by decide) rfl rfl rfl
        (pa_cons (pe_call GD hr1 rfl mD kD bD .nil pass0 (pa_cons (pv 0) (pa_cons (pe_callB call_len_seq (by rfl) T.len PySem.boot_len (pa_cons (pv 4) pa_nil)) pa_nil))) (pa_cons (pe_call GD hr1 rfl mD kD bD .nil pass0 (pa_cons (pv 0) (pa_cons pe_int pa_nil))) (pa_cons (pe_call GD hr1 rfl mD kD bD .nil pass0 (pa_cons (pv 0) (pa_cons pe_int pa_nil))) pa_nil))) (by rfl))
    (pss_cons (ps_par (i := 8) (j := 9) (by rfl) scNm.nd rfl rfl (by decide) rfl rfl (pa_cons (pe_call GP hr rfl mP kP bP .nil pass0 (pa_cons (pv 0) (pa_cons (pe_lst (pa_cons pe_int (pa_cons pe_int (pa_cons pe_int (pa_cons pe_int (pa_cons pe_int (pa_cons pe_int (pa_cons pe_int (pa_cons pe_int (pa_cons pe_int (pa_cons pe_int (pa_cons pe_int (pa_cons pe_int pa_nil))))))))))))) pa_nil))) (pa_cons (pe_lst pa_nil) pa_nil)) (by rfl))
    (pss_cons (ps_par (i := 10) (j := 11) (by rfl) scNm.nd rfl rfl (by decide) rfl rfl (pa_cons (pe_join pe_str (pe_slice sl_list (pv 4) po_none (po_some (pv 5)))) (pa_cons (pe_join pe_str (pe_slice sl_list (pv 4) (po_some (pe_op op_add (pv 5) pe_int)) po_none)) pa_nil)) (by rfl))
    (pss_cons (ps_for PassesOwn.never rfl (pi_range1 rfl hrng (pa_cons (pv 1) pa_nil)) (pg_name (i := 3) scNm.nd rfl (.inl rfl))
      (pss_one (ps_expr (pe_bm PySem.F.plainAttrs_list PySem.F.slot_list_append PySem.F.type_list_append mt_append (pv 9) (pa_cons
        (pe_op op_add_str (pe_op op_add_str (pv 10) (pe_ix ix_str (pv 2) (pe_op op_mod (pe_op op_add (pv 6) (pe_op op_mul (pv 8) (pv 3))) pe_int) (fun _ _ => rfl)))
          (pe_ifExp (pt_cmpR op_eq (pv 7) pe_int (nomark _)) (pv 11) (pe_slice sl_str (pv 11) po_none (po_some (pe_op op_mod (pv 3) pe_int))))) pa_nil)))))
    (pss_one (ps_ret (pv 9)))))))), ?_⟩
  refine ⟨_, rfl, _, rfl, t, c, cs, p, l, lets, rfl, hT, by decide +kernel, by decide +kernel, by omega, fun u p1 l1 H1 hu a1 b1 hT1 hB1 => ⟨by show 1 ≤ sizeLine; decide, fun q1 hq1 => ?_⟩⟩
  have q1t : q1 ≠ t := fun z => by rw [z, hT1.d] at hq1; cases hq1
  have hT1' := hT1.new (o := .lst [V.str ⟨#[u]⟩]) hq1
  have hB1' : But t H (upd H1 q1 (.lst [V.str ⟨#[u]⟩])) := hB1.new hq1
  have eq1 : (upd H1 q1 (.lst [V.str ⟨#[u]⟩])) q1 = some (.lst [oneTx u]) := upd_same
  have c1 : c ≠ q1 := ne_of_none hT1.c hq1
  generalize upd H1 q1 (.lst [V.str ⟨#[u]⟩]) = G1 at hT1' hB1' eq1 ⊢
  refine ⟨_, rfl, t, c, cs, p1, l1, 8, rfl, hT1', by decide, by decide, by omega, fun r p2 l2 H2 r0 r1 a2 b2 hT2 hB2 => ⟨r, rfl, by omega, by omega, fun D hD => ?_⟩⟩
  have Dt : D ≠ t := fun z => by rw [z, hT2.d] at hD; cases hD
  have Dc : c ≠ D := ne_of_none hT2.c hD
  have eq2 := hB2 _ _ eq1 q1t
  have q1D : q1 ≠ D := ne_of_none eq2 hD
  have hBD : But t H (upd H2 D (.lst [])) := (hB1'.trans hB2).new hD
  refine lc_it walk_range (fun i H' => ∃ (us : List Nat) (p' l' : Int), us.length = i ∧ (∀ u ∈ us, u ∈ (lets ++ digs).cps.toList) ∧ p2 ≤ p' ∧ p' ≤ p2 + i ∧ Tape H' t c cs p' l' ∧ H' D = some (.lst (us.map oneTx)) ∧ H' q1 = some (.lst [oneTx u]) ∧ But t H H')
    ⟨[], p2, l2, rfl, (fun _ z => nomatch z), by omega, by omega, hT2.new hD, upd_same, same_new hD _ _ eq2, hBD⟩ (fun _ _ _ _ => True.intro) ?_ ?_
  · rintro i x H3 H4 hi ⟨us, p', l', e1, e2, a3, b3, hT3, hD3, hq3, hB3⟩ ⟨rfl, rfl⟩
    refine ⟨rfl, iteT (B := True) ⟨_, rfl, _, rfl, _, _, rfl, rfl, by decide +kernel, t, c, cs, p', l', lets ++ digs, rfl, hT3, by decide +kernel, by decide +kernel, by omega, fun v p'' l'' H5 hv a5 b5 hT5 hB5 => ⟨us.map oneTx, hB5 _ _ hD3 Dt, by rw [List.length_map, sizeLine_eq]; omega, us ++ [v], p'', l'', ?_⟩⟩⟩
    refine ⟨by rw [List.length_append, e1]; rfl, fun z hz => ?_, by omega, by omega, hT5.off Dt Dc, ?_, (upd_ne q1D).trans (hB5 _ _ hq3 q1t), fun b o e nb => ?_⟩
    · rcases List.mem_append.mp hz with q | q
      · exact e2 z q
      · rw [List.mem_singleton.mp q]; exact hv
    · rw [upd_same, List.map_append]
      rfl
    · have h5 := (hB3.trans hB5) b o e nb
      have nD : b ≠ D := fun z => by
        have e2 := (hB1'.trans hB2) b o e nb
        rw [z, hD] at e2
        cases e2
      rw [upd_ne nD]
      exact h5
  rintro H3 ⟨us, p3, l3, e1, e2, a3, b3, hT3, hD3, hq3, hB3⟩
  have hus : us.length ≤ 7 := by omega
  refine ⟨q1, D, _, _, rfl, rfl, hq3, hD3, by rw [List.length_map, sizeLine_eq]; show 1 + us.length ≤ _; omega, fun q2 hq2 => ?_⟩
  have eqs : (upd H3 q2 (.lst ([oneTx u] ++ us.map oneTx))) q2 = some (.lst ((u :: us).map oneTx)) := upd_same
  have hT3' := hT3.new (o := .lst ([oneTx u] ++ us.map oneTx)) hq2
  have hB3' := hB3.new (o := .lst ([oneTx u] ++ us.map oneTx)) hq2
  have q2t : q2 ≠ t := fun z => by rw [z, hT3.d] at hq2; cases hq2
  generalize upd H3 q2 (.lst ([oneTx u] ++ us.map oneTx)) = G3 at eqs hT3' hB3' ⊢
  have lst : ((u :: us).map oneTx).length = us.length + 1 := by rw [List.length_map]; rfl
  refine ⟨_, rfl, _, rfl, q2, _, rfl, .inl (SqL.of eqs), t, c, cs, p3, l3, _, rfl, hT3', by rw [lst]; omega, by rw [lst]; omega, by omega, fun pl p4 l4 H4 pl0 pl1 a4 b4 hT4 hB4 => ?_⟩
  refine ⟨_, rfl, t, c, cs, p4, l4, 26, rfl, hT4, by decide, by decide, by omega, fun fi p5 l5 H5 fi0 fi1 a5 b5 hT5 hB5 => ?_⟩
  refine ⟨_, rfl, t, c, cs, p5, l5, 2, rfl, hT5, by decide, by decide, by omega, fun cu p6 l6 H6 cu0 cu1 a6 b6 hT6 hB6 => ⟨_, _, _, rfl, ?_⟩⟩
  have eq6 := hB6 _ _ (hB5 _ _ (hB4 _ _ eqs q2t) q2t) q2t
  have hB60 := ((hB3'.trans hB4).trans hB5).trans hB6
  refine ⟨_, rfl, by show 12 ≤ sizeLine; decide, fun q3 hq3' => ⟨t, c, q3, cs, p6, l6, steps.map V.int, rfl, hT6.new hq3', upd_same, by simp [steps], by simp [steps], by omega, fun j x p7 l7 H7 hj a7 b7 hT7 hB7 => ⟨by decide, fun q4 hq4 => ⟨_, _, rfl, ?_⟩⟩⟩⟩
  rw [List.getElem?_map] at hj
  obtain ⟨st, hst, rfl⟩ := Option.map_eq_some_iff.mp hj
  have hst := List.mem_of_getElem? hst
  have hT8 := hT7.new (o := .lst []) hq4
  have hB70 : But t H H7 := (hB60.new hq3').trans hB7
  have hB8 := hB70.new (o := .lst []) hq4
  have q4t : q4 ≠ t := fun z => by rw [z, hT7.d] at hq4; cases hq4
  have q4c : c ≠ q4 := ne_of_none hT7.c hq4
  have q3q : (upd H6 q3 (.lst (steps.map V.int))) q2 = some (.lst ((u :: us).map oneTx)) := same_new hq3' _ _ eq6
  have eq7 := same_new (o := .lst []) hq4 _ _ (hB7 _ _ q3q q2t)
  have e4 : (upd H7 q4 (.lst [])) q4 = some (.lst []) := upd_same
  have n4 : H q4 = none := by
    cases z : H q4 with
    | none => rfl
    | some o =>
      rw [hB70 q4 o z q4t] at hq4
      cases hq4
  generalize upd H7 q4 (.lst []) = G8 at hT8 hB8 eq7 e4 ⊢
  obtain ⟨k0, rfl⟩ : ∃ k0 : Nat, pl = (k0 : Int) := ⟨pl.toNat, by omega⟩
  have hk0 : k0 < (u :: us).length := by
    rw [lst] at pl1
    show k0 < us.length + 1
    omega
  refine ⟨⟨_, rfl⟩, _, rfl, _, rfl, _, rfl, q2, _, rfl, SqL.of eq7, fun q5 hq5 => ?_⟩
  have h5 : (upd G8 q5 (.lst (cutV ((u :: us).map oneTx) none (some (k0 : Int))))) q5 = some (.lst (((((u :: us).take k0).map oneS)).map V.str)) := by rw [upd_same, cut_take (Nat.le_of_lt hk0)]
  have s5 : Same G8 (upd G8 q5 (.lst (cutV ((u :: us).map oneTx) none (some (k0 : Int))))) := same_new hq5
  generalize upd G8 q5 (.lst (cutV ((u :: us).map oneTx) none (some (k0 : Int)))) = G9 at h5 s5 ⊢
  have ls1 : ((u :: us).take k0).length ≤ 8 := by rw [List.length_take]; show min k0 (us.length + 1) ≤ 8; omega
  refine ⟨_, q5, _, rfl, rfl, .inl (SqL.of h5), by rw [ones_sum, List.length_map]; show _ + _ * 0 ≤ _; omega, ?_⟩
  have hFR := ones_join ((u :: us).take k0)
  generalize Txt.join (Str.ofString "") (((u :: us).take k0).map oneS) = FR at hFR ⊢
  have e1k : ((k0 : Int) + 1) = ((k0 + 1 : Nat) : Int) := by omega
  refine ⟨⟨_, rfl⟩, _, rfl, _, rfl, _, _, rfl, rfl, _, rfl, q2, _, rfl, SqL.of (s5 _ _ eq7), fun q6 hq6 => ?_⟩
  have h6 : (upd G9 q6 (.lst (cutV ((u :: us).map oneTx) (some ((k0 : Int) + 1)) none))) q6 = some (.lst (((((u :: us).drop (k0 + 1)).map oneS)).map V.str)) := by rw [upd_same, e1k, cut_drop hk0]
  have s6 : Same G9 (upd G9 q6 (.lst (cutV ((u :: us).map oneTx) (some ((k0 : Int) + 1)) none))) := same_new hq6
  generalize upd G9 q6 (.lst (cutV ((u :: us).map oneTx) (some ((k0 : Int) + 1)) none)) = G10 at h6 s6 ⊢
  have ls2 : ((u :: us).drop (k0 + 1)).length + k0 + 1 ≤ 8 := by rw [List.length_drop]; show us.length + 1 - (k0 + 1) + k0 + 1 ≤ 8; have : k0 < us.length + 1 := hk0; omega
  refine ⟨_, q6, _, rfl, rfl, .inl (SqL.of h6), by rw [ones_sum, List.length_map]; show _ + _ * 0 ≤ _; omega, _, _, rfl, ?_⟩
  have hBK := ones_join ((u :: us).drop (k0 + 1))
  generalize Txt.join (Str.ofString "") (((u :: us).drop (k0 + 1)).map oneS) = BK at hBK ⊢
  have lFR : FR.cps.toList.length = k0 := by rw [hFR, List.length_take]; exact Nat.min_eq_left (Nat.le_of_lt hk0)
  have lBK : BK.cps.toList.length + k0 + 1 ≤ 8 := by rw [hBK]; exact ls2
  have hT10 := (hT8.keep s5).keep s6
  have hB10 : But t H G10 := (hB8.trans (But.same s5)).trans (But.same s6)
  have e10 := s6 _ _ (s5 _ _ e4)
  refine ⟨_, rfl, m, rfl, by omega, by omega, ?_⟩
  let nm : Nat → Str := fun k => ⟨(nameAt FR.cps.toList BK.cps.toList fi st (!decide (cu = 0)) k).toArray⟩
  have nmL : ∀ k, (nm k).cps.toList = nameAt FR.cps.toList BK.cps.toList fi st (!decide (cu = 0)) k := fun k => List.toList_toArray
  refine for_range (fun i σ H' => ∃ z3, σ = [some (.ref t), some (.int m), some (.str lets), z3, some (.ref q2), some (.int (k0 : Int)), some (.int fi), some (.int cu), some (.int st), some (.ref q4), some (.str FR), some (.str BK)] ∧ H' q4 = some (.lst (((List.range i).map nm).map V.str)) ∧ Tape H' t c cs p7 l7 ∧ But t H H')
    ⟨_, rfl, e10, hT10, hB10⟩ ?_ ?_
  · rintro i σ H11 hi ⟨z3, rfl, h11, hT11, hB11⟩
    have hi26 : i < 26 := by omega
    have hmod0 := Int.emod_nonneg (fi + st * (0 + (i : Int))) (show (26 : Int) ≠ 0 by decide)
    have hmod1 := Int.emod_lt_of_pos (fi + st * (0 + (i : Int))) (show (0 : Int) < 26 by decide)
    obtain ⟨j26, hj26⟩ : ∃ j : Nat, (fi + st * (0 + (i : Int))) % 26 = (j : Int) := ⟨((fi + st * (0 + (i : Int))) % 26).toNat, by omega⟩
    have st0 : 0 ≤ st ∧ st ≤ 25 := by
      unfold steps at hst
      simp only [List.mem_cons, List.not_mem_nil, or_false] at hst
      omega
    have fin : ∀ back : Str, back.cps.toList = (if (!decide (cu = 0)) = true then BK.cps.toList.take (i % 3) else BK.cps.toList) → (FR ++ (⟨#[97 + j26]⟩ : Str)) ++ back = nm i := fun back hb => by
      refine (str_of ?_).trans (str_of (nmL i)).symm
      rw [str_app, str_app, hb]
      unfold nameAt
      have e0 : (fi + st * (i : Int)) % 26 = (j26 : Int) := by rw [← hj26, Int.zero_add]
      rw [e0, Int.toNat_natCast, List.append_assoc]
      rfl
    have szB : BK.length ≤ 8 := by rw [str_len]; omega
    have szF : FR.length ≤ 8 := by rw [str_len]; omega
    have sz1 : (FR ++ (⟨#[97 + j26]⟩ : Str)).length ≤ 9 := by
      rw [str_len, str_app, List.length_append]
      show FR.cps.toList.length + 1 ≤ 9
      omega
    have room : ∀ b : Str, b = nm i → ((List.range i).map nm).map V.str ++ [V.str b] = ((List.range (i + 1)).map nm).map V.str := fun b e => by
      rw [e, List.range_succ, List.map_append, List.map_append]
      rfl
    have done : ∀ b : Str, b = nm i → ∃ z3, [some (V.ref t), some (.int m), some (.str lets), some (.int (0 + (i : Int))), some (.ref q2), some (.int (k0 : Int)), some (.int fi), some (.int cu), some (.int st), some (.ref q4), some (.str FR), some (.str BK)] = [some (V.ref t), some (.int m), some (.str lets), z3, some (.ref q2), some (.int (k0 : Int)), some (.int fi), some (.int cu), some (.int st), some (.ref q4), some (.str FR), some (.str BK)] ∧ (upd H11 q4 (.lst (((List.range i).map nm).map V.str ++ [V.str b]))) q4 = some (.lst (((List.range (i + 1)).map nm).map V.str)) ∧ Tape (upd H11 q4 (.lst (((List.range i).map nm).map V.str ++ [V.str b]))) t c cs p7 l7 ∧ But t H (upd H11 q4 (.lst (((List.range i).map nm).map V.str ++ [V.str b]))) := fun b e =>
      ⟨_, rfl, by rw [upd_same, room b e], hT11.off q4t q4c, fun x o ex nx => by rw [upd_ne (ne_of_none ex n4)]; exact hB11 x o ex nx⟩
    refine ⟨_, rfl, .inl ⟨rfl, _, SqL.of h11⟩, _, rfl, _, rfl, _, rfl, _, rfl, _, rfl, _, _, rfl, rfl, .inl ⟨by omega, by omega⟩, _, _, rfl, rfl, _, _, rfl, rfl, (by show (0 : Int) < 26; decide), lets, _, (97 + j26), rfl, rfl, by decide +kernel, ?_, _, _, rfl, rfl, ?_, ?_⟩
    · rw [hj26]
      exact atI_nat (let_at (by omega))
    · rw [sizeLine_eq]; show FR.length + 1 ≤ _; omega
    refine ⟨_, rfl, rfl, _, rfl, ite2 (fun hc => ?_) (fun hc => ?_)⟩
    · have hcu : cu = 0 := V.int.inj (of_decide_eq_true hc)
      have hb := fin BK (by rw [hcu]; rfl)
      exact ⟨_, rfl, _, _, rfl, rfl, by rw [sizeLine_eq]; omega, q4, _, _, rfl, rfl, h11, by rw [List.length_map, List.length_map, List.length_range, sizeLine_eq]; omega, done _ hb⟩
    · have hm3 : (0 + (i : Int)) % 3 = ((i % 3 : Nat) : Int) := by omega
      have hcu : cu ≠ 0 := fun z => hc (by rw [z]; exact decide_eq_true rfl)
      have hb := fin (cutS BK none (some ((0 + (i : Int)) % 3))) (by rw [hm3, cutS_take, decide_eq_false hcu]; rfl)
      have lc := cutS_length BK none (some ((0 + (i : Int)) % 3))
      exact ⟨_, rfl, _, rfl, _, _, rfl, rfl, (by show (0 : Int) < 3; decide), _, rfl, BK, rfl, by rw [sizeLine_eq]; omega, _, _, rfl, rfl, by rw [sizeLine_eq]; omega, q4, _, _, rfl, rfl, h11, by rw [List.length_map, List.length_map, List.length_range, sizeLine_eq]; omega, done _ hb⟩
  · rintro σ H11 ⟨z3, rfl, h11, hT11, hB11⟩
    refine ⟨_, rfl, k q4 ((List.range m.toNat).map nm) p7 l7 H11 n4 h11 (by rw [List.length_map, List.length_range]) ?_ ?_ (by omega) (by omega) hT11 hB11⟩
    · refine List.pairwise_map.mpr (List.nodup_range.imp_of_mem fun {a b} ha hb ne e => ne ?_)
      rw [List.mem_range] at ha hb
      have e9 : (nm a).cps.toList = (nm b).cps.toList := by rw [e]
      rw [nmL a, nmL b] at e9
      exact nameAt_inj hst (by omega) (by omega) e9
    · intro y hy
      obtain ⟨i, hi, rfl⟩ := List.mem_map.mp hy
      have tl : ∀ z ∈ (if (!decide (cu = 0)) = true then BK.cps.toList.take (i % 3) else BK.cps.toList), z ∈ BK.cps.toList := fun z hz => by
        split at hz
        · exact List.mem_of_mem_take hz
        · exact hz
      have tn : (if (!decide (cu = 0)) = true then BK.cps.toList.take (i % 3) else BK.cps.toList).length ≤ BK.cps.toList.length := by
        split
        · rw [List.length_take]; exact Nat.min_le_right _ _
        · exact Nat.le_refl _
      have sg : ∀ z ∈ (u :: us), isSign z = true := fun z hz => by
        rcases List.mem_cons.mp hz with q | q
        · rw [q]; exact sign_let hu
        · exact sign_both (e2 z q)
      have hj : ((fi + st * (i : Int)) % 26).toNat < 26 := by
        have := Int.emod_lt_of_pos (fi + st * (i : Int)) (show (0 : Int) < 26 by decide)
        omega
      refine name_of ?_ ?_ ?_ ?_
      · unfold nameAt
        rw [List.length_append, List.length_cons]
        omega
      · unfold nameAt
        rw [List.length_append, List.length_cons, lFR]
        omega
      · unfold nameAt
        cases k0 with
        | zero =>
          rw [show FR.cps.toList = [] from hFR]
          exact ⟨_, rfl, let_mem hj⟩
        | succ n =>
          rw [show FR.cps.toList = u :: us.take n from hFR]
          exact ⟨u, rfl, hu⟩
      · intro z hz
        unfold nameAt at hz
        rcases List.mem_append.mp hz with q | q
        · rw [hFR] at q
          exact sg z (List.mem_of_mem_take q)
        · rcases List.mem_cons.mp q with q | q
          · rw [q]; exact sign_let (let_mem hj)
          · have q2 := tl z q
            rw [hBK] at q2
            exact sg z (List.mem_of_mem_drop q2)
end
end Bo

set_option Elab.async false
set_option linter.all false
set_option maxRecDepth 100000
set_option maxHeartbeats 4000000
/-! a dict is not a text -/
namespace Bo
open PySem PySem.Spec PySem.Calls PyProof.Rows L2
theorem txt_not_dct (z : Str) (u : Tok) (a : Addr) (dd : Option Addr) (es : Array DictEntry) (ep : Nat) (sl : Array (Option Value)) :
    Meets (Builtin.«str.__ne__» ⟨[.str z u, .ref a], []⟩) (fun _ R s => s.heap.get? a = some ⟨.type "dict", dd, .dict es ep, sl⟩ ∧ R (.ok (.ret .notImplemented)) s) :=
  .of_wp fun prog w A R s h => by
    obtain ⟨hp, g, d, tk, os⟩ := s
    obtain ⟨hl, h⟩ := h
    wp_walk using wpAny_loadPart' hl, wpAny_load hl
    exact ⟨_, rfl, h⟩
theorem dct_not_txt {prog : Program} {w : World} {A : Around} {E : Value → Shared → Prop} {s : Shared} {K : Type} [DecidableEq K] {knd : KeyKind prog w K} {a : Addr} {ka : List (K × Value)} {z : Str} {u : Tok} {Q : Value → Shared → Prop}
    (da : s.heap.DictOf knd a ka) (hu : A.units < cLine) (h : Q (.bool true) s) : wpAny (model prog w) A (compareOp .NotEq (.ref a) (.str z u)) Q E s := by
  obtain ⟨⟨cls, dd, data, sl⟩, es, ep, ho, hx, hd, _⟩ := id da
  have hc := hx.1
  dsimp only at hc hd
  subst hc hd
  refine SeqAt.rc_ne_decline_or (k := false) da.typeIs (typeIs_str s z u) (by decide) PySem.F.sub_str_dict PySem.F.slot_dict_ne PySem.F.slot_str_ne_refl (fun Q' hq => ?_) (fun Q' hq => ?_) (fun Q' hq => wpAny_of_eq (rfl : isSame (.ref a) (.str z u) = pure false) hq) (.inr hu) h
  · refine wpAny_call_entry PySem.F.slot_dict_ne da.typeIs PySem.F.entry_dict_ne ?_ (PySem.F.args_dict_ne_2 _ _)
    show wpAny _ _ (Builtin.Dict.dictSlotArgs "__ne__" ⟨[.ref a, .str z u], []⟩ >>= _) _ _ s
    refine wpAny_bind ?_
    unfold Builtin.Dict.dictSlotArgs
    refine wpAny_bind (wpAny_notOrdered_dict da.typeIs ?_)
    show wpAny _ _ (pure (Value.ref a, Value.str z u)) _ _ s
    refine wpAny_pure (wpAny_bind (wpAny_isInstance (T := "str") (typeIs_str s z u) PySem.F.sub_str_dict ?_))
    simp only [Bool.not_false, if_true]
    exact wpAny_bind (wpAny_rule (wpAny_bind (wpAny_pure (wpAny_pure ⟨_, rfl, hq⟩))))
  · exact call_meets PySem.F.slot_str_ne_refl (typeIs_str s z u) PySem.F.entry_str_ne (PySem.F.args_str_ne_2 _ _) (txt_not_dct z u a dd es ep sl) ⟨ho, hq⟩
theorem atoms_dp {K : PySem.W.Frag} {H : Hp} : ∀ {xs : List V}, Atoms xs → DpAll K H xs (xs.map dataA)
  | [], _ => .nil
  | x :: xs, a => by
    refine .cons ?_ (atoms_dp fun y hy => a y (List.mem_cons_of_mem _ hy))
    have ax := a x List.mem_cons_self
    cases x with
    | non => exact .non
    | bl b => exact .bl b
    | int i => exact .int i
    | str z => exact .str z
    | _ => cases ax
/-- v != z, v flat data, z a text -/
def rNeTx (K : PySem.W.Frag) : R2 := fun x y H Q => ∃ (d : PyData) (z : Str), y = .str z ∧ Flat K H x d ∧ (d.hasDict = false → SeqAt.shaped d = true) ∧ PyData.strOk z = true ∧ Q (.bl (!decide (x = .str z))) H
theorem op_neTx {X : Cx} (hu : X.A.units + 64 < cLine) : OpR X (compareOp .NotEq) (rNeTx X.K) := by
  intro pins s σ H x y v u Q I rx ry h
  obtain ⟨d, z, rfl, f, hsh, hz, q⟩ := h
  have zs : SeqAt.shaped (.str z) = true := by
    show (PyData.strOk z && decide (0 ≤ 64)) = true
    rw [hz]
    rfl
  cases f with
  | atom h =>
    refine op_ne pins s σ H _ _ v u Q I rx ry ⟨?_, q⟩
    cases x with
    | non => rfl
    | bl b => rfl
    | int i => rfl
    | str y => rfl
    | _ => cases h
  | tup h xa l =>
    have sh := hsh (show PyData.hasDictAll _ = false from atoms_nodict _)
    refine op_neD hu pins s σ H _ _ v u Q I rx ry ⟨_, _, .tup h (atoms_dp xa), .str z, sh, zs, ?_⟩
    rw [decide_eq_false (fun e => by cases e)] at q
    exact q
  | lst h xa l =>
    have sh := hsh (show PyData.hasDictAll _ = false from atoms_nodict _)
    refine op_neD hu pins s σ H _ _ v u Q I rx ry ⟨_, _, .lst (SqL.of h) (atoms_dp xa), .str z, sh, zs, ?_⟩
    rw [decide_eq_false (fun e => by cases e)] at q
    exact q
  | dct h xa nd l =>
    obtain ⟨_, _, vs, _, dd⟩ := dk_of I.hok h
    obtain rfl : v = Value.ref _ := rx
    obtain ⟨t, rfl⟩ := ry
    refine dct_not_txt dd (by omega) ⟨.bl true, H, I, rfl, ?_⟩
    rw [decide_eq_false (fun e => by cases e)] at q
    exact q
end Bo

set_option Elab.async false
set_option linter.all false
set_option maxRecDepth 100000
set_option maxHeartbeats 8000000
namespace Bo
open PySem L2
abbrev sTold : Stmt := top 70
abbrev sStands : Stmt := top 71
abbrev kR : Key := Sum.inr (Str.ofString "rows")
abbrev kU : Key := Sum.inr (Str.ofString "unknowns")
theorem neRU : ¬ (kR = kU) := by decide +kernel
/-- the laws' own plain system: its rows (all empty) and its unknowns -/
structure Plain (H : Hp) (pl r u : Addr) (rs : List (Str × Addr)) (us : List Str) : Prop where
  d : H pl = some (.dK [(kR, .ref r), (kU, .ref u)])
  r : H r = some (.dK (refK rs))
  e : ∀ p ∈ rs, H p.2 = some (.lst [])
  u : H u = some (.lst (us.map V.str))
theorem Plain.keep {H H' : Hp} {pl r u : Addr} {rs : List (Str × Addr)} {us : List Str} (p : Plain H pl r u rs us) (k : Same H H') : Plain H' pl r u rs us := ⟨k _ _ p.d, k _ _ p.r, fun q hq => k _ _ (p.e q hq), k _ _ p.u⟩
theorem Plain.gr {H : Hp} {pl r u : Addr} {rs : List (Str × Addr)} {us : List Str} (p : Plain H pl r u rs us) : DGet H pl (V.str (Str.ofString "rows")) (some (V.ref r)) :=
  .inl ⟨_, kR, .inl p.d, rfl, (show some (V.ref r) = valV [(kR, V.ref r), (kU, V.ref u)] kR by rw [valV_pos rfl])⟩
theorem Plain.gu {H : Hp} {pl r u : Addr} {rs : List (Str × Addr)} {us : List Str} (p : Plain H pl r u rs us) : DGet H pl (V.str (Str.ofString "unknowns")) (some (V.ref u)) :=
  .inl ⟨_, kU, .inl p.d, rfl, (show some (V.ref u) = valV [(kR, V.ref r), (kU, V.ref u)] kU by rw [valV_neg neRU, valV_pos rfl])⟩
def spTold (K : PySem.W.Frag) : Sp := fun vs H Q _ => ∃ (pl r u : Addr) (rs : List (Str × Addr)) (us : List Str), vs = [.ref pl] ∧ Plain H pl r u rs us ∧ rs.length < 64 ∧ us.length < 64 ∧
  ∀ (q t1 t2 t3 : Addr) (zs ys : List Str) (H' : Hp), Same H H' → zs.Perm (rs.map (·.1)) → ys.Perm us → H' q = some (.lst [.ref t1, .ref t2, .ref t3]) → SqT K H' t1 (zs.map V.str) → SqT K H' t2 (ys.map V.str) → SqT K H' t3 [] → Q (.ref q) H'
section
variable {P : Program} {w : World} {K : PySem.W.Frag} {mg : Str → Option Value} {base : Heap}
theorem scTo : FnScope ["_law_plain", "_law_pairs", "_law_name", "_law_one"] ["_law_plain"] (defScope sTold) := ⟨rfl, rfl, rfl, by decide +kernel, rfl, by decide +kernel, by decide +kernel⟩
theorem ok_told {f : Addr} {fd : FuncData} (F : Fun K "_law_told" "_law_told" sTold f fd) (T : TxtP mg) : FnOk P w K mg base CX0 1 f fd ["_law_plain"] (spTold K) := by
  refine F.ok scTo (fun vs H Q E h => ?_) (fun cdv A outer s H vs Q E hr h => ?_)
  · obtain ⟨pl, r, u, rs, us, rfl, _⟩ := h
    rfl
  · obtain ⟨pl, r, u, rs, us, rfl, hP, hl1, hl2, k⟩ := h
    have hu := hu_of hr
    refine ⟨_, pss_cons (ps_set (i := 1) scTo.nd rfl (.inl rfl) (pe_lst pa_nil))
      (pss_cons (ps_for PassesOwn.never rfl (pi_list (pe_callB (call_sortedD rfl) (by rfl) T.srt (by decide +kernel) (pa_cons (pe_dget hu (pv 0) pe_str (fun _ _ => rfl)) pa_nil))) (pg_name (i := 2) scTo.nd rfl (.inr rfl))
        (pss_one (ps_expr (pe_bm PySem.F.plainAttrs_list PySem.F.slot_list_extend PySem.F.type_list_extend mt_extend (pv 1) (pa_cons
          (pe_lc (own := [("_law_one", 3)]) (g := gName 3) (tt := tYes) rfl scTo.nd (pi_list (pe_callB cr_sorted (by rfl) T.srt (by decide +kernel) (pa_cons (pe_dget hu (pe_dget hu (pv 0) pe_str (fun _ _ => rfl)) (pv 2) (fun _ _ => rfl)) pa_nil))) (blkOk_by (N := ["_law_plain", "_law_pairs", "_law_name", "_law_one"]) (sc := defScope sTold) (by decide +kernel)) (fun _ _ _ _ _ => pg_name (i := 3) scTo.nd rfl (Or.inl rfl))
            (fun _ _ _ _ _ => pts_nil) (fun _ _ _ _ _ => pe_tup (pa_cons (pv 2) (pa_cons (pv 3) pa_nil)))) pa_nil)))))
      (pss_one (ps_ret (pe_lst (pa_cons (pe_callTy call_tuple_of (by rfl) T.tup (by decide +kernel) (pa_cons (pe_callB (call_sortedD rfl) (by rfl) T.srt (by decide +kernel) (pa_cons (pe_dget hu (pv 0) pe_str (fun _ _ => rfl)) pa_nil)) pa_nil))
        (pa_cons (pe_callTy call_tuple_of (by rfl) T.tup (by decide +kernel) (pa_cons (pe_callB cr_sortedS (by rfl) T.srt (by decide +kernel) (pa_cons (pe_dget hu (pv 0) pe_str (fun _ _ => rfl)) pa_nil)) pa_nil))
        (pa_cons (pe_callTy call_tuple_of (by rfl) T.tup (by decide +kernel) (pa_cons (pv 1) pa_nil)) pa_nil))))))), ?_⟩
    refine ⟨by decide, fun l hl => ?_⟩
    have s1 : Same H (upd H l (.lst [])) := same_new hl
    have el : (upd H l (.lst [])) l = some (.lst []) := upd_same
    generalize upd H l (.lst []) = H1 at s1 el ⊢
    have hP1 := hP.keep s1
    have hkl : (rs.map (·.1)).length = rs.length := List.length_map _
    refine ⟨_, rfl, pl, _, rfl, hP1.gr, r, refK rs, rs.map (·.1), rfl, .inl hP1.r, refK_keys rs, by rw [hkl]; exact hl1, fun zs p hp1 hp2 hp3 => ⟨p, rfl, ⟨_, SqL.of upd_same⟩, ?_⟩⟩
    have s2 : Same H1 (upd H1 p (.lst (zs.map V.str))) := same_new hp3
    have ep : (upd H1 p (.lst (zs.map V.str))) p = _ := upd_same
    have lp : l ≠ p := ne_of_none el hp3
    generalize upd H1 p (.lst (zs.map V.str)) = H2 at s2 ep ⊢
    have hP2 := hP1.keep s2
    have el2 := s2 _ _ el
    refine for_list (xs := zs.map V.str) (fun i σ H' => (∃ z, σ = [some (.ref pl), some (.ref l), z, none]) ∧ Same H2 H') ⟨⟨_, rfl⟩, Same.refl H2⟩ (fun i σ H' _ q => SqL.of (q.2 _ _ ep)) ?_ ?_
    · rintro i x σ H3 hx ⟨⟨z, rfl⟩, s3⟩
      rw [List.getElem?_map] at hx
      obtain ⟨y, hy, rfl⟩ := Option.map_eq_some_iff.mp hx
      have hP3 := hP2.keep s3
      obtain ⟨d, hv, hm⟩ := refK_in (rs := rs) (y := y) (hp1.mem_iff.mp (List.mem_of_getElem? hy))
      refine ⟨_, rfl, .inl ⟨rfl, _, SqL.of (s3 _ _ el2)⟩, _, rfl, pl, _, rfl, hP3.gr, _, rfl, r, _, rfl, .inl ⟨_, Sum.inr y, .inl hP3.r, rfl, hv.symm⟩, d, [], rfl, SqL.of (hP3.e _ hm), by decide, fun ns p1 hn _ hp => ?_⟩
      obtain rfl : ns = [] := hn.eq_nil
      refine ⟨p1, rfl, ⟨[], SqL.of upd_same⟩, fun D hD => ?_⟩
      have s4 : Same H3 (upd (upd H3 p1 (.lst [])) D (.lst [])) := (same_new hp).trans (same_new hD)
      refine lc_list (xs := []) (fun i H' => H' = upd (upd H3 p1 (.lst [])) D (.lst [])) rfl (fun i H' _ e => by rw [e]; exact SqL.of (same_new hD _ _ upd_same)) (fun i x H' hx => by simp at hx) ?_
      intro H' e
      subst e
      have e4 := s4 _ _ (s3 _ _ el2)
      refine ⟨l, D, [], [], rfl, rfl, e4, upd_same, by decide, ⟨_, rfl⟩, fun b o e => ?_⟩
      have e5 := (s3.trans s4) b o e
      by_cases hb : b = l
      · subst hb
        rw [e4] at e5
        cases e5
        exact upd_same
      · rw [upd_ne hb]
        exact e5
    · rintro σ H3 ⟨⟨z, rfl⟩, s3⟩
      have hP3 := hP2.keep s3
      refine ⟨_, rfl, pl, _, rfl, hP3.gr, r, refK rs, rs.map (·.1), rfl, .inl hP3.r, refK_keys rs, by rw [hkl]; exact hl1, fun ws p1 h1 h2 h3 => ⟨p1, _, rfl, .inl ⟨SqL.of upd_same, fun t1 ht1 => ?_⟩⟩⟩
      have s4 : Same H3 (upd (upd H3 p1 (.lst (ws.map V.str))) t1 (.tup (ws.map V.str))) := (same_new h3).trans (same_new ht1)
      have q1 : SqT K (upd (upd H3 p1 (.lst (ws.map V.str))) t1 (.tup (ws.map V.str))) t1 (ws.map V.str) := SqT.of upd_same
      generalize upd (upd H3 p1 (.lst (ws.map V.str))) t1 (.tup (ws.map V.str)) = H4 at s4 q1 ⊢
      have hP4 := hP3.keep s4
      refine ⟨_, rfl, pl, _, rfl, hP4.gu, u, us, rfl, SqL.of hP4.u, hl2, fun ys p2 g1 g2 g3 => ⟨p2, _, rfl, .inl ⟨SqL.of upd_same, fun t2 ht2 => ?_⟩⟩⟩
      have s5 : Same H4 (upd (upd H4 p2 (.lst (ys.map V.str))) t2 (.tup (ys.map V.str))) := (same_new g3).trans (same_new ht2)
      have q2 : SqT K (upd (upd H4 p2 (.lst (ys.map V.str))) t2 (.tup (ys.map V.str))) t2 (ys.map V.str) := SqT.of upd_same
      generalize upd (upd H4 p2 (.lst (ys.map V.str))) t2 (.tup (ys.map V.str)) = H5 at s5 q2 ⊢
      refine ⟨_, rfl, l, _, rfl, .inl ⟨SqL.of (s5 _ _ (s4 _ _ (s3 _ _ el2))), fun t3 ht3 => ⟨by show 3 ≤ sizeLine; decide, fun q hq => ?_⟩⟩⟩
      have s6 := (same_new (o := .tup []) ht3).trans (same_new (o := .lst [.ref t1, .ref t2, .ref t3]) hq)
      exact k q t1 t2 t3 ws ys _ ((((s1.trans s2).trans s3).trans s4).trans (s5.trans s6)) h1 g1 upd_same (SqT.keep (SqT.keep q1 s5) s6) (SqT.keep q2 s6) (SqT.of (same_new hq _ _ upd_same))
end
end Bo

set_option Elab.async false
set_option linter.all false
set_option maxRecDepth 100000
set_option maxHeartbeats 1000000
/-! a lambda handed to a def that hands it on to another def, which calls it -/
namespace Bo
open PySem PySem.Spec PyProof.Rows L2 LamX
/-- a later state: what the first one's frames leave alone stays; every frame of the later one that the first one had is one of its frames -/
structure Later (fs fs' : List Addr) (H H' : Hp) (h h' : Heap) : Prop where
  un : Un fs [] H H' h h'
  fr : ∀ b o, h.get? b = some o → b ∈ fs' → b ∈ fs
theorem Later.then {fs fs' : List Addr} {H H1 H2 : Hp} {h h1 h2 : Heap} (a : Later fs fs' H H1 h h1) (b : Un fs' [] H1 H2 h1 h2) : Un fs [] H H2 h h2 where
  keep := fun c o q n hc hx => b.keep c o (a.un.keep c o q n hc hx) (a.un.free c o q n hx) (fun z => hc (a.fr c o q z)) hx
  slot := fun c o q n hc hx => by
    obtain ⟨sl1, g1⟩ := a.un.slot c o q n hc hx
    obtain ⟨sl2, g2⟩ := b.any g1 (a.un.free c o q n hx) hx
    exact ⟨sl2, g2⟩
  free := fun c o q n hx => (a.un.there c o q hx).elim fun o1 g1 => b.free c o1 g1 (a.un.free c o q n hx) hx
  there := fun c o q hx => (a.un.there c o q hx).elim fun o1 g1 => b.there c o1 g1 hx
  tups := fun c xs q => b.tups c xs (a.un.tups c xs q)
  frzs := fun c o xs q => b.frzs c o xs (a.un.frzs c o xs q)
  tbls := fun c ps q => (a.un.tbls c ps q).elim fun m1 g1 => (b.tbls c _ g1).elim fun m2 g2 => ⟨m1 ++ m2, by rw [g2, Array.append_assoc]⟩
section
variable {X : Cx} {pins : List (Addr × Obj)} {σ : L2.St} {H HA : Hp} {s sA : Shared}
/-- b(), in a def that got the lambda from one that got it; Z, that def's context, is entered at sA from the frames outer -/
theorem pe_actL {CXg : CXT} {Eg : XK} {Ng : List Str} {qg : Str} {sg : Scope} {g f c' : Addr} {cdg pm ctv : Value} {params : Arguments} {body : Expr} {scope : Scope} {k i : Nat} {a : Str} {pn : List (Addr × Obj)} {xe : Value → Shared → Prop} {W : WX} {E : XK} {tb : TE} {p1 p2 : Pos} {A1 : Around} {outer : List Env}
    (I : Inv X pins σ H s) (lt : Later (frs X.stack) (frs outer) H HA s.heap sA.heap) (L : LamS X.env.scope scope)
    (hf : s.heap.get? f = some (PySem.W.kla_obj "<lambda>" (X.env.qual ++ "<lambda>") params body scope (cloFrom X.env.cells scope.names []) pm c' ctv)) (hfn : H f = none) (hfr : f ∉ frs X.stack)
    (hbind : bindArgs (PySem.W.kla_fn "<lambda>" (X.env.qual ++ "<lambda>") params body scope (cloFrom X.env.cells scope.names []) pm (.ref c') ctv) ⟨[], []⟩ = pure [])
    (tk : Takes ((cxOf CXg X.prog X.w X.K X.mg X.base Ng qg sg g cdg A1 outer sA HA Eg).tr pn xe) W) (hW : ∀ cls d σ' H', E cls d H' → W cls d σ' H') (hr : Room (k + 1) (A1.deeper (envOfC qg sg sA.heap.objs.size g cdg)))
    (hbody : ∀ (A : Around) (outer : List Env) (s : Shared) (H : Hp), Room k (A.deeper (lamEnv X scope s.heap.objs.size f c')) → PE (lamCx X A outer s H E scope f c') body tb)
    (hN : Ng[i]? = some a) (hv : Vis sg a) (hd : (a == ("__debug__" : Str)) = false := by decide) (hcd : (a == ("__classdict__" : Str)) = false := by decide) :
    PE ((cxOf CXg X.prog X.w X.K X.mg X.base Ng qg sg g cdg A1 outer sA HA Eg).tr pn xe) (.Call (.Name a p1) [] [] p2) (fun σZ HZ Q => σZ[i]? = some (some (.ref f)) ∧ HZ c' = some (CodeO c' (X.env.qual ++ "<lambda>")) ∧ tb σ HZ Q) := by
  refine ⟨fun pz sz σz Hz Q Iz ⟨at1, code1, rd⟩ => ?_⟩
  have name1 := (pe_var (pos := p1) (i := i) hN hv hd hcd).run pz sz σz Hz (fun v Hw => v = .ref f ∧ Hw = Hz) Iz ⟨_, at1, rfl, rfl⟩
  refine wpAny_Call_Name_kw (thn name1 fun u s1 ⟨v, Hw, I1, rv, ev, eH⟩ => ?_)
  subst ev eH
  obtain rfl : u = Value.ref f := rv
  have un : Un (frs X.stack) [] H Hw s.heap s1.heap := lt.then I1.base
  have here : s1.heap.get? f = some (PySem.W.kla_obj "<lambda>" (X.env.qual ++ "<lambda>") params body scope (cloFrom X.env.cells scope.names []) pm c' ctv) := un.keep f _ hf hfn hfr (List.not_mem_nil)
  obtain ⟨⟨oc, vs, t, g1, g2, g3⟩, _, _⟩ := I1.hok c' _ code1
  have run : codeAny (model X.prog X.w) (A1.deeper (envOfC qg sg sA.heap.objs.size g cdg)) (.call (.ref f) ⟨[], []⟩) (CR (L2.CX X.prog X.w) (envOfC qg sg sA.heap.objs.size g cdg :: outer) X.prog X.w Hw s1 Q E) s1 := by
    refine PySem.W.kla_callFunE hr.depth here rfl L.co L.gen rfl ⟨c', oc, vs, t, rfl, g1, g2, g3⟩ (hbind ▸ wpAny_pure (wpAny_newFunctionEnv (fun y hy => (L.own y hy).2) (fun y hy => absurd hy (by simp)) (fun hp ns1 sb => ⟨I1.nolimit.fresh _ sb, ?_⟩) L.kind))
    have J := lam_start2 (E := E) (f := f) (c' := c') (tk := s1.toks + ([] : List (Str × Value)).length) I L I1.env0 hr.hd un ns1 (fun b o e => sb.extBut b o (Nat.ne_of_lt (Heap.lt_size e)) (Heap.get?_push_of_some _ e))
    refine PySem.W.kla_codeExpr (wpAny_mono ((hbody _ _ s1 Hw (hr.deeper _)).run [] _ _ Hw Q J rd) (fun v s' ⟨w', H', J', r', q⟩ => ?_) fun e s' hq => hq)
    exact ⟨w', H', J'.os, J'.bare, J'.base, J'.hok, r', q⟩
  refine PySem.W.callWith_F0 ⟨_, _, _, _, here⟩ (wpAny_call (codeAny_mono run fun r s' hq => ?_))
  match r, hq with
  | .error e, hq => exact passes_call tk hW pz σz Hw s1 e s' I1 hq
  | .ok (.ret u), hq => exact I1.after hq
/-- x(b), where b is the lambda that this def got: x calls it -/
theorem pe_lamon {N1 : List Str} {q1 : Str} {sc1 : Scope} {f1 f c' : Addr} {cd1 pm ctv : Value} {TT : (XK → Hp → VK → Prop) → Hp → VK → Prop} {x a b : Str} {g : Addr} {k j : Nat} {pg : Arguments} {bg : List Stmt} {sg : Scope} {dV kV doc pm1 cdv ct oc : Value} {an od : Option Addr} {osl : Array (Option Value)} {Ng : List Str}
    {params : Arguments} {body : Expr} {scope : Scope} {t : XK → TE} {p pb pos : Pos} (I : Inv X pins σ H s) (L : LamS X.env.scope scope)
    (hf : s.heap.get? f = some (PySem.W.kla_obj "<lambda>" (X.env.qual ++ "<lambda>") params body scope (cloFrom X.env.cells scope.names []) pm c' ctv)) (hfn : H f = none) (hfr : f ∉ frs X.stack)
    (hg : Gl (cxOf C8.CX0 X.prog X.w X.K X.mg X.base N1 q1 sc1 f1 cd1 X.A X.stack s H C8.E0).nox x) (hm : X.mg x = some (.ref g)) (hk : PySem.W.keepIn X.K (.ref g) = true)
    (lk : X.K.lookup g = some ⟨oc, od, .func (PySem.W.fnOf x x pg bg sg dV kV doc pm1 an cdv ct), osl⟩) (hcg : PySem.W.codeIn X.K cdv x = true) (hb : L2.Binds X.K (PySem.W.fnOf x x pg bg sg dV kV doc pm1 an cdv ct) [a] []) (Sg : FnScope Ng [a] sg) (hNg : Ng[0]? = some a) (hva : Vis sg a)
    (hG : GivesTo { X with A := X.A.deeper (envOfC q1 sc1 s.heap.objs.size f1 cd1), stack := envOfC q1 sc1 s.heap.objs.size f1 cd1 :: X.stack } Ng x sg g cdv bg a (X.env.qual ++ "<lambda>") TT)
    (hr : Room (k + 2) (X.A.deeper (envOfC q1 sc1 s.heap.objs.size f1 cd1)))
    (hbind : ∀ (q : Str) (cl : List (Str × Addr)) (pm cv ctv : Value), bindArgs (PySem.W.kla_fn "<lambda>" q params body scope cl pm cv ctv) ⟨[], []⟩ = pure [])
    (hbody : ∀ (A : Around) (outer : List Env) (s : Shared) (H : Hp) (E : XK) (f c' : Addr), Room k (A.deeper (lamEnv X scope s.heap.objs.size f c')) → PE (lamCx X A outer s H E scope f c') body (t E))
    (hN1 : N1[j]? = some b) (hvb : Vis sc1 b)
    (hdb : (x == ("__debug__" : Str)) = false := by decide) (hd : (a == ("__debug__" : Str)) = false := by decide) (hcd : (a == ("__classdict__" : Str)) = false := by decide) (hd2 : (b == ("__debug__" : Str)) = false := by decide) (hcd2 : (b == ("__classdict__" : Str)) = false := by decide) :
    PE (cxOf C8.CX0 X.prog X.w X.K X.mg X.base N1 q1 sc1 f1 cd1 X.A X.stack s H C8.E0).nox (.Call (.Name x p) [.Name b pb] [] pos)
      (fun σZ HZ Q => σZ[j]? = some (some (.ref f)) ∧ HZ c' = some (CodeO c' (X.env.qual ++ "<lambda>")) ∧ TT (fun E H' Q' => t E σ H' Q') HZ Q) := by
  refine ⟨fun pz sz σz Hz Q Iz ⟨at1, code1, rd⟩ => ?_⟩
  have args := (pa_cons (pe_var (X := (cxOf C8.CX0 X.prog X.w X.K X.mg X.base N1 q1 sc1 f1 cd1 X.A X.stack s H C8.E0).nox) (pos := pb) (i := j) hN1 hvb hd2 hcd2) pa_nil).run pos pz sz σz Hz (fun vs Hw => vs = [.ref f] ∧ Hw = Hz) Iz ⟨_, at1, rfl, rfl⟩
  refine wpAny_Call_Name_kw (ld_glob Iz hg hm (PySem.W.callWith_K (h₀ := X.base) Iz.ok.mod.kin hk (thn args fun us s1 ⟨vs, Hw, I1, rv, ev, eH⟩ => ⟨I1.kIn, ?_⟩) (by rfl) (by rfl)) hdb)
  subst ev eH
  have r1 : Vals [V.ref f] us := rv
  obtain ⟨u, rfl, ru⟩ := vals1 r1
  obtain rfl : u = Value.ref f := ru
  have lt : Later (frs X.stack) (frs (envOfC q1 sc1 s.heap.objs.size f1 cd1 :: X.stack)) H Hw s.heap s1.heap := ⟨I1.base, fun b o e z => by
    rcases List.mem_cons.mp (show b ∈ s.heap.objs.size :: frs X.stack from z) with z | z
    · have := Heap.lt_size e
      rw [z] at this
      exact absurd this (Nat.lt_irrefl _)
    · exact z⟩
  have run : codeAny (model X.prog X.w) (X.A.deeper (envOfC q1 sc1 s.heap.objs.size f1 cd1)) (.call (.ref g) ⟨[.ref f], []⟩) (CR C8.CX0 (envOfC q1 sc1 s.heap.objs.size f1 cd1 :: X.stack) X.prog X.w Hw s1 Q C8.E0) s1 := by
    refine run_ofS (N := Ng) (ps := [a]) (us := [.ref f]) (vs := [.ref f]) lk hcg Sg hr I1.env0 (hb s1 [.ref f] I1.kIn rfl) (.cons rfl .nil) rfl fun hr' => ?_
    have act : ∀ (W : WX) (pn : List (Addr × Obj)) (xe : Value → Shared → Prop) (E : XK) (p1 p2 : Pos), Takes ((cxOf C8.CX0 X.prog X.w X.K X.mg X.base Ng x sg g cdv (X.A.deeper (envOfC q1 sc1 s.heap.objs.size f1 cd1)) (envOfC q1 sc1 s.heap.objs.size f1 cd1 :: X.stack) s1 Hw C8.E0).tr pn xe) W → (∀ cls d σ' H', E cls d H' → W cls d σ' H') →
        PE ((cxOf C8.CX0 X.prog X.w X.K X.mg X.base Ng x sg g cdv (X.A.deeper (envOfC q1 sc1 s.heap.objs.size f1 cd1)) (envOfC q1 sc1 s.heap.objs.size f1 cd1 :: X.stack) s1 Hw C8.E0).tr pn xe) (.Call (.Name a p1) [] [] p2) (fun σZ HZ Q => σZ[0]? = some (some (.ref f)) ∧ HZ c' = some (CodeO c' (X.env.qual ++ "<lambda>")) ∧ t E σ HZ Q) :=
      fun W pn xe E p1 p2 tk hW => pe_actL (CXg := C8.CX0) (Eg := C8.E0) (Ng := Ng) (qg := x) (sg := sg) (g := g) (cdg := cdv) (i := 0) (k := k) (A1 := X.A.deeper (envOfC q1 sc1 s.heap.objs.size f1 cd1)) (outer := envOfC q1 sc1 s.heap.objs.size f1 cd1 :: X.stack) (tb := t E) I lt L hf hfn hfr (hbind _ _ _ _ _) tk hW hr' (fun A outer s H hr2 => hbody A outer s H E f c' hr2) hNg hva hd hcd
    obtain ⟨t', h1, h2⟩ := hG f c' s1 Hw Q (fun E H' Q' => t E σ H' Q') act code1 rd
    exact ⟨t', h1.nox, h2⟩
  refine wpAny_call (codeAny_mono run fun r s' hq => ?_)
  match r, hq with
  | .error e, hq => exact (show False from hq).elim
  | .ok (.ret u), hq => exact I1.after hq
/-- x(v, lambda: .., w): what x makes of it, told of the values and of the lambda's own reading -/
def tLam3 (T : List (Addr × Str)) (q : Str) (ta tc : TE) (TT : V → V → (XK → Hp → VK → Prop) → Hp → VK → Prop) (t : XK → TE) : TE := fun σ H Q => ta σ H fun v1 H1 => Tabs T H1 ∧ ∀ (H2 : Hp) (c' : Addr), ExtN H1 H2 → Tabs T H2 → H2 c' = some (CodeO c' q) →
  tc σ H2 fun v3 H3 => H3 c' = some (CodeO c' q) ∧ TT v1 v3 (fun E H' Q' => t E σ H' Q') H3 Q
/-- the def that hands on what it got: of v, the lambda and w -/
def GivesOn (X : Cx) (N1 : List Str) (q1 : Str) (sc1 : Scope) (f1 : Addr) (cd1 : Value) (b1 : List Stmt) (x b : Str) (j : Nat) (q : Str) (TTi : (XK → Hp → VK → Prop) → Hp → VK → Prop) (TT : V → V → (XK → Hp → VK → Prop) → Hp → VK → Prop) : Prop :=
  ∀ (f c' : Addr) (s : Shared) (H : Hp) (v1 v3 : V) (Q : VK) (tl : XK → Hp → VK → Prop),
    (∀ p pb pos : Pos, PE (cxOf C8.CX0 X.prog X.w X.K X.mg X.base N1 q1 sc1 f1 cd1 X.A X.stack s H C8.E0).nox (.Call (.Name x p) [.Name b pb] [] pos) (fun σZ HZ Q => σZ[j]? = some (some (.ref f)) ∧ HZ c' = some (CodeO c' q) ∧ TTi tl HZ Q)) →
    H c' = some (CodeO c' q) → TT v1 v3 tl H Q →
    ∃ t, PSs (cxOf C8.CX0 X.prog X.w X.K X.mg X.base N1 q1 sc1 f1 cd1 X.A X.stack s H C8.E0).nox b1 t ∧ t { nx := fun _ H' => Q .non H', rt := Q } (L2.start N1 [v1, .ref f, v3]) H
theorem pe_lamcall3 {T : List (Addr × Str)} {TTi : (XK → Hp → VK → Prop) → Hp → VK → Prop} {TT : V → V → (XK → Hp → VK → Prop) → Hp → VK → Prop} {x1 x a a1 b a3 : Str} {g1 g c P : Addr} {k j : Nat} {pg1 pg : Arguments} {bg1 bg : List Stmt} {sg1 sg : Scope} {dV1 kV1 doc1 pm1 cdv1 ct1 oc1 dV kV doc pm cdv ct oc : Value} {an1 od1 an od : Option Addr} {osl1 osl : Array (Option Value)} {N1 Ng : List Str}
    {params : Arguments} {body : Expr} {scope : Scope} {t : XK → TE} {ta tc : TE} {y : Str} {py p lpos pos tpos : Pos} {els : List Expr} {tctx : Nat}
    (hg1 : Gl X x1) (hm1 : X.mg x1 = some (.ref g1)) (hk1 : PySem.W.keepIn X.K (.ref g1) = true) (lk1 : X.K.lookup g1 = some ⟨oc1, od1, .func (PySem.W.fnOf x1 x1 pg1 bg1 sg1 dV1 kV1 doc1 pm1 an1 cdv1 ct1), osl1⟩) (hc1 : PySem.W.codeIn X.K cdv1 x1 = true)
    (hb1 : L2.Binds X.K (PySem.W.fnOf x1 x1 pg1 bg1 sg1 dV1 kV1 doc1 pm1 an1 cdv1 ct1) [a1, b, a3] []) (S1 : FnScope N1 [a1, b, a3] sg1) (hj : N1[j]? = some b) (hvb : Vis sg1 b)
    (hgi : ∀ (s : Shared) (H : Hp), Gl (cxOf C8.CX0 X.prog X.w X.K X.mg X.base N1 x1 sg1 g1 cdv1 X.A X.stack s H C8.E0).nox x) (hm : X.mg x = some (.ref g)) (hk : PySem.W.keepIn X.K (.ref g) = true) (lk : X.K.lookup g = some ⟨oc, od, .func (PySem.W.fnOf x x pg bg sg dV kV doc pm an cdv ct), osl⟩)
    (hcg : PySem.W.codeIn X.K cdv x = true) (hb : L2.Binds X.K (PySem.W.fnOf x x pg bg sg dV kV doc pm an cdv ct) [a] []) (Sg : FnScope Ng [a] sg) (hNg : Ng[0]? = some a) (hva : Vis sg a)
    (hG1 : GivesOn X N1 x1 sg1 g1 cdv1 bg1 x b j (X.env.qual ++ "<lambda>") TTi TT)
    (hG : ∀ s : Shared, GivesTo { X with A := X.A.deeper (envOfC x1 sg1 s.heap.objs.size g1 cdv1), stack := envOfC x1 sg1 s.heap.objs.size g1 cdv1 :: X.stack } Ng x sg g cdv bg a (X.env.qual ++ "<lambda>") TTi)
    (TB : TabB X.base X.mg c P) (hcode : X.env.code = .ref c) (hmT : (P, X.env.qual ++ "<lambda>") ∈ T) (hu : ∀ p ∈ T, p.1 = P → p.2 = X.env.qual ++ "<lambda>") (hr : Room (k + 3) X.A) (hst : X.stack = X.env :: X.outer) (hfrm : X.env.frame = some X.env.locals) (L : LamS X.env.scope scope) (hdef : defaultsOf params X.env = ([], []))
    (hbind : ∀ (q : Str) (cl : List (Str × Addr)) (pm cv ctv : Value), bindArgs (PySem.W.kla_fn "<lambda>" q params body scope cl pm cv ctv) ⟨[], []⟩ = pure [])
    (hbody : ∀ (A : Around) (outer : List Env) (s : Shared) (H : Hp) (E : XK) (f c' : Addr), Room k (A.deeper (lamEnv X scope s.heap.objs.size f c')) → PE (lamCx X A outer s H E scope f c') body (t E))
    (ha : PE X (.Name y py) ta) (hc3 : PE X (.Tuple els tctx tpos) tc)
    (hdb1 : (x1 == ("__debug__" : Str)) = false := by decide) (hdb : (x == ("__debug__" : Str)) = false := by decide) (hd : (a == ("__debug__" : Str)) = false := by decide) (hcd : (a == ("__classdict__" : Str)) = false := by decide) (hd2 : (b == ("__debug__" : Str)) = false := by decide) (hcd2 : (b == ("__classdict__" : Str)) = false := by decide) :
    PE X (.Call (.Name x1 p) [.Name y py, .Lambda params body scope lpos, .Tuple els tctx tpos] [] pos) (tLam3 T (X.env.qual ++ "<lambda>") ta tc TT t) := by
  refine ⟨fun pins s σ H Q I h => ?_⟩
  refine wpAny_Call_Name_kw (ld_glob I hg1 hm1 (PySem.W.callWith_K (h₀ := X.base) I.ok.mod.kin hk1 ?_ (by rfl) (by rfl)) hdb1)
  show wpAny _ _ (spliced [(false, eval (.Name y py) X.env), (false, eval (.Lambda params body scope lpos) X.env), (false, eval (.Tuple els tctx tpos) X.env)]) _ _ s
  refine Calls.spliced_cons (thn (ha.run pins s σ H _ I h) fun u1 s1 ⟨v1, H1, I1, r1, hT, q1⟩ => ?_)
  refine Calls.spliced_cons (lam_make2 I1 TB hcode hmT hu hT hdef (L.has I1.ok) fun f c' pm' ctv H2 s2 I2 eN T2 hf hfn hfr hco => ?_)
  have nL : f ≠ X.env.locals ∧ f ∉ X.fs := by
    have e : frs X.stack = X.env.locals :: X.fs := by
      rw [hst]
      exact List.filterMap_cons_some hfrm
    rw [e] at hfr
    exact ⟨fun z => hfr (z ▸ List.mem_cons_self), fun z => hfr (List.mem_cons_of_mem _ z)⟩
  obtain ⟨fo, efo⟩ : ∃ fo : Obj, fo = PySem.W.kla_obj "<lambda>" (X.env.qual ++ "<lambda>") params body scope (cloFrom X.env.cells scope.names []) pm' c' ctv := ⟨_, rfl⟩
  rw [← efo] at hf
  have I2p : Inv X ((f, fo) :: pins) σ H2 s2 := ⟨I2.ok, I2.os, I2.bare, I2.base, I2.loc, I2.cell, I2.free, I2.freeC, fun q hq => by
    rcases List.mem_append.mp hq with z | z
    · exact I2.pin q (List.mem_append_left _ z)
    · rcases List.mem_cons.mp z with rfl | z
      · exact ⟨hf, hfn, nL.1, nL.2, fun v e => by rw [efo] at e; cases e⟩
      · exact I2.pin q (List.mem_append_right _ z), I2.hok, I2.len⟩
  refine Calls.spliced_cons (thn (hc3.run ((f, fo) :: pins) s2 σ H2 _ I2p (q1 H2 c' eN T2 hco)) fun u3 s3 ⟨v3, H3, I3p, r3, hco3, q3⟩ => ?_)
  have pf := I3p.pin (f, fo) (List.mem_append_right _ List.mem_cons_self)
  have I3 : Inv X pins σ H3 s3 := ⟨I3p.ok, I3p.os, I3p.bare, I3p.base, I3p.loc, I3p.cell, I3p.free, I3p.freeC, fun q hq => I3p.pin q (by
    rcases List.mem_append.mp hq with z | z
    · exact List.mem_append_left _ z
    · exact List.mem_append_right _ (List.mem_cons_of_mem _ z)), I3p.hok, I3p.len⟩
  have hf3 : s3.heap.get? f = some (PySem.W.kla_obj "<lambda>" (X.env.qual ++ "<lambda>") params body scope (cloFrom X.env.cells scope.names []) pm' c' ctv) := by
    rw [← efo]
    exact pf.1
  refine Calls.spliced_nil ⟨I3.kIn, ?_⟩
  have run : codeAny (model X.prog X.w) X.A (.call (.ref g1) ⟨[u1, .ref f, u3], []⟩) (CR C8.CX0 X.stack X.prog X.w H3 s3 Q C8.E0) s3 := by
    refine run_ofS (N := N1) (ps := [a1, b, a3]) (us := [u1, .ref f, u3]) (vs := [v1, .ref f, v3]) lk1 hc1 S1 hr I3.env0 (hb1 s3 [u1, .ref f, u3] I3.kIn rfl) (.cons r1 (.cons rfl (.cons r3 .nil))) rfl fun hr' => ?_
    obtain ⟨t', h1, h2⟩ := hG1 f c' s3 H3 v1 v3 Q (fun E H' Q' => t E σ H' Q') (fun p pb pos => pe_lamon (k := k) (t := t) I3 L hf3 pf.2.1 hfr (hgi s3 H3) hm hk lk hcg hb Sg hNg hva (hG s3) hr' hbind hbody hj hvb hdb hd hcd hd2 hcd2) hco3 q3
    exact ⟨t', h1.nox, h2⟩
  refine wpAny_call (codeAny_mono run fun r s' hq => ?_)
  match r, hq with
  | .error e, hq => exact (show False from hq).elim
  | .ok (.ret u), hq => exact I3.after hq
end
end Bo

set_option Elab.async false
set_option linter.all false
set_option maxRecDepth 100000
set_option maxHeartbeats 8000000
namespace Bo
open PySem PySem.Spec PyProof.Rows L2
/-! _law_error of every error of the document's -/
abbrev sErr : Stmt := top 69
/-- the caught error: it has no fields, or these -/
def Dd (H : Hp) (d : Option Addr) : Prop := d = none ∨ ∃ (dd : Addr) (fs : List (Str × V)), d = some dd ∧ H dd = some (.xd fs)
theorem Dd.keep {H H' : Hp} {d : Option Addr} (h : Dd H d) (k : Same H H') : Dd H' d := h.elim .inl fun ⟨dd, fs, e, z⟩ => .inr ⟨dd, fs, e, k _ _ z⟩
def rIsY (K : PySem.W.Frag) (cls : Value) (d : Option Addr) (a : Addr) : List V → Hp → VK → Prop := fun xs H Q => ∃ (D : Addr) (c : V) (cv : Value) (b : Bool), cls = .ref D ∧ ExcC K D ∧ Dd H d ∧ xs = [.ref a, c] ∧ (∀ u, RelV c u → u = cv) ∧ PySem.W.kitOne K (.ref D) cv = some b ∧ Q (.bl b) H
theorem call_isY {X : Cx} {a : Addr} {oe : Obj} {cls : Value} {d : Option Addr} {pn : List (Addr × Obj)} (hz : Zc cls d oe) (hf : ∃ vs, oe.data = .fields vs) : CallR (X.suite a ((a, oe) :: pn)) (.builtin "isinstance") (rIsY X.K cls d a) := by
  intro pins s σ H xs us Q I r h
  obtain ⟨D, c, cv, b, ec, C, hd, rfl, hcv, e, q⟩ := h
  subst ec
  cases r with
  | cons rx rr =>
    cases rr with
    | cons rt rr =>
      cases rr
      cases rx
      have ecv := hcv _ rt
      subst ecv
      have here := (I.pin (a, oe) (List.mem_append.mpr (.inl List.mem_cons_self))).1
      obtain ⟨vs, hv⟩ := hf
      obtain ⟨od, J⟩ : ∃ od, PySem.W.InstAt s.heap a oe D od := by
        rcases hd with rfl | ⟨dd, fs, rfl, ha⟩
        · exact ⟨none, here, hz.1, (by unfold PySem.W.notCls; rw [hv] <;> rfl), (by rw [hz.2]; trivial)⟩
        · obtain ⟨mA, hns, _⟩ := (show ObjOk X.prog X.w H s.heap dd (.xd fs) from I.hok dd _ ha)
          obtain ⟨od, hod, _⟩ := lookIn_ns hns
          exact ⟨some od, here, hz.1, (by unfold PySem.W.notCls; rw [hv] <;> rfl), (by rw [hz.2]; exact hod)⟩
      obtain ⟨cd, hcd, _⟩ := PySem.W.any_some C.hd
      have Z := PySem.W.kitx_exc (K := X.K) (x := a) (C := D) (ox := oe) (od := od) (by rw [hcd]; rfl) C.hg C.hk C.hs C.ha C.hn C.ht C.hm
      exact PySem.W.kia_one Z I.kIn J e (fun z => by cases z) fun tk => ⟨.bl b, H, I.kept (t' := tk) fun _ _ z => z, rfl, q⟩
/-- e.n of the caught error -/
def tXfY (K : PySem.W.Frag) (a : Addr) (cls : Value) (d : Option Addr) (n : Str) (te : TE) : TE := fun σ H Q => te σ H fun x H1 => x = .ref a ∧ ∃ (C dd : Addr) (fs : List (Str × V)) (v : V), cls = .ref C ∧ XfC K C ∧ PySem.W.findIn K (.ref C) n = some none ∧ d = some dd ∧ H1 dd = some (.xd fs) ∧ fs.lookup n = some v ∧ Q v H1
theorem pe_xfY {X : Cx} {a : Addr} {oe : Obj} {cls : Value} {d : Option Addr} {pn : List (Addr × Obj)} {e : Expr} {te : TE} {pos : Pos} {n : Str} (hz : Zc cls d oe) (hf : ∃ vs, oe.data = .fields vs) (he : PE (X.suite a ((a, oe) :: pn)) e te) (hb : attributeBase e n X.env (eval e X.env) = eval e X.env := by rfl) :
    PE (X.suite a ((a, oe) :: pn)) (.Attribute e n pos) (tXfY X.K a cls d n te) := by
  refine ⟨fun pins s σ H Q I h => attr_of hb (thn (he.run pins s σ H _ I h) fun u s1 ⟨x, H1, I1, rx, ex, C, dd, fs, v, ec, T, hno, ed, ea, l, q⟩ => ?_)⟩
  subst ex ec ed
  obtain rfl : u = Value.ref a := rx
  have pin1 := (I1.pin (a, oe) (List.mem_append_left _ List.mem_cons_self)).1
  obtain ⟨vs, hd⟩ := hf
  obtain ⟨mA, hns, hr⟩ := (show ObjOk X.prog X.w H1 s1.heap dd (.xd fs) from I1.hok dd _ ea)
  obtain ⟨od, ho, hl⟩ := lookIn_ns hns
  obtain ⟨u1, hu1, ru1⟩ := RelO.some_of (v := v) (o := mA n) (by rw [← l]; exact hr n)
  have J : PySem.W.InstAt s1.heap a oe C (some od) := ⟨pin1, hz.1, (by unfold PySem.W.notCls; rw [hd] <;> rfl), (by rw [hz.2]; exact ho)⟩
  exact HandSPX.exc_get I1.kIn J T.ga T.gg T.exC (PySem.W.findObj_own T.hdC hno rfl (by rw [hl, hu1])) (handed_of ru1) ⟨v, H1, I1.tok _, ru1, q⟩
/-- xs.count(b) of a list of bools -/
def rCntB (K : PySem.W.Frag) : V → List V → Hp → VK → Prop := fun x xs H Q => ∃ (p : Addr) (bs : List Bool) (k : Bool), x = .ref p ∧ xs = [.bl k] ∧ SqL K H p (bs.map V.bl) ∧ Q (.int (countIn (.bool k) (bs.map PyData.bool))) H
theorem mt_cntB {X : Cx} : MtR X "list.count" (rCntB X.K) := by
  intro pins s σ H x xs v us Q I rx rxs h
  obtain ⟨p, bs, k, rfl, rfl, hs, q⟩ := h
  cases rx
  obtain ⟨u, rfl, ru⟩ := rxs.one
  obtain rfl : u = Value.bool k := ru
  obtain ⟨its, rv, hl, _⟩ := I.list hs
  have ra := atoms_reads (h := s.heap) (xs := bs.map V.bl) (fun y hy => by
    obtain ⟨b, _, rfl⟩ := List.mem_map.mp hy
    rfl) rv
  rw [List.map_map] at ra
  have e : bs.map (dataA ∘ V.bl) = bs.map PyData.bool := rfl
  rw [e] at ra
  refine count_list_bools hl.isList ra ?_ ⟨.int (countIn (.bool k) (bs.map PyData.bool)), H, I.tok _, ⟨s.toks, rfl⟩, q⟩
  rw [List.all_eq_true]
  intro y hy
  obtain ⟨b, _, rfl⟩ := List.mem_map.mp hy
  rfl
theorem pe_bmE {X : Cx} {a : Addr} {oe : Obj} {pn : List (Addr × Obj)} {o e : Expr} {es : List Expr} {to : TE} {t : TA} {name : Str} {apos cpos : Pos} {T id : String} {r : V → List V → Hp → VK → Prop} (pa : PlainAttrs T) (slot : Slot T name id) (hty : typeOf (.builtin id) = pure (.type "method_descriptor"))
    (hm : MtR (X.suite a ((a, oe) :: pn)) id r) (ho : PE (X.suite a ((a, oe) :: pn)) o to) (ha : PA (X.suite a ((a, oe) :: pn)) (e :: es) t) (hb : attributeBase o name X.env (eval o X.env) = eval o X.env := by rfl)
    (hfew : ((backTo cpos (starEach (e :: es) X.env)).all (fun x => !x.1) && (backToKw cpos (keywordEach [] X.env)).all (fun x => x.1.isSome) && decide ((e :: es).length + ([] : List Keyword).length + (if ([] : List Keyword).isEmpty then 0 else 1) < 30)) = true := by rfl)
    (hl : (apos.endLine == cpos.line) = true := by rfl) (hs : starEach (e :: es) X.env = (false, eval e X.env) :: starEach es X.env := by rfl) (hp : (backTo cpos (starEach es X.env)).any (·.1) = false := by rfl) :
    PE (X.suite a ((a, oe) :: pn)) (.Call (.Attribute o name apos) (e :: es) [] cpos) (tBM X.K T r to t) := pe_bm pa slot hty hm ho ha hb hfew hl hs hp
theorem mt_cntE {X : Cx} {a : Addr} {oe : Obj} {pn : List (Addr × Obj)} : MtR (X.suite a ((a, oe) :: pn)) "list.count" (rCntB X.K) := mt_cntB
theorem mt_idxE {X : Cx} {a : Addr} {oe : Obj} {pn : List (Addr × Obj)} : MtR (X.suite a ((a, oe) :: pn)) "list.index" (rIndex X.K) := mt_index
theorem ix_listE {X : Cx} {a : Addr} {oe : Obj} {pn : List (Addr × Obj)} : IxR (X.suite a ((a, oe) :: pn)) (rIxL X.K) := ix_list
/-! ### the errors, by number -/
/-- the field of the error -/
def erFld : Nat → Str
  | 0 => "name" | 1 => "item" | 2 => "item" | 3 => "entry" | 4 => "entry" | 5 => "limit" | 9 => "index" | _ => "line"
/-- what _law_error says of it -/
def erWord : Nat → Str
  | 0 => "name" | 1 => "duplicate" | 2 => "unknown" | 3 => "double" | 4 => "missing" | 5 => "large" | 6 => "closed" | 7 => "open" | 8 => "undo" | 9 => "failed" | _ => "text"
/-- it has no field -/
def erBare (j : Nat) : Bool := decide (6 ≤ j) && decide (j ≤ 8)
/-- the error number j let out: what is told of it -/
def EchA (K : PySem.W.Frag) (cs : Nat → Addr) (Q : VK) : XK := fun cls d H' => ∃ j, j < 11 ∧ cls = .ref (cs j) ∧
  ((erBare j = true ∧ d = none ∧ ∀ (a : Addr) (H2 : Hp), Same H' H2 → SqT K H2 a [.str (erWord j)] → Q (.ref a) H2) ∨
   (erBare j = false ∧ ∃ (dx : Addr) (v : V), d = some dx ∧ H' dx = some (.xd [(erFld j, v)]) ∧ ∀ (a : Addr) (H2 : Hp), Same H' H2 → SqT K H2 a [.str (erWord j), v] → Q (.ref a) H2))
/-- behind the call -/
def backN (Q : VK) : VK := fun v H' => tRet (tIf (tB (tIsN (tVar 1))) (tC V.non) (tTup (tCons (tC (V.str (Str.ofString "returned"))) tNil))) { nx := fun _ H' => Q .non H', rt := Q } [none, some v] H'
theorem backN_non {Q : VK} {H : Hp} (h : Q .non H) : backN Q .non H := ⟨_, rfl, _, rfl, iteT h⟩
def TTa (K : PySem.W.Frag) (cs : Nat → Addr) : (XK → Hp → VK → Prop) → Hp → VK → Prop := fun tl H Q => tl (EchA K cs Q) H (backN Q)
structure ErrA (K : PySem.W.Frag) (mg : Str → Option Value) (CB : Addr) (cs : Nat → Addr) : Prop where
  gB : mg "BlockorderError" = some (.ref CB)
  ex : ∀ j, j < 11 → PySem.W.exmOne K (.ref (cs j)) (.ref CB) = some true
  gV : mg "ValueError" = none
  isi : mg "isinstance" = none
  k : ∀ i j, i < 11 → j < 11 → PySem.W.kitOne K (.ref (cs j)) (.ref (cs i)) = some (decide (i = j))
  kV : ∀ j, j < 11 → PySem.W.kitOne K (.ref (cs j)) (.type "ValueError") = some true
  E : ∀ j, j < 11 → ExcC K (cs j)
  xf : ∀ j, j < 11 → XfC K (cs j)
  no : ∀ j, j < 11 → PySem.W.findIn K (.ref (cs j)) (erFld j) = some none
  g0 : mg "InvalidName" = some (.ref (cs 0))
  g1 : mg "DuplicateItem" = some (.ref (cs 1))
  g2 : mg "UnknownItem" = some (.ref (cs 2))
  g3 : mg "DuplicateEntry" = some (.ref (cs 3))
  g4 : mg "UnknownEntry" = some (.ref (cs 4))
  g5 : mg "TooLarge" = some (.ref (cs 5))
  g6 : mg "NoTransaction" = some (.ref (cs 6))
  g7 : mg "OpenTransaction" = some (.ref (cs 7))
  g8 : mg "NothingToUndo" = some (.ref (cs 8))
  g9 : mg "EditFailed" = some (.ref (cs 9))
  g10 : mg "InvalidText" = some (.ref (cs 10))
section
variable {P : Program} {w : World} {K : PySem.W.Frag} {mg : Str → Option Value} {base : Heap}
theorem scErr : FnScope ["_law_call", "_law_told_here", "e", "_law_flags", "_law_at"] ["_law_call"] (defScope sErr) := ⟨rfl, rfl, rfl, by decide +kernel, rfl, by decide +kernel, by decide +kernel⟩
abbrev ngE : List Str := ["_law_call", "_law_told_here", "e", "_law_flags", "_law_at"]
theorem takes_len {X : Cx} {W : WX} (t : Takes X W) : Takes X (fun cls d σ H => σ.length = X.N.length → W cls d σ H) := fun u s' ⟨a, B, sI, pins, σ, H, cls, d, e, I, nb, up, sky, na, os, ag, w⟩ => t u s' ⟨a, B, sI, pins, σ, H, cls, d, e, I, nb, up, sky, na, os, ag, w I.len⟩
theorem cnt_one : ∀ j, j < 11 → countIn (.bool true) (((List.range 11).map fun i => decide (i = j)).map PyData.bool) = 1 := by decide +kernel
theorem idx_at {j : Nat} (hj : j < 11) : (((List.range 11).map fun i => decide (i = j)).map V.bl)[j]? = some (V.bl true) := by
  rw [List.getElem?_map, List.getElem?_map, List.getElem?_range hj]
  simp
theorem idx_no {j : Nat} (hj : j < 11) : ∀ (m : Nat) (z : V), m < j → (((List.range 11).map fun i => decide (i = j)).map V.bl)[m]? = some z → eqV z (V.bl true) = false := fun m z hm h => by
  rw [List.getElem?_map, List.getElem?_map, List.getElem?_range (Nat.lt_trans hm hj)] at h
  have e : z = V.bl (decide (m = j)) := (Option.some.inj h).symm
  rw [e, decide_eq_false (Nat.ne_of_lt hm)]
  rfl
theorem bools_flat (bs : List Bool) : (bs.map V.bl).all flatV = true := by
  rw [List.all_eq_true]
  intro y hy
  obtain ⟨b, _, rfl⟩ := List.mem_map.mp hy
  rfl
theorem err_givesA {X : Cx} {g CB : Addr} {cs : Nat → Addr} {cdg : Value} {q : Str} (T : ErrA X.K X.mg CB cs) : LamX.GivesTo X ngE "_law_error" (defScope sErr) g cdg (defBody sErr) "_law_call" q (TTa X.K cs) := by
  intro f c' s H Q tl act hc h
  refine ⟨_, pss_cons (ps_try_as (i := 2) rfl rfl scErr.nd rfl rfl ⟨by rfl, by decide, .inl T.gB⟩ LamX.takes0
      (tb := fun W D σ H => ∃ Ech : XK, (∀ cls d σ' H', σ'.length = 5 → Ech cls d H' → W cls d σ' H') ∧ σ[0]? = some (some (.ref f)) ∧ H c' = some (LamX.CodeO c' q) ∧ tl Ech H fun v H' => D.nx (σ.set 1 (some v)) H')
      (fun W pn xe tk _ => ?_)
      (fun a oe cls d pn hz hf => pss_cons (ps_set (i := 3) scErr.nd rfl (.inl rfl) (pe_lst (pa_cons (pe_callB (call_isY hz hf) (by rfl) T.isi (by decide +kernel) (pa_cons (pv 2) (pa_cons (pe_glob (v := .ref _) (by rfl) T.g0 rfl) pa_nil))) (pa_cons (pe_callB (call_isY hz hf) (by rfl) T.isi (by decide +kernel) (pa_cons (pv 2) (pa_cons (pe_glob (v := .ref _) (by rfl) T.g1 rfl) pa_nil))) (pa_cons (pe_callB (call_isY hz hf) (by rfl) T.isi (by decide +kernel) (pa_cons (pv 2) (pa_cons (pe_glob (v := .ref _) (by rfl) T.g2 rfl) pa_nil))) pa_nil)))))
        (pss_cons (ps_set (i := 3) scErr.nd rfl (.inl rfl) (pe_op op_cat (pv 3) (pe_lst (pa_cons (pe_callB (call_isY hz hf) (by rfl) T.isi (by decide +kernel) (pa_cons (pv 2) (pa_cons (pe_glob (v := .ref _) (by rfl) T.g3 rfl) pa_nil))) (pa_cons (pe_callB (call_isY hz hf) (by rfl) T.isi (by decide +kernel) (pa_cons (pv 2) (pa_cons (pe_glob (v := .ref _) (by rfl) T.g4 rfl) pa_nil))) (pa_cons (pe_callB (call_isY hz hf) (by rfl) T.isi (by decide +kernel) (pa_cons (pv 2) (pa_cons (pe_glob (v := .ref _) (by rfl) T.g5 rfl) pa_nil))) pa_nil))))))
        (pss_cons (ps_set (i := 3) scErr.nd rfl (.inl rfl) (pe_op op_cat (pv 3) (pe_lst (pa_cons (pe_callB (call_isY hz hf) (by rfl) T.isi (by decide +kernel) (pa_cons (pv 2) (pa_cons (pe_glob (v := .ref _) (by rfl) T.g6 rfl) pa_nil))) (pa_cons (pe_callB (call_isY hz hf) (by rfl) T.isi (by decide +kernel) (pa_cons (pv 2) (pa_cons (pe_glob (v := .ref _) (by rfl) T.g7 rfl) pa_nil))) (pa_cons (pe_callB (call_isY hz hf) (by rfl) T.isi (by decide +kernel) (pa_cons (pv 2) (pa_cons (pe_glob (v := .ref _) (by rfl) T.g8 rfl) pa_nil))) pa_nil))))))
        (pss_cons (ps_set (i := 3) scErr.nd rfl (.inl rfl) (pe_op op_cat (pv 3) (pe_lst (pa_cons (pe_callB (call_isY hz hf) (by rfl) T.isi (by decide +kernel) (pa_cons (pv 2) (pa_cons (pe_glob (v := .ref _) (by rfl) T.g9 rfl) pa_nil))) (pa_cons (pe_callB (call_isY hz hf) (by rfl) T.isi (by decide +kernel) (pa_cons (pv 2) (pa_cons (pe_glob (v := .ref _) (by rfl) T.g10 rfl) pa_nil))) pa_nil)))))
        (pss_cons (ps_if (PW.pt (pw_or (pt_cmpR op_ne (pe_bmE PySem.F.plainAttrs_list PySem.F.slot_list_count PySem.F.type_list_count mt_cntE (pv 3) (pa_cons pe_bl pa_nil)) pe_int (nomark _)) (pw_or1 (pt_not (pt_val (pe_callB (call_isY hz hf) (by rfl) T.isi (by decide +kernel) (pa_cons (pv 2) (pa_cons (pe_bltn (v := .ty "ValueError") (by rfl) T.gV (by decide +kernel) rfl) pa_nil)))))))) (pss_one ps_never) pss_nil)
        (pss_cons (ps_set (i := 4) scErr.nd rfl (.inl rfl) (pe_bmE PySem.F.plainAttrs_list PySem.F.slot_list_index PySem.F.type_list_index mt_idxE (pv 3) (pa_cons pe_bl pa_nil)))
        (pss_cons (ps_if (pt_cmpR op_eq (pv 4) pe_int (nomark _)) (pss_one (ps_ret (pe_tup (pa_cons pe_str (pa_cons (pe_xfY hz hf (pv 2)) pa_nil))))) pss_nil)
        (pss_cons (ps_if (pt_cmpR op_lt (pv 4) pe_int (nomark _)) (pss_one (ps_ret (pe_tup (pa_cons (pe_ix (r := rIxL X.K) ix_listE (pe_lst (pa_cons pe_str (pa_cons pe_str pa_nil))) (pe_op op_sub (pv 4) pe_int) (fun _ _ => rfl)) (pa_cons (pe_xfY hz hf (pv 2)) pa_nil))))) pss_nil)
        (pss_cons (ps_if (pt_cmpR op_lt (pv 4) pe_int (nomark _)) (pss_one (ps_ret (pe_tup (pa_cons (pe_ix (r := rIxL X.K) ix_listE (pe_lst (pa_cons pe_str (pa_cons pe_str pa_nil))) (pe_op op_sub (pv 4) pe_int) (fun _ _ => rfl)) (pa_cons (pe_xfY hz hf (pv 2)) pa_nil))))) pss_nil)
        (pss_cons (ps_if (pt_cmpR op_gt (pv 4) pe_int (nomark _)) (pss_one (ps_ret (pe_ifExp (pt_cmpR op_eq (pv 4) pe_int (nomark _)) (pe_tup (pa_cons pe_str (pa_cons (pe_xfY hz hf (pv 2)) pa_nil))) (pe_tup (pa_cons pe_str (pa_cons (pe_xfY hz hf (pv 2)) pa_nil)))))) pss_nil)
        (pss_one (ps_ret (pe_ifExp (pt_cmpR op_eq (pv 4) pe_int (nomark _)) (pe_tup (pa_cons pe_str (pa_cons (pe_xfY hz hf (pv 2)) pa_nil))) (pe_tup (pa_cons (pe_ix (r := rIxL X.K) ix_listE (pe_lst (pa_cons pe_str (pa_cons pe_str (pa_cons pe_str pa_nil)))) (pe_op op_sub (pv 4) pe_int) (fun _ _ => rfl)) pa_nil))))))))))))))))
    (pss_one (ps_ret (pe_ifExp (pt_cmp (pc_isN (pv 1))) pe_non (pe_tup (pa_cons pe_str pa_nil))))), ?_⟩
  · refine ⟨fun pins s' σ H' D I h' => ?_⟩
    obtain ⟨Ech, hW, h1, h2, h3⟩ := h'
    have hp := fun p1 p2 => act _ pn xe Ech p1 p2 (takes_len tk) (fun cls d σ' H' e l => hW cls d σ' H' l e)
    exact (pss_one (ps_set (i := 1) scErr.nd rfl (.inl rfl) (hp _ _))).run pins s' σ H' D I ⟨h1, h2, h3⟩
  · refine ⟨EchA X.K cs Q, fun cls d σ' H' hl hE => ?_, rfl, hc, h⟩
    obtain ⟨j, hj, rfl, hE⟩ := hE
    have D0 : Dd H' d := hE.elim (fun z => .inl z.2.1) fun ⟨_, dx, v, e, z, _⟩ => .inr ⟨dx, _, e, z⟩
    obtain ⟨z0, z1, z2, z3, z4, rfl⟩ : ∃ z0 z1 z2 z3 z4, σ' = [z0, z1, z2, z3, z4] := by
      match σ', hl with
      | [z0, z1, z2, z3, z4], _ => exact ⟨z0, z1, z2, z3, z4, rfl⟩
    refine ⟨true, T.ex j hj, fun _ a ha => ?_, fun z => by cases z⟩
    have EE := T.E j hj
    refine ⟨_, rfl, cs j, _, _, _, rfl, EE, D0, rfl, (fun _ r => r), T.k 0 j (by decide) hj, _, rfl, cs j, _, _, _, rfl, EE, D0, rfl, (fun _ r => r), T.k 1 j (by decide) hj, _, rfl, cs j, _, _, _, rfl, EE, D0, rfl, (fun _ r => r), T.k 2 j (by decide) hj, by show 3 ≤ sizeLine; decide, fun l1 hl1 => ?_⟩
    obtain ⟨L1, eL1⟩ : ∃ L1 : List V, L1 = [.bl (decide (0 = j)), .bl (decide (1 = j)), .bl (decide (2 = j))] := ⟨_, rfl⟩
    rw [← eL1]
    have s1 : Same H' (upd H' l1 (.lst L1)) := same_new hl1
    have e1 : (upd H' l1 (.lst L1)) l1 = _ := upd_same
    generalize upd H' l1 (.lst L1) = H1 at s1 e1 ⊢
    have D1 := D0.keep s1
    refine ⟨_, rfl, _, rfl, cs j, _, _, _, rfl, EE, D1, rfl, (fun _ r => r), T.k 3 j (by decide) hj, _, rfl, cs j, _, _, _, rfl, EE, D1, rfl, (fun _ r => r), T.k 4 j (by decide) hj, _, rfl, cs j, _, _, _, rfl, EE, D1, rfl, (fun _ r => r), T.k 5 j (by decide) hj, by show 3 ≤ sizeLine; decide, fun l2a hl2a => ?_⟩
    obtain ⟨L2a, eL2a⟩ : ∃ L2a : List V, L2a = [.bl (decide (3 = j)), .bl (decide (4 = j)), .bl (decide (5 = j))] := ⟨_, rfl⟩
    rw [← eL2a]
    refine ⟨l1, l2a, _, _, rfl, rfl, (same_new hl2a) _ _ e1, upd_same, by rw [eL2a, eL1]; show 3 + 3 ≤ sizeLine; decide, fun l2b hl2b => ?_⟩
    obtain ⟨L2, eL2⟩ : ∃ L2 : List V, L2 = [.bl (decide (0 = j)), .bl (decide (1 = j)), .bl (decide (2 = j)), .bl (decide (3 = j)), .bl (decide (4 = j)), .bl (decide (5 = j))] := ⟨_, rfl⟩
    rw [show L1 ++ L2a = L2 by rw [eL2a, eL1, eL2]; rfl]
    have s2 : Same H1 (upd (upd H1 l2a (.lst L2a)) l2b (.lst L2)) := (same_new hl2a).trans (same_new hl2b)
    have e2 : (upd (upd H1 l2a (.lst L2a)) l2b (.lst L2)) l2b = _ := upd_same
    generalize upd (upd H1 l2a (.lst L2a)) l2b (.lst L2) = H2 at s2 e2 ⊢
    have D2 := D1.keep s2
    refine ⟨_, rfl, _, rfl, cs j, _, _, _, rfl, EE, D2, rfl, (fun _ r => r), T.k 6 j (by decide) hj, _, rfl, cs j, _, _, _, rfl, EE, D2, rfl, (fun _ r => r), T.k 7 j (by decide) hj, _, rfl, cs j, _, _, _, rfl, EE, D2, rfl, (fun _ r => r), T.k 8 j (by decide) hj, by show 3 ≤ sizeLine; decide, fun l3a hl3a => ?_⟩
    obtain ⟨L3a, eL3a⟩ : ∃ L3a : List V, L3a = [.bl (decide (6 = j)), .bl (decide (7 = j)), .bl (decide (8 = j))] := ⟨_, rfl⟩
    rw [← eL3a]
    refine ⟨l2b, l3a, _, _, rfl, rfl, (same_new hl3a) _ _ e2, upd_same, by rw [eL3a, eL2]; show 6 + 3 ≤ sizeLine; decide, fun l3b hl3b => ?_⟩
    obtain ⟨L3, eL3⟩ : ∃ L3 : List V, L3 = [.bl (decide (0 = j)), .bl (decide (1 = j)), .bl (decide (2 = j)), .bl (decide (3 = j)), .bl (decide (4 = j)), .bl (decide (5 = j)), .bl (decide (6 = j)), .bl (decide (7 = j)), .bl (decide (8 = j))] := ⟨_, rfl⟩
    rw [show L2 ++ L3a = L3 by rw [eL3a, eL2, eL3]; rfl]
    have s3 : Same H2 (upd (upd H2 l3a (.lst L3a)) l3b (.lst L3)) := (same_new hl3a).trans (same_new hl3b)
    have e3 : (upd (upd H2 l3a (.lst L3a)) l3b (.lst L3)) l3b = _ := upd_same
    generalize upd (upd H2 l3a (.lst L3a)) l3b (.lst L3) = H3 at s3 e3 ⊢
    have D3 := D2.keep s3
    refine ⟨_, rfl, _, rfl, cs j, _, _, _, rfl, EE, D3, rfl, (fun _ r => r), T.k 9 j (by decide) hj, _, rfl, cs j, _, _, _, rfl, EE, D3, rfl, (fun _ r => r), T.k 10 j (by decide) hj, by show 2 ≤ sizeLine; decide, fun l4a hl4a => ?_⟩
    obtain ⟨L4a, eL4a⟩ : ∃ L4a : List V, L4a = [.bl (decide (9 = j)), .bl (decide (10 = j))] := ⟨_, rfl⟩
    rw [← eL4a]
    refine ⟨l3b, l4a, _, _, rfl, rfl, (same_new hl4a) _ _ e3, upd_same, by rw [eL4a, eL3]; show 9 + 2 ≤ sizeLine; decide, fun l4b hl4b => ?_⟩
    obtain ⟨L4, eL4⟩ : ∃ L4 : List V, L4 = [.bl (decide (0 = j)), .bl (decide (1 = j)), .bl (decide (2 = j)), .bl (decide (3 = j)), .bl (decide (4 = j)), .bl (decide (5 = j)), .bl (decide (6 = j)), .bl (decide (7 = j)), .bl (decide (8 = j)), .bl (decide (9 = j)), .bl (decide (10 = j))] := ⟨_, rfl⟩
    rw [show L3 ++ L4a = L4 by rw [eL4a, eL3, eL4]; rfl]
    have s4 : Same H3 (upd (upd H3 l4a (.lst L4a)) l4b (.lst L4)) := (same_new hl4a).trans (same_new hl4b)
    have e4 : (upd (upd H3 l4a (.lst L4a)) l4b (.lst L4)) l4b = _ := upd_same
    generalize upd (upd H3 l4a (.lst L4a)) l4b (.lst L4) = H4 at s4 e4 ⊢
    have D4 := D3.keep s4
    have e : L4 = ((List.range 11).map fun i => decide (i = j)).map V.bl := eL4
    rw [e] at e4
    refine ⟨_, rfl, .inl ⟨rfl, _, SqL.of e4⟩, l4b, _, true, rfl, rfl, SqL.of e4, rfl, ?_⟩
    rw [cnt_one j hj]
    refine ⟨_, rfl, iteNS rfl ⟨_, rfl, cs j, _, _, _, rfl, EE, D4, rfl, (fun _ r => r), T.kV j hj, _, rfl, iteF ?_⟩⟩
    refine ⟨_, rfl, .inl ⟨rfl, _, SqL.of e4⟩, l4b, _, V.bl true, j, V.bl true, rfl, rfl, SqL.of e4, rfl, bools_flat _, idx_at hj, rfl, idx_no hj, ?_⟩
    have ss := ((s1.trans s2).trans s3).trans s4
    clear e4 e3 e2 e1 hl1 eL1 eL2 eL3 eL4 eL2a eL3a eL4a
    have hcase : j = 0 ∨ j = 1 ∨ j = 2 ∨ j = 3 ∨ j = 4 ∨ j = 5 ∨ j = 6 ∨ j = 7 ∨ j = 8 ∨ j = 9 ∨ j = 10 := by omega
    rcases hcase with rfl | rfl | rfl | rfl | rfl | rfl | rfl | rfl | rfl | rfl | rfl
    · rcases hE with ⟨z, _⟩ | ⟨_, dx, v, hd, hx, kk⟩
      · cases z
      · have x4 := ss _ _ hx
        refine ⟨_, rfl, rfl, _, rfl, iteT ?_⟩
        refine ⟨_, rfl, rfl, cs 0, dx, _, v, rfl, T.xf 0 hj, T.no 0 hj, hd, x4, rfl, by show 2 ≤ sizeLine; decide, fun p hp => kk p _ (ss.trans (same_new hp)) (SqT.of upd_same)⟩
    · rcases hE with ⟨z, _⟩ | ⟨_, dx, v, hd, hx, kk⟩
      · cases z
      · have x4 := ss _ _ hx
        refine ⟨_, rfl, rfl, _, rfl, iteF ⟨_, rfl, _, _, rfl, rfl, _, rfl, iteT ?_⟩⟩
        refine ⟨by show 2 ≤ sizeLine; decide, fun lw hlw => ⟨_, rfl, _, _, rfl, rfl, lw, _, _, _, rfl, rfl, SqL.of upd_same, rfl, _, rfl, rfl, cs 1, dx, _, v, rfl, T.xf 1 hj, T.no 1 hj, hd, same_new hlw _ _ x4, rfl, by show 2 ≤ sizeLine; decide, fun p hp => kk p _ ((ss.trans (same_new hlw)).trans (same_new hp)) (SqT.of upd_same)⟩⟩
    · rcases hE with ⟨z, _⟩ | ⟨_, dx, v, hd, hx, kk⟩
      · cases z
      · have x4 := ss _ _ hx
        refine ⟨_, rfl, rfl, _, rfl, iteF ⟨_, rfl, _, _, rfl, rfl, _, rfl, iteT ?_⟩⟩
        refine ⟨by show 2 ≤ sizeLine; decide, fun lw hlw => ⟨_, rfl, _, _, rfl, rfl, lw, _, _, _, rfl, rfl, SqL.of upd_same, rfl, _, rfl, rfl, cs 2, dx, _, v, rfl, T.xf 2 hj, T.no 2 hj, hd, same_new hlw _ _ x4, rfl, by show 2 ≤ sizeLine; decide, fun p hp => kk p _ ((ss.trans (same_new hlw)).trans (same_new hp)) (SqT.of upd_same)⟩⟩
    · rcases hE with ⟨z, _⟩ | ⟨_, dx, v, hd, hx, kk⟩
      · cases z
      · have x4 := ss _ _ hx
        refine ⟨_, rfl, rfl, _, rfl, iteF ⟨_, rfl, _, _, rfl, rfl, _, rfl, iteF ⟨_, rfl, _, _, rfl, rfl, _, rfl, iteT ?_⟩⟩⟩
        refine ⟨by show 2 ≤ sizeLine; decide, fun lw hlw => ⟨_, rfl, _, _, rfl, rfl, lw, _, _, _, rfl, rfl, SqL.of upd_same, rfl, _, rfl, rfl, cs 3, dx, _, v, rfl, T.xf 3 hj, T.no 3 hj, hd, same_new hlw _ _ x4, rfl, by show 2 ≤ sizeLine; decide, fun p hp => kk p _ ((ss.trans (same_new hlw)).trans (same_new hp)) (SqT.of upd_same)⟩⟩
    · rcases hE with ⟨z, _⟩ | ⟨_, dx, v, hd, hx, kk⟩
      · cases z
      · have x4 := ss _ _ hx
        refine ⟨_, rfl, rfl, _, rfl, iteF ⟨_, rfl, _, _, rfl, rfl, _, rfl, iteF ⟨_, rfl, _, _, rfl, rfl, _, rfl, iteT ?_⟩⟩⟩
        refine ⟨by show 2 ≤ sizeLine; decide, fun lw hlw => ⟨_, rfl, _, _, rfl, rfl, lw, _, _, _, rfl, rfl, SqL.of upd_same, rfl, _, rfl, rfl, cs 4, dx, _, v, rfl, T.xf 4 hj, T.no 4 hj, hd, same_new hlw _ _ x4, rfl, by show 2 ≤ sizeLine; decide, fun p hp => kk p _ ((ss.trans (same_new hlw)).trans (same_new hp)) (SqT.of upd_same)⟩⟩
    · rcases hE with ⟨z, _⟩ | ⟨_, dx, v, hd, hx, kk⟩
      · cases z
      · have x4 := ss _ _ hx
        refine ⟨_, rfl, rfl, _, rfl, iteF ⟨_, rfl, _, _, rfl, rfl, _, rfl, iteF ⟨_, rfl, _, _, rfl, rfl, _, rfl, iteF ⟨_, rfl, _, _, rfl, rfl, _, rfl, iteF ⟨_, rfl, rfl, _, rfl, iteT ?_⟩⟩⟩⟩⟩
        refine ⟨_, rfl, rfl, cs 5, dx, _, v, rfl, T.xf 5 hj, T.no 5 hj, hd, x4, rfl, by show 2 ≤ sizeLine; decide, fun p hp => kk p _ (ss.trans (same_new hp)) (SqT.of upd_same)⟩
    · rcases hE with ⟨_, hd, kk⟩ | ⟨z, _⟩
      · refine ⟨_, rfl, rfl, _, rfl, iteF ⟨_, rfl, _, _, rfl, rfl, _, rfl, iteF ⟨_, rfl, _, _, rfl, rfl, _, rfl, iteF ⟨_, rfl, _, _, rfl, rfl, _, rfl, iteF ⟨_, rfl, rfl, _, rfl, iteF ?_⟩⟩⟩⟩⟩
        refine ⟨by show 3 ≤ sizeLine; decide, fun lw hlw => ⟨_, rfl, _, _, rfl, rfl, lw, _, _, _, rfl, rfl, SqL.of upd_same, rfl, by show 1 ≤ sizeLine; decide, fun p hp => kk p _ ((ss.trans (same_new hlw)).trans (same_new hp)) (SqT.of upd_same)⟩⟩
      · cases z
    · rcases hE with ⟨_, hd, kk⟩ | ⟨z, _⟩
      · refine ⟨_, rfl, rfl, _, rfl, iteF ⟨_, rfl, _, _, rfl, rfl, _, rfl, iteF ⟨_, rfl, _, _, rfl, rfl, _, rfl, iteF ⟨_, rfl, _, _, rfl, rfl, _, rfl, iteF ⟨_, rfl, rfl, _, rfl, iteF ?_⟩⟩⟩⟩⟩
        refine ⟨by show 3 ≤ sizeLine; decide, fun lw hlw => ⟨_, rfl, _, _, rfl, rfl, lw, _, _, _, rfl, rfl, SqL.of upd_same, rfl, by show 1 ≤ sizeLine; decide, fun p hp => kk p _ ((ss.trans (same_new hlw)).trans (same_new hp)) (SqT.of upd_same)⟩⟩
      · cases z
    · rcases hE with ⟨_, hd, kk⟩ | ⟨z, _⟩
      · refine ⟨_, rfl, rfl, _, rfl, iteF ⟨_, rfl, _, _, rfl, rfl, _, rfl, iteF ⟨_, rfl, _, _, rfl, rfl, _, rfl, iteF ⟨_, rfl, _, _, rfl, rfl, _, rfl, iteF ⟨_, rfl, rfl, _, rfl, iteF ?_⟩⟩⟩⟩⟩
        refine ⟨by show 3 ≤ sizeLine; decide, fun lw hlw => ⟨_, rfl, _, _, rfl, rfl, lw, _, _, _, rfl, rfl, SqL.of upd_same, rfl, by show 1 ≤ sizeLine; decide, fun p hp => kk p _ ((ss.trans (same_new hlw)).trans (same_new hp)) (SqT.of upd_same)⟩⟩
      · cases z
    · rcases hE with ⟨z, _⟩ | ⟨_, dx, v, hd, hx, kk⟩
      · cases z
      · have x4 := ss _ _ hx
        refine ⟨_, rfl, rfl, _, rfl, iteF ⟨_, rfl, _, _, rfl, rfl, _, rfl, iteF ⟨_, rfl, _, _, rfl, rfl, _, rfl, iteF ⟨_, rfl, _, _, rfl, rfl, _, rfl, iteT ⟨_, rfl, rfl, _, rfl, iteT ?_⟩⟩⟩⟩⟩
        refine ⟨_, rfl, rfl, cs 9, dx, _, v, rfl, T.xf 9 hj, T.no 9 hj, hd, x4, rfl, by show 2 ≤ sizeLine; decide, fun p hp => kk p _ (ss.trans (same_new hp)) (SqT.of upd_same)⟩
    · rcases hE with ⟨z, _⟩ | ⟨_, dx, v, hd, hx, kk⟩
      · cases z
      · have x4 := ss _ _ hx
        refine ⟨_, rfl, rfl, _, rfl, iteF ⟨_, rfl, _, _, rfl, rfl, _, rfl, iteF ⟨_, rfl, _, _, rfl, rfl, _, rfl, iteF ⟨_, rfl, _, _, rfl, rfl, _, rfl, iteT ⟨_, rfl, rfl, _, rfl, iteF ?_⟩⟩⟩⟩⟩
        refine ⟨_, rfl, rfl, cs 10, dx, _, v, rfl, T.xf 10 hj, T.no 10 hj, hd, x4, rfl, by show 2 ≤ sizeLine; decide, fun p hp => kk p _ (ss.trans (same_new hp)) (SqT.of upd_same)⟩
end
end Bo

set_option Elab.async false
set_option linter.all false
set_option maxRecDepth 100000
set_option maxHeartbeats 8000000
/-! a System with its open transactions and its changes -/
namespace Bo
open PySem L2
/-- at s stands a System; bs: what its open transactions began with, hs: what its changes began with -/
structure SgAt (CS : Addr) (H : Hp) (s dx c b h : Addr) (bs hs : List V) : Prop where
  i : H s = some (.ins CS dx (syF c b h))
  b : H b = some (.lst bs)
  h : H h = some (.lst hs)
/-- all that a Contents consists of stays -/
structure Calm (CC : Addr) (H H' : Hp) : Prop where
  i : ∀ a d ac ar ak, H a = some (.ins CC d (ctF ac ar ak)) → H' a = some (.ins CC d (ctF ac ar ak))
  t : ∀ a xs, H a = some (.tup xs) → H' a = some (.tup xs)
  f : ∀ a o u, H a = some (.frz o u) → H' a = some (.frz o u)
theorem Calm.of {CC : Addr} {H H' : Hp} (k : Same H H') : Calm CC H H' := ⟨fun _ _ _ _ _ e => k _ _ e, fun _ _ e => k _ _ e, fun _ _ _ e => k _ _ e⟩
theorem Calm.but {CC t : Addr} {H H' : Hp} {kvs : List (Key × V)} (ht : H t = some (.dK kvs)) (k : But t H H') : Calm CC H H' :=
  ⟨fun _ _ _ _ _ e => k _ _ e (ne_of e ht (by intro z; cases z)), fun _ _ e => k _ _ e (ne_of e ht (by intro z; cases z)), fun _ _ _ e => k _ _ e (ne_of e ht (by intro z; cases z))⟩
theorem ct_ne_sy {CC CS : Addr} {H : Hp} {a s d dx ac ar ak c b h : Addr} (e : H a = some (.ins CC d (ctF ac ar ak))) (q : H s = some (.ins CS dx (syF c b h))) : a ≠ s := fun z => by
  rw [z, q] at e
  injection e with e
  injection e with _ _ e
  have l1 := ctF_c ac ar ak
  rw [← e, syF_no _ _ _ (by decide +kernel) (by decide +kernel) (by decide +kernel)] at l1
  cases l1
theorem Calm.off {CC CS : Addr} {H H' : Hp} {s dx c b h : Addr} {bs hs : List V} (Y : SgAt CS H s dx c b h bs hs) (o : Off [s, b, h] H H') : Calm CC H H' := by
  have no : ∀ q, q ≠ s → q ≠ b → q ≠ h → q ∉ [s, b, h] := fun q n1 n2 n3 z => by
    rcases List.mem_cons.mp z with z | z
    · exact n1 z
    · rcases List.mem_cons.mp z with z | z
      · exact n2 z
      · exact n3 (List.mem_singleton.mp z)
  exact ⟨fun a d ac ar ak e => o _ _ e (no _ (ct_ne_sy e Y.i) (ne_of e Y.b (by intro z; cases z)) (ne_of e Y.h (by intro z; cases z))),
    fun a xs e => o _ _ e (no _ (ne_of e Y.i (by intro z; cases z)) (ne_of e Y.b (by intro z; cases z)) (ne_of e Y.h (by intro z; cases z))),
    fun a ob u e => o _ _ e (no _ (ne_of e Y.i (by intro z; cases z)) (ne_of e Y.b (by intro z; cases z)) (ne_of e Y.h (by intro z; cases z)))⟩
theorem SqT.calm {K : PySem.W.Frag} {CC : Addr} {H H' : Hp} {a : Addr} {xs : List V} (h : SqT K H a xs) (k : Calm CC H H') : SqT K H' a xs := by
  rcases h with (e | ⟨o, e⟩) | e
  · exact .inl (.inl (k.t _ _ e))
  · exact .inl (.inr ⟨o, k.f _ _ _ e⟩)
  · exact .inr e
theorem Fz.calm {CC : Addr} {H H' : Hp} {a : Addr} {u : HO} (h : Fz H a u) (k : Calm CC H H') : Fz H' a u := let ⟨o, e⟩ := h; ⟨o, k.f _ _ _ e⟩
theorem CtIn.calm {K : PySem.W.Frag} {CC : Addr} {H H' : Hp} {a : Addr} {S : Ct} (h : CtIn K CC H a S) (k : Calm CC H H') : CtIn K CC H' a S :=
  let ⟨dx, ac, ar, ak, rs, C⟩ := h
  ⟨dx, ac, ar, ak, rs, ⟨k.i _ _ _ _ _ C.i, SqT.calm C.c k, C.r.calm k, Paired.mapP C.p fun p q z => ⟨z.1, z.2.calm k⟩, C.k.calm k⟩⟩
def CtV (K : PySem.W.Frag) (CC : Addr) (H : Hp) (S : Ct) (v : V) : Prop := ∃ a, v = .ref a ∧ CtIn K CC H a S
theorem ctV_calm {K : PySem.W.Frag} {CC : Addr} {H H' : Hp} {Bs : List Ct} {bs : List V} (p : Paired (CtV K CC H) Bs bs) (k : Calm CC H H') : Paired (CtV K CC H') Bs bs := Paired.mapP p fun _ _ ⟨a, e, z⟩ => ⟨a, e, z.calm k⟩
/-- a System stands at s; H0 is as it was, and knows nothing of it -/
def SyG (K : PySem.W.Frag) (CC CS : Addr) (H0 H : Hp) (s : Addr) (S : Ct) (Bs Hs : List Ct) : Prop := ∃ dx c b h bs hs, SgAt CS H s dx c b h bs hs ∧ CtIn K CC H c S ∧ Paired (CtV K CC H) Bs bs ∧ Paired (CtV K CC H) Hs hs ∧ h ≠ b ∧ H0 s = none ∧ H0 b = none ∧ H0 h = none ∧ Same H0 H
theorem SyG.same {K : PySem.W.Frag} {CC CS : Addr} {H0 H : Hp} {s : Addr} {S : Ct} {Bs Hs : List Ct} (h : SyG K CC CS H0 H s S Bs Hs) : Same H0 H := let ⟨_, _, _, _, _, _, _, _, _, _, _, _, _, _, e⟩ := h; e
theorem SyG.keep {K : PySem.W.Frag} {CC CS : Addr} {H0 H H' : Hp} {s : Addr} {S : Ct} {Bs Hs : List Ct} (h : SyG K CC CS H0 H s S Bs Hs) (k : Same H H') : SyG K CC CS H0 H' s S Bs Hs :=
  let ⟨dx, c, b, h, bs, hs, Y, C, p1, p2, e1, e2, e3, e4, e5⟩ := h
  ⟨dx, c, b, h, bs, hs, ⟨k _ _ Y.i, k _ _ Y.b, k _ _ Y.h⟩, C.keep k, ctV_calm p1 (.of k), ctV_calm p2 (.of k), e1, e2, e3, e4, e5.trans k⟩
/-- a smaller ground -/
theorem SyG.under {K : PySem.W.Frag} {CC CS : Addr} {G H0 H : Hp} {s : Addr} {S : Ct} {Bs Hs : List Ct} (h : SyG K CC CS H0 H s S Bs Hs) (k : Same G H0) : SyG K CC CS G H s S Bs Hs := by
  obtain ⟨dx, c, b, h, bs, hs, Y, C, p1, p2, e1, e2, e3, e4, e5⟩ := h
  have no : ∀ q, H0 q = none → G q = none := fun q e => by
    cases z : G q with
    | none => rfl
    | some o => rw [k _ _ z] at e; cases e
  exact ⟨dx, c, b, h, bs, hs, Y, C, p1, p2, e1, no _ e2, no _ e3, no _ e4, k.trans e5⟩
/-- a dict that the ground doesn't know is changed -/
theorem SyG.but {K : PySem.W.Frag} {CC CS : Addr} {H0 H H' : Hp} {s t : Addr} {S : Ct} {Bs Hs : List Ct} {kvs : List (Key × V)} (h : SyG K CC CS H0 H s S Bs Hs) (ht : H t = some (.dK kvs)) (h0 : H0 t = none) (k : But t H H') : SyG K CC CS H0 H' s S Bs Hs := by
  obtain ⟨dx, c, b, h, bs, hs, Y, C, p1, p2, e1, e2, e3, e4, e5⟩ := h
  have cm : Calm CC H H' := .but ht k
  exact ⟨dx, c, b, h, bs, hs, ⟨k _ _ Y.i (ne_of Y.i ht (by intro z; cases z)), k _ _ Y.b (ne_of Y.b ht (by intro z; cases z)), k _ _ Y.h (ne_of Y.h ht (by intro z; cases z))⟩, C.calm cm, ctV_calm p1 cm, ctV_calm p2 cm, e1, e2, e3, e4,
    fun q o e => k _ _ (e5 _ _ e) fun z => by rw [z, h0] at e; cases e⟩
/-- all but the things at s, b, h -/
def hide3 (s b h : Addr) (H : Hp) : Hp := fun q => if q = s ∨ q = b ∨ q = h then none else H q
/-- told anew from the heap at which it stands -/
theorem SyG.anew {K : PySem.W.Frag} {CC CS : Addr} {H0 H : Hp} {s : Addr} {S : Ct} {Bs Hs : List Ct} (Y : SyG K CC CS H0 H s S Bs Hs) :
    ∃ B, SyG K CC CS B H s S Bs Hs ∧ Same B H ∧ Same H0 B ∧ ∀ q o, H q = some o → (∀ C d f, o ≠ .ins C d f) → (∀ xs, o ≠ .lst xs) → B q = some o := by
  obtain ⟨dx, c, b, h, bs, hs, Y, C, p1, p2, e1, e2, e3, e4, e5⟩ := Y
  have sm : Same (hide3 s b h H) H := fun q o z => by
    unfold hide3 at z
    split at z
    · cases z
    · exact z
  refine ⟨hide3 s b h H, ⟨dx, c, b, h, bs, hs, Y, C, p1, p2, e1, if_pos (.inl rfl), if_pos (.inr (.inl rfl)), if_pos (.inr (.inr rfl)), sm⟩, sm, fun q o z => ?_, fun q o z n1 n2 => ?_⟩
  · refine (if_neg fun y => ?_).trans (e5 _ _ z)
    rcases y with y | y | y
    · rw [y, e2] at z; cases z
    · rw [y, e3] at z; cases z
    · rw [y, e4] at z; cases z
  · refine (if_neg fun y => ?_).trans z
    rcases y with y | y | y
    · rw [y, Y.i] at z
      exact n1 _ _ _ (Option.some.inj z).symm
    · rw [y, Y.b] at z
      exact n2 _ (Option.some.inj z).symm
    · rw [y, Y.h] at z
      exact n2 _ (Option.some.inj z).symm
/-- .. with what is left of the law's tape behind a call -/
theorem SyG.call {K : PySem.W.Frag} {CC CS : Addr} {H0 H : Hp} {s t c : Addr} {cs : List Int} {p l : Int} {o : HO} {S : Ct} {Bs Hs : List Ct} (Y : SyG K CC CS H0 H s S Bs Hs) (T : Tape H t c cs p l) (hc : H0 c = some o) :
    ∃ B, SyG K CC CS B H s S Bs Hs ∧ Same B H ∧ ∀ H' S' Bs' Hs', SyG K CC CS B H' s S' Bs' Hs' → SyG K CC CS H0 H' s S' Bs' Hs' ∧ Tape H' t c cs p l := by
  obtain ⟨B, Y1, s1, s2, k⟩ := Y.anew
  refine ⟨B, Y1, s1, fun H' S' Bs' Hs' Y' => ⟨Y'.under s2, ?_, ?_, T.n, T.m, T.p0, T.l0⟩⟩
  · exact Y'.same _ _ (k _ _ T.d (fun _ _ _ z => by cases z) fun _ z => by cases z)
  · have e : B c = some (.lst (cs.map V.int)) := by
      have e1 := s2 _ _ hc
      have e2 := s1 _ _ e1
      rw [T.c] at e2
      rw [e1, ← e2]
    exact Y'.same _ _ e
/-- the changes behind one more call -/
def histG (Bs Hs : List Ct) (S : Ct) : List Ct := match Bs with
  | [] => Hs ++ [S]
  | _ => Hs
theorem pair_nil {α β : Type} {F : α → β → Prop} {l : List β} (h : Paired F [] l) : l = [] := by cases h; rfl
theorem pair_len {α β : Type} {F : α → β → Prop} {l : List α} {m : List β} (h : Paired F l m) : l.length = m.length := Paired.length h
/-- the System's own lists and fields are other things -/
theorem SgAt.ne {CS : Addr} {H : Hp} {s dx c b h : Addr} {bs hs : List V} (Y : SgAt CS H s dx c b h bs hs) : s ≠ b ∧ s ≠ h := ⟨ne_of Y.i Y.b (by intro z; cases z), ne_of Y.i Y.h (by intro z; cases z)⟩
/-- behind a step that changes s, b, h alone -/
theorem SyG.step {K : PySem.W.Frag} {CC CS : Addr} {H0 H H' : Hp} {s dx c b h c' : Addr} {bs hs bs' hs' : List V} {S' : Ct} {Bs' Hs' : List Ct} (Y : SgAt CS H s dx c b h bs hs) (o : Off [s, b, h] H H') (hne : h ≠ b) (e2 : H0 s = none) (e3 : H0 b = none) (e4 : H0 h = none) (e5 : Same H0 H)
    (Y' : SgAt CS H' s dx c' b h bs' hs') (C : CtIn K CC H c' S') (p1 : Paired (CtV K CC H) Bs' bs') (p2 : Paired (CtV K CC H) Hs' hs') : SyG K CC CS H0 H' s S' Bs' Hs' := by
  have cm : Calm CC H H' := .off Y o
  refine ⟨dx, c', b, h, bs', hs', Y', C.calm cm, ctV_calm p1 cm, ctV_calm p2 cm, hne, e2, e3, e4, Off.of e5 o fun q hq => ?_⟩
  rcases List.mem_cons.mp hq with z | z
  · rw [z]; exact e2
  · rcases List.mem_cons.mp z with z | z
    · rw [z]; exact e3
    · rw [List.mem_singleton.mp z]; exact e4
def spTakeG (K : PySem.W.Frag) (CC CS : Addr) : Sp := fun vs H Q _ => ∃ (s c' : Addr) (H0 : Hp) (S S' : Ct) (Bs Hs : List Ct), vs = [.ref s, .ref c'] ∧ SyG K CC CS H0 H s S Bs Hs ∧ CtIn K CC H c' S' ∧ Hs.length < 1000000 ∧ ∀ H', SyG K CC CS H0 H' s S' Bs (histG Bs Hs S) → Q .non H'
section
variable {P : Program} {w : World} {K : PySem.W.Frag} {mg : Str → Option Value} {base : Heap} {CC fCI CN fIN CS fSI fTk : Addr}
theorem ok_takeG {f : Addr} {fd : FuncData} (F : Fun K "_take" "System._take" sTake f fd) (T : SysT K mg CS fSI fTk) : FnOk P w K mg base CX0 1 f fd ["self", "contents"] (spTakeG K CC CS) := by
  refine F.ok scTk (fun vs H Q E h => ?_) (fun cdv A outer s H vs Q E hr h => ?_)
  · obtain ⟨s, c', H0, S, S', Bs, Hs, rfl, _⟩ := h
    rfl
  · obtain ⟨s, c', H0, S, S', Bs, Hs, rfl, ⟨dx, c, b, h, bs, hs, Y, C, p1, p2, hne, e2, e3, e4, e5⟩, C', hl, k⟩ := h
    refine ⟨_, pss_cons (ps_if (pt_not (pt_truth (pe_fld (pv 0) rfl) (by intro _; rfl))) (pss_one (ps_expr (pe_bm PySem.F.plainAttrs_list PySem.F.slot_list_append PySem.F.type_list_append mt_append (pe_fld (pv 0) rfl) (pa_cons (pe_fld (pv 0) rfl) pa_nil)))) pss_nil)
      (pss_one (ps_fld (pv 0) (pv 1) rfl)), ?_⟩
    obtain ⟨sb, sh⟩ := Y.ne
    have hlen := pair_len p2
    refine ⟨_, rfl, s, CS, dx, _, _, rfl, Y.i, T.cl, T.n2, syF_b _ _ _, _, .inl ⟨bs, SqL.of Y.b, rfl⟩, ?_⟩
    cases Bs with
    | nil =>
      obtain rfl := pair_nil p1
      refine iteT ?_
      refine ⟨_, rfl, s, CS, dx, _, _, rfl, Y.i, T.cl, T.n3, syF_h _ _ _, .inl ⟨rfl, _, SqL.of Y.h⟩, _, rfl, s, CS, dx, _, _, rfl, Y.i, T.cl, T.n1, syF_c _ _ _, h, hs, _, rfl, rfl, Y.h, by rw [sizeLine_eq]; omega, ?_⟩
      refine ⟨_, rfl, _, rfl, s, CS, dx, _, rfl, (upd_ne sh).trans Y.i, T.cl, T.n1, by rw [syF_len]; decide, ?_⟩
      rw [syF_put]
      refine k _ (SyG.step (bs' := []) (hs' := hs ++ [.ref c]) Y (fun q o e n => ?_) hne e2 e3 e4 e5 ⟨upd_same, ?_, ?_⟩ C' .nil (p2.snoc ⟨c, rfl, C⟩))
      · have n1 : q ≠ s := fun z => n (by rw [z]; exact List.mem_cons_self)
        have n2 : q ≠ h := fun z => n (by rw [z]; simp)
        rw [upd_ne n1, upd_ne n2]
        exact e
      · rw [upd_ne sb.symm, upd_ne hne.symm]
        exact Y.b
      · rw [upd_ne sh.symm, upd_same]
    | cons B Bs =>
      cases p1 with
      | cons q1 t1 =>
        refine iteF ?_
        refine ⟨_, rfl, _, rfl, s, CS, dx, _, rfl, Y.i, T.cl, T.n1, by rw [syF_len]; decide, ?_⟩
        rw [syF_put]
        refine k _ (SyG.step Y (fun q o e n => ?_) hne e2 e3 e4 e5 ⟨upd_same, ?_, ?_⟩ C' (.cons q1 t1) p2)
        · have n1 : q ≠ s := fun z => n (by rw [z]; exact List.mem_cons_self)
          rw [upd_ne n1]
          exact e
        · rw [upd_ne sb.symm]; exact Y.b
        · rw [upd_ne sh.symm]; exact Y.h
/-! ### begin, rollback -/
abbrev sBg : Stmt := inClass sSys 11
abbrev sRb : Stmt := inClass sSys 13
def spBg (K : PySem.W.Frag) (CC CS : Addr) : Sp := fun vs H Q _ => ∃ (s : Addr) (H0 : Hp) (S : Ct) (Bs Hs : List Ct), vs = [.ref s] ∧ SyG K CC CS H0 H s S Bs Hs ∧ Bs.length < 1000000 ∧ ∀ H', SyG K CC CS H0 H' s S (Bs ++ [S]) Hs → Q .non H'
theorem scBg : FnScope ["self"] ["self"] (defScope sBg) := ⟨rfl, rfl, rfl, by decide +kernel, rfl, by decide +kernel, by decide +kernel⟩
theorem ok_bg {f : Addr} {fd : FuncData} (F : Fun K "begin" "System.begin" sBg f fd) (T : SysT K mg CS fSI fTk) : FnOk P w K mg base CX0 1 f fd ["self"] (spBg K CC CS) := by
  refine F.ok scBg (fun vs H Q E h => ?_) (fun cdv A outer s H vs Q E hr h => ?_)
  · obtain ⟨s, H0, S, Bs, Hs, rfl, _⟩ := h
    rfl
  · obtain ⟨s, H0, S, Bs, Hs, rfl, ⟨dx, c, b, h, bs, hs, Y, C, p1, p2, hne, e2, e3, e4, e5⟩, hl, k⟩ := h
    refine ⟨_, pss_one (ps_expr (pe_bm PySem.F.plainAttrs_list PySem.F.slot_list_append PySem.F.type_list_append mt_append (pe_fld (pv 0) rfl) (pa_cons (pe_fld (pv 0) rfl) pa_nil))), ?_⟩
    obtain ⟨sb, sh⟩ := Y.ne
    have hlen := pair_len p1
    refine ⟨_, rfl, s, CS, dx, _, _, rfl, Y.i, T.cl, T.n2, syF_b _ _ _, .inl ⟨rfl, _, SqL.of Y.b⟩, _, rfl, s, CS, dx, _, _, rfl, Y.i, T.cl, T.n1, syF_c _ _ _, b, bs, _, rfl, rfl, Y.b, by rw [sizeLine_eq]; omega, ?_⟩
    refine k _ (SyG.step (bs' := bs ++ [.ref c]) (hs' := hs) Y (fun q o e n => ?_) hne e2 e3 e4 e5 ⟨?_, upd_same, ?_⟩ C (p1.snoc ⟨c, rfl, C⟩) p2)
    · have n1 : q ≠ b := fun z => n (by rw [z]; simp)
      rw [upd_ne n1]
      exact e
    · rw [upd_ne sb]; exact Y.i
    · rw [upd_ne hne]; exact Y.h
def spRb (K : PySem.W.Frag) (CC CS : Addr) : Sp := fun vs H Q _ => ∃ (s : Addr) (H0 : Hp) (S B : Ct) (Bs Hs : List Ct), vs = [.ref s] ∧ SyG K CC CS H0 H s S (Bs ++ [B]) Hs ∧ ∀ H', SyG K CC CS H0 H' s B Bs Hs → Q .non H'
theorem pair_last {α β : Type} {F : α → β → Prop} {x : α} : ∀ {l : List α} {m : List β}, Paired F (l ++ [x]) m → ∃ m' y, m = m' ++ [y] ∧ Paired F l m' ∧ F x y
  | [], _, h => by
    cases h with
    | cons q t => cases t; exact ⟨[], _, rfl, .nil, q⟩
  | a :: l, _, h => by
    cases h with
    | cons q t =>
      obtain ⟨m', y, rfl, p, z⟩ := pair_last (l := l) t
      exact ⟨_ :: m', y, rfl, .cons q p, z⟩
theorem scRb : FnScope ["self"] ["self"] (defScope sRb) := ⟨rfl, rfl, rfl, by decide +kernel, rfl, by decide +kernel, by decide +kernel⟩
theorem ok_rb {f : Addr} {fd : FuncData} (F : Fun K "rollback" "System.rollback" sRb f fd) (T : SysT K mg CS fSI fTk) : FnOk P w K mg base CX0 1 f fd ["self"] (spRb K CC CS) := by
  refine F.ok scRb (fun vs H Q E h => ?_) (fun cdv A outer s H vs Q E hr h => ?_)
  · obtain ⟨s, H0, S, B, Bs, Hs, rfl, _⟩ := h
    rfl
  · obtain ⟨s, H0, S, B, Bs, Hs, rfl, ⟨dx, c, b, h, bs, hs, Y, C, p1, p2, hne, e2, e3, e4, e5⟩, k⟩ := h
    refine ⟨_, pss_cons (ps_if (pt_not (pt_truth (pe_fld (pv 0) rfl) (by intro _; rfl))) (pss_one ps_never) pss_nil)
      (pss_one (ps_fld (pv 0) (pe_bm0 PySem.F.plainAttrs_list PySem.F.slot_list_pop PySem.F.type_list_pop mt_pop (pe_fld (pv 0) rfl)) rfl)), ?_⟩
    obtain ⟨sb, sh⟩ := Y.ne
    obtain ⟨bs', y, rfl, p1', ⟨c', rfl, C'⟩⟩ := pair_last p1
    refine ⟨_, rfl, s, CS, dx, _, _, rfl, Y.i, T.cl, T.n2, syF_b _ _ _, _, .inl ⟨_, SqL.of Y.b, rfl⟩, ?_⟩
    have e : (bs' ++ [V.ref c']).isEmpty = false := by cases bs' <;> rfl
    rw [e]
    refine iteF ?_
    refine ⟨_, rfl, s, CS, dx, _, _, rfl, Y.i, T.cl, T.n2, syF_b _ _ _, .inl ⟨rfl, _, SqL.of Y.b⟩, b, _, .ref c', rfl, rfl, Y.b, by simp, ?_⟩
    refine ⟨_, rfl, s, CS, dx, _, rfl, (upd_ne sb).trans Y.i, T.cl, T.n1, by rw [syF_len]; decide, ?_⟩
    rw [syF_put, List.dropLast_concat]
    refine k _ (SyG.step (bs' := bs') (hs' := hs) Y (fun q o e n => ?_) hne e2 e3 e4 e5 ⟨upd_same, ?_, ?_⟩ C' p1' p2)
    · have n1 : q ≠ s := fun z => n (by rw [z]; simp)
      have n2 : q ≠ b := fun z => n (by rw [z]; simp)
      rw [upd_ne n1, upd_ne n2]
      exact e
    · rw [upd_ne sb.symm, upd_same]
    · rw [upd_ne sh.symm, upd_ne hne]; exact Y.h
end
end Bo

set_option Elab.async false
set_option linter.all false
set_option maxRecDepth 100000
set_option maxHeartbeats 8000000
namespace Bo
open PySem L2
/-- System.__init__ -/
def spSInitG (K : PySem.W.Frag) (CC CS : Addr) : Sp := fun vs H Q _ => ∃ (s dx : Addr), vs = [.ref s] ∧ H s = some (.ins CS dx []) ∧ ∀ (c b h : Addr) (H' : Hp), (∀ q o, H q = some o → q ≠ s → H' q = some o) → h ≠ b → H b = none → H h = none → SgAt CS H' s dx c b h [] [] → CtIn K CC H' c ⟨[], [], []⟩ → Q .non H'
/-- System() -/
theorem sg_made {K : PySem.W.Frag} {CC CS : Addr} {H : Hp} {Q : VK} {E : XK} (k : ∀ (s : Addr) (H' : Hp), SyG K CC CS H H' s ⟨[], [], []⟩ [] [] → Q (.ref s) H') :
    ∀ x dx, H x = none → H dx = none → dx ≠ x → spSInitG K CC CS (.ref x :: ([] ++ [])) (upd (upd H dx (.own x)) x (.ins CS dx [])) (fun v H2 => v = .non ∧ Q (.ref x) H2) E :=
  fun x dx hx hd ne => ⟨x, dx, rfl, upd_same, fun c b h H' kk e1 e0 e2 Y C => ⟨rfl, k x H' ⟨dx, c, b, h, [], [], Y, C, .nil, .nil, e1, hx, (by
      cases q : H b with
      | none => rfl
      | some o =>
        rw [upd_ne (ne_of_none q hx), upd_ne (ne_of_none q hd), q] at e0
        cases e0), (by
      cases q : H h with
      | none => rfl
      | some o =>
        rw [upd_ne (ne_of_none q hx), upd_ne (ne_of_none q hd), q] at e2
        cases e2),
    fun q o e => kk q o (by rw [upd_ne (ne_of_none e hx), upd_ne (ne_of_none e hd)]; exact e) (ne_of_none e hx)⟩⟩⟩
section
variable {P : Program} {w : World} {K : PySem.W.Frag} {mg : Str → Option Value} {base : Heap} {CC fCI CN fIN CS fSI fTk : Addr}
theorem ok_sInitG {f : Addr} {fd fdCI : FuncData} (F : Fun K "__init__" "System.__init__" sSInit f fd) (T : SysT K mg CS fSI fTk) (TC : CtT K mg CC fCI) (GC : FnOk P w K mg base CX0 1 fCI fdCI ["self", "columns", "rows", "constants"] (spCtInit CC)) (bC : Binds K fdCI ["self", "columns", "rows", "constants"] []) :
    FnOk P w K mg base CX0 3 f fd ["self"] (spSInitG K CC CS) := by
  refine F.ok scSI (fun vs H Q E h => ?_) (fun cdv A outer s H vs Q E hr h => ?_)
  · obtain ⟨s, dx, rfl, _⟩ := h
    rfl
  · obtain ⟨s, dx, rfl, hs, k⟩ := h
    refine ⟨_, pss_cons (ps_fld (pv 0) (pe_make TC.mkC GC hr rfl TC.g bC .nil pass0 (pa_cons (pe_tup pa_nil) (pa_cons (pe_fz pe_dnewK) (pa_cons (pe_fz pe_dnewK) pa_nil)))) rfl)
      (pss_cons (ps_fld (pv 0) (pe_lst pa_nil) rfl) (pss_one (ps_fld (pv 0) (pe_lst pa_nil) rfl))), ?_⟩
    refine ⟨by decide, fun t ht d1 hd1 => ⟨d1, _, rfl, upd_same, True.intro, fun od1 => ?_⟩⟩
    rw [upd_upd]
    intro d2 hd2
    refine ⟨d2, _, rfl, upd_same, True.intro, fun od2 => ?_⟩
    rw [upd_upd]
    have s1 : Same H (upd H t (.tup [])) := same_new ht
    have s2 := same_new (o := .frz od1 (.dK [])) hd1
    have s3 := same_new (o := .frz od2 (.dK [])) hd2
    intro x0 dx0 h0 h1 h2
    refine ⟨x0, dx0, t, d1, d2, rfl, upd_same, fun H4 kk hc => ⟨rfl, ?_⟩⟩
    have s4 : Same (upd (upd (upd H t (.tup [])) d1 (.frz od1 (.dK []))) d2 (.frz od2 (.dK []))) H4 := fun b o q => kk b o (by rw [upd_ne (ne_of_none q h0), upd_ne (ne_of_none q h1)]; exact q) (ne_of_none q h0)
    have e0 : H4 s = some (.ins CS dx []) := s4 _ _ (s3 _ _ (s2 _ _ (s1 _ _ hs)))
    refine ⟨_, rfl, s, CS, dx, [], rfl, e0, T.cl, T.n1, by decide, ?_⟩
    have C0 : CtAt K CC H4 x0 ⟨[], [], []⟩ dx0 t d1 d2 [] := ⟨hc, SqT.of (s4 _ _ (s3 _ _ (s2 _ _ upd_same))), ⟨od1, s4 _ _ (s3 _ _ upd_same)⟩, .nil, ⟨od2, s4 _ _ upd_same⟩⟩
    refine ⟨by decide, fun b hb => ⟨_, rfl, s, CS, dx, (putF "_contents" (.ref x0) []), rfl, ?_, T.cl, T.n2, by have := putF_len "_contents" (.ref x0) []; simp only [List.length_nil] at this; omega, ?_⟩⟩
    · have sb : s ≠ b := fun z => by rw [← z, upd_same] at hb; cases hb
      rw [upd_ne sb, upd_same]
    refine ⟨by decide, fun h hh => ⟨_, rfl, s, CS, dx, (putF "_begun" (.ref b) (putF "_contents" (.ref x0) [])), rfl, ?_, T.cl, T.n3, by have := putF_len "_contents" (.ref x0) []; have := putF_len "_begun" (.ref b) (putF "_contents" (.ref x0) []); simp only [List.length_nil] at *; omega, ?_⟩⟩
    · have sh : s ≠ h := fun z => by rw [← z, upd_same] at hh; cases hh
      rw [upd_ne sh, upd_same]
    have sb : b ≠ s := fun z => by rw [z, upd_same] at hb; cases hb
    have sh : h ≠ s := fun z => by rw [z, upd_same] at hh; cases hh
    have bh : h ≠ b := fun z => by rw [z, upd_ne sb, upd_same] at hh; cases hh
    have hbn : H4 b = none := by rw [upd_ne sb] at hb; exact hb
    have hhn : H4 h = none := by rw [upd_ne sh, upd_ne bh, upd_ne sh] at hh; exact hh
    have all : ∀ q o, H4 q = some o → q ≠ s → (upd (upd (upd (upd (upd H4 s (.ins CS dx (putF "_contents" (.ref x0) []))) b (.lst [])) s (.ins CS dx (putF "_begun" (.ref b) (putF "_contents" (.ref x0) [])))) h (.lst [])) s (.ins CS dx (syF x0 b h))) q = some o := fun q o e n => by
      rw [upd_ne n, upd_ne (ne_of_none e hhn), upd_ne n, upd_ne (ne_of_none e hbn), upd_ne n]
      exact e
    have c_s : ∀ q o, H4 q = some o → (∀ fs, o ≠ .ins CS dx fs) → q ≠ s := fun q o e n z => by
      rw [z, e0] at e
      exact n _ (Option.some.inj e).symm
    have free : ∀ q, H4 q = none → H q = none := fun q hq => by
      cases e : H q with
      | none => rfl
      | some o => rw [s4 _ _ (s3 _ _ (s2 _ _ (s1 _ _ e)))] at hq; cases hq
    refine k x0 b h _ (fun q o e n => all q o (s4 _ _ (s3 _ _ (s2 _ _ (s1 _ _ e)))) n) bh (free _ hbn) (free _ hhn) ⟨upd_same, ?_, ?_⟩ ⟨dx0, t, d1, d2, [], ?_, ?_, ?_, .nil, ?_⟩
    · rw [upd_ne sb, upd_ne bh.symm, upd_ne sb, upd_same]
    · rw [upd_ne sh, upd_same]
    · refine all _ _ hc fun z => ?_
      rw [z, e0] at hc
      injection hc with hc
      injection hc with _ _ hc
      have l1 := ctF_c t d1 d2
      rw [← hc] at l1
      cases l1
    · exact SqT.of (all _ _ (s4 _ _ (s3 _ _ (s2 _ _ upd_same))) (c_s _ _ (s4 _ _ (s3 _ _ (s2 _ _ upd_same))) fun _ z => by cases z))
    · exact ⟨od1, all _ _ (s4 _ _ (s3 _ _ upd_same)) (c_s _ _ (s4 _ _ (s3 _ _ upd_same)) fun _ z => by cases z)⟩
    · exact ⟨od2, all _ _ (s4 _ _ upd_same) (c_s _ _ (s4 _ _ upd_same) fun _ z => by cases z)⟩
/-! ### editing methods that find what they ask -/
theorem passN {X : Cx} : Passes (L2.CX X.prog X.w) X E0 := fun _ _ _ _ _ _ _ ⟨_, _, _, _, _, _, _, _, _, _, _, _, he⟩ => he.elim
theorem flat_txt {K : PySem.W.Frag} {H : Hp} (y : Str) : Flat K H (.str y) (.str y) := .atom (v := .str y) rfl
theorem name_len8 {y : Str} (h : nameOk y = true) : y.length ≤ 8 := by
  unfold nameOk at h
  rw [Bool.and_eq_true, Bool.and_eq_true] at h
  have := of_decide_eq_true h.2.1
  rw [show y.length = y.cps.toList.length from (Array.length_toList (xs := y.cps)).symm]
  exact this
theorem cxUp0 : StX.CXUp CX0 := fun _ _ _ _ _ _ _ _ _ _ _ z => z
theorem name_len {y : Str} (h : nameOk y = true) : y.length ≤ 1000 := Nat.le_trans (name_len8 h) (by decide)
def spAUG (K : PySem.W.Frag) (CC CS : Addr) : Sp := fun vs H Q _ => ∃ (s : Addr) (H0 : Hp) (S : Ct) (Bs Hs : List Ct) (ys : List Str), vs = .ref s :: ys.map V.str ∧ SyG K CC CS H0 H s S Bs Hs ∧ Hs.length < 1000000 ∧ (∀ y ∈ ys, nameOk y = true) ∧ (ys ++ S.cols).Nodup ∧ (ys ++ S.cols).length ≤ 24 ∧
  ∀ (H' : Hp) (zs : List Str), zs.Perm (ys ++ S.cols) → PyProof.Rows.sortedS zs = true → SyG K CC CS H0 H' s { S with cols := zs } Bs (histG Bs Hs S) → Q .non H'
def spAUGt (K : PySem.W.Frag) (CC CS : Addr) : Sp := fun vs H Q E => ∃ (s n : Addr) (xs : List V), vs = [.ref s, .ref n] ∧ H n = some (.tup xs) ∧ spAUG K CC CS (.ref s :: xs) H Q E
theorem ok_auG {f fW : Addr} {fd fdW fdTk : FuncData} (F : Fun K "add_unknown" "System.add_unknown" sAU f fd) (T : SysT K mg CS fSI fTk) (TC : CtT K mg CC fCI)
    (GT : FnOk P w K mg base CX0 1 fTk fdTk ["self", "contents"] (spTakeG K CC CS)) (bT : Binds K fdTk ["self", "contents"] [])
    (GW : FnOk P w K mg base (L2.CX P w) 5 fW fdW ["contents", "names"] (spWU K CC CN)) (mW : mg "with_unknowns" = some (.ref fW)) (kW : PySem.W.keepIn K (.ref fW) = true) (bW : Binds K fdW ["contents", "names"] []) :
    FnR P w K mg base CX0 6 f (spAUG K CC CS) := by
  obtain ⟨oc, od, kV, doc, pm, an, cdv, ct, osl, rfl, lk, hcd⟩ := F.ex
  have R : FnR P w K mg base CX0 6 f (fun vs H Q E => ∃ ws rest, vs = ws ++ rest ∧ ws.length = (["self"] : List Str).length ∧ rest.length ≤ sizeLine ∧ ∀ p, H p = none → spAUGt K CC CS (ws ++ [V.ref p]) (upd H p (.tup rest)) Q E) := by
    refine StX.fn_star lk hcd scAU cxUp0 (StX.bind_star1 (B := fun vs => bindArgs _ ⟨vs, []⟩) (fun _ => rfl) (fun _ _ _ => rfl)) (fun A outer s H vs Q E hr h => ?_)
    obtain ⟨s, n, xs, rfl, hn, h⟩ := h
    obtain ⟨s', H0, S, Bs, Hs, ys, e, Y, hm, hok, hnd, hle, k⟩ := h
    cases e
    have hr1 : Room 1 _ := hr.mono (by decide)
    refine ⟨_, pss_one (ps_expr (pe_meth (pv 0) T.cl T.tk GT hr1 bT .nil pass0 (pa_cons (pe_call GW hr rfl mW kW bW .nil passN (pa_cons (pe_fld (pv 0) rfl) (pa_cons (pv 1) pa_nil))) pa_nil))), ?_⟩
    obtain ⟨dx, c, b, h, bs, hs, A0, C, rest⟩ := id Y
    refine ⟨_, rfl, s, dx, _, rfl, A0.i, syF_no _ _ _ (by decide +kernel) (by decide +kernel) (by decide +kernel), _, rfl, s, CS, dx, _, _, rfl, A0.i, T.cl, T.n1, syF_c _ _ _, _, rfl, ?_⟩
    have l1 : (ys ++ S.cols).length = ys.length + S.cols.length := List.length_append
    refine ⟨c, n, S, ys.map V.str, rfl, C, SqT.of hn, by rw [List.length_map]; omega, by omega, fun x hx => ?_, fun z hz => ?_, .inr ⟨ys, rfl, hok, hnd, hle, fun a H1 zs sm q1 q2 C1 => ?_⟩⟩
    · obtain ⟨y, _, rfl⟩ := List.mem_map.mp hx
      exact ⟨_, flat_txt y⟩
    · obtain ⟨y, hy, e⟩ := List.mem_map.mp hz
      cases e
      exact name_len (hok _ hy)
    · exact ⟨s, a, H0, S, { S with cols := zs }, Bs, Hs, rfl, Y.keep sm, C1, hm, fun H2 Y2 => k H2 zs q1 q2 Y2⟩
  refine R.imp fun vs H Q E h => ?_
  obtain ⟨s, H0, S, Bs, Hs, ys, rfl, Y, hm, hok, hnd, hle, k⟩ := id h
  have l1 : (ys ++ S.cols).length = ys.length + S.cols.length := List.length_append
  refine ⟨[.ref s], ys.map V.str, rfl, rfl, by rw [List.length_map, sizeLine_eq]; omega, fun p hp => ⟨s, p, ys.map V.str, rfl, upd_same, s, H0, S, Bs, Hs, ys, rfl, Y.keep (same_new hp), hm, hok, hnd, hle, k⟩⟩
def spAEG (K : PySem.W.Frag) (CC CS : Addr) : Sp := fun vs H Q _ => ∃ (s : Addr) (H0 : Hp) (S : Ct) (Bs Hs : List Ct) (y : Str), vs = [.ref s, .str y] ∧ SyG K CC CS H0 H s S Bs Hs ∧ Hs.length < 1000000 ∧ nameOk y = true ∧ y ∉ S.rows.map (·.1) ∧ y ∉ S.cons.map (·.1) ∧ S.rows.length < 24 ∧ S.cons.length < 24 ∧
  ∀ (H' : Hp), SyG K CC CS H0 H' s { S with rows := S.rows ++ [(y, [])], cons := S.cons ++ [(y, 0)] } Bs (histG Bs Hs S) → Q .non H'
def spAEGt (K : PySem.W.Frag) (CC CS : Addr) : Sp := fun vs H Q E => ∃ (s n : Addr) (v : V), vs = [.ref s, v, .ref n] ∧ H n = some (.tup []) ∧ spAEG K CC CS [.ref s, v] H Q E
theorem ok_aeG {f fW : Addr} {fd fdW fdTk : FuncData} (F : Fun K "add_equation" "System.add_equation" sAE f fd) (T : SysT K mg CS fSI fTk) (TC : CtT K mg CC fCI)
    (GT : FnOk P w K mg base CX0 1 fTk fdTk ["self", "contents"] (spTakeG K CC CS)) (bT : Binds K fdTk ["self", "contents"] [])
    (GW : FnOk P w K mg base (L2.CX P w) 6 fW fdW ["contents", "name", "unknowns"] (spWE K CC CN)) (mW : mg "with_equation" = some (.ref fW)) (kW : PySem.W.keepIn K (.ref fW) = true) (bW : Binds K fdW ["contents", "name", "unknowns"] []) :
    FnR P w K mg base CX0 7 f (spAEG K CC CS) := by
  obtain ⟨oc, od, kV, doc, pm, an, cdv, ct, osl, rfl, lk, hcd⟩ := F.ex
  have R : FnR P w K mg base CX0 7 f (fun vs H Q E => ∃ ws rest, vs = ws ++ rest ∧ ws.length = (["self", "name"] : List Str).length ∧ rest.length ≤ sizeLine ∧ ∀ p, H p = none → spAEGt K CC CS (ws ++ [V.ref p]) (upd H p (.tup rest)) Q E) := by
    refine StX.fn_star lk hcd scAE cxUp0 (StX.bind_star2 (B := fun vs => bindArgs _ ⟨vs, []⟩) (fun _ _ => rfl) (fun _ _ _ _ => rfl)) (fun A outer s H vs Q E hr h => ?_)
    obtain ⟨s, n, v, rfl, hn, h⟩ := h
    obtain ⟨s', H0, S, Bs, Hs, y, e, Y, hm, hok, hy1, hy2, l1, l2, k⟩ := h
    cases e
    have hr1 : Room 1 _ := hr.mono (by decide)
    refine ⟨_, pss_one (ps_expr (pe_meth (pv 0) T.cl T.tk GT hr1 bT .nil pass0 (pa_cons (pe_call GW hr rfl mW kW bW .nil passN (pa_cons (pe_fld (pv 0) rfl) (pa_cons (pv 1) (pa_cons (pv 2) pa_nil)))) pa_nil))), ?_⟩
    obtain ⟨dx, c, b, h, bs, hs, A0, C, rest⟩ := id Y
    refine ⟨_, rfl, s, dx, _, rfl, A0.i, syF_no _ _ _ (by decide +kernel) (by decide +kernel) (by decide +kernel), _, rfl, s, CS, dx, _, _, rfl, A0.i, T.cl, T.n1, syF_c _ _ _, _, rfl, _, rfl, ?_⟩
    refine ⟨c, n, S, .str y, .str y, rfl, C, SqT.of hn, flat_txt y, fun z e => by cases e; exact name_len hok, .inr ⟨y, rfl, hok, hy1, hy2, l1, l2, fun a H1 sm C1 => ?_⟩⟩
    exact ⟨s, a, H0, S, _, Bs, Hs, rfl, Y.keep sm, C1, hm, fun H2 Y2 => k H2 Y2⟩
  refine R.imp fun vs H Q E h => ?_
  obtain ⟨s, H0, S, Bs, Hs, y, rfl, Y, rest⟩ := id h
  exact ⟨[.ref s, .str y], [], rfl, rfl, Nat.zero_le _, fun p hp => ⟨s, p, .str y, rfl, upd_same, s, H0, S, Bs, Hs, y, rfl, Y.keep (same_new hp), rest⟩⟩
end
end Bo

set_option Elab.async false
set_option linter.all false
set_option maxRecDepth 100000
set_option maxHeartbeats 4000000
/-! errors without fields; o.m(k = v, ..) -/
namespace Bo
open PySem PySem.Spec PyProof.Rows L2
theorem pmk_own0 {X : Cx} {C : Addr} {bmB : List Value} {B newId initId : String} {x : Str} {p pos : Pos} (F : ExcBaseFacts B newId initId bmB) (q : PySem.W.excIn X.K C bmB newId = true) (gC : X.mg x = some (.ref C))
    (kC : PySem.W.keepIn X.K (.ref C) = true) (r : Raises X (.ref C)) (hg : Gl X x) (hdb : (x == ("__debug__" : Str)) = false := by decide) :
    PMk X (.Call (.Name x p) [] [] pos) (fun _ H Q => Q (.ref C) none H) := by
  intro pins s σ H Q I h
  refine wpAny_Call_Name_kw (ld_glob I hg gC ?_ hdb)
  refine PySem.W.callWith_K0 I.kIn kC ?_
  show wpAny _ _ (call (.ref C) []) _ _ _
  obtain ⟨bm, N, nm, qn, bs, hdct, sn, sub, ab, col, dd, k0, k1, k2, k3, k5, mN, hC, hN, hni, T⟩ := exc_obj I.kIn q
  refine wpAny_call_exc_subT F T hC hN hni (fun h' e hm => ?_) (Nat.zero_le _)
  exact mk_of I hm r h (I.hok.gone hm.new)
/-- what the written part says of an error class without fields -/
structure BareC (K : PySem.W.Frag) (mg : Str → Option Value) (x : Str) (C : Addr) : Prop where
  q : PySem.W.excIn K C [.type "ValueError", .type "Exception", .type "BaseException", .type "object"] "ValueError.__new__" = true
  g : mg x = some (.ref C)
  k : PySem.W.keepIn K (.ref C) = true
  b : PySem.W.subIn K (.ref C) (.type "BaseException") = some true
  t : PySem.W.typeIn K (.ref C) = some (.type "type")
section
variable {X : Cx} {CX : CXT} {k n : Nat} {C f : Addr} {fd : FuncData} {ps ks : List Str} {sp : Sp} {E : XK} {o : Expr} {m : Str} {pos apos : Pos} {ta : TE} {tk : TA} {kws : List Keyword} {g : List Value → List Value → List Value} {gV : List V → List V → List V}
/-- o.m(k = v, ..), no value without its name -/
def tMethN (C : Addr) (m : Str) (n : Nat) (sp : Sp) (gV : List V → List V → List V) (E : XK) (ta : TE) (tk : TA) : TE := fun σ H Q => ta σ H fun x H1 => ∃ a dx fs, x = .ref a ∧ H1 a = some (.ins C dx fs) ∧ fs.lookup m = none ∧ tk σ H1 fun zs H2 => zs.length = n ∧ sp (gV [x] zs) H2 Q E
theorem pe_methN {pl : Sem Bool} (he : PE X o ta) (c : Cls X.K C) (hm : Meth X.K C m f) (F : FnOk X.prog X.w X.K X.mg X.base CX k f fd ps sp) (hr : Room k X.A) (hb : KBn X.K fd ps 1 ks g gV) (hx : Passes CX X E) (hkw : PK X kws tk)
    (hall : (backToKw pos (keywordEach kws X.env)).all (·.1.isSome) = true := by rfl) (hks : (backToKw pos (keywordEach kws X.env)).filterMap (·.1) = ks := by rfl)
    (hpl : ((backTo pos (starEach [] X.env)).any (·.1) || (backToKw pos (keywordEach kws X.env)).any (·.1.isNone)) = false := by rfl)
    (ht : eval (.Call (.Attribute o m apos) [] kws pos) X.env = (do
      let owner ← eval o X.env
      standAt apos.atName
      let (callee, front) ← holding [owner] (getMethod owner m pl)
      callWith pos callee front (backTo pos (starEach [] X.env)) (backToKw pos (keywordEach kws X.env))) := by rfl) :
    PE X (.Call (.Attribute o m apos) [] kws pos) (tMethN C m ks.length sp gV E ta tk) := by
  refine ⟨fun pins s σ H Q I h => PySem.W.methodCall_KW (pl := pl) (thn (he.run pins s σ H _ I h) fun u s1 ⟨x, H1, I1, rx, a, dx, fs, ex, ea, l, q⟩ => ?_) ht⟩
  subst ex
  obtain rfl : u = Value.ref a := rx
  refine getmeth_ok I1 ea c hm l ?_
  refine PySem.W.callWith_KW0 (first := [.ref a]) (h₀ := X.base) I.ok.mod.kin hm.kp hall (thn (hkw.run pos pins s1 σ H1 _ I1 q) fun ws s2 ⟨zs, H2, I2, rz, l2, q2⟩ => ⟨I2.kIn, ?_⟩) hpl
  rw [hks]
  exact run_fnN (us := [.ref a]) (vs := [.ref a]) F hr hb hx I2 (.cons rfl .nil) rz rfl l2 q2
end
/-! ### commit, rollback, undo; what a system tells -/
abbrev sCm : Stmt := inClass sSys 12
abbrev sUndo : Stmt := inClass sSys 15
abbrev sDep : Stmt := inClass sSys 19
def spCm (K : PySem.W.Frag) (CC CS cN : Addr) : Sp := fun vs H Q E => ∃ (s : Addr) (H0 : Hp) (S : Ct) (Bs Hs : List Ct), vs = [.ref s] ∧ SyG K CC CS H0 H s S Bs Hs ∧ Hs.length < 1000000 ∧
  ((Bs = [] ∧ E (.ref cN) none H) ∨ ∃ Bs' B, Bs = Bs' ++ [B] ∧ ∀ H', SyG K CC CS H0 H' s S Bs' (histG Bs' Hs B) → Q .non H')
def spRbX (K : PySem.W.Frag) (CC CS cN : Addr) : Sp := fun vs H Q E => ∃ (s : Addr) (H0 : Hp) (S : Ct) (Bs Hs : List Ct), vs = [.ref s] ∧ SyG K CC CS H0 H s S Bs Hs ∧
  ((Bs = [] ∧ E (.ref cN) none H) ∨ ∃ Bs' B, Bs = Bs' ++ [B] ∧ ∀ H', SyG K CC CS H0 H' s B Bs' Hs → Q .non H')
def spUndo (K : PySem.W.Frag) (CC CS cO cU : Addr) : Sp := fun vs H Q E => ∃ (s : Addr) (n : Int) (H0 : Hp) (S : Ct) (Bs Hs : List Ct), vs = [.ref s, .int n] ∧ SyG K CC CS H0 H s S Bs Hs ∧ Hs.length < 1000000 ∧
  ((Bs ≠ [] ∧ E (.ref cO) none H) ∨ (Bs = [] ∧ (Hs.length : Int) < n ∧ E (.ref cU) none H) ∨
   (Bs = [] ∧ ∃ (k : Nat) (B : Ct), Hs[k]? = some B ∧ n = (Hs.length : Int) - k ∧ ∀ H', SyG K CC CS H0 H' s B [] (Hs.take k) → Q .non H'))
theorem syF_putH (c b h h' : Addr) : putF "_history" (.ref h') (syF c b h) = syF c b h' := by
  have e1 : ¬ (("_contents" : Str) = "_history") := by decide +kernel
  have e2 : ¬ (("_begun" : Str) = "_history") := by decide +kernel
  rw [syF_eq, syF_eq]
  show (if ("_contents" : Str) = "_history" then _ else _) = _
  rw [if_neg e1]
  show _ :: (if ("_begun" : Str) = "_history" then _ else _) = _
  rw [if_neg e2]
  show _ :: _ :: (if ("_history" : Str) = "_history" then _ else _) = _
  rw [if_pos rfl]
theorem pair_get {α β : Type} {F : α → β → Prop} : ∀ {l : List α} {m : List β} {i : Nat} {a : α}, Paired F l m → l[i]? = some a → ∃ b, m[i]? = some b ∧ F a b
  | _, _, i, a, .nil, h => by simp at h
  | _, _, 0, a, .cons (b := b) q t, h => by
    simp at h
    subst h
    exact ⟨b, by simp, q⟩
  | _, _, i + 1, a, .cons q t, h => by
    obtain ⟨b, h1, h2⟩ := pair_get t (by simpa using h)
    exact ⟨b, by simpa using h1, h2⟩
theorem pair_take {α β : Type} {F : α → β → Prop} : ∀ {l : List α} {m : List β} (k : Nat), Paired F l m → Paired F (l.take k) (m.take k)
  | _, _, 0, _ => by rw [List.take_zero, List.take_zero]; exact .nil
  | _, _, k + 1, .nil => by rw [List.take_nil, List.take_nil]; exact .nil
  | _, _, k + 1, .cons q t => by
    rw [List.take_succ_cons, List.take_succ_cons]
    exact .cons q (pair_take k t)
/-- what reading asks of a System -/
structure Sv (K : PySem.W.Frag) (CC CS : Addr) (H : Hp) (s : Addr) (S : Ct) (n : Nat) : Prop where
  ex : ∃ dx c b h bs, H s = some (.ins CS dx (syF c b h)) ∧ H b = some (.lst bs) ∧ bs.length = n ∧ CtIn K CC H c S
theorem Sv.keep {K : PySem.W.Frag} {CC CS : Addr} {H H' : Hp} {s : Addr} {S : Ct} {n : Nat} (h : Sv K CC CS H s S n) (k : Same H H') : Sv K CC CS H' s S n :=
  let ⟨dx, c, b, h, bs, e1, e2, e3, e4⟩ := h.ex; ⟨dx, c, b, h, bs, k _ _ e1, k _ _ e2, e3, e4.keep k⟩
theorem SyG.sv {K : PySem.W.Frag} {CC CS : Addr} {H0 H : Hp} {s : Addr} {S : Ct} {Bs Hs : List Ct} (Y : SyG K CC CS H0 H s S Bs Hs) : Sv K CC CS H s S Bs.length :=
  let ⟨dx, c, b, h, bs, hs, Y, C, p1, _⟩ := Y; ⟨dx, c, b, h, bs, Y.i, Y.b, (pair_len p1).symm, C⟩
def spEqsV (K : PySem.W.Frag) (CC CS : Addr) : Sp := fun vs H Q _ => ∃ (s : Addr) (S : Ct) (n : Nat), vs = [.ref s] ∧ Sv K CC CS H s S n ∧ S.rows.length < 64 ∧ ∀ (t : Addr) (H' : Hp), Same H H' → SqT K H' t ((srt (S.rows.map (·.1))).map V.str) → Q (.ref t) H'
def spUnsV (K : PySem.W.Frag) (CC CS : Addr) : Sp := fun vs H Q _ => ∃ (s : Addr) (S : Ct) (n : Nat), vs = [.ref s] ∧ Sv K CC CS H s S n ∧ ∀ (t : Addr), SqT K H t (S.cols.map V.str) → Q (.ref t) H
def spEnsV (K : PySem.W.Frag) (CC CS : Addr) : Sp := fun vs H Q _ => ∃ (s : Addr) (S : Ct) (n : Nat), vs = [.ref s] ∧ Sv K CC CS H s S n ∧ (∀ p ∈ S.rows, p.2 = []) ∧ ∀ (t : Addr) (H' : Hp), Same H H' → SqT K H' t [] → Q (.ref t) H'
def spDepV (K : PySem.W.Frag) (CC CS : Addr) : Sp := fun vs H Q _ => ∃ (s : Addr) (S : Ct) (n : Nat), vs = [.ref s] ∧ Sv K CC CS H s S n ∧ Q (.int n) H
section
variable {P : Program} {w : World} {K : PySem.W.Frag} {mg : Str → Option Value} {base : Heap} {CC fCI CN fIN CS fSI fTk cN cO cU : Addr}
theorem scCm : FnScope ["self", "before"] ["self"] (defScope sCm) := ⟨rfl, rfl, rfl, by decide +kernel, rfl, by decide +kernel, by decide +kernel⟩
theorem ok_cm {f : Addr} {fd : FuncData} (F : Fun K "commit" "System.commit" sCm f fd) (T : SysT K mg CS fSI fTk) (TN : BareC K mg "NoTransaction" cN) : FnOk P w K mg base (L2.CX P w) 1 f fd ["self"] (spCm K CC CS cN) := by
  refine F.okX scCm (fun vs H Q E h => ?_) (fun cdv A outer s H vs Q E hr h => ?_)
  · obtain ⟨s, H0, S, Bs, Hs, rfl, _⟩ := h
    rfl
  · obtain ⟨s, H0, S, Bs, Hs, rfl, ⟨dx, c, b, h, bs, hs, Y, C, p1, p2, hne, e2, e3, e4, e5⟩, hl, alt⟩ := h
    refine ⟨_, pss_cons (ps_if (pt_not (pt_truth (pe_fld (pv 0) rfl) (by intro _; rfl))) (pss_one (ps_raise rfl (takes_of rfl rfl rfl rfl) (pmk_own0 PySem.F.excBase_ValueError TN.q TN.g TN.k (raises_own TN.b TN.t) rfl))) pss_nil)
      (pss_cons (ps_set (i := 1) scCm.nd rfl (.inl rfl) (pe_bm0 PySem.F.plainAttrs_list PySem.F.slot_list_pop PySem.F.type_list_pop mt_pop (pe_fld (pv 0) rfl)))
      (pss_one (ps_if (pt_not (pt_truth (pe_fld (pv 0) rfl) (by intro _; rfl))) (pss_one (ps_expr (pe_bm PySem.F.plainAttrs_list PySem.F.slot_list_append PySem.F.type_list_append mt_append (pe_fld (pv 0) rfl) (pa_cons (pv 1) pa_nil)))) pss_nil))), ?_⟩
    obtain ⟨sb, sh⟩ := Y.ne
    refine ⟨_, rfl, s, CS, dx, _, _, rfl, Y.i, T.cl, T.n2, syF_b _ _ _, _, .inl ⟨_, SqL.of Y.b, rfl⟩, ?_⟩
    rcases alt with ⟨rfl, he⟩ | ⟨Bs', B, rfl, k⟩
    · obtain rfl := pair_nil p1
      exact iteT he
    obtain ⟨bs', y, rfl, p1', ⟨c', rfl, C'⟩⟩ := pair_last p1
    have e : (bs' ++ [V.ref c']).isEmpty = false := by cases bs' <;> rfl
    rw [e]
    refine iteF ?_
    refine ⟨_, rfl, s, CS, dx, _, _, rfl, Y.i, T.cl, T.n2, syF_b _ _ _, .inl ⟨rfl, _, SqL.of Y.b⟩, b, _, .ref c', rfl, rfl, Y.b, by simp, ?_⟩
    rw [List.dropLast_concat]
    have bh : b ≠ h := hne.symm
    have Yi : (upd H b (.lst bs')) s = some (.ins CS dx (syF c b h)) := (upd_ne sb).trans Y.i
    have Yh : (upd H b (.lst bs')) h = some (.lst hs) := (upd_ne hne).trans Y.h
    refine ⟨_, rfl, s, CS, dx, _, _, rfl, Yi, T.cl, T.n2, syF_b _ _ _, _, .inl ⟨_, SqL.of upd_same, rfl⟩, ?_⟩
    have hlen := pair_len p2
    cases Bs' with
    | nil =>
      obtain rfl := pair_nil p1'
      refine iteT ⟨_, rfl, s, CS, dx, _, _, rfl, Yi, T.cl, T.n3, syF_h _ _ _, .inl ⟨rfl, _, SqL.of Yh⟩, _, rfl, h, hs, _, rfl, rfl, Yh, by rw [sizeLine_eq]; omega, ?_⟩
      refine k _ (SyG.step (bs' := []) (hs' := hs ++ [.ref c']) Y (fun q o e n => ?_) hne e2 e3 e4 e5 ⟨(upd_ne sh).trans Yi, ?_, upd_same⟩ C .nil (p2.snoc ⟨c', rfl, C'⟩))
      · have n1 : q ≠ b := fun z => n (by rw [z]; simp)
        have n2 : q ≠ h := fun z => n (by rw [z]; simp)
        rw [upd_ne n2, upd_ne n1]
        exact e
      · rw [upd_ne bh]; exact upd_same
    | cons B' Bs' =>
      cases p1' with
      | cons q1 t1 =>
        refine iteF ?_
        refine k _ (SyG.step (hs' := hs) Y (fun q o e n => ?_) hne e2 e3 e4 e5 ⟨Yi, upd_same, Yh⟩ C (.cons q1 t1) p2)
        have n1 : q ≠ b := fun z => n (by rw [z]; simp)
        rw [upd_ne n1]
        exact e
theorem ok_rbX {f : Addr} {fd : FuncData} (F : Fun K "rollback" "System.rollback" sRb f fd) (T : SysT K mg CS fSI fTk) (TN : BareC K mg "NoTransaction" cN) : FnOk P w K mg base (L2.CX P w) 1 f fd ["self"] (spRbX K CC CS cN) := by
  refine F.okX scRb (fun vs H Q E h => ?_) (fun cdv A outer s H vs Q E hr h => ?_)
  · obtain ⟨s, H0, S, Bs, Hs, rfl, _⟩ := h
    rfl
  · obtain ⟨s, H0, S, Bs, Hs, rfl, ⟨dx, c, b, h, bs, hs, Y, C, p1, p2, hne, e2, e3, e4, e5⟩, alt⟩ := h
    refine ⟨_, pss_cons (ps_if (pt_not (pt_truth (pe_fld (pv 0) rfl) (by intro _; rfl))) (pss_one (ps_raise rfl (takes_of rfl rfl rfl rfl) (pmk_own0 PySem.F.excBase_ValueError TN.q TN.g TN.k (raises_own TN.b TN.t) rfl))) pss_nil)
      (pss_one (ps_fld (pv 0) (pe_bm0 PySem.F.plainAttrs_list PySem.F.slot_list_pop PySem.F.type_list_pop mt_pop (pe_fld (pv 0) rfl)) rfl)), ?_⟩
    obtain ⟨sb, sh⟩ := Y.ne
    refine ⟨_, rfl, s, CS, dx, _, _, rfl, Y.i, T.cl, T.n2, syF_b _ _ _, _, .inl ⟨_, SqL.of Y.b, rfl⟩, ?_⟩
    rcases alt with ⟨rfl, he⟩ | ⟨Bs', B, rfl, k⟩
    · obtain rfl := pair_nil p1
      exact iteT he
    obtain ⟨bs', y, rfl, p1', ⟨c', rfl, C'⟩⟩ := pair_last p1
    have e : (bs' ++ [V.ref c']).isEmpty = false := by cases bs' <;> rfl
    rw [e]
    refine iteF ?_
    refine ⟨_, rfl, s, CS, dx, _, _, rfl, Y.i, T.cl, T.n2, syF_b _ _ _, .inl ⟨rfl, _, SqL.of Y.b⟩, b, _, .ref c', rfl, rfl, Y.b, by simp, ?_⟩
    refine ⟨_, rfl, s, CS, dx, _, rfl, (upd_ne sb).trans Y.i, T.cl, T.n1, by rw [syF_len]; decide, ?_⟩
    rw [syF_put, List.dropLast_concat]
    refine k _ (SyG.step (bs' := bs') (hs' := hs) Y (fun q o e n => ?_) hne e2 e3 e4 e5 ⟨upd_same, ?_, ?_⟩ C' p1' p2)
    · have n1 : q ≠ s := fun z => n (by rw [z]; simp)
      have n2 : q ≠ b := fun z => n (by rw [z]; simp)
      rw [upd_ne n1, upd_ne n2]
      exact e
    · rw [upd_ne sb.symm, upd_same]
    · rw [upd_ne sh.symm, upd_ne hne]; exact Y.h
theorem scUndo : FnScope ["self", "count"] ["self", "count"] (defScope sUndo) := ⟨rfl, rfl, rfl, by decide +kernel, rfl, by decide +kernel, by decide +kernel⟩
theorem ok_undo {f : Addr} {fd : FuncData} (F : Fun K "undo" "System.undo" sUndo f fd) (T : SysT K mg CS fSI fTk) (TO : BareC K mg "OpenTransaction" cO) (TU : BareC K mg "NothingToUndo" cU) (hlen : mg "len" = none) : FnOk P w K mg base (L2.CX P w) 1 f fd ["self", "count"] (spUndo K CC CS cO cU) := by
  refine F.okX scUndo (fun vs H Q E h => ?_) (fun cdv A outer s H vs Q E hr h => ?_)
  · obtain ⟨s, n, H0, S, Bs, Hs, rfl, _⟩ := h
    rfl
  · obtain ⟨s, n, H0, S, Bs, Hs, rfl, ⟨dx, c, b, h, bs, hs, Y, C, p1, p2, hne, e2, e3, e4, e5⟩, hl, alt⟩ := h
    refine ⟨_, pss_cons (ps_if (pt_truth (pe_fld (pv 0) rfl) (by intro _; rfl)) (pss_one (ps_raise rfl (takes_of rfl rfl rfl rfl) (pmk_own0 PySem.F.excBase_ValueError TO.q TO.g TO.k (raises_own TO.b TO.t) rfl))) pss_nil)
      (pss_cons (ps_if (pt_cmpR op_gt (pv 1) (pe_callB call_len_seq (by rfl) hlen PySem.boot_len (pa_cons (pe_fld (pv 0) rfl) pa_nil)) (nomark _)) (pss_one (ps_raise rfl (takes_of rfl rfl rfl rfl) (pmk_own0 PySem.F.excBase_ValueError TU.q TU.g TU.k (raises_own TU.b TU.t) rfl))) pss_nil)
      (pss_cons (ps_fld (pv 0) (pe_ix ix_list (pe_fld (pv 0) rfl) (pe_un un_neg (pv 1)) (fun _ _ => rfl)) rfl)
      (pss_one (ps_fld (pv 0) (pe_slice sl_list (pe_fld (pv 0) rfl) po_none (po_some (pe_un un_neg (pv 1)))) rfl)))), ?_⟩
    obtain ⟨sb, sh⟩ := Y.ne
    have hln := pair_len p2
    refine ⟨_, rfl, s, CS, dx, _, _, rfl, Y.i, T.cl, T.n2, syF_b _ _ _, _, .inl ⟨_, SqL.of Y.b, rfl⟩, ?_⟩
    rcases alt with ⟨hb, he⟩ | ⟨rfl, hn, he⟩ | ⟨rfl, kk, B, hB, rfl, k⟩
    · have e : bs.isEmpty = false := by
        cases bs with
        | nil => cases p1; exact absurd rfl hb
        | cons _ _ => rfl
      rw [e]
      exact iteT he
    · obtain rfl := pair_nil p1
      refine iteF ?_
      refine ⟨_, rfl, _, rfl, s, CS, dx, _, _, rfl, Y.i, T.cl, T.n3, syF_h _ _ _, h, hs, rfl, .inl (SqL.of Y.h), _, _, rfl, rfl, _, rfl, ?_⟩
      rw [decide_eq_true (show ((hs.length : Nat) : Int) < n by omega)]
      exact iteT he
    · obtain rfl := pair_nil p1
      refine iteF ?_
      refine ⟨_, rfl, _, rfl, s, CS, dx, _, _, rfl, Y.i, T.cl, T.n3, syF_h _ _ _, h, hs, rfl, .inl (SqL.of Y.h), _, _, rfl, rfl, _, rfl, ?_⟩
      rw [decide_eq_false (show ¬ (((hs.length : Nat) : Int) < (Hs.length : Int) - (kk : Int)) by omega)]
      refine iteF ?_
      obtain ⟨v, hv, c', rfl, C'⟩ := pair_get p2 hB
      have hk : kk < hs.length := (List.getElem?_eq_some_iff.mp hv).1
      have hat : atI hs (-((Hs.length : Int) - (kk : Int))) = some (V.ref c') := by
        have e : ixN hs.length (-((Hs.length : Int) - (kk : Int))) = some kk := by
          unfold ixN
          rw [if_neg (by omega)]
          have e1 : -((Hs.length : Int) - (kk : Int)) + (hs.length : Int) = (kk : Int) := by omega
          simp only [e1]
          rw [if_pos (by omega)]
          simp
        unfold atI
        rw [e]
        exact hv
      refine ⟨_, rfl, s, CS, dx, _, _, rfl, Y.i, T.cl, T.n3, syF_h _ _ _, _, rfl, _, rfl, h, hs, _, .ref c', rfl, rfl, SqL.of Y.h, hat, ?_⟩
      refine ⟨_, rfl, s, CS, dx, _, rfl, Y.i, T.cl, T.n1, by rw [syF_len]; decide, ?_⟩
      rw [syF_put]
      have Y1 : (upd H s (.ins CS dx (syF c' b h))) h = some (.lst hs) := (upd_ne sh.symm).trans Y.h
      refine ⟨_, rfl, s, CS, dx, _, _, rfl, upd_same, T.cl, T.n3, syF_h _ _ _, _, rfl, _, rfl, _, rfl, h, hs, rfl, SqL.of Y1, fun p hp => ?_⟩
      have ek : cutV hs none (some (-((Hs.length : Int) - (kk : Int)))) = hs.take kk := by
        have ei : HT.sIx hs.length hs.length (some (-((Hs.length : Int) - (kk : Int)))) = kk := by
          show (if -((Hs.length : Int) - (kk : Int)) < 0 then (-((Hs.length : Int) - (kk : Int)) + (hs.length : Int)).toNat else _) = kk
          rw [if_pos (by omega)]
          omega
        unfold cutV
        rw [ei, HT.sIx_none, Nat.sub_zero, List.drop_zero]
      rw [ek]
      have sp : s ≠ p := ne_of_none upd_same hp
      have bp : b ≠ p := ne_of_none ((upd_ne sb.symm).trans Y.b) hp
      have hp0 : H p = none := by rw [upd_ne sp.symm] at hp; exact hp
      have hp1 : H0 p = none := by
        cases z : H0 p with
        | none => rfl
        | some o => rw [e5 _ _ z] at hp0; cases hp0
      refine ⟨_, rfl, s, CS, dx, _, rfl, (upd_ne sp).trans upd_same, T.cl, T.n3, by rw [syF_len]; decide, ?_⟩
      rw [syF_putH]
      have of : Off [s, b, h] H (upd (upd (upd H s (.ins CS dx (syF c' b h))) p (.lst (hs.take kk))) s (.ins CS dx (syF c' b p))) := fun q o e n => by
        have n1 : q ≠ s := fun z => n (by rw [z]; simp)
        rw [upd_ne n1, upd_ne (ne_of_none e hp0), upd_ne n1]
        exact e
      have cm : Calm CC H (upd (upd (upd H s (.ins CS dx (syF c' b h))) p (.lst (hs.take kk))) s (.ins CS dx (syF c' b p))) := .off Y of
      refine k _ ⟨dx, c', b, p, [], hs.take kk, ⟨upd_same, ?_, ?_⟩, C'.calm cm, .nil, ctV_calm (pair_take kk p2) cm, bp.symm, e2, e3, hp1, fun q o e => ?_⟩
      · rw [upd_ne sb.symm, upd_ne bp, upd_ne sb.symm]; exact Y.b
      · rw [upd_ne sp.symm, upd_same]
      · refine of q o (e5 _ _ e) fun z => ?_
        rcases List.mem_cons.mp z with z | z
        · rw [z, e2] at e; cases e
        · rcases List.mem_cons.mp z with z | z
          · rw [z, e3] at e; cases e
          · rw [List.mem_singleton.mp z, e4] at e; cases e
end
end Bo

set_option Elab.async false
set_option linter.all false
set_option maxRecDepth 100000
set_option maxHeartbeats 4000000
/-! undo's parameter; what a system tells, by view -/
namespace Bo
open PySem PySem.Spec PyProof.Rows L2
/-- the keyword default of a def without other defaults -/
def kwVal (K : PySem.W.Frag) (x : Str) (n : Int) : Value → Bool
  | .ref D => (match PySem.W.nsIn K D x with
    | some (some (.int m _)) => decide (m = n)
    | _ => false)
  | _ => false
def kwOne (K : PySem.W.Frag) (f : Addr) (x : Str) (n : Int) : Bool := match K.lookup f with
  | some ⟨_, _, .func fd, _⟩ => kwVal K x n fd.kwdefaults
  | _ => false
theorem kwVal_ok {K : PySem.W.Frag} {x : Str} {n : Int} : ∀ {v : Value}, kwVal K x n v = true → ∃ D t, v = .ref D ∧ PySem.W.nsIn K D x = some (some (.int n t)) := fun {v} h => by
  cases v with
  | ref D =>
    unfold kwVal at h
    dsimp only at h
    split at h
    · rename_i m t e
      have := of_decide_eq_true h
      subst this
      exact ⟨D, t, rfl, e⟩
    · cases h
  | _ => cases h
theorem funD_of {K : PySem.W.Frag} {x qual y : Str} {st : Stmt} {f : Addr} {fd : FuncData} {n : Int} (F : Fun K x qual st f fd) (h : kwOne K f y n = true) : FunD K x qual (defArgs st) (defBody st) (defScope st) [] [(y, .int n)] f fd := by
  obtain ⟨oc, od, kV, doc, pm, an, cdv, ct, osl, rfl, lk, hcd⟩ := F.ex
  refine ⟨⟨oc, od, .none, kV, doc, pm, an, cdv, ct, osl, rfl, lk, hcd, .inl ⟨rfl, rfl⟩, .inr ?_⟩, F.kp⟩
  unfold kwOne at h
  rw [lk] at h
  obtain ⟨D, t, e, hq⟩ := kwVal_ok (v := kV) h
  refine ⟨D, e, fun q hm => ?_⟩
  rw [List.mem_singleton.mp hm]
  exact ⟨_, hq, t, rfl⟩
section
variable {P : Program} {w : World} {K : PySem.W.Frag} {mg : Str → Option Value} {base : Heap} {CC fCI CN fIN CS fSI fTk cN cO cU : Addr}
theorem undo_kb {f : Addr} {fd : FuncData} (F : Fun K "undo" "System.undo" sUndo f fd) : KBn K fd ["self", "count"] 1 ["count"] (fun us ws => us ++ ws) (fun vs zs => vs ++ zs) := by
  obtain ⟨oc, od, kV, doc, pm, an, cdv, ct, osl, rfl, lk, hcd⟩ := F.ex
  refine ⟨fun s us ws X l1 l2 => ?_, fun r1 r2 => r1.append r2⟩
  match us, ws, l1, l2 with
  | [u], [q], _, _ => exact .of_eq rfl
theorem undo_b0 {f : Addr} {fd : FuncData} (F : Fun K "undo" "System.undo" sUndo f fd) (h : kwOne K f "count" 1 = true) : ∃ ds, Vals [V.int 1] ds ∧ Binds K fd ["self", "count"] ds :=
  (funD_of F h).binds0 1 (by simp) rfl fun D doc pm an cdv ct us ks l1 l2 => by
    match us, ks, l1, l2 with
    | [u], [q], _, _ => exact ⟨_, _, _, _, _, _, rfl, rfl, rfl⟩
/-! ### the properties -/
theorem ok_eqsV {f : Addr} {fd : FuncData} (F : Fun K "equations" "System.equations" sEqs f fd) (T : SysT K mg CS fSI fTk) (TC : CtT K mg CC fCI) (TP : TxtP mg) : FnOk P w K mg base CX0 1 f fd ["self"] (spEqsV K CC CS) := by
  refine F.ok scEqs (fun vs H Q E h => ?_) (fun cdv A outer s H vs Q E hr h => ?_)
  · obtain ⟨s, S, n, rfl, _⟩ := h
    rfl
  · obtain ⟨s, S, n, rfl, ⟨dx, c, b, h, bs, Yi, Yb, rfl, ⟨d1, ac, ar, ak, rs, C⟩⟩, hl, q⟩ := h
    refine ⟨_, pss_one (ps_ret (pe_callTy call_tuple_of (by rfl) TP.tup (by decide +kernel) (pa_cons (pe_callB (call_sortedD rfl) (by rfl) TP.srt (by decide +kernel) (pa_cons (pe_fld (pe_fld (pv 0) rfl) rfl) pa_nil)) pa_nil))), ?_⟩
    have hks : rs.map (·.1) = S.rows.map (·.1) := pair_keys (fun p q z => z.1) C.p
    have hln : (rs.map (·.1)).length = S.rows.length := by rw [hks, List.length_map]
    refine ⟨_, rfl, s, CS, dx, _, _, rfl, Yi, T.cl, T.n1, syF_c _ _ _, c, CC, d1, _, _, rfl, C.i, TC.cl, TC.n2, ctF_r _ _ _, ar, _, _, rfl, C.r.rd, refK_keys rs, by rw [hln]; exact hl, fun ys p hp1 hp2 hp3 => ?_⟩
    have sm : Same H (upd H p (.lst (ys.map V.str))) := same_new hp3
    refine ⟨p, _, rfl, .inl ⟨SqL.of upd_same, fun t ht => ?_⟩⟩
    refine q t _ (sm.trans (same_new ht)) ?_
    rw [← srt_of (hks ▸ hp1) hp2]
    exact SqT.of upd_same
theorem ok_unsV {f : Addr} {fd : FuncData} (F : Fun K "unknowns" "System.unknowns" sUns f fd) (T : SysT K mg CS fSI fTk) (TC : CtT K mg CC fCI) : FnOk P w K mg base CX0 1 f fd ["self"] (spUnsV K CC CS) := by
  refine F.ok scUns (fun vs H Q E h => ?_) (fun cdv A outer s H vs Q E hr h => ?_)
  · obtain ⟨s, S, n, rfl, _⟩ := h
    rfl
  · obtain ⟨s, S, n, rfl, ⟨dx, c, b, h, bs, Yi, Yb, rfl, ⟨d1, ac, ar, ak, rs, C⟩⟩, q⟩ := h
    refine ⟨_, pss_one (ps_ret (pe_fld (pe_fld (pv 0) rfl) rfl)), ?_⟩
    exact ⟨_, rfl, s, CS, dx, _, _, rfl, Yi, T.cl, T.n1, syF_c _ _ _, c, CC, d1, _, _, rfl, C.i, TC.cl, TC.n1, ctF_c _ _ _, q ac C.c⟩
theorem ok_ensV {f fO : Addr} {fd fdO : FuncData} (F : Fun K "entries" "System.entries" sEns f fd) (T : SysT K mg CS fSI fTk) (GO : FnOk P w K mg base CX0 1 fO fdO ["contents"] (spEO0 K CC)) (mO : mg "entries_of" = some (.ref fO)) (kO : PySem.W.keepIn K (.ref fO) = true) (bO : Binds K fdO ["contents"] []) :
    FnOk P w K mg base CX0 2 f fd ["self"] (spEnsV K CC CS) := by
  refine F.ok scEns (fun vs H Q E h => ?_) (fun cdv A outer s H vs Q E hr h => ?_)
  · obtain ⟨s, S, n, rfl, _⟩ := h
    rfl
  · obtain ⟨s, S, n, rfl, ⟨dx, c, b, h, bs, Yi, Yb, rfl, C⟩, he, q⟩ := h
    refine ⟨_, pss_one (ps_ret (pe_call GO hr rfl mO kO bO .nil pass0 (pa_cons (pe_fld (pv 0) rfl) pa_nil))), ?_⟩
    exact ⟨_, rfl, s, CS, dx, _, _, rfl, Yi, T.cl, T.n1, syF_c _ _ _, c, S, rfl, C, he, q⟩
theorem scDep : FnScope ["self"] ["self"] (defScope sDep) := ⟨rfl, rfl, rfl, by decide +kernel, rfl, by decide +kernel, by decide +kernel⟩
theorem ok_depV {f : Addr} {fd : FuncData} (F : Fun K "depth" "System.depth" sDep f fd) (T : SysT K mg CS fSI fTk) (hlen : mg "len" = none) : FnOk P w K mg base CX0 1 f fd ["self"] (spDepV K CC CS) := by
  refine F.ok scDep (fun vs H Q E h => ?_) (fun cdv A outer s H vs Q E hr h => ?_)
  · obtain ⟨s, S, n, rfl, _⟩ := h
    rfl
  · obtain ⟨s, S, n, rfl, ⟨dx, c, b, h, bs, Yi, Yb, rfl, C⟩, q⟩ := h
    refine ⟨_, pss_one (ps_ret (pe_callB call_len_seq (by rfl) hlen PySem.boot_len (pa_cons (pe_fld (pv 0) rfl) pa_nil))), ?_⟩
    exact ⟨_, rfl, s, CS, dx, _, _, rfl, Yi, T.cl, T.n2, syF_b _ _ _, b, bs, rfl, .inl (SqL.of Yb), q⟩
end
end Bo

set_option Elab.async false
set_option linter.all false
set_option maxRecDepth 100000
set_option maxHeartbeats 4000000
/-! _law_refuses, _law_stands -/
namespace Bo
open PySem PySem.Spec PyProof.Rows L2
abbrev sRf : Stmt := top 72
theorem strsD_dp {K : PySem.W.Frag} {H : Hp} : ∀ ys : List Str, DpAll K H (ys.map V.str) (ys.map PyData.str)
  | [] => .nil
  | y :: ys => .cons (.str y) (strsD_dp ys)
theorem strsD_ok : ∀ l : List Str, PyData.showableAll (l.map PyData.str) = true
  | [] => rfl
  | y :: l => by
    show (true && PyData.showableAll (l.map PyData.str)) = true
    rw [strsD_ok l]
    rfl
theorem strsD_depth : ∀ l : List Str, PyData.depthAll (l.map PyData.str) = 0
  | [] => rfl
  | y :: l => by
    show max 0 (PyData.depthAll (l.map PyData.str)) = 0
    rw [strsD_depth l]
    rfl
theorem strsD_short : ∀ {l : List Str}, (∀ y ∈ l, TxtOk y) → PyData.leavesShortAll 13 (l.map PyData.str) = true
  | [], _ => rfl
  | y :: l, h => by
    show ((y.cps.toList.all fun c => decide (c < 16 ^ 8)) && PyData.leavesShortAll 13 (l.map PyData.str)) = true
    rw [strsD_short fun z hz => h z (List.mem_cons_of_mem _ hz), Bool.and_true, List.all_eq_true]
    exact fun c hc => decide_eq_true (Nat.lt_of_lt_of_le ((h y List.mem_cons_self).c c hc) (by decide))
theorem strsD_weight : ∀ {l : List Str}, (∀ y ∈ l, TxtOk y) → PyData.weightAll (l.map PyData.str) ≤ 21 * l.length
  | [], _ => Nat.le_refl _
  | y :: l, h => by
    have ih := strsD_weight fun z hz => h z (List.mem_cons_of_mem _ hz)
    have h1 := (h y List.mem_cons_self).l
    have e : (PyData.str y).weight = y.cps.toList.length := by
      show y.cps.size = _
      exact (Array.length_toList (xs := y.cps)).symm
    show (PyData.str y).weight + 1 + PyData.weightAll (l.map PyData.str) ≤ 21 * (l.length + 1)
    rw [e]
    omega
/-- data of [(names), (names), (), n] -/
def refD (ys us : List Str) (n : Nat) : PyData := .list [.tuple (ys.map PyData.str), .tuple (us.map PyData.str), .tuple [], .int n]
theorem refD_dp {K : PySem.W.Frag} {H : Hp} {q t1 t2 t3 : Addr} {ys us : List Str} {n : Nat} (h : H q = some (.lst [.ref t1, .ref t2, .ref t3, .int n])) (h1 : SqT K H t1 (ys.map V.str)) (h2 : SqT K H t2 (us.map V.str)) (h3 : SqT K H t3 []) : Dp K H (.ref q) (refD ys us n) :=
  .lst (SqL.of h) (.cons (.tup h1 (strsD_dp ys)) (.cons (.tup h2 (strsD_dp us)) (.cons (.tup h3 .nil) (.cons (.int n) .nil))))
theorem refD_ok (ys us : List Str) {n : Nat} (hn : n ≤ 3) : (refD ys us n).showable = true := by
  show (PyData.showableAll (ys.map PyData.str) && (PyData.showableAll (us.map PyData.str) && (true && (decide ((n : Int).natAbs.log2 < 1920) && true)))) = true
  rw [strsD_ok, strsD_ok]
  match n, hn with
  | 0, _ => decide +kernel
  | 1, _ => decide +kernel
  | 2, _ => decide +kernel
  | 3, _ => decide +kernel
theorem refD_depth (ys us : List Str) (n : Nat) : (refD ys us n).depth ≤ 60 := by
  show max (PyData.depthAll (ys.map PyData.str) + 1) (max (PyData.depthAll (us.map PyData.str) + 1) (max (0 + 1) (max 0 0))) + 1 ≤ 60
  rw [strsD_depth, strsD_depth]
  decide
theorem refD_fits {ys us : List Str} {n : Nat} (h1 : ∀ y ∈ ys, TxtOk y) (h2 : ∀ y ∈ us, TxtOk y) (l1 : ys.length ≤ 1000) (l2 : us.length ≤ 1000) (hn : n ≤ 3) : (refD ys us n).shown.length ≤ sizeLine := by
  refine PyData.shown_fits (B := 13) (by decide) (by decide) ?_ ?_
  · show (PyData.leavesShortAll 13 (ys.map PyData.str) && (PyData.leavesShortAll 13 (us.map PyData.str) && (true && (decide ((PyData.shown (.int (n : Int))).length ≤ 13) && true)))) = true
    rw [strsD_short h1, strsD_short h2]
    match n, hn with
    | 0, _ => decide +kernel
    | 1, _ => decide +kernel
    | 2, _ => decide +kernel
    | 3, _ => decide +kernel
  · have a := strsD_weight h1
    have b := strsD_weight h2
    have c : (PyData.int (n : Int)).weight ≤ 100 := by
      match n, hn with
      | 0, _ => decide +kernel
      | 1, _ => decide +kernel
      | 2, _ => decide +kernel
      | 3, _ => decide +kernel
    show PyData.weightAll (ys.map PyData.str) + 1 + (PyData.weightAll (us.map PyData.str) + 1 + (0 + 1 + ((PyData.int (n : Int)).weight + 1 + 0))) ≤ 2 ^ 20
    have e : (2 : Nat) ^ 20 = 1048576 := by decide
    omega
/-- what _law_refuses makes of a system, a call of which is refused, and of the error that is due -/
def TTr (K : PySem.W.Frag) (CC CS : Addr) (cs : Nat → Addr) : V → V → (XK → Hp → VK → Prop) → Hp → VK → Prop := fun v1 v3 tl H Q => ∃ (s du : Addr) (S : Ct) (n : Nat) (word : Str) (J : Hp → Prop), v1 = .ref s ∧ v3 = .ref du ∧ J H ∧
  (∀ H', J H' → Sv K CC CS H' s S n ∧ SqT K H' du [.str word]) ∧ (∀ H' H'', J H' → Same H' H'' → J H'') ∧ PyData.strOk word = true ∧ (∀ p ∈ S.rows, p.2 = []) ∧ S.rows.length < 64 ∧ S.cols.length < 64 ∧ (∀ y ∈ S.rows.map (·.1), TxtOk y) ∧ (∀ y ∈ S.cols, TxtOk y) ∧ n ≤ 3 ∧
  (∀ (H1 : Hp) (Q1 : VK), J H1 → (∀ a H2, J H2 → SqT K H2 a [.str word] → Q1 (.ref a) H2) → tl (EchA K cs Q1) H1 (backN Q1)) ∧ ∀ H3, J H3 → Q (.bl true) H3
structure PropV (K : PySem.W.Frag) (CS pE gE pU gU pN gN pD gD : Addr) : Prop where
  e : PropOf K CS "equations" pE gE
  u : PropOf K CS "unknowns" pU gU
  n : PropOf K CS "entries" pN gN
  d : PropOf K CS "depth" pD gD
abbrev nRf : List Str := ["_law_system", "_law_told_here", "_law_due", "_law_before"]
theorem scRf : FnScope nRf ["_law_system", "_law_told_here", "_law_due"] (defScope sRf) := ⟨rfl, rfl, rfl, by decide +kernel, rfl, by decide +kernel, by decide +kernel⟩
theorem ref_gives {X : Cx} {f1 CC CS fSI fTk pE gE pU gU pN gN pD gD : Addr} {cd1 : Value} {q : Str} {cs : Nat → Addr} {fdE fdU fdN fdD : FuncData} (hq : Quiet 5 X.A) (T : SysT X.K X.mg CS fSI fTk) (hrep : X.mg "repr" = none) (PT : PropV X.K CS pE gE pU gU pN gN pD gD)
    (GE : FnOk X.prog X.w X.K X.mg X.base CX0 1 gE fdE ["self"] (spEqsV X.K CC CS)) (bE : Binds X.K fdE ["self"] []) (GU : FnOk X.prog X.w X.K X.mg X.base CX0 1 gU fdU ["self"] (spUnsV X.K CC CS)) (bU : Binds X.K fdU ["self"] [])
    (GN : FnOk X.prog X.w X.K X.mg X.base CX0 2 gN fdN ["self"] (spEnsV X.K CC CS)) (bN : Binds X.K fdN ["self"] []) (GD : FnOk X.prog X.w X.K X.mg X.base CX0 1 gD fdD ["self"] (spDepV X.K CC CS)) (bD : Binds X.K fdD ["self"] []) :
    GivesOn X nRf "_law_refuses" (defScope sRf) f1 cd1 (defBody sRf) "_law_error" "_law_told_here" 1 q (TTa X.K cs) (TTr X.K CC CS cs) := by
  intro f c' s0 H v1 v3 Q tl act hc h
  obtain ⟨s, du, S, n, word, J, rfl, rfl, hJ, hV, hS, hw, he, l1, l2, t1, t2, hn, hrun, k⟩ := h
  have hq' : Quiet 4 (X.A.deeper (envOfC "_law_refuses" (defScope sRf) s0.heap.objs.size f1 cd1)) := ⟨hq.room.deeper _, hq.gd⟩
  have hr : Room 4 _ := hq'.room
  have hr1 : Room 1 (X.A.deeper (envOfC "_law_refuses" (defScope sRf) s0.heap.objs.size f1 cd1)) := hr.mono (by decide)
  have hr2 : Room 2 (X.A.deeper (envOfC "_law_refuses" (defScope sRf) s0.heap.objs.size f1 cd1)) := hr.mono (by decide)
  have hr3 : Room 3 (X.A.deeper (envOfC "_law_refuses" (defScope sRf) s0.heap.objs.size f1 cd1)) := hr.mono (by decide)
  have hu : (X.A.deeper (envOfC "_law_refuses" (defScope sRf) s0.heap.objs.size f1 cd1)).units + 64 < cLine := by have := hr.un; omega
  refine ⟨_, pss_cons (ps_set (i := 3) scRf.nd rfl (.inl rfl) (pe_callB (call_reprQ hq') (by rfl) hrep (by decide +kernel) (pa_cons (pe_lst (pa_cons (pe_prop (pv 0) T.cl PT.e GE hr2 bE .nil pass0 rfl) (pa_cons (pe_prop (pv 0) T.cl PT.u GU hr2 bU .nil pass0 rfl) (pa_cons (pe_prop (pv 0) T.cl PT.n GN hr3 bN .nil pass0 rfl) (pa_cons (pe_prop (pv 0) T.cl PT.d GD hr2 bD .nil pass0 rfl) pa_nil))))) pa_nil)))
    (pss_cons (ps_if (pt_cmpR (op_neD hu) (act _ _ _) (pv 2) (nomark _)) (pss_one (ps_ret pe_bl)) pss_nil)
    (pss_one (ps_ret (pe_cmpR op_eq (pe_callB (call_reprQ hq') (by rfl) hrep (by decide +kernel) (pa_cons (pe_lst (pa_cons (pe_prop (pv 0) T.cl PT.e GE hr2 bE .nil pass0 rfl) (pa_cons (pe_prop (pv 0) T.cl PT.u GU hr2 bU .nil pass0 rfl) (pa_cons (pe_prop (pv 0) T.cl PT.n GN hr3 bN .nil pass0 rfl) (pa_cons (pe_prop (pv 0) T.cl PT.d GD hr2 bD .nil pass0 rfl) pa_nil))))) pa_nil)) (pv 3) (nomark _))))), ?_⟩
  have ft : (refD (srt (S.rows.map (·.1))) S.cols n).shown.length ≤ sizeLine := refD_fits (fun y hy => t1 y (srt_mem.mp hy)) t2 (by rw [srt_len, List.length_map]; omega) (by omega) hn
  obtain ⟨Va, _⟩ := hV H hJ
  obtain ⟨dxa, ca, ba, ha, bsa, Yia, _⟩ := Va.ex
  refine ⟨_, rfl, s, dxa, _, rfl, Yia, s, S, n, rfl, Va, l1, fun a1a H2a s1a q1a => ?_⟩
  refine ⟨_, rfl, s, dxa, _, rfl, s1a _ _ Yia, s, S, n, rfl, Va.keep s1a, fun a2a q2a => ?_⟩
  refine ⟨_, rfl, s, dxa, _, rfl, s1a _ _ Yia, s, S, n, rfl, Va.keep s1a, he, fun a3a H3a s3a q3a => ?_⟩
  refine ⟨_, rfl, s, dxa, _, rfl, s3a _ _ (s1a _ _ Yia), s, S, n, rfl, (Va.keep s1a).keep s3a, ⟨by show 4 ≤ sizeLine; decide, fun qa hqa => ?_⟩⟩
  have s4a : Same H3a (upd H3a qa (.lst [.ref a1a, .ref a2a, .ref a3a, .int n])) := same_new hqa
  have sma := (s1a.trans s3a).trans s4a
  have da : Dp X.K (upd H3a qa (.lst [.ref a1a, .ref a2a, .ref a3a, .int n])) (.ref qa) (refD (srt (S.rows.map (·.1))) S.cols n) := refD_dp upd_same (SqT.keep q1a (s3a.trans s4a)) (SqT.keep q2a (s3a.trans s4a)) (SqT.keep q3a s4a)
  generalize upd H3a qa (.lst [.ref a1a, .ref a2a, .ref a3a, .int n]) = Ga at s4a sma da ⊢
  refine ⟨.ref qa, _, rfl, da, refD_ok _ _ hn, refD_depth _ _ _, ft, ?_⟩
  have Ja := hS _ _ hJ sma
  refine ⟨rfl, sma _ _ hc, hrun Ga _ Ja fun a H2 hJ2 sq => ?_⟩
  have shp : SeqAt.shaped (.tuple [.str word]) = true := by
    show ((PyData.strOk word && true) && _) = true
    rw [hw]
    rfl
  refine ⟨_, rfl, .tuple [.str word], .tuple [.str word], .tup sq (.cons (.str word) .nil), .tup (hV H2 hJ2).2 (.cons (.str word) .nil), shp, shp, _, rfl, ?_⟩
  have cl : PyData.canLay0 (.tuple [.str word]) = true := by
    show (PyData.strOk word && true) = true
    rw [hw]
    rfl
  rw [SeqAt.eqv_refl _ cl]
  refine iteF ?_
  obtain ⟨Vb, _⟩ := hV H2 hJ2
  obtain ⟨dxb, cb, bb, hb, bsb, Yib, _⟩ := Vb.ex
  refine ⟨_, rfl, s, dxb, _, rfl, Yib, s, S, n, rfl, Vb, l1, fun a1b H2b s1b q1b => ?_⟩
  refine ⟨_, rfl, s, dxb, _, rfl, s1b _ _ Yib, s, S, n, rfl, Vb.keep s1b, fun a2b q2b => ?_⟩
  refine ⟨_, rfl, s, dxb, _, rfl, s1b _ _ Yib, s, S, n, rfl, Vb.keep s1b, he, fun a3b H3b s3b q3b => ?_⟩
  refine ⟨_, rfl, s, dxb, _, rfl, s3b _ _ (s1b _ _ Yib), s, S, n, rfl, (Vb.keep s1b).keep s3b, ⟨by show 4 ≤ sizeLine; decide, fun qb hqb => ?_⟩⟩
  have s4b : Same H3b (upd H3b qb (.lst [.ref a1b, .ref a2b, .ref a3b, .int n])) := same_new hqb
  have smb := (s1b.trans s3b).trans s4b
  have db : Dp X.K (upd H3b qb (.lst [.ref a1b, .ref a2b, .ref a3b, .int n])) (.ref qb) (refD (srt (S.rows.map (·.1))) S.cols n) := refD_dp upd_same (SqT.keep q1b (s3b.trans s4b)) (SqT.keep q2b (s3b.trans s4b)) (SqT.keep q3b s4b)
  generalize upd H3b qb (.lst [.ref a1b, .ref a2b, .ref a3b, .int n]) = Gb at s4b smb db ⊢
  refine ⟨.ref qb, _, rfl, db, refD_ok _ _ hn, refD_depth _ _ _, ft, ?_⟩
  have Jb := hS _ _ hJ2 smb
  refine ⟨_, rfl, rfl, ?_⟩
  rw [decide_eq_true rfl]
  exact k _ Jb
end Bo

set_option Elab.async false
set_option linter.all false
set_option maxRecDepth 100000
set_option maxHeartbeats 4000000
/-! the law's state; a system that stands empty -/
namespace Bo
open PySem PySem.Spec PyProof.Rows L2
theorem SqT.ext {K : PySem.W.Frag} {H H1 : Hp} {a : Addr} {xs : List V} (e : LamX.ExtN H H1) (h : SqT K H a xs) : SqT K H1 a xs :=
  h.elim (fun z => .inl (z.elim (fun z => .inl (e _ _ z fun _ q => by cases q)) fun ⟨o, z⟩ => .inr ⟨o, e _ _ z fun _ q => by cases q⟩)) .inr
theorem Fz.ext {H H1 : Hp} {a : Addr} {u : HO} (e : LamX.ExtN H H1) (h : Fz H a u) : Fz H1 a u := let ⟨o, z⟩ := h; ⟨o, e _ _ z fun _ q => by cases q⟩
theorem CtIn.ext {K : PySem.W.Frag} {CC : Addr} {H H1 : Hp} {a : Addr} {S : Ct} (e : LamX.ExtN H H1) (h : CtIn K CC H a S) : CtIn K CC H1 a S :=
  let ⟨dx, ac, ar, ak, rs, z⟩ := h
  ⟨dx, ac, ar, ak, rs, ⟨e _ _ z.i (fun _ q => by cases q), SqT.ext e z.c, z.r.ext e, Paired.mapP z.p fun p q y => ⟨y.1, y.2.ext e⟩, z.k.ext e⟩⟩
theorem Tape.ext {H H1 : Hp} {t c : Addr} {cs : List Int} {p l : Int} (e : LamX.ExtN H H1) (T : Tape H t c cs p l) : Tape H1 t c cs p l := ⟨e _ _ T.d (fun _ z => by cases z), e _ _ T.c (fun _ z => by cases z), T.n, T.m, T.p0, T.l0⟩
theorem tabs_in {T : List (Addr × Str)} {H B : Hp} (b : ∀ q o, H q = some o → (∀ C d f, o ≠ .ins C d f) → (∀ xs, o ≠ .lst xs) → B q = some o) (h : LamX.Tabs T H) : LamX.Tabs T B := fun p hp => by
  obtain ⟨ps, h1, h2, h3⟩ := h p hp
  refine ⟨ps, b _ _ h1 (fun _ _ _ z => by cases z) (fun _ z => by cases z), h2, fun pos cv hc => ?_⟩
  obtain ⟨c, e1, e2⟩ := h3 pos cv hc
  exact ⟨c, e1, b _ _ e2 (fun _ _ _ z => by cases (show HO.ext _ = HO.ins _ _ _ from z)) (fun _ z => by cases (show HO.ext _ = HO.lst _ from z))⟩
theorem tabs_but {T : List (Addr × Str)} {t : Addr} {H H' : Hp} {ks : List (Key × V)} (b : But t H H') (ht : H t = some (.dK ks)) (h : LamX.Tabs T H) : LamX.Tabs T H' := fun p hp => by
  obtain ⟨ps, h1, h2, h3⟩ := h p hp
  refine ⟨ps, b _ _ h1 fun z => ?_, h2, fun pos cv hc => ?_⟩
  · rw [z, ht] at h1
    cases h1
  · obtain ⟨c, e1, e2⟩ := h3 pos cv hc
    refine ⟨c, e1, b _ _ e2 fun z => ?_⟩
    rw [z, ht] at e2
    cases (show HO.dK _ = HO.ext _ from Option.some.inj e2)
/-- the System, the tape, the names; G: what stood ahead of the System, but for the tape and the tables -/
structure LS (K : PySem.W.Frag) (CC CS : Addr) (TT : List (Addr × Str)) (G H : Hp) (s : Addr) (S : Ct) (Bs Hs : List Ct) (t c q : Addr) (cs : List Int) (p l : Int) (ys : List Str) : Prop where
  Y : SyG K CC CS G H s S Bs Hs
  T : Tape H t c cs p l
  n : H q = some (.lst (ys.map V.str))
  tb : LamX.Tabs TT H
  gc : ∃ o, G c = some o
  gq : ∃ o, G q = some o
  gt : G t = none
  no : ∀ b ps, G b ≠ some (.tbl ps)
section
variable {K : PySem.W.Frag} {CC CS : Addr} {TT : List (Addr × Str)} {G H H' : Hp} {s t c q : Addr} {S : Ct} {Bs Hs : List Ct} {cs : List Int} {p l p' l' : Int} {ys : List Str}
theorem LS.keep (L : LS K CC CS TT G H s S Bs Hs t c q cs p l ys) (k : Same H H') : LS K CC CS TT G H' s S Bs Hs t c q cs p l ys := ⟨L.Y.keep k, L.T.keep k, k _ _ L.n, L.tb.ext k, L.gc, L.gq, L.gt, L.no⟩
theorem LS.ext (L : LS K CC CS TT G H s S Bs Hs t c q cs p l ys) (e : LamX.ExtN H H') (T' : LamX.Tabs TT H') : LS K CC CS TT G H' s S Bs Hs t c q cs p l ys := by
  obtain ⟨dx, c0, b, h, bs, hs, Y, C, p1, p2, e1, e2, e3, e4, e5⟩ := L.Y
  refine ⟨⟨dx, c0, b, h, bs, hs, ⟨e _ _ Y.i (fun _ z => by cases z), e _ _ Y.b (fun _ z => by cases z), e _ _ Y.h (fun _ z => by cases z)⟩, C.ext e, Paired.mapP p1 fun _ _ ⟨a, ea, z⟩ => ⟨a, ea, z.ext e⟩, Paired.mapP p2 fun _ _ ⟨a, ea, z⟩ => ⟨a, ea, z.ext e⟩, e1, e2, e3, e4, fun a o z => ?_⟩, L.T.ext e, e _ _ L.n (fun _ z => by cases z), T', L.gc, L.gq, L.gt, L.no⟩
  exact e _ _ (e5 _ _ z) fun ps y => L.no a ps (by rw [z, y])
theorem LS.draw (L : LS K CC CS TT G H s S Bs Hs t c q cs p l ys) (b : But t H H') (T' : Tape H' t c cs p' l') : LS K CC CS TT G H' s S Bs Hs t c q cs p' l' ys :=
  ⟨L.Y.but L.T.d L.gt b, T', b _ _ L.n (ne_of L.n L.T.d (by intro z; cases z)), tabs_but b L.T.d L.tb, L.gc, L.gq, L.gt, L.no⟩
theorem LS.op (L : LS K CC CS TT G H s S Bs Hs t c q cs p l ys) :
    ∃ B, SyG K CC CS B H s S Bs Hs ∧ ∀ H' S' Bs' Hs', SyG K CC CS B H' s S' Bs' Hs' → LS K CC CS TT G H' s S' Bs' Hs' t c q cs p l ys := by
  obtain ⟨B, Y1, s1, s2, k⟩ := L.Y.anew
  refine ⟨B, Y1, fun H' S' Bs' Hs' Y' => ?_⟩
  have lst : ∀ {a : Addr} {xs : List V}, (∃ o, G a = some o) → H a = some (.lst xs) → H' a = some (.lst xs) := fun {a xs} ⟨o, e⟩ z => by
    have e1 := s2 _ _ e
    have e2 := s1 _ _ e1
    rw [z] at e2
    rw [← e2] at e1
    exact Y'.same _ _ e1
  exact ⟨Y'.under s2, ⟨Y'.same _ _ (k _ _ L.T.d (fun _ _ _ z => by cases z) fun _ z => by cases z), lst L.gc L.T.c, L.T.n, L.T.m, L.T.p0, L.T.l0⟩, lst L.gq L.n, (tabs_in k L.tb).ext Y'.same, L.gc, L.gq, L.gt, L.no⟩
/-- but for the tape and the tables -/
def hideG (t : Addr) (H : Hp) : Hp := fun b => if b = t then none else match H b with
  | some (.tbl _) => none
  | o => o
theorem hideG_at {b : Addr} {o : HO} (e : H b = some o) (n : b ≠ t) (m : ∀ ps, o ≠ .tbl ps) : hideG t H b = some o := by
  unfold hideG
  rw [if_neg n, e]
  cases o with
  | tbl ps => exact absurd rfl (m ps)
  | _ => rfl
theorem hideG_same : Same (hideG t H) H := fun b o e => by
  unfold hideG at e
  split at e
  · cases e
  · split at e
    · cases e
    · exact e
theorem hideG_no (b : Addr) (ps : Array Value) : hideG t H b ≠ some (.tbl ps) := fun e => by
  unfold hideG at e
  split at e
  · cases e
  · split at e
    · cases e
    · rename_i n
      exact n _ e
theorem LS.start {H1 : Hp} (Y : SyG K CC CS H1 H s S Bs Hs) (T : Tape H1 t c cs p l) (n : H1 q = some (.lst (ys.map V.str))) (tb : LamX.Tabs TT H1) : LS K CC CS TT (hideG t H1) H s S Bs Hs t c q cs p l ys :=
  ⟨Y.under hideG_same, T.keep Y.same, Y.same _ _ n, tb.ext Y.same, ⟨_, hideG_at T.c T.ne.symm (fun _ z => by cases z)⟩, ⟨_, hideG_at n (ne_of n T.d (by intro z; cases z)) (fun _ z => by cases z)⟩, if_pos rfl, hideG_no⟩
end
theorem histG_snoc (Bs Hs : List Ct) (B S : Ct) : histG (Bs ++ [B]) Hs S = Hs := by cases Bs <;> rfl
/-! ### _law_stands of a system without items -/
def spStands0 (K : PySem.W.Frag) (CC CS : Addr) : Sp := fun vs H Q _ => ∃ (s pl r u : Addr) (n : Nat), vs = [.ref s, .ref pl] ∧ Sv K CC CS H s ⟨[], [], []⟩ n ∧ Plain H pl r u [] [] ∧ ∀ H', Same H H' → Q (.bl true) H'
def noneD : PyData := .list [.tuple [], .tuple [], .tuple []]
section
variable {P : Program} {w : World} {K : PySem.W.Frag} {mg : Str → Option Value} {base : Heap} {CC fCI CN fIN CS fSI fTk : Addr}
theorem scSt : FnScope ["_law_system", "_law_plain"] ["_law_system", "_law_plain"] (defScope sStands) := ⟨rfl, rfl, rfl, by decide +kernel, rfl, by decide +kernel, by decide +kernel⟩
theorem ok_stands0 {f fT pE gE pU gU pN gN pD gD : Addr} {fd fdT fdE fdU fdN : FuncData} (F : Fun K "_law_stands" "_law_stands" sStands f fd) (T : SysT K mg CS fSI fTk) (hrep : mg "repr" = none) (PT : PropV K CS pE gE pU gU pN gN pD gD)
    (GT : FnOk P w K mg base CX0 1 fT fdT ["_law_plain"] (spTold K)) (mT : mg "_law_told" = some (.ref fT)) (kT : PySem.W.keepIn K (.ref fT) = true) (bT : Binds K fdT ["_law_plain"] [])
    (GE : FnOk P w K mg base CX0 1 gE fdE ["self"] (spEqsV K CC CS)) (bE : Binds K fdE ["self"] []) (GU : FnOk P w K mg base CX0 1 gU fdU ["self"] (spUnsV K CC CS)) (bU : Binds K fdU ["self"] []) (GN : FnOk P w K mg base CX0 2 gN fdN ["self"] (spEnsV K CC CS)) (bN : Binds K fdN ["self"] []) :
    FnQ P w K mg base CX0 4 f fd ["_law_system", "_law_plain"] (spStands0 K CC CS) := by
  refine fun_okQ0 F scSt (fun vs H Q E h => ?_) (fun cdv A outer s H vs Q E hq h => ?_)
  · obtain ⟨s, pl, r, u, n, rfl, _⟩ := h
    rfl
  · obtain ⟨s, pl, r, u, n, rfl, V, hP, k⟩ := h
    have hr := hq.room
    have hr1 : Room 1 _ := hr.mono (by decide)
    have hr2 : Room 2 _ := hr.mono (by decide)
    refine ⟨_, pss_one (ps_ret (pe_cmpR op_eq (pe_callB (call_reprQ hq) (by rfl) hrep (by decide +kernel) (pa_cons (pe_lst
        (pa_cons (pe_prop (pv 0) T.cl PT.e GE hr2 bE .nil pass0 rfl) (pa_cons (pe_prop (pv 0) T.cl PT.u GU hr2 bU .nil pass0 rfl) (pa_cons (pe_prop (pv 0) T.cl PT.n GN hr bN .nil pass0 rfl) pa_nil)))) pa_nil))
      (pe_callB (call_reprQ hq) (by rfl) hrep (by decide +kernel) (pa_cons (pe_call GT hr1 rfl mT kT bT .nil pass0 (pa_cons (pv 1) pa_nil)) pa_nil)) (nomark _))), ?_⟩
    obtain ⟨dx, c, b, h, bs, Yi, _⟩ := V.ex
    refine ⟨_, rfl, s, dx, _, rfl, Yi, s, _, n, rfl, V, by decide, fun t1 H1 s1 q1 => ?_⟩
    refine ⟨_, rfl, s, dx, _, rfl, s1 _ _ Yi, s, _, n, rfl, V.keep s1, fun t2 q2 => ?_⟩
    refine ⟨_, rfl, s, dx, _, rfl, s1 _ _ Yi, s, _, n, rfl, V.keep s1, (fun _ z => nomatch z), fun t3 H2 s2 q3 => ⟨by show 3 ≤ sizeLine; decide, fun q hq0 => ?_⟩⟩
    have s3 : Same H2 (upd H2 q (.lst [.ref t1, .ref t2, .ref t3])) := same_new hq0
    have e0 : srt (([] : List (Str × List (Str × Int))).map (·.1)) = [] := (srt_perm []).eq_nil
    rw [e0] at q1
    have sh : noneD.showable = true := by decide +kernel
    have dp : noneD.depth ≤ 60 := by decide +kernel
    have ln : noneD.shown.length ≤ sizeLine := Nat.le_trans (show noneD.shown.length ≤ 100 by decide +kernel) (by decide)
    refine ⟨.ref q, noneD, rfl, .lst (SqL.of upd_same) (.cons (.tup (SqT.keep (SqT.keep q1 s2) s3) .nil) (.cons (.tup (SqT.keep (SqT.keep q2 s2) s3) .nil) (.cons (.tup (SqT.keep q3 s3) .nil) .nil))), sh, dp, ln, ?_⟩
    have s4 := (s1.trans s2).trans s3
    refine ⟨_, rfl, pl, r, u, [], [], rfl, hP.keep s4, by decide, by decide, fun q' t4 t5 t6 zs ws H3 s5 g1 g2 hq' w1 w2 w3 => ?_⟩
    obtain rfl := g1.eq_nil
    obtain rfl := g2.eq_nil
    refine ⟨.ref q', noneD, rfl, .lst (SqL.of hq') (.cons (.tup w1 .nil) (.cons (.tup w2 .nil) (.cons (.tup w3 .nil) .nil))), sh, dp, ln, rfl, ?_⟩
    rw [decide_eq_true rfl]
    exact k _ (s4.trans s5)
end
end Bo

set_option Elab.async false
set_option linter.all false
set_option maxRecDepth 100000
set_option maxHeartbeats 4000000
/-! a call that is refused -/
namespace Bo
open PySem PySem.Spec PyProof.Rows L2
theorem sg_of {K : PySem.W.Frag} {CC CS : Addr} {H H' : Hp} {x dx c b h : Addr} (hx : H x = none) (hd : H dx = none) (kk : ∀ q o, (upd (upd H dx (.own x)) x (.ins CS dx [])) q = some o → q ≠ x → H' q = some o) (e1 : h ≠ b) (e0 : (upd (upd H dx (.own x)) x (.ins CS dx [])) b = none) (e2 : (upd (upd H dx (.own x)) x (.ins CS dx [])) h = none)
    (Y : SgAt CS H' x dx c b h [] []) (C : CtIn K CC H' c ⟨[], [], []⟩) : SyG K CC CS H H' x ⟨[], [], []⟩ [] [] := by
  have free : ∀ q, (upd (upd H dx (.own x)) x (.ins CS dx [])) q = none → H q = none := fun q e => by
    cases z : H q with
    | none => rfl
    | some o => rw [upd_ne (ne_of_none z hx), upd_ne (ne_of_none z hd), z] at e; cases e
  exact ⟨dx, c, b, h, [], [], Y, C, .nil, .nil, e1, hx, free _ e0, free _ e2, fun q o e => kk q o (by rw [upd_ne (ne_of_none e hx), upd_ne (ne_of_none e hd)]; exact e) (ne_of_none e hx)⟩
theorem two_merge (r u : Addr) : mergeK [] [(kR, V.ref r), (kU, V.ref u)] = [(kR, V.ref r), (kU, V.ref u)] := by
  have e1 : putK ([] : List (Key × V)) kR (V.ref r) = [(kR, V.ref r)] := rfl
  have e2 : putK [(kR, V.ref r)] kU (V.ref u) = [(kR, V.ref r), (kU, V.ref u)] := putK_new _ (by rw [valV_neg neRU]; rfl)
  show putK (putK [] kR (V.ref r)) kU (V.ref u) = _
  rw [e1, e2]
theorem same_put {H H1 : Hp} {p : Addr} {o : HO} (k : Same H H1) (h : H p = none) : Same H (upd H1 p o) := fun b u e => by rw [upd_ne (ne_of_none e h)]; exact k _ _ e
section
variable {K : PySem.W.Frag} {CC CS : Addr} {cse : Nat → Addr} {TT : List (Addr × Str)} {G H : Hp} {s t c q : Addr} {S : Ct} {Bs Hs : List Ct} {cs : List Int} {p l : Int} {ys : List Str} {σ : L2.St} {Q Q1 : VK} {word qn : Str} {t' : XK → TE} {te : TE} {n : Int}
/-- a system that can be told -/
structure Tl (S : Ct) : Prop where
  e : ∀ p ∈ S.rows, p.2 = []
  l1 : S.rows.length < 64
  l2 : S.cols.length < 64
  t1 : ∀ y ∈ S.rows.map (·.1), TxtOk y
  t2 : ∀ y ∈ S.cols, TxtOk y
theorem refuse (L : LS K CC CS TT G H s S Bs Hs t c q cs p l ys) (F : Tl S) (e4 : σ[4]? = some (some (.ref s))) (hw : PyData.strOk word = true) (hn : Bs.length ≤ 3)
    (hrun : ∀ (H1 : Hp) (Q1 : VK), LS K CC CS TT G H1 s S Bs Hs t c q cs p l ys → (∀ a H2, Same H1 H2 → SqT K H2 a [.str word] → Q1 (.ref a) H2) → t' (EchA K cse Q1) σ H1 (backN Q1))
    (k : ∀ H', LS K CC CS TT G H' s S Bs Hs t c q cs p l ys → (∀ a xs, SqT K H a xs → SqT K H' a xs) → Q (.bl true) H') :
    tLam3 TT qn (tVar 4) (tTup (tCons (tC (.str word)) tNil)) (TTr K CC CS cse) t' σ H Q := by
  refine ⟨_, e4, L.tb, fun H2 c' eN T2 hc => ⟨by show 1 ≤ sizeLine; decide, fun du hdu => ?_⟩⟩
  have sm : Same H2 (upd H2 du (.tup [.str word])) := same_new hdu
  have L2' := (L.ext eN T2).keep sm
  have ed : (upd H2 du (.tup [.str word])) du = some (.tup [.str word]) := upd_same
  generalize upd H2 du (.tup [.str word]) = H3 at sm L2' ed ⊢
  refine ⟨sm _ _ hc, s, du, S, Bs.length, word, fun H' => LS K CC CS TT G H' s S Bs Hs t c q cs p l ys ∧ SqT K H' du [.str word] ∧ ∀ a xs, SqT K H a xs → SqT K H' a xs, rfl, rfl, ⟨L2', SqT.of ed, fun a xs z => SqT.keep (SqT.ext eN z) sm⟩, fun H' j => ⟨j.1.Y.sv, j.2.1⟩, fun H' H'' j kk => ⟨j.1.keep kk, SqT.keep j.2.1 kk, fun a xs z => SqT.keep (j.2.2 a xs z) kk⟩, hw, F.e, F.l1, F.l2, F.t1, F.t2, hn, fun H1 Q1 j kk => ?_, fun H' j => k H' j.1 j.2.2⟩
  exact hrun H1 _ j.1 fun a H4 s4 sq => kk a H4 ⟨j.1.keep s4, SqT.keep j.2.1 s4, fun a xs z => SqT.keep (j.2.2 a xs z) s4⟩ sq
/-- undo within a transaction -/
theorem undo_open (L : LS K CC CS TT G H s S Bs Hs t c q cs p l ys) (e4 : σ[4]? = some (some (.ref s))) (hl : Hs.length < 1000000) (hB : Bs ≠ []) (hte : ∀ (H : Hp) (R : VK), R (.int n) H → te σ H R) (k : ∀ a H2, Same H H2 → SqT K H2 a [.str (Str.ofString "open")] → Q1 (.ref a) H2) :
    tMethN CS "undo" 1 (spUndo K CC CS (cse 7) (cse 8)) (fun vs zs => vs ++ zs) (EchA K cse Q1) (tVar 4) (tCons te tNil) σ H (backN Q1) := by
  obtain ⟨dx, c0, b, h, bs, hs, A0, _⟩ := id L.Y
  refine ⟨_, e4, s, dx, _, rfl, A0.i, syF_no _ _ _ (by decide +kernel) (by decide +kernel) (by decide +kernel), hte _ _ ⟨rfl, s, n, G, S, Bs, Hs, rfl, L.Y, hl, .inl ⟨hB, ?_⟩⟩⟩
  exact ⟨7, by decide, rfl, .inl ⟨rfl, rfl, fun a H2 sm sq => k a H2 sm sq⟩⟩
/-- undo of more changes than there are -/
theorem undo_many (L : LS K CC CS TT G H s S [] Hs t c q cs p l ys) (e4 : σ[4]? = some (some (.ref s))) (hl : Hs.length < 1000000) (hn : (Hs.length : Int) < n) (hte : ∀ (H : Hp) (R : VK), R (.int n) H → te σ H R) (k : ∀ a H2, Same H H2 → SqT K H2 a [.str (Str.ofString "undo")] → Q1 (.ref a) H2) :
    tMethN CS "undo" 1 (spUndo K CC CS (cse 7) (cse 8)) (fun vs zs => vs ++ zs) (EchA K cse Q1) (tVar 4) (tCons te tNil) σ H (backN Q1) := by
  obtain ⟨dx, c0, b, h, bs, hs, A0, _⟩ := id L.Y
  refine ⟨_, e4, s, dx, _, rfl, A0.i, syF_no _ _ _ (by decide +kernel) (by decide +kernel) (by decide +kernel), hte _ _ ⟨rfl, s, n, G, S, [], Hs, rfl, L.Y, hl, .inr (.inl ⟨rfl, hn, ?_⟩)⟩⟩
  exact ⟨8, by decide, rfl, .inl ⟨rfl, rfl, fun a H2 sm sq => k a H2 sm sq⟩⟩
theorem undo_one (L : LS K CC CS TT G H s S [] [] t c q cs p l ys) (e4 : σ[4]? = some (some (.ref s))) (k : ∀ a H2, Same H H2 → SqT K H2 a [.str (Str.ofString "undo")] → Q1 (.ref a) H2) :
    tMeth CS "undo" (spUndo K CC CS (cse 7) (cse 8)) [V.int 1] (EchA K cse Q1) (tVar 4) tNil σ H (backN Q1) := by
  obtain ⟨dx, c0, b, h, bs, hs, A0, _⟩ := id L.Y
  refine ⟨_, e4, s, dx, _, rfl, A0.i, syF_no _ _ _ (by decide +kernel) (by decide +kernel) (by decide +kernel), s, 1, G, S, [], [], rfl, L.Y, by decide, .inr (.inl ⟨rfl, by decide, ?_⟩)⟩
  exact ⟨8, by decide, rfl, .inl ⟨rfl, rfl, fun a H2 sm sq => k a H2 sm sq⟩⟩
theorem commit_none (L : LS K CC CS TT G H s S [] Hs t c q cs p l ys) (e4 : σ[4]? = some (some (.ref s))) (hl : Hs.length < 1000000) (k : ∀ a H2, Same H H2 → SqT K H2 a [.str (Str.ofString "closed")] → Q1 (.ref a) H2) :
    tMeth CS "commit" (spCm K CC CS (cse 6)) [] (EchA K cse Q1) (tVar 4) tNil σ H (backN Q1) := by
  obtain ⟨dx, c0, b, h, bs, hs, A0, _⟩ := id L.Y
  refine ⟨_, e4, s, dx, _, rfl, A0.i, syF_no _ _ _ (by decide +kernel) (by decide +kernel) (by decide +kernel), s, G, S, [], Hs, rfl, L.Y, hl, .inl ⟨rfl, ?_⟩⟩
  exact ⟨6, by decide, rfl, .inl ⟨rfl, rfl, fun a H2 sm sq => k a H2 sm sq⟩⟩
theorem rollback_none (L : LS K CC CS TT G H s S [] Hs t c q cs p l ys) (e4 : σ[4]? = some (some (.ref s))) (k : ∀ a H2, Same H H2 → SqT K H2 a [.str (Str.ofString "closed")] → Q1 (.ref a) H2) :
    tMeth CS "rollback" (spRbX K CC CS (cse 6)) [] (EchA K cse Q1) (tVar 4) tNil σ H (backN Q1) := by
  obtain ⟨dx, c0, b, h, bs, hs, A0, _⟩ := id L.Y
  refine ⟨_, e4, s, dx, _, rfl, A0.i, syF_no _ _ _ (by decide +kernel) (by decide +kernel) (by decide +kernel), s, G, S, [], Hs, rfl, L.Y, .inl ⟨rfl, ?_⟩⟩
  exact ⟨6, by decide, rfl, .inl ⟨rfl, rfl, fun a H2 sm sq => k a H2 sm sq⟩⟩
/-- add_unknown of the name in slot 6 of the names in slot 3 -/
theorem add_one {i : Nat} {y : Str} (L : LS K CC CS TT G H s S Bs Hs t c q cs p l ys) (e4 : σ[4]? = some (some (.ref s))) (e3 : σ[3]? = some (some (.ref q))) (e6 : σ[6]? = some (some (.int (0 + (i : Int))))) (hy : ys[i]? = some y) (ok : nameOk y = true) (hl : Hs.length < 1000000) (nd : ([y] ++ S.cols).Nodup) (ln : ([y] ++ S.cols).length ≤ 24)
    (k : ∀ (H' : Hp) (zs : List Str), zs.Perm ([y] ++ S.cols) → LS K CC CS TT G H' s { S with cols := zs } Bs (histG Bs Hs S) t c q cs p l ys → Q .non H') :
    tMethR CS "add_unknown" (spAUG K CC CS) E0 (tVar 4) (tCons (tOp (rIxL K) (tVar 3) (tVar 6)) tNil) σ H Q := by
  obtain ⟨B, Y1, kk⟩ := L.op
  obtain ⟨dx, c0, b, h, bs, hs, A0, _⟩ := id Y1
  have hy' : (ys.map V.str)[i]? = some (.str y) := by rw [List.getElem?_map, hy]; rfl
  refine ⟨_, e4, s, dx, _, rfl, A0.i, syF_no _ _ _ (by decide +kernel) (by decide +kernel) (by decide +kernel), _, e3, _, e6, q, _, _, .str y, rfl, rfl, SqL.of L.n, ?_, s, B, S, Bs, Hs, [y], rfl, Y1, hl, fun z hz => by rw [List.mem_singleton.mp hz]; exact ok, nd, ln, fun H' zs pm _ Y' => k H' zs pm (kk _ _ _ _ Y')⟩
  rw [Int.zero_add]
  exact atI_nat hy'
theorem add_eq {i : Nat} {y : Str} (L : LS K CC CS TT G H s S Bs Hs t c q cs p l ys) (e4 : σ[4]? = some (some (.ref s))) (e3 : σ[3]? = some (some (.ref q))) (e6 : σ[6]? = some (some (.int (0 + (i : Int))))) (hy : ys[i]? = some y) (ok : nameOk y = true) (hl : Hs.length < 1000000) (n1 : y ∉ S.rows.map (·.1)) (n2 : y ∉ S.cons.map (·.1)) (l1 : S.rows.length < 24) (l2 : S.cons.length < 24)
    (k : ∀ (H' : Hp), LS K CC CS TT G H' s { S with rows := S.rows ++ [(y, [])], cons := S.cons ++ [(y, 0)] } Bs (histG Bs Hs S) t c q cs p l ys → Q .non H') :
    tMethR CS "add_equation" (spAEG K CC CS) E0 (tVar 4) (tCons (tOp (rIxL K) (tVar 3) (tVar 6)) tNil) σ H Q := by
  obtain ⟨B, Y1, kk⟩ := L.op
  obtain ⟨dx, c0, b, h, bs, hs, A0, _⟩ := id Y1
  have hy' : (ys.map V.str)[i]? = some (.str y) := by rw [List.getElem?_map, hy]; rfl
  refine ⟨_, e4, s, dx, _, rfl, A0.i, syF_no _ _ _ (by decide +kernel) (by decide +kernel) (by decide +kernel), _, e3, _, e6, q, _, _, .str y, rfl, rfl, SqL.of L.n, ?_, s, B, S, Bs, Hs, y, rfl, Y1, hl, ok, n1, n2, l1, l2, fun H' Y' => k H' (kk _ _ _ _ Y')⟩
  rw [Int.zero_add]
  exact atI_nat hy'
theorem begin_one (L : LS K CC CS TT G H s S Bs Hs t c q cs p l ys) (e4 : σ[4]? = some (some (.ref s))) (hl : Bs.length < 1000000) (k : ∀ (H' : Hp), LS K CC CS TT G H' s S (Bs ++ [S]) Hs t c q cs p l ys → Q .non H') :
    tMeth CS "begin" (spBg K CC CS) [] E0 (tVar 4) tNil σ H Q := by
  obtain ⟨B, Y1, kk⟩ := L.op
  obtain ⟨dx, c0, b, h, bs, hs, A0, _⟩ := id Y1
  exact ⟨_, e4, s, dx, _, rfl, A0.i, syF_no _ _ _ (by decide +kernel) (by decide +kernel) (by decide +kernel), s, B, S, Bs, Hs, rfl, Y1, hl, fun H' Y' => k H' (kk _ _ _ _ Y')⟩
theorem commit_one {B1 : Ct} {Bs' : List Ct} (L : LS K CC CS TT G H s S (Bs' ++ [B1]) Hs t c q cs p l ys) (e4 : σ[4]? = some (some (.ref s))) (hl : Hs.length < 1000000) (k : ∀ (H' : Hp), LS K CC CS TT G H' s S Bs' (histG Bs' Hs B1) t c q cs p l ys → Q .non H') :
    tMeth CS "commit" (spCm K CC CS (cse 6)) [] E0 (tVar 4) tNil σ H Q := by
  obtain ⟨B, Y1, kk⟩ := L.op
  obtain ⟨dx, c0, b, h, bs, hs, A0, _⟩ := id Y1
  exact ⟨_, e4, s, dx, _, rfl, A0.i, syF_no _ _ _ (by decide +kernel) (by decide +kernel) (by decide +kernel), s, B, S, _, Hs, rfl, Y1, hl, .inr ⟨Bs', B1, rfl, fun H' Y' => k H' (kk _ _ _ _ Y')⟩⟩
theorem rollback_one {B1 : Ct} {Bs' : List Ct} (L : LS K CC CS TT G H s S (Bs' ++ [B1]) Hs t c q cs p l ys) (e4 : σ[4]? = some (some (.ref s))) (k : ∀ (H' : Hp), LS K CC CS TT G H' s B1 Bs' Hs t c q cs p l ys → Q .non H') :
    tMeth CS "rollback" (spRbX K CC CS (cse 6)) [] E0 (tVar 4) tNil σ H Q := by
  obtain ⟨B, Y1, kk⟩ := L.op
  obtain ⟨dx, c0, b, h, bs, hs, A0, _⟩ := id Y1
  exact ⟨_, e4, s, dx, _, rfl, A0.i, syF_no _ _ _ (by decide +kernel) (by decide +kernel) (by decide +kernel), s, B, S, _, Hs, rfl, Y1, .inr ⟨Bs', B1, rfl, fun H' Y' => k H' (kk _ _ _ _ Y')⟩⟩
theorem undo_all {B1 : Ct} (L : LS K CC CS TT G H s S [] Hs t c q cs p l ys) (e4 : σ[4]? = some (some (.ref s))) (hl : Hs.length < 1000000) (hB : Hs[0]? = some B1) (hte : ∀ (H : Hp) (R : VK), R (.int (Hs.length : Int)) H → te σ H R) (k : ∀ (H' : Hp), LS K CC CS TT G H' s B1 [] [] t c q cs p l ys → Q .non H') :
    tMethN CS "undo" 1 (spUndo K CC CS (cse 7) (cse 8)) (fun vs zs => vs ++ zs) E0 (tVar 4) (tCons te tNil) σ H Q := by
  obtain ⟨B, Y1, kk⟩ := L.op
  obtain ⟨dx, c0, b, h, bs, hs, A0, _⟩ := id Y1
  exact ⟨_, e4, s, dx, _, rfl, A0.i, syF_no _ _ _ (by decide +kernel) (by decide +kernel) (by decide +kernel), hte _ _ ⟨rfl, s, _, B, S, [], Hs, rfl, Y1, hl, .inr (.inr ⟨rfl, 0, B1, hB, by omega, fun H' Y' => k H' (kk _ _ _ _ Y')⟩)⟩⟩
end
end Bo

set_option Elab.async false
set_option linter.all false
set_option maxRecDepth 100000
set_option maxHeartbeats 16000000
/-! the law -/
namespace Bo
open PySem L2
abbrev sLaw : Stmt := top 73
abbrev nL : List Str := ["_law_script", "_law_tape", "_law_turn", "_law_names_here", "_law_system", "_law_many", "_law_k", "_law_due_count", "_law_deep", "_law_count_of", "_law_is_kept", "_law_total"]
def spLaw (K : PySem.W.Frag) (PT : Addr) : Sp := fun vs H Q _ => ∃ (a : Addr) (ns : List Int), vs = [.ref a] ∧ SqL K H a (ns.map V.int) ∧ ns.length ≤ 63 ∧ H PT = some (.tbl #[]) ∧ ∀ H', Q (.bl true) H'
structure TxtL (mg : Str → Option Value) : Prop where
  rng : mg "range" = none
  min_ : mg "min" = none
  len : mg "len" = none
  rep : mg "repr" = none
  int_ : mg "int" = none
structure FunC (K : PySem.W.Frag) (x qual : Str) (st : Stmt) (f : Addr) (fd : FuncData) (c : Addr) : Prop where
  ex : ∃ (oc : Value) (od : Option Addr) (kV doc pm : Value) (an : Option Addr) (ct : Value) (osl : Array (Option Value)),
    fd = PySem.W.fnOf x qual (defArgs st) (defBody st) (defScope st) .none kV doc pm an (.ref c) ct ∧ K.lookup f = some ⟨oc, od, .func fd, osl⟩ ∧ PySem.W.codeIn K (.ref c) qual = true
section
variable {P : Program} {w : World} {K : PySem.W.Frag} {mg : Str → Option Value} {base : Heap} {CC fCI CS fSI fTk CB : Addr} {cs : Nat → Addr}
theorem scL : FnScope nL ["_law_script"] (defScope sLaw) := ⟨rfl, rfl, rfl, by decide +kernel, rfl, by decide +kernel, by decide +kernel⟩
theorem ok_law {f c PT fB fD fN fE fR fSt fAU fAE fBg fCm fRb fUn pE gE pU gU pN gN pD gD : Addr} {dsU : List Value} {fd fdB fdD fdN fdE fdR fdSt fdSI fdBg fdCm fdRb fdUn fdEq fdUs fdEn fdDp : FuncData} (F : FunC K "law" "law" sLaw f fd c) (TB : LamX.TabB base mg c PT) (T : SysT K mg CS fSI fTk) (TE : ErrA K mg CB cs) (TX : TxtL mg) (PT4 : PropV K CS pE gE pU gU pN gN pD gD)
    (GB : FnOk P w K mg base CX0 1 fB fdB ["_law_script"] (spBegin K)) (mB : mg "_law_begin" = some (.ref fB)) (kB : PySem.W.keepIn K (.ref fB) = true) (bB : Binds K fdB ["_law_script"] [])
    (GD : FnOk P w K mg base CX0 1 fD fdD ["_law_tape", "_law_many"] spDraw) (mD : mg "_law_draw" = some (.ref fD)) (kD : PySem.W.keepIn K (.ref fD) = true) (bD : Binds K fdD ["_law_tape", "_law_many"] [])
    (GN : FnOk P w K mg base CX0 3 fN fdN ["_law_tape", "_law_many"] spNames) (mN : mg "_law_names" = some (.ref fN)) (kN : PySem.W.keepIn K (.ref fN) = true) (bN : Binds K fdN ["_law_tape", "_law_many"] [])
    (FE : Fun K "_law_error" "_law_error" sErr fE fdE) (mE : mg "_law_error" = some (.ref fE)) (bE : Binds K fdE ["_law_call"] [])
    (FR : Fun K "_law_refuses" "_law_refuses" sRf fR fdR) (mR : mg "_law_refuses" = some (.ref fR)) (bR : Binds K fdR ["_law_system", "_law_told_here", "_law_due"] [])
    (GSt : FnQ P w K mg base CX0 4 fSt fdSt ["_law_system", "_law_plain"] (spStands0 K CC CS)) (mSt : mg "_law_stands" = some (.ref fSt)) (kSt : PySem.W.keepIn K (.ref fSt) = true) (bSt : Binds K fdSt ["_law_system", "_law_plain"] [])
    (GS : FnOk P w K mg base CX0 3 fSI fdSI ["self"] (spSInitG K CC CS)) (bS : Binds K fdSI ["self"] [])
    (GAU : FnR P w K mg base CX0 6 fAU (spAUG K CC CS)) (mAU : Meth K CS "add_unknown" fAU) (GAE : FnR P w K mg base CX0 7 fAE (spAEG K CC CS)) (mAE : Meth K CS "add_equation" fAE)
    (GBg : FnOk P w K mg base CX0 1 fBg fdBg ["self"] (spBg K CC CS)) (mBg : Meth K CS "begin" fBg) (bBg : Binds K fdBg ["self"] [])
    (GCm : FnOk P w K mg base (L2.CX P w) 1 fCm fdCm ["self"] (spCm K CC CS (cs 6))) (mCm : Meth K CS "commit" fCm) (bCm : Binds K fdCm ["self"] [])
    (GRb : FnOk P w K mg base (L2.CX P w) 1 fRb fdRb ["self"] (spRbX K CC CS (cs 6))) (mRb : Meth K CS "rollback" fRb) (bRb : Binds K fdRb ["self"] [])
    (GUn : FnOk P w K mg base (L2.CX P w) 1 fUn fdUn ["self", "count"] (spUndo K CC CS (cs 7) (cs 8))) (mUn : Meth K CS "undo" fUn) (kbUn : KBn K fdUn ["self", "count"] 1 ["count"] (fun us ws => us ++ ws) (fun vs zs => vs ++ zs)) (dUn : Vals [V.int 1] dsU) (bUn : Binds K fdUn ["self", "count"] dsU)
    (GEq : FnOk P w K mg base CX0 1 gE fdEq ["self"] (spEqsV K CC CS)) (bEq : Binds K fdEq ["self"] []) (GUs : FnOk P w K mg base CX0 1 gU fdUs ["self"] (spUnsV K CC CS)) (bUs : Binds K fdUs ["self"] [])
    (GEn : FnOk P w K mg base CX0 2 gN fdEn ["self"] (spEnsV K CC CS)) (bEn : Binds K fdEn ["self"] []) (GDp : FnOk P w K mg base CX0 1 gD fdDp ["self"] (spDepV K CC CS)) (bDp : Binds K fdDp ["self"] []) :
    FnQ P w K mg base CX0 10 f fd ["_law_script"] (spLaw K PT) := by
  obtain ⟨oc, od, kV, doc, pm, an, ct, osl, rfl, lk, hcd⟩ := F.ex
  obtain ⟨oc2, od2, kV2, doc2, pm2, an2, cdv2, ct2, osl2, rfl, lkE, hcdE⟩ := FE.ex
  obtain ⟨oc3, od3, kV3, doc3, pm3, an3, cdv3, ct3, osl3, rfl, lkR, hcdR⟩ := FR.ex
  refine fnq_of lk hcd scL (fun vs H Q E h => ?_) (fun A outer s H vs Q E hq h => ?_)
  · obtain ⟨a, ns, rfl, _⟩ := h
    rfl
  · obtain ⟨a, ns, rfl, hS, hl, hP, k⟩ := h
    have hr := hq.room
    have hu : (A.deeper (PyProof.Rows.envOfC "law" (defScope sLaw) s.heap.objs.size f (.ref c))).units + 64 < cLine := by have := hr.un; omega
    have hr1 : Room 1 _ := hr.mono (by decide)
    have hr2 : Room 2 _ := hr.mono (by decide)
    have hr3 : Room 3 _ := hr.mono (by decide)
    have hr4 : Room 4 _ := hr.mono (by decide)
    have hr6 : Room 6 _ := hr.mono (by decide)
    have hr7 : Room 7 _ := hr.mono (by decide)
    have hq4 : Quiet 4 _ := hq.mono (by decide)
    have hq5 : Quiet 5 _ := hq.mono (by decide)
    obtain ⟨q, hqe⟩ : ∃ q : Str, (cxOf CX0 P w K mg base nL "law" (defScope sLaw) f (.ref c) A outer s H E).nox.env.qual ++ "<lambda>" = q := ⟨_, rfl⟩
    suffices z : ∃ t, PSs (cxOf CX0 P w K mg base nL "law" (defScope sLaw) f (.ref c) A outer s H E).nox (defBody sLaw) t ∧ t { nx := fun _ H' => Q .non H', rt := Q } (L2.start nL [.ref a]) H from let ⟨t, h1, h2⟩ := z; ⟨t, h1.nox, h2⟩
    have hG1 : ∀ q, GivesOn (cxOf CX0 P w K mg base nL "law" (defScope sLaw) f (.ref c) A outer s H E).nox nRf "_law_refuses" (defScope sRf) fR cdv3 (defBody sRf) "_law_error" "_law_told_here" 1 q (TTa K cs) (TTr K CC CS cs) := fun q => ref_gives hq5 T TX.rep PT4 GEq bEq GUs bUs GEn bEn GDp bDp
    refine ⟨_, pss_cons (ps_set (i := 1) scL.nd rfl (.inl rfl) (pe_call GB hr1 rfl mB kB bB .nil pass0 (pa_cons (pv 0) pa_nil)))
      (pss_cons (ps_for PassesOwn.never rfl (pi_range1 rfl TX.rng (pa_cons (pe_op op_add pe_int (pe_callB (call_min2 rfl) (by rfl) TX.min_ (by decide +kernel) (pa_cons pe_int (pa_cons (pe_callB call_len_seq (by rfl) TX.len PySem.boot_len (pa_cons (pv 0) pa_nil)) pa_nil)))) pa_nil)) (pg_name (i := 2) scL.nd rfl (.inl rfl)) (pss_cons (ps_asg (pe_tup (pa_cons (pe_call GN hr3 rfl mN kN bN .nil pass0 (pa_cons (pv 1) (pa_cons pe_int pa_nil))) (pa_cons (pe_make0 T.mkC GS hr4 rfl T.g bS .nil pass0) (pa_cons (pe_call GD hr1 rfl mD kD bD .nil pass0 (pa_cons (pv 1) (pa_cons pe_int pa_nil))) pa_nil)))) (pg_tup (by rfl) (pgs_cons (pg_name (i := 3) scL.nd rfl (.inl rfl)) (pgs_cons (pg_name (i := 4) scL.nd rfl (.inr rfl)) (pgs_cons (pg_name (i := 5) scL.nd rfl (.inl rfl)) pgs_nil)))))
        (pss_cons (ps_for PassesOwn.never rfl (pi_range1 rfl TX.rng (pa_cons (pv 5) pa_nil)) (pg_name (i := 6) scL.nd rfl (.inl rfl)) (pss_one (ps_expr (pe_methR (pv 4) T.cl mAU GAU hr6 pass0 (pa_cons (pe_ix ix_list (pv 3) (pv 6) (fun _ _ => rfl)) pa_nil)))))
        (pss_cons (ps_for PassesOwn.never rfl (pi_tup (pe_tup (pa_cons (pe_op op_add (pv 5) pe_int) (pa_cons (pe_op op_pow pe_int pe_int) (pa_cons (pe_op op_add (pe_op op_add (pv 5) pe_int) (pe_call GD hr1 rfl mD kD bD .nil pass0 (pa_cons (pv 1) (pa_cons pe_int pa_nil)))) pa_nil))))) (pg_name (i := 7) scL.nd rfl (.inr rfl)) (pss_one (ps_if (pt_not (pt_val (pe_lamcall3 (x := "_law_error") (T := [(PT, q)]) (TTi := TTa K cs) (TT := TTr K CC CS cs) (k := 1) (t := fun E => tMethN CS "undo" 1 (spUndo K CC CS (cs 7) (cs 8)) (fun vs zs => vs ++ zs) E (tVar 4) (tCons (tVar 7) tNil)) rfl mR FR.kp lkR hcdR bR scRf rfl (.inl rfl) (fun _ _ => rfl) mE FE.kp lkE hcdE bE scErr rfl (.inl rfl) (hG1 _) (fun _ => err_givesA TE) TB rfl (List.mem_singleton.mpr (congrArg (Prod.mk PT) hqe)) (fun p hp _ => by rw [List.mem_singleton.mp hp]; exact hqe.symm) hr4 rfl rfl (LamX.lamS_by (sc := defScope sLaw) (by decide +kernel)) rfl (fun _ _ _ _ _ => rfl)
            (fun A2 outer2 s2 H2 E2 f2 c2 hrL => pe_methN (ks := ["count"]) (pv 4) T.cl mUn GUn hrL kbUn (passes_call (takes_of rfl rfl rfl rfl) (fun _ _ _ _ h => h)) (pk_cons (pv 7) pk_nil))
            (pv 4) (pe_tup (pa_cons pe_str pa_nil))))) (pss_one (ps_ret pe_bl)) pss_nil)))
        (C8.pss_cut (ps_if (PW.pt (pw_and (pt_cmpR op_eq (pv 5) pe_int (nomark _)) (pw_and1 (pt_not (pt_val (pe_lamcall3 (x := "_law_error") (T := [(PT, q)]) (TTi := TTa K cs) (TT := TTr K CC CS cs) (k := 1) (t := fun E => tMeth CS "undo" (spUndo K CC CS (cs 7) (cs 8)) [V.int 1] E (tVar 4) tNil) rfl mR FR.kp lkR hcdR bR scRf rfl (.inl rfl) (fun _ _ => rfl) mE FE.kp lkE hcdE bE scErr rfl (.inl rfl) (hG1 _) (fun _ => err_givesA TE) TB rfl (List.mem_singleton.mpr (congrArg (Prod.mk PT) hqe)) (fun p hp _ => by rw [List.mem_singleton.mp hp]; exact hqe.symm) hr4 rfl rfl (LamX.lamS_by (sc := defScope sLaw) (by decide +kernel)) rfl (fun _ _ _ _ _ => rfl)
            (fun A2 outer2 s2 H2 E2 f2 c2 hrL => pe_meth0 (pv 4) T.cl mUn GUn hrL bUn dUn (passes_call (takes_of rfl rfl rfl rfl) (fun _ _ _ _ h => h)))
            (pv 4) (pe_tup (pa_cons pe_str pa_nil)))))))) (pss_one (ps_ret pe_bl)) pss_nil)
        (pss_cons (ps_if (pt_not (pt_val (pe_lamcall3 (x := "_law_error") (T := [(PT, q)]) (TTi := TTa K cs) (TT := TTr K CC CS cs) (k := 1) (t := fun E => tMeth CS "commit" (spCm K CC CS (cs 6)) [] E (tVar 4) tNil) rfl mR FR.kp lkR hcdR bR scRf rfl (.inl rfl) (fun _ _ => rfl) mE FE.kp lkE hcdE bE scErr rfl (.inl rfl) (hG1 _) (fun _ => err_givesA TE) TB rfl (List.mem_singleton.mpr (congrArg (Prod.mk PT) hqe)) (fun p hp _ => by rw [List.mem_singleton.mp hp]; exact hqe.symm) hr4 rfl rfl (LamX.lamS_by (sc := defScope sLaw) (by decide +kernel)) rfl (fun _ _ _ _ _ => rfl)
            (fun A2 outer2 s2 H2 E2 f2 c2 hrL => pe_meth0 (pv 4) T.cl mCm GCm hrL bCm .nil (passes_call (takes_of rfl rfl rfl rfl) (fun _ _ _ _ h => h)))
            (pv 4) (pe_tup (pa_cons pe_str pa_nil))))) (pss_one (ps_ret pe_bl)) pss_nil)
        (pss_cons (ps_if (pt_not (pt_val (pe_lamcall3 (x := "_law_error") (T := [(PT, q)]) (TTi := TTa K cs) (TT := TTr K CC CS cs) (k := 1) (t := fun E => tMeth CS "rollback" (spRbX K CC CS (cs 6)) [] E (tVar 4) tNil) rfl mR FR.kp lkR hcdR bR scRf rfl (.inl rfl) (fun _ _ => rfl) mE FE.kp lkE hcdE bE scErr rfl (.inl rfl) (hG1 _) (fun _ => err_givesA TE) TB rfl (List.mem_singleton.mpr (congrArg (Prod.mk PT) hqe)) (fun p hp _ => by rw [List.mem_singleton.mp hp]; exact hqe.symm) hr4 rfl rfl (LamX.lamS_by (sc := defScope sLaw) (by decide +kernel)) rfl (fun _ _ _ _ _ => rfl)
            (fun A2 outer2 s2 H2 E2 f2 c2 hrL => pe_meth0 (pv 4) T.cl mRb GRb hrL bRb .nil (passes_call (takes_of rfl rfl rfl rfl) (fun _ _ _ _ h => h)))
            (pv 4) (pe_tup (pa_cons pe_str pa_nil))))) (pss_one (ps_ret pe_bl)) pss_nil)
        (pss_cons (ps_set (i := 8) scL.nd rfl (.inl rfl) (pe_op op_add pe_int (pe_call GD hr1 rfl mD kD bD .nil pass0 (pa_cons (pv 1) (pa_cons pe_int pa_nil)))))
        (pss_cons (ps_for PassesOwn.never rfl (pi_range1 rfl TX.rng (pa_cons (pv 8) pa_nil)) (pg_name (i := 6) scL.nd rfl (.inl rfl)) (pss_cons (ps_expr (pe_meth0 (pv 4) T.cl mBg GBg hr1 bBg .nil pass0))
        (pss_cons (ps_expr (pe_methR (pv 4) T.cl mAE GAE hr7 pass0 (pa_cons (pe_ix ix_list (pv 3) (pv 6) (fun _ _ => rfl)) pa_nil)))
        (pss_one (ps_for PassesOwn.never rfl (pi_tup (pe_tup (pa_cons pe_int (pa_cons (pe_op op_add (pv 5) pe_int) (pa_cons (pe_op op_pow pe_int pe_int) pa_nil))))) (pg_name (i := 9) scL.nd rfl (.inr rfl)) (pss_one (ps_if (pt_not (pt_val (pe_lamcall3 (x := "_law_error") (T := [(PT, q)]) (TTi := TTa K cs) (TT := TTr K CC CS cs) (k := 1) (t := fun E => tMethN CS "undo" 1 (spUndo K CC CS (cs 7) (cs 8)) (fun vs zs => vs ++ zs) E (tVar 4) (tCons (tVar 9) tNil)) rfl mR FR.kp lkR hcdR bR scRf rfl (.inl rfl) (fun _ _ => rfl) mE FE.kp lkE hcdE bE scErr rfl (.inl rfl) (hG1 _) (fun _ => err_givesA TE) TB rfl (List.mem_singleton.mpr (congrArg (Prod.mk PT) hqe)) (fun p hp _ => by rw [List.mem_singleton.mp hp]; exact hqe.symm) hr4 rfl rfl (LamX.lamS_by (sc := defScope sLaw) (by decide +kernel)) rfl (fun _ _ _ _ _ => rfl)
            (fun A2 outer2 s2 H2 E2 f2 c2 hrL => pe_methN (ks := ["count"]) (pv 4) T.cl mUn GUn hrL kbUn (passes_call (takes_of rfl rfl rfl rfl) (fun _ _ _ _ h => h)) (pk_cons (pv 9) pk_nil))
            (pv 4) (pe_tup (pa_cons pe_str pa_nil))))) (pss_one (ps_ret pe_bl)) pss_nil)))))))
        (pss_cons (ps_set (i := 10) scL.nd rfl (.inl rfl) (pe_cmpR op_eq (pe_call GD hr1 rfl mD kD bD .nil pass0 (pa_cons (pv 1) (pa_cons pe_int pa_nil))) pe_int (nomark _)))
        (pss_cons (ps_for PassesOwn.never rfl (pi_range1 rfl TX.rng (pa_cons (pv 8) pa_nil)) (pg_name (i := 6) scL.nd rfl (.inl rfl)) (pss_one (ps_if (pt_cmp (pc_notN (pe_ifExp (pt_val (pv 10)) (pe_meth0 (pv 4) T.cl mCm GCm hr1 bCm .nil passN) (pe_meth0 (pv 4) T.cl mRb GRb hr1 bRb .nil passN)))) (pss_one (ps_ret pe_bl)) pss_nil)))
        (pss_cons (ps_if (PW.pt (pw_or (pt_not (pt_val (pe_lamcall3 (x := "_law_error") (T := [(PT, q)]) (TTi := TTa K cs) (TT := TTr K CC CS cs) (k := 1) (t := fun E => tMeth CS "commit" (spCm K CC CS (cs 6)) [] E (tVar 4) tNil) rfl mR FR.kp lkR hcdR bR scRf rfl (.inl rfl) (fun _ _ => rfl) mE FE.kp lkE hcdE bE scErr rfl (.inl rfl) (hG1 _) (fun _ => err_givesA TE) TB rfl (List.mem_singleton.mpr (congrArg (Prod.mk PT) hqe)) (fun p hp _ => by rw [List.mem_singleton.mp hp]; exact hqe.symm) hr4 rfl rfl (LamX.lamS_by (sc := defScope sLaw) (by decide +kernel)) rfl (fun _ _ _ _ _ => rfl)
            (fun A2 outer2 s2 H2 E2 f2 c2 hrL => pe_meth0 (pv 4) T.cl mCm GCm hrL bCm .nil (passes_call (takes_of rfl rfl rfl rfl) (fun _ _ _ _ h => h)))
            (pv 4) (pe_tup (pa_cons pe_str pa_nil))))) (pw_or1 (pt_cmpR op_ne (pe_callB (call_reprQ hq) (by rfl) TX.rep (by decide +kernel) (pa_cons (pe_prop (pv 4) T.cl PT4.d GDp hr2 bDp .nil pass0 rfl) pa_nil)) pe_str (nomark _))))) (pss_one (ps_ret pe_bl)) pss_nil)
        (pss_cons (ps_set (i := 11) scL.nd rfl (.inr rfl) (pe_op op_add (pv 5) (pe_callTy call_int1 (by rfl) TX.int_ (by decide +kernel) (pa_cons (pv 10) pa_nil))))
        (pss_cons (ps_if (pt_not (pt_val (pe_lamcall3 (x := "_law_error") (T := [(PT, q)]) (TTi := TTa K cs) (TT := TTr K CC CS cs) (k := 1) (t := fun E => tMethN CS "undo" 1 (spUndo K CC CS (cs 7) (cs 8)) (fun vs zs => vs ++ zs) E (tVar 4) (tCons (tOp (rI0 fun i j => V.int (i + j)) (tVar 11) (tC (V.int 1))) tNil)) rfl mR FR.kp lkR hcdR bR scRf rfl (.inl rfl) (fun _ _ => rfl) mE FE.kp lkE hcdE bE scErr rfl (.inl rfl) (hG1 _) (fun _ => err_givesA TE) TB rfl (List.mem_singleton.mpr (congrArg (Prod.mk PT) hqe)) (fun p hp _ => by rw [List.mem_singleton.mp hp]; exact hqe.symm) hr4 rfl rfl (LamX.lamS_by (sc := defScope sLaw) (by decide +kernel)) rfl (fun _ _ _ _ _ => rfl)
            (fun A2 outer2 s2 H2 E2 f2 c2 hrL => pe_methN (ks := ["count"]) (pv 4) T.cl mUn GUn hrL kbUn (passes_call (takes_of rfl rfl rfl rfl) (fun _ _ _ _ h => h)) (pk_cons (pe_op op_add (pv 11) pe_int) pk_nil))
            (pv 4) (pe_tup (pa_cons pe_str pa_nil))))) (pss_one (ps_ret pe_bl)) pss_nil)
        (pss_cons (ps_if (PW.pt (pw_or (pt_cmpR op_ne (pe_callB call_len_seq (by rfl) TX.len PySem.boot_len (pa_cons (pe_prop (pv 4) T.cl PT4.e GEq hr2 bEq .nil pass0 rfl) pa_nil)) (pe_op op_mul (pv 8) (pe_callTy call_int1 (by rfl) TX.int_ (by decide +kernel) (pa_cons (pv 10) pa_nil))) (nomark _)) (pw_or1 (pt_cmpR op_ne (pe_callB call_len_seq (by rfl) TX.len PySem.boot_len (pa_cons (pe_prop (pv 4) T.cl PT4.u GUs hr2 bUs .nil pass0 rfl) pa_nil)) (pv 5) (nomark _))))) (pss_one (ps_ret pe_bl)) pss_nil)
        (C8.pss_cut (ps_if (pt_cmpR op_gt (pv 11) pe_int (nomark _)) (pss_one (ps_expr (pe_methN (ks := ["count"]) (pv 4) T.cl mUn GUn hr1 kbUn passN (pk_cons (pv 11) pk_nil)))) pss_nil)
        (pss_cons (ps_if (pt_not (pt_val (pe_callQ GSt hq4 rfl mSt kSt bSt .nil pass0 (pa_cons (pv 4) (pa_cons (pe_disp (pps_cons pe_str pe_dnewK (pps_cons pe_str (pe_lst pa_nil) pps_nil)) (by rfl) (by rfl) (fun z => by cases z) (by decide)) pa_nil))))) (pss_one (ps_ret pe_bl)) pss_nil)
        (pss_one (ps_if (pt_not (pt_val (pe_lamcall3 (x := "_law_error") (T := [(PT, q)]) (TTi := TTa K cs) (TT := TTr K CC CS cs) (k := 1) (t := fun E => tMeth CS "undo" (spUndo K CC CS (cs 7) (cs 8)) [V.int 1] E (tVar 4) tNil) rfl mR FR.kp lkR hcdR bR scRf rfl (.inl rfl) (fun _ _ => rfl) mE FE.kp lkE hcdE bE scErr rfl (.inl rfl) (hG1 _) (fun _ => err_givesA TE) TB rfl (List.mem_singleton.mpr (congrArg (Prod.mk PT) hqe)) (fun p hp _ => by rw [List.mem_singleton.mp hp]; exact hqe.symm) hr4 rfl rfl (LamX.lamS_by (sc := defScope sLaw) (by decide +kernel)) rfl (fun _ _ _ _ _ => rfl)
            (fun A2 outer2 s2 H2 E2 f2 c2 hrL => pe_meth0 (pv 4) T.cl mUn GUn hrL bUn dUn (passes_call (takes_of rfl rfl rfl rfl) (fun _ _ _ _ h => h)))
            (pv 4) (pe_tup (pa_cons pe_str pa_nil))))) (pss_one (ps_ret pe_bl)) pss_nil)))))))))))))))))))
      (pss_one (ps_ret pe_bl))), ?_⟩
    refine ⟨_, rfl, a, ns, rfl, hS, hl, fun t c0 cs0 H1 _ _ hT sm => ?_⟩
    have hTb : LamX.Tabs [(PT, q)] H1 := fun p hp => by
      rw [List.mem_singleton.mp hp]
      exact LamX.TabS.nil (sm _ _ hP)
    have hS1 : SqL K H1 a (ns.map V.int) := SqL.keep hS sm
    refine ⟨_, rfl, a, _, rfl, .inl hS1, _, _, rfl, _, _, rfl, rfl, _, rfl, ?_, ?_, ?_⟩
    · split <;> omega
    · split <;> omega
    have hn12 : (2 + (if ((ns.map V.int).length : Int) < 2 then ((ns.map V.int).length : Int) else 2)).toNat ≤ 4 := by split <;> omega
    generalize (2 + (if ((ns.map V.int).length : Int) < 2 then ((ns.map V.int).length : Int) else 2)).toNat = nt at hn12 ⊢
    refine for_range (fun i σ H' => ∃ (p l : Int) (z2 z3 z4 z5 z6 z7 z8 z9 z10 z11 : Option V), σ = [some (.ref a), some (.ref t), z2, z3, z4, z5, z6, z7, z8, z9, z10, z11] ∧ Tape H' t c0 cs0 p l ∧ p ≤ 100 * (i : Int) ∧ LamX.Tabs [(PT, q)] H') ⟨0, 0, none, none, none, none, none, none, none, none, none, none, rfl, hT, by omega, hTb⟩ ?_ ?_
    rotate_left
    · rintro σ H2 ⟨p, l, z2, z3, z4, z5, z6, z7, z8, z9, z10, z11, rfl, _⟩
      exact k H2
    rintro i σ H2 hi ⟨p, l, z2, z3, z4, z5, z6, z7, z8, z9, z10, z11, rfl, hT2, hp, hTb2⟩
    refine ⟨_, rfl, t, c0, cs0, p, l, 8, rfl, hT2, by decide, by decide, by omega, fun nq ys p1 l1 H3 n1 hq3 hlen hnd hok a1 b1 hT3 hB3 => ?_⟩
    have Tb3 := tabs_but hB3 hT2.d hTb2
    refine fun s dx0 g1 g2 g3 => ⟨s, dx0, rfl, upd_same, fun cq bq hq' H4 kk e1 e0 e2 Y0 C0 => ⟨rfl, ?_⟩⟩
    have Y4 := sg_of (K := K) (CC := CC) g1 g2 kk e1 e0 e2 Y0 C0
    have L4 := LS.start Y4 hT3 hq3 Tb3
    obtain ⟨G, eG⟩ : ∃ G, G = hideG t H3 := ⟨_, rfl⟩
    rw [← eG] at L4
    clear eG Y4
    refine ⟨_, rfl, t, c0, cs0, p1, l1, 5, rfl, L4.T, by decide, by decide, by omega, fun m p2 l2 H5 m0 m1 a2 b2 hT5 hB5 => ?_⟩
    have L5 := L4.draw hB5 hT5
    obtain ⟨mm, rfl⟩ : ∃ mm : Nat, m = (mm : Int) := ⟨m.toNat, by omega⟩
    have hmm : mm < 5 := by omega
    have hlen8 : ys.length = 8 := hlen
    refine ⟨by show 3 ≤ sizeLine; decide, fun q0 hq0 => ⟨q0, _, rfl, SqT.of upd_same, rfl, _, _, rfl, _, _, rfl, _, _, rfl, rfl, ?_⟩⟩
    have L6 := L5.keep (same_new (o := .tup [.ref nq, .ref s, .int (mm : Int)]) hq0)
    generalize upd H5 q0 (.tup [.ref nq, .ref s, .int (mm : Int)]) = H6 at L6 ⊢
    clear L5 L4
    refine ⟨_, rfl, _, rfl, by omega, by omega, ?_⟩
    refine for_range (n := mm) (fun i' σ H' => ∃ (z6 : Option V) (S : Ct) (Hs : List Ct), σ = [some (.ref a), some (.ref t), some (.int (0 + (i : Int))), some (.ref nq), some (.ref s), some (.int (mm : Int)), z6, z7, z8, z9, z10, z11] ∧ LS K CC CS [(PT, q)] G H' s S [] Hs t c0 nq cs0 p2 l2 ys ∧ S.rows = [] ∧ S.cons = [] ∧ S.cols.Perm (ys.take i') ∧ Hs.length = i' ∧ ∀ B, Hs[0]? = some B → B = ⟨[], [], []⟩)
      ⟨_, _, _, rfl, L6, rfl, rfl, .nil, rfl, fun B e => by simp at e⟩ ?_ ?_
    · rintro i' σ H' hi' ⟨z6', S, Hs, rfl, L, r1, r2, pm, hl1, h01⟩
      have hy : ys[i']? = some ys[i'] := List.getElem?_eq_getElem (by omega)
      have nd0 : (ys.take (i' + 1)).Nodup := hnd.sublist (List.take_sublist _ _)
      have pm2 : ([ys[i']] ++ S.cols).Perm (ys.take (i' + 1)) := by
        rw [take_snoc hy]
        exact (List.perm_append_comm).trans (pm.append_right _)
      refine add_one (y := ys[i']) L rfl rfl rfl hy (hok _ (List.getElem_mem _)).1 (by omega) (pm2.nodup_iff.mpr nd0) (by rw [pm2.length_eq, List.length_take]; omega) fun H'' zs pz L' => ?_
      refine ⟨_, { S with cols := zs }, Hs ++ [S], rfl, L', r1, r2, pz.trans pm2, by rw [List.length_append, hl1]; rfl, fun B e => ?_⟩
      cases Hs with
      | nil =>
        simp at e
        have hc : S.cols = [] := by
          have := hl1
          simp at this
          subst this
          exact pm.eq_nil
        rw [← e]
        obtain ⟨c1, r, k1⟩ := S
        subst r1 r2
        simp at hc
        rw [hc]
      | cons B0 Hs => exact h01 B (by simpa using e)
    rintro σ H7 ⟨z6', S1, Hs1, rfl, L7, r1, r2, pm, hl1, h01⟩
    have okT : ∀ y ∈ ys, TxtOk y := fun y hy => (hok y hy).2
    have lc1 : S1.cols.length = mm := by rw [pm.length_eq, List.length_take]; omega
    have F1 : Tl S1 := ⟨(fun p hp => by rw [r1] at hp; cases hp), (by rw [r1]; decide), (by omega), (fun y hy => by rw [r1] at hy; cases hy), fun y hy => okT y (List.mem_of_mem_take (pm.mem_iff.mp hy))⟩
    have hn9 : ((10 : Int) ^ ((9 : Int)).toNat) = 1000000000 := by decide
    refine ⟨_, rfl, _, _, rfl, rfl, _, _, rfl, rfl, ⟨by decide, by decide, by decide⟩, _, rfl, _, _, rfl, rfl, _, rfl, t, c0, cs0, p2, l2, 9, rfl, L7.T, by decide, by decide, by omega, fun r p3 l3 H8 r0 r1' a3 b3 hT8 hB8 => ⟨_, _, rfl, rfl, by show 3 ≤ sizeLine; decide, fun tq htq => ?_⟩⟩
    have L8 := L7.draw hB8 hT8
    have etq : ∀ x y z : V, (upd H8 tq (.tup [x, y, z])) tq = some (.tup [x, y, z]) := fun x y z => upd_same
    refine ⟨tq, rfl, ⟨_, SqT.of upd_same⟩, ?_⟩
    have L9 := L8.keep (same_new (o := .tup [.int ((mm : Int) + 1), .int ((10 : Int) ^ ((9 : Int)).toNat), .int ((mm : Int) + 1 + r)]) htq)
    have sq9 : SqT K (upd H8 tq (.tup [.int ((mm : Int) + 1), .int ((10 : Int) ^ ((9 : Int)).toNat), .int ((mm : Int) + 1 + r)])) tq [.int ((mm : Int) + 1), .int ((10 : Int) ^ ((9 : Int)).toNat), .int ((mm : Int) + 1 + r)] := SqT.of upd_same
    generalize upd H8 tq (.tup [.int ((mm : Int) + 1), .int ((10 : Int) ^ ((9 : Int)).toNat), .int ((mm : Int) + 1 + r)]) = H9 at L9 sq9 ⊢
    clear L7 L8 hT8 hB8
    refine for_tup (xs := [.int ((mm : Int) + 1), .int ((10 : Int) ^ ((9 : Int)).toNat), .int ((mm : Int) + 1 + r)]) (fun i' σ H' => (∃ z7, σ = [some (.ref a), some (.ref t), some (.int (0 + (i : Int))), some (.ref nq), some (.ref s), some (.int (mm : Int)), z6', z7, z8, z9, z10, z11]) ∧ LS K CC CS [(PT, q)] G H' s S1 [] Hs1 t c0 nq cs0 p3 l3 ys ∧ SqT K H' tq [.int ((mm : Int) + 1), .int ((10 : Int) ^ ((9 : Int)).toNat), .int ((mm : Int) + 1 + r)]) ⟨⟨_, rfl⟩, L9, sq9⟩ (fun _ _ _ _ z => z.2.2) ?_ ?_
    · rintro i' x σ H' hx ⟨⟨z7', rfl⟩, L, sq⟩
      obtain ⟨n, rfl, hn⟩ : ∃ n : Int, x = .int n ∧ (Hs1.length : Int) < n := by
        match i', hx with
        | 0, hx => exact ⟨_, (Option.some.inj hx).symm, by omega⟩
        | 1, hx => exact ⟨_, (Option.some.inj hx).symm, by rw [hn9]; omega⟩
        | 2, hx => exact ⟨_, (Option.some.inj hx).symm, by omega⟩
      refine refuse L F1 rfl (by decide +kernel) (by decide) (fun H1' Q1 L1 kk => undo_many L1 rfl (by omega) hn (fun _ _ h => ⟨_, rfl, h⟩) kk) fun H'' L' kq => ⟨_, rfl, iteF ⟨⟨_, rfl⟩, L', kq _ _ sq⟩⟩
    rintro σ H10 ⟨⟨z7', rfl⟩, L10, -⟩
    refine ⟨fun σ H' => σ = [some (.ref a), some (.ref t), some (.int (0 + (i : Int))), some (.ref nq), some (.ref s), some (.int (mm : Int)), z6', z7', z8, z9, z10, z11] ∧ LS K CC CS [(PT, q)] G H' s S1 [] Hs1 t c0 nq cs0 p3 l3 ys, ?_, ?_⟩
    · refine ⟨_, rfl, rfl, _, rfl, ite2 (fun hc => ?_) (fun _ => ⟨rfl, L10⟩)⟩
      have hm0 : mm = 0 := by
        have := V.int.inj (of_decide_eq_true hc)
        omega
      have hs0 : Hs1 = [] := List.length_eq_zero_iff.mp (hl1.trans hm0)
      subst hs0
      exact refuse L10 F1 rfl (by decide +kernel) (by decide) (fun H1' Q1 L1 kk => undo_one L1 rfl kk) fun H'' L' _ => ⟨_, rfl, iteF ⟨rfl, L'⟩⟩
    rintro _ H11 ⟨rfl, L11⟩
    clear L10 L9 sq9
    refine refuse L11 F1 rfl (by decide +kernel) (by decide) (fun H1' Q1 L1 kk => commit_none L1 rfl (by omega) kk) fun H12 L12 _ => ⟨_, rfl, iteF ?_⟩
    refine refuse L12 F1 rfl (by decide +kernel) (by decide) (fun H1' Q1 L1 kk => rollback_none L1 rfl kk) fun H13 L13 _ => ⟨_, rfl, iteF ?_⟩
    clear L11 L12
    refine ⟨_, rfl, t, c0, cs0, p3, l3, 3, rfl, L13.T, by decide, by decide, by omega, fun d p4 l4 H14 d0 d1 a4 b4 hT14 hB14 => ⟨_, _, rfl, rfl, ?_⟩⟩
    have L14 := L13.draw hB14 hT14
    clear L13 hT14 hB14
    have hd13 : 1 ≤ (1 + d).toNat ∧ (1 + d).toNat ≤ 3 := by omega
    refine ⟨_, rfl, _, rfl, by omega, by omega, ?_⟩
    refine for_range (n := (1 + d).toNat) (fun i' σ H' => ∃ (z6 z9 : Option V) (S : Ct) (Bs : List Ct), σ = [some (.ref a), some (.ref t), some (.int (0 + (i : Int))), some (.ref nq), some (.ref s), some (.int (mm : Int)), z6, z7', some (.int (1 + d)), z9, z10, z11] ∧ LS K CC CS [(PT, q)] G H' s S Bs Hs1 t c0 nq cs0 p4 l4 ys ∧ Bs.length = i' ∧ (∀ B, Bs[0]? = some B → B = S1) ∧ (i' = 0 → S = S1) ∧ S.cols = S1.cols ∧ S.rows.map (·.1) = ys.take i' ∧ (∀ p ∈ S.rows, p.2 = []) ∧ S.cons.map (·.1) = ys.take i')
      ⟨_, _, _, _, rfl, L14, rfl, (fun B e => by simp at e), fun _ => rfl, rfl, by rw [r1]; rfl, (fun p hp => by rw [r1] at hp; cases hp), by rw [r2]; rfl⟩ ?_ ?_
    · rintro i' σ H' hi' ⟨z6'', z9', S, Bs, rfl, L, hb, hb0, hi0, hc, hrw, he, hk⟩
      refine begin_one L rfl (by omega) fun H1' L1 => ?_
      have hy : ys[i']? = some ys[i'] := List.getElem?_eq_getElem (by omega)
      have nd0 : (ys.take (i' + 1)).Nodup := hnd.sublist (List.take_sublist _ _)
      have tk := take_snoc hy
      have ny : ys[i'] ∉ ys.take i' := fun z => by
        rw [tk, List.nodup_append] at nd0
        exact nd0.2.2 _ z _ (List.mem_singleton.mpr rfl) rfl
      have lr : S.rows.length = i' := by
        have := congrArg List.length hrw
        rw [List.length_map, List.length_take] at this
        omega
      have lk' : S.cons.length = i' := by
        have := congrArg List.length hk
        rw [List.length_map, List.length_take] at this
        omega
      refine add_eq (y := ys[i']) L1 rfl rfl rfl hy (hok _ (List.getElem_mem _)).1 (by omega) (by rw [hrw]; exact ny) (by rw [hk]; exact ny) (by omega) (by omega) fun H2' L2' => ?_
      rw [histG_snoc] at L2'
      have F2 : Tl { S with rows := S.rows ++ [(ys[i'], [])], cons := S.cons ++ [(ys[i'], 0)] } := by
        refine ⟨fun p hp => ?_, ?_, ?_, fun y hy => ?_, fun y hy => ?_⟩
        · rcases List.mem_append.mp hp with z | z
          · exact he p z
          · rw [List.mem_singleton.mp z]
        · rw [List.length_append]
          show S.rows.length + 1 < 64
          omega
        · rw [hc]
          exact F1.l2
        · rw [List.map_append, hrw] at hy
          rcases List.mem_append.mp hy with z | z
          · exact okT y (List.mem_of_mem_take z)
          · rw [List.mem_singleton.mp z]
            exact okT _ (List.getElem_mem _)
        · exact F1.t2 y (by rw [← hc]; exact hy)
      refine ⟨_, rfl, _, _, rfl, rfl, _, _, rfl, rfl, ⟨by decide, by decide, by decide⟩, by show 3 ≤ sizeLine; decide, fun tq2 htq2 => ?_⟩
      refine ⟨tq2, rfl, ⟨_, SqT.of upd_same⟩, ?_⟩
      have L3' := L2'.keep (same_new (o := .tup [.int 1, .int ((mm : Int) + 1), .int ((10 : Int) ^ ((9 : Int)).toNat)]) htq2)
      have sq3 : SqT K (upd H2' tq2 (.tup [.int 1, .int ((mm : Int) + 1), .int ((10 : Int) ^ ((9 : Int)).toNat)])) tq2 [.int 1, .int ((mm : Int) + 1), .int ((10 : Int) ^ ((9 : Int)).toNat)] := SqT.of upd_same
      generalize upd H2' tq2 (.tup [.int 1, .int ((mm : Int) + 1), .int ((10 : Int) ^ ((9 : Int)).toNat)]) = H3' at L3' sq3 ⊢
      refine for_tup (xs := [.int 1, .int ((mm : Int) + 1), .int ((10 : Int) ^ ((9 : Int)).toNat)]) (fun _ σ H' => (∃ z9, σ = [some (.ref a), some (.ref t), some (.int (0 + (i : Int))), some (.ref nq), some (.ref s), some (.int (mm : Int)), some (.int (0 + (i' : Int))), z7', some (.int (1 + d)), z9, z10, z11]) ∧ LS K CC CS [(PT, q)] G H' s { S with rows := S.rows ++ [(ys[i'], [])], cons := S.cons ++ [(ys[i'], 0)] } (Bs ++ [S]) Hs1 t c0 nq cs0 p4 l4 ys ∧ SqT K H' tq2 [.int 1, .int ((mm : Int) + 1), .int ((10 : Int) ^ ((9 : Int)).toNat)]) ⟨⟨_, rfl⟩, L3', sq3⟩ (fun _ _ _ _ z => z.2.2) ?_ ?_
      · rintro j x σ H' hx ⟨⟨z9'', rfl⟩, L, sq⟩
        obtain ⟨n, rfl⟩ : ∃ n : Int, x = .int n := by
          match j, hx with
          | 0, hx => exact ⟨_, (Option.some.inj hx).symm⟩
          | 1, hx => exact ⟨_, (Option.some.inj hx).symm⟩
          | 2, hx => exact ⟨_, (Option.some.inj hx).symm⟩
        refine refuse L F2 rfl (by decide +kernel) (by rw [List.length_append]; show Bs.length + 1 ≤ 3; omega) (fun H1' Q1 L1 kk => undo_open L1 rfl (by omega) (by simp) (fun _ _ h => ⟨_, rfl, h⟩) kk) fun H'' L' kq => ⟨_, rfl, iteF ⟨⟨_, rfl⟩, L', kq _ _ sq⟩⟩
      rintro σ H4' ⟨⟨z9'', rfl⟩, L4', -⟩
      refine ⟨_, _, _, _, rfl, L4', by rw [List.length_append, hb]; rfl, fun B e => ?_, fun z => absurd z (by omega), hc, ?_, F2.e, ?_⟩
      · cases Bs with
        | nil =>
          simp at e
          rw [← e]
          refine hi0 ?_
          rw [← hb]
          rfl
        | cons B0 Bs => exact hb0 B (by simpa using e)
      · rw [List.map_append, hrw, tk]
        rfl
      · rw [List.map_append, hk, tk]
        rfl
    rintro σ H15 ⟨z6'', z9', S2, Bs2, rfl, L15, hb2, hb20, -, hc2, hrw2, he2, hk2⟩
    clear L14
    have lr2 : S2.rows.length = (1 + d).toNat := by
      have := congrArg List.length hrw2
      rw [List.length_map, List.length_take] at this
      omega
    refine ⟨_, rfl, t, c0, cs0, p4, l4, 2, rfl, L15.T, by decide, by decide, by omega, fun e p5 l5 H16 e0 e1 a5 b5 hT16 hB16 => ⟨rfl, ?_⟩⟩
    have L16 := L15.draw hB16 hT16
    clear L15 hT16 hB16
    refine ⟨_, rfl, _, rfl, by omega, by omega, ?_⟩
    refine for_range (n := (1 + d).toNat) (fun i' σ H' => ∃ (z6 : Option V) (S : Ct) (Bs Hs : List Ct), σ = [some (.ref a), some (.ref t), some (.int (0 + (i : Int))), some (.ref nq), some (.ref s), some (.int (mm : Int)), z6, z7', some (.int (1 + d)), z9', some (.bl (decide (V.int e = V.int 0))), z11] ∧ LS K CC CS [(PT, q)] G H' s S Bs Hs t c0 nq cs0 p5 l5 ys ∧ Bs = Bs2.take ((1 + d).toNat - i') ∧ (V.int e = V.int 0 → S = S2 ∧ (i' < (1 + d).toNat → Hs = Hs1) ∧ (i' = (1 + d).toNat → Hs = Hs1 ++ [S1])) ∧ (¬ (V.int e = V.int 0) → Hs = Hs1 ∧ (0 < i' → Bs2[(1 + d).toNat - i']? = some S)))
      ⟨_, _, _, _, rfl, L16, by rw [Nat.sub_zero, List.take_of_length_le (by omega)], fun _ => ⟨rfl, fun _ => rfl, fun z => absurd z (by omega)⟩, fun _ => ⟨rfl, fun z => absurd z (by omega)⟩⟩ ?_ ?_
    · rintro i' σ H' hi' ⟨z6a, S, Bs, Hs, rfl, L, rfl, hK1, hK0⟩
      obtain ⟨n, hn⟩ : ∃ n, (1 + d).toNat - i' = n + 1 := ⟨(1 + d).toNat - i' - 1, by omega⟩
      have hB : Bs2[n]? = some Bs2[n] := List.getElem?_eq_getElem (by omega)
      have hn2 : (1 + d).toNat - (i' + 1) = n := by omega
      rw [hn, take_snoc hB] at L
      have hlH : Hs.length < 1000000 := by
        by_cases z : V.int e = V.int 0
        · rw [((hK1 z).2.1 hi')]
          omega
        · rw [(hK0 z).1]
          omega
      refine ⟨_, rfl, _, rfl, ite2 (fun hz => ?_) (fun hz => ?_)⟩
      · have hz := of_decide_eq_true hz
        refine commit_one L rfl hlH fun H'' L' => ⟨_, rfl, iteF ⟨_, _, _, _, rfl, L', by rw [hn2], fun _ => ⟨(hK1 hz).1, fun z => ?_, fun z => ?_⟩, fun z => absurd hz z⟩⟩
        · have e1 : (Bs2.take n).length = n := by rw [List.length_take]; omega
          cases h : Bs2.take n with
          | nil => rw [h] at e1; simp at e1; omega
          | cons _ _ => exact (hK1 hz).2.1 hi'
        · have n0 : n = 0 := by omega
          subst n0
          have e1 : Bs2[0] = S1 := hb20 _ hB
          rw [e1, (hK1 hz).2.1 hi']
          rfl
      · have hz := of_decide_eq_false (Bool.eq_false_iff.mpr hz)
        exact rollback_one L rfl fun H'' L' => ⟨_, rfl, iteF ⟨_, _, _, _, rfl, L', by rw [hn2], fun z => absurd z hz, fun _ => ⟨(hK0 hz).1, fun _ => by rw [hn2]; exact hB⟩⟩⟩
    rintro σ H17 ⟨z6b, S3, Bs3, Hs3, rfl, L17, hBs3, hK1, hK0⟩
    clear L16
    rw [Nat.sub_self, List.take_zero] at hBs3
    subst hBs3
    obtain ⟨kb, ekb⟩ : ∃ kb : Bool, decide (V.int e = V.int 0) = kb := ⟨_, rfl⟩
    rw [ekb]
    have fin : (Hs3.length : Int) = (mm : Int) + (if kb = true then 1 else 0) ∧ (S3.rows.length : Int) = (1 + d) * (if kb = true then 1 else 0) ∧ S3.cols.length = mm ∧ (∀ B, Hs3[0]? = some B → B = ⟨[], [], []⟩) ∧ (Hs3 = [] → S3 = ⟨[], [], []⟩) ∧ Tl S3 := by
      have S0e : S1.cols = [] → S1 = ⟨[], [], []⟩ := fun z => by
        obtain ⟨c1, r, k1⟩ := S1
        subst r1 r2
        simp at z
        rw [z]
      have F2 : Tl S2 := by
        refine ⟨he2, by omega, by rw [hc2]; exact F1.l2, fun y hy => ?_, fun y hy => F1.t2 y (by rw [← hc2]; exact hy)⟩
        rw [hrw2] at hy
        exact okT y (List.mem_of_mem_take hy)
      cases kb with
      | true =>
        obtain ⟨rfl, _, h2⟩ := hK1 (of_decide_eq_true ekb)
        have h2 := h2 rfl
        subst h2
        refine ⟨by rw [List.length_append, hl1]; show ((mm + 1 : Nat) : Int) = (mm : Int) + 1; omega, by rw [lr2]; show _ = (1 + d) * 1; omega, by rw [hc2]; exact lc1, fun B eB => ?_, fun z => by simp at z, F2⟩
        cases h : Hs1 with
        | nil =>
          rw [h] at eB
          simp at eB
          rw [← eB]
          refine S0e (List.eq_nil_of_length_eq_zero ?_)
          rw [lc1, ← hl1, h]
          rfl
        | cons B0 Hs =>
          rw [h] at eB
          refine h01 B ?_
          rw [h]
          simpa using eB
      | false =>
        have hz := of_decide_eq_false ekb
        obtain ⟨rfl, h2⟩ := hK0 hz
        have h2 := h2 (by omega)
        rw [Nat.sub_self] at h2
        have h3 : S3 = S1 := hb20 _ h2
        subst h3
        refine ⟨by rw [hl1]; show (mm : Int) = (mm : Int) + 0; omega, by rw [r1]; show (0 : Int) = (1 + d) * 0; omega, lc1, h01, fun z => ?_, F1⟩
        refine S0e (List.eq_nil_of_length_eq_zero ?_)
        rw [lc1, ← hl1, z]
        rfl
    clear hK1 hK0 ekb
    obtain ⟨fh, fr, fc, f0, fe, F3⟩ := fin
    have kb1 : (if kb = true then (1 : Int) else 0) = 0 ∨ (if kb = true then (1 : Int) else 0) = 1 := by cases kb <;> simp
    refine refuse L17 F3 rfl (by decide +kernel) (by decide) (fun H1' Q1 L1 kk => commit_none L1 rfl (by omega) kk) fun H18 L18 _ => ⟨_, rfl, iteF ?_⟩
    obtain ⟨dx18, c18, b18, h18, bs18, Yi18, _⟩ := L18.Y.sv.ex
    refine ⟨_, rfl, s, dx18, _, rfl, Yi18, s, S3, 0, rfl, L18.Y.sv, .int ((0 : Nat) : Int), .int ((0 : Nat) : Int), rfl, .int _, by decide +kernel, by decide +kernel, Nat.le_trans (show (PyData.int ((0 : Nat) : Int)).shown.length ≤ 10 by decide +kernel) (by decide), rfl, _, rfl, ?_⟩
    refine ite2 (fun z => absurd z (by decide +kernel)) (fun _ => ?_)
    refine ⟨_, rfl, _, rfl, .inr ⟨_, rfl, _, _, rfl, rfl, ?_⟩⟩
    refine refuse L18 F3 rfl (by decide +kernel) (by decide) (fun H1' Q1 L1 kk => undo_many (n := (mm : Int) + (if kb = true then 1 else 0) + 1) L1 rfl (by omega) (by omega) (fun _ _ h => ⟨_, rfl, _, _, rfl, rfl, h⟩) kk) fun H19 L19 _ => ⟨_, rfl, iteF ?_⟩
    obtain ⟨dx19, c19, b19, h19, bs19, Yi19, _⟩ := L19.Y.sv.ex
    refine ⟨_, rfl, s, dx19, _, rfl, Yi19, s, S3, 0, rfl, L19.Y.sv, F3.l1, fun t19 H20 s20 q20 => ⟨t19, _, rfl, .inr q20, _, rfl, _, rfl, .inr ⟨_, rfl, _, _, rfl, rfl, .inl ⟨by omega, by omega⟩, rfl, _, rfl, ?_⟩⟩⟩
    have L20 := L19.keep s20
    refine ite2 (fun z => ?_) (fun _ => ?_)
    · exfalso
      have e1 : (((srt (S3.rows.map (·.1))).map V.str).length : Int) = (1 + d) * (if kb = true then 1 else 0) := by
        rw [List.length_map, srt_len, List.length_map]
        exact fr
      rw [e1, decide_eq_true rfl] at z
      cases z
    refine ⟨_, rfl, s, dx19, _, rfl, s20 _ _ Yi19, s, S3, 0, rfl, L20.Y.sv, fun t20 q21 => ⟨t20, _, rfl, .inr q21, _, rfl, rfl, _, rfl, ?_⟩⟩
    refine ite2 (fun z => ?_) (fun _ => ?_)
    · exfalso
      have e1 : ((S3.cols.map V.str).length : Int) = (mm : Int) := by
        rw [List.length_map]
        omega
      rw [e1, decide_eq_true rfl] at z
      cases z
    refine ⟨fun σ H' => σ = [some (.ref a), some (.ref t), some (.int (0 + (i : Int))), some (.ref nq), some (.ref s), some (.int (mm : Int)), z6b, z7', some (.int (1 + d)), z9', some (.bl kb), some (.int ((mm : Int) + (if kb = true then 1 else 0)))] ∧ LS K CC CS [(PT, q)] G H' s ⟨[], [], []⟩ [] [] t c0 nq cs0 p5 l5 ys, ?_, ?_⟩
    · refine ⟨_, rfl, _, _, rfl, rfl, _, rfl, ite2 (fun z => ?_) (fun z => ?_)⟩
      · have z := of_decide_eq_true z
        obtain ⟨B, hB⟩ : ∃ B, Hs3[0]? = some B := by
          cases h : Hs3 with
          | nil =>
            rw [h] at fh
            simp at fh
            omega
          | cons B _ => exact ⟨B, rfl⟩
        have hB0 := f0 B hB
        subst hB0
        exact undo_all L20 rfl (by omega) hB (fun H0 R h => ⟨_, rfl, (show R (.int ((mm : Int) + (if kb = true then 1 else 0))) H0 from by rw [← fh]; exact h)⟩) fun H' L' => ⟨rfl, L'⟩
      · have z := of_decide_eq_false (Bool.eq_false_iff.mpr z)
        have e0 : Hs3 = [] := List.eq_nil_of_length_eq_zero (by omega)
        have e1 := fe e0
        subst e0 e1
        exact ⟨rfl, L20⟩
    rintro _ H21 ⟨rfl, L21⟩
    refine ⟨_, rfl, fun pl hpl r hr => ⟨by decide, fun u hu => ?_⟩⟩
    have k1 : Same H21 (upd H21 pl (.dK [])) := same_new hpl
    have ep : (upd H21 pl (.dK [])) pl = some (.dK []) := upd_same
    generalize upd H21 pl (.dK []) = G1 at k1 ep hr hu ⊢
    have k2 : Same G1 (upd G1 r (.dK [])) := same_new hr
    have er : (upd G1 r (.dK [])) r = some (.dK []) := upd_same
    generalize upd G1 r (.dK []) = G2 at k2 er hu ⊢
    have k3 : Same G2 (upd G2 u (.lst [])) := same_new hu
    have eu : (upd G2 u (.lst [])) u = some (.lst []) := upd_same
    generalize upd G2 u (.lst []) = G3 at k3 eu ⊢
    refine ⟨k3 _ _ (k2 _ _ ep), [(kR, V.ref r), (kU, V.ref u)], rfl, by show 2 ≤ 15; decide, ?_⟩
    rw [two_merge]
    have kf : Same H21 (upd G3 pl (.dK [(kR, V.ref r), (kU, V.ref u)])) := same_put ((k1.trans k2).trans k3) hpl
    have rp : r ≠ pl := fun z => by rw [z, ep] at hr; cases hr
    have up : u ≠ pl := fun z => by rw [z, k2 _ _ ep] at hu; cases hu
    have hPl : Plain (upd G3 pl (.dK [(kR, V.ref r), (kU, V.ref u)])) pl r u [] [] := ⟨upd_same, (upd_ne rp).trans (k3 _ _ er), (fun _ z => nomatch z), (upd_ne up).trans eu⟩
    have L22 := L21.keep kf
    generalize upd G3 pl (.dK [(kR, V.ref r), (kU, V.ref u)]) = H22 at L22 hPl ⊢
    refine ⟨s, pl, r, u, 0, rfl, L22.Y.sv, hPl, fun H23 s23 => ⟨_, rfl, iteF ?_⟩⟩
    have F0 : Tl ⟨[], [], []⟩ := ⟨(fun _ z => nomatch z), by decide, by decide, (fun _ z => nomatch z), (fun _ z => nomatch z)⟩
    refine refuse (L22.keep s23) F0 rfl (by decide +kernel) (by decide) (fun H1' Q1 L1 kk => undo_one L1 rfl kk) fun H24 L24 _ => ⟨_, rfl, iteF ?_⟩
    exact ⟨p5, l5, _, _, _, _, _, _, _, _, _, _, rfl, L24.T, by omega, L24.tb⟩
end
end Bo

set_option Elab.async false
set_option linter.all false
set_option maxRecDepth 100000
set_option maxHeartbeats 4000000
/-! the end of a law that hands a lambda and asks repr: one table -/
namespace Bo
open PySem PySem.Spec PyProof.Rows L2
/-- the law's code object at c has its table at T, which is empty and not told by the written part -/
structure OneTab (K : PySem.W.Frag) (h : Heap) (c T : Addr) : Prop where
  new : h.get? T = some { cls := .none, data := .fields #[] }
  out : K.lookup T = none
  code : PySem.W.CodeHd h c T
/-- what may be tracked: the script and the table -/
def scriptH (a T : Addr) (o : Option Obj) (xs : List V) : Hp := fun b => if b = T then some (.tbl #[]) else if b = a then o.map fun ob => .frz ob (.lst xs) else none
theorem sH_tab {a T : Addr} {o : Option Obj} {xs : List V} : scriptH a T o xs T = some (.tbl #[]) := if_pos rfl
theorem sH_scr {a T : Addr} {o : Option Obj} {xs : List V} (n : a ≠ T) : scriptH a T o xs a = o.map fun ob => .frz ob (.lst xs) := (if_neg n).trans (if_pos rfl)
theorem sH_else {a T b : Addr} {o : Option Obj} {xs : List V} (n : b ≠ T) (m : b ≠ a) : scriptH a T o xs b = none := (if_neg n).trans (if_neg m)
theorem law_tabQ {P : Program} {w : World} {K : PySem.W.Frag} {mg mb : Str → Option Value} {k : Nat} {fa a c T : Addr} {fd : FuncData} {x : Str} {sp : Sp} {s₁ : Shared} {vs : List Value} {ns : List Int}
    (KX : K.In s₁.heap) (gl : s₁.heap.Ns mainGlobals mg) (bl : s₁.heap.Ns builtinsNs mb) (bb : ∀ y : Str, y ≠ "__name__" → mb y = bootBuiltins y) (lim : s₁.heap.NoLimit) (gens : s₁.gens = #[]) (tab : OneTab K s₁.heap c T)
    (bm : ∃ (m : Addr) (o : Obj), mg "__builtins__" = some (.ref m) ∧ m ≠ builtinsNs ∧ s₁.heap.get? m = some o ∧ o.cls = .type "module" ∧ o.dict = some builtinsNs ∧ o.data = .plain)
    (scr : s₁.heap.get? a = some { cls := .type "list", data := .seq vs.toArray }) (hin : IntsAre vs ns) (len : ns.length ≤ sizeLine) (qt : Quiet k callerA)
    (F : ∀ base : Heap, K.In base → base.Ns mainGlobals mg → LamX.TabB base mg c T → FnQ P w K mg base CX0 k fa fd [x] sp) (bind : ∀ (s : Shared) (u : Value), BindsTo s fd ⟨[u], []⟩ [(x, u)])
    (asks : ∀ H : Hp, H T = some (.tbl #[]) → SqL K H a (ns.map V.int) → sp [.ref a] H (fun v _ => v = .bl true) E0) :
    codeAny (model P w) callerA (.call (.ref fa) ⟨[.ref a], []⟩) (fun r s' => r = .ok (.ret (.bool true)) ∧ OldK s₁.heap s'.heap ∧ s'.os = s₁.os ∧ AllBare s'.gens) s₁ := by
  have rv := vals_ints hin
  have aT : a ≠ T := fun z => by
    have e := tab.new
    rw [← z, scr] at e
    cases congrArg Obj.data (Option.some.inj e)
  have lenV : vs.length = ns.length := hin.length
  -- the heap that is tracked
  obtain ⟨o, hS, hok, hKa⟩ : ∃ o : Option Obj, SqL K (scriptH a T o (ns.map V.int)) a (ns.map V.int) ∧ HOk P w (scriptH a T o (ns.map V.int)) s₁.heap ∧ (o ≠ none → o = some { cls := .type "list", data := .seq vs.toArray } ∧ K.lookup a = none) := by
    cases hk : K.lookup a with
    | some ob =>
      have e := KX a ob hk
      rw [scr] at e
      cases e
      refine ⟨none, .inr ⟨_, vs.toArray, _, hk, rfl, rfl, rfl, by rw [List.size_toArray, lenV]; exact len, by simpa using rv⟩, fun b u z => ?_, fun z => absurd rfl z⟩
      by_cases hb : b = T
      · subst hb
        rw [sH_tab] at z
        cases z
        exact tab.new
      · by_cases ha : b = a
        · subst ha
          rw [sH_scr aT] at z
          cases z
        · rw [sH_else hb ha] at z
          cases z
    | none =>
      refine ⟨some { cls := .type "list", data := .seq vs.toArray }, .inl (.inr ⟨_, sH_scr aT⟩), fun b u z => ?_, fun _ => ⟨rfl, rfl⟩⟩
      by_cases hb : b = T
      · subst hb
        rw [sH_tab] at z
        cases z
        exact tab.new
      · by_cases ha : b = a
        · subst ha
          rw [sH_scr aT] at z
          cases z
          exact ⟨scr, by rw [List.length_map]; exact len, vs, _, rv, scr⟩
        · rw [sH_else hb ha] at z
          cases z
  generalize eH : scriptH a T o (ns.map V.int) = H at hS hok
  have hT : H T = some (.tbl #[]) := by rw [← eH]; exact sH_tab
  have hn : ∀ {b : Addr}, b ≠ T → b ≠ a → H b = none := fun n m => by rw [← eH]; exact sH_else n m
  -- what is neither a list nor a bare record is not tracked
  have calm : ∀ {b : Addr} {u : Obj}, s₁.heap.get? b = some u → (∀ ws n, u.data ≠ .seq ws n) → u.data ≠ .fields #[] → H b = none := fun {b u} e n1 n2 => by
    refine hn (fun z => ?_) (fun z => ?_)
    · rw [z, tab.new] at e
      exact n2 (congrArg Obj.data (Option.some.inj e).symm)
    · rw [z, scr] at e
      exact n1 _ _ (congrArg Obj.data (Option.some.inj e).symm)
  have dict : ∀ {b : Addr} {m : Str → Option Value}, s₁.heap.Ns b m → (hidT s₁.heap H).Ns b m := fun {b m} z => by
    obtain ⟨u, es, ep, e, hd, r⟩ := z
    refine ⟨u, es, ep, hidT_get e (calm e (fun ws n y => ?_) (fun y => ?_)), hd, r⟩
    · cases hd.symm.trans y
    · cases hd.symm.trans y
  have inK : K.In (hidT s₁.heap H) := fun b u e => by
    refine hidT_get (KX b u e) ?_
    by_cases z : b = T
    · rw [z, tab.out] at e
      cases e
    · by_cases y : b = a
      · subst y
        cases ho : o with
        | none => rw [← eH, sH_scr aT, ho]; rfl
        | some ob =>
          rw [(hKa (by rw [ho]; exact fun q => by cases q)).2] at e
          cases e
      · exact hn z y
  have env : Env0 P w K mg (hidT s₁.heap H) callerA [] s₁ H := by
    refine ⟨rfl, ⟨inK, dict gl, ⟨mb, dict bl, bb⟩, ?_⟩, fun b u e => of_hidT e, Nat.le_of_eq (hidT_size _ _), trivial, fun b hb => absurd (show b ∈ ([] : List Addr) from hb) (by simp), hok, .of_eq gens⟩
    obtain ⟨mc, l1, l2⟩ := lim
    exact ⟨mc, dict l1, l2⟩
  have TB : LamX.TabB (hidT s₁.heap H) mg c T := by
    obtain ⟨u, us, file, tf, flags, tg, inF, text, tt, e1, r1, r2, r3, rr⟩ := tab.code
    obtain ⟨m, ob, b1, b2, b3, b4, b5, b6⟩ := bm
    refine ⟨⟨u, us, file, tf, flags, tg, inF, text, tt, hidT_get e1 (calm e1 (fun ws n y => ?_) (fun y => ?_)), r1, r2, r3, rr⟩, ⟨m, ob, b1, b2, fun z => ?_, fun z => ?_, hidT_get b3 (calm b3 (fun ws n y => ?_) (fun y => ?_)), b4, b5, b6⟩, fun z => ?_⟩
    · cases r2.symm.trans y
    · have q := r2.symm.trans y
      cases q
      simp at r3
    · obtain ⟨u2, es, ep, e, hd, _⟩ := gl
      rw [z, e] at b3
      cases b3
      cases hd.symm.trans b6
    · rw [z, tab.new] at b3
      cases b3
      cases b6
    · cases b6.symm.trans y
    · cases b6.symm.trans y
    · obtain ⟨u2, es, ep, e, hd, _⟩ := gl
      rw [z, tab.new] at e
      cases e
      cases hd
  have run := (F _ inK (dict gl) TB).run callerA [] s₁ H ⟨[.ref a], []⟩ [.ref a] [.ref a] _ _ qt env (bind s₁ (.ref a)) (.cons rfl .nil) (asks H hT hS)
  refine codeAny_mono run fun r s' h => ?_
  match r, h with
  | .error e, h => exact (show False from h).elim
  | .ok (.ret u), ⟨v, H', os, bare, un, hok', r', q⟩ =>
    obtain rfl : v = .bl true := q
    obtain rfl : u = Value.bool true := r'
    obtain ⟨more, ht⟩ := un.tbls T #[] hT
    have grown : s'.heap.get? T = some { cls := .none, data := .fields (#[] ++ more) } := hok' T _ ht
    have stays : ∀ b u, b ≠ T → s₁.heap.get? b = some u → s'.heap.get? b = some u := fun b u nb e => by
      cases hb : H b with
      | none => exact un.keep b u e hb (fun z => by cases z) (by simp)
      | some y =>
        by_cases ha : b = a
        · subst ha
          cases ho : o with
          | none =>
            rw [← eH, sH_scr aT, ho] at hb
            cases hb
          | some ob =>
            rw [← eH, sH_scr aT, ho] at hb
            have hb2 : H b = some (.frz ob (.lst (ns.map V.int))) := by rw [← eH, sH_scr aT, ho]; rfl
            have e1 := (hok b _ hb2).1
            have e2 := (hok' b _ (un.frzs b ob _ hb2)).1
            rw [e] at e1
            cases e1
            exact e2
        · rw [hn nb ha] at hb
          cases hb
    refine ⟨rfl, ⟨fun b u e => ?_, fun b u e => ?_⟩, os, bare⟩
    · by_cases hb : b = T
      · subst hb
        rw [tab.new] at e
        cases e
        exact .inr (.inl ⟨(tab.code.tab tab.new).isCodeTable, rfl, #[], #[] ++ more, rfl, by rw [Array.empty_append]; exact grown⟩)
      · exact .inl (stays b u hb e)
    · by_cases hb : b = T
      · exact ⟨_, hb ▸ grown⟩
      · exact ⟨u, stays b u hb e⟩
/-- the walk's end -/
theorem walkTQ {l : PySem.W.OpenLaw} {n k : Nat} {q : Program} {loose : List Str} {XP : (Str → Option Value) → Heap → Prop} {YP : World → Heap → Prop} {d : DefRec} {K : Params → PySem.W.Frag} {x : Str} (most : l.most = some n) (few : n ≤ sizeLine) (defs : d.params.defaults = []) (room : Room k callerA)
    (inK : ∀ (w : World) (h : Heap), YP w h → (K w.params).In h)
    (F : ∀ (w : World) (mg : Str → Option Value) (fa : Addr) (h : Heap), YP w h → (K w.params).In h → h.Ns mainGlobals mg → mg d.name = some (.ref fa) →
      ∃ (fd : FuncData) (c T : Addr) (sp : Sp), OneTab (K w.params) h c T ∧ (∀ (s : Shared) (u : Value), BindsTo s fd ⟨[u], []⟩ [(x, u)]) ∧
        (∀ (H : Hp) (a : Addr) (ns : List Int), ns.length ≤ n → H T = some (.tbl #[]) → SqL (K w.params) H a (ns.map V.int) → sp [.ref a] H (fun v _ => v = .bl true) E0) ∧
        ∀ base : Heap, (K w.params).In base → base.Ns mainGlobals mg → LamX.TabB base mg c T → FnQ l.prog w (K w.params) mg base CX0 k fa fd [x] sp) :
    PySem.W.WalkO q loose XP YP l.row.toRowW d [] (fun f vs => PySem.call f vs) := by
  refine Att.attach_call most defs fun w s₀ s₁ mg mb fa o pm cd doc a vs ns G Y ho hd hcd hmg hobj hints hlen hg => ?_
  have KX := inK w _ Y
  obtain ⟨fd, c, T, sp, tab, hb, hsp, hF⟩ := F w mg fa _ Y KX G.T.g hmg
  exact law_tabQ KX G.T.g G.T.b G.T.builtins G.T.nolimit hg tab G.T.bmain hobj hints (Nat.le_trans hlen few) (quiet_caller room) hF hb fun H h1 h2 => hsp H a ns hlen h1 h2
end Bo

set_option Elab.async false
set_option linter.all false
set_option maxRecDepth 100000
set_option maxHeartbeats 16000000
namespace Bo
open PySem L2
theorem funC_mk {K : PySem.W.Frag} {x qual : Str} {st : Stmt} {f c : Addr} {oc : Value} {od an : Option Addr} {osl : Array (Option Value)} {kV doc pm ct : Value}
    (l : K.lookup f = some ⟨oc, od, .func (PySem.W.fnOf x qual (defArgs st) (defBody st) (defScope st) .none kV doc pm an (.ref c) ct), osl⟩) (e : PySem.W.codeIn K (.ref c) qual = true) : FunC K x qual st f (PySem.W.fnOf x qual (defArgs st) (defBody st) (defScope st) .none kV doc pm an (.ref c) ct) c := ⟨⟨oc, od, kV, doc, pm, an, ct, osl, rfl, l, e⟩⟩
/-- what the written part says of an error's class -/
def errB (K : PySem.W.Frag) (C : Addr) : Bool := decide (PySem.W.findIn K (.ref C) "__getattribute__" = some (some (.builtin "BaseException.__getattribute__"))) && (decide (PySem.W.findIn K (.ref C) "__getattr__" = some none) &&
  (decide (PySem.W.subIn K (.ref C) (.type "BaseException") = some true) && (PySem.W.hasDictIn K C && (decide (PySem.W.findIn K (.ref C) "__class__" = some (some (.builtin "object.__class__"))) &&
  (decide (PySem.W.specialIn K (.builtin "object.__class__") "__get__" = some (some (.builtin "getset_descriptor.__get__"))) && (decide (PySem.W.takesIn K (.builtin "object.__class__") = some true) && (decide (PySem.W.mroIn K C (.type "object") = some true) &&
  (decide (PySem.W.typeIn K (.ref C) = some (.type "type")) && (PySem.W.keepIn K (.ref C) && decide (PySem.W.findIn K (.ref C) "__setattr__" = some (some (.builtin "object.__setattr__"))))))))))))
structure ErrF (K : PySem.W.Frag) (C : Addr) : Prop where
  ex : ExcC K C
  xf : XfC K C
  ty : PySem.W.typeIn K (.ref C) = some (.type "type")
  kp : PySem.W.keepIn K (.ref C) = true
  sa : PySem.W.findIn K (.ref C) "__setattr__" = some (some (.builtin "object.__setattr__"))
theorem errF_of {K : PySem.W.Frag} {C : Addr} (h : errB K C = true) : ErrF K C := by
  unfold errB at h
  simp only [Bool.and_eq_true, decide_eq_true_eq] at h
  obtain ⟨d1, d2, d3, d4, d5, d6, d7, d8, d9, d10, d11⟩ := h
  exact ⟨⟨d1, d2, d3, d4, d5, d6, d7, d8⟩, ⟨d1, d2, d3, d4⟩, d9, d10, d11⟩
def OexL (K : PySem.W.Frag) (C : Addr) : Prop := ∃ nm q N bs bm sn sub ab col dd k0 k1 k2 k3 k5, K.lookup C = some (excClassObj nm q C N bs bm true sn sub ab col dd k0 k1 k2 k3 k5 "ValueError.__new__") ∧ PySem.HandSPX.refsVE bm = true
def errsB (K : PySem.W.Frag) (B : Addr) (cs : List Addr) : Bool := (List.range 11).all fun j => errB K (cs.getD j 0) && (decide (PySem.W.exmOne K (.ref (cs.getD j 0)) (.ref B) = some true) && (decide (PySem.W.kitOne K (.ref (cs.getD j 0)) (.type "ValueError") = some true) && decide (PySem.W.findIn K (.ref (cs.getD j 0)) (erFld j) = some none)))
def kitsB (K : PySem.W.Frag) (cs : List Addr) : Bool := (List.range 11).all fun i => (List.range 11).all fun j => decide (PySem.W.kitOne K (.ref (cs.getD j 0)) (.ref (cs.getD i 0)) = some (decide (i = j)))
theorem errA_of {K : PySem.W.Frag} {mg : Str → Option Value} {B : Addr} {cs : List Addr} (h1 : errsB K B cs = true) (h2 : kitsB K cs = true) (gB : mg "BlockorderError" = some (.ref B)) (gV : mg "ValueError" = none) (isi : mg "isinstance" = none)
    (g0 : mg "InvalidName" = some (.ref (cs.getD 0 0))) (g1 : mg "DuplicateItem" = some (.ref (cs.getD 1 0))) (g2 : mg "UnknownItem" = some (.ref (cs.getD 2 0))) (g3 : mg "DuplicateEntry" = some (.ref (cs.getD 3 0))) (g4 : mg "UnknownEntry" = some (.ref (cs.getD 4 0))) (g5 : mg "TooLarge" = some (.ref (cs.getD 5 0)))
    (g6 : mg "NoTransaction" = some (.ref (cs.getD 6 0))) (g7 : mg "OpenTransaction" = some (.ref (cs.getD 7 0))) (g8 : mg "NothingToUndo" = some (.ref (cs.getD 8 0))) (g9 : mg "EditFailed" = some (.ref (cs.getD 9 0))) (g10 : mg "InvalidText" = some (.ref (cs.getD 10 0))) : ErrA K mg B (fun j => cs.getD j 0) := by
  have a : ∀ j, j < 11 → ErrF K (cs.getD j 0) ∧ PySem.W.exmOne K (.ref (cs.getD j 0)) (.ref B) = some true ∧ PySem.W.kitOne K (.ref (cs.getD j 0)) (.type "ValueError") = some true ∧ PySem.W.findIn K (.ref (cs.getD j 0)) (erFld j) = some none := fun j hj => by
    have h := List.all_eq_true.mp h1 j (List.mem_range.mpr hj)
    simp only [Bool.and_eq_true, decide_eq_true_eq] at h
    exact ⟨errF_of h.1, h.2.1, h.2.2.1, h.2.2.2⟩
  exact { gB := gB, ex := fun j hj => (a j hj).2.1, gV := gV, isi := isi, k := fun i j hi hj => of_decide_eq_true (List.all_eq_true.mp (List.all_eq_true.mp h2 i (List.mem_range.mpr hi)) j (List.mem_range.mpr hj)), kV := fun j hj => (a j hj).2.2.1, E := fun j hj => (a j hj).1.ex, xf := fun j hj => (a j hj).1.xf, no := fun j hj => (a j hj).2.2.2, g0 := g0, g1 := g1, g2 := g2, g3 := g3, g4 := g4, g5 := g5, g6 := g6, g7 := g7, g8 := g8, g9 := g9, g10 := g10 }
theorem errF_at {K : PySem.W.Frag} {B : Addr} {cs : List Addr} (h1 : errsB K B cs = true) (j : Nat) (hj : j < 11) : ErrF K (cs.getD j 0) := by
  have h := List.all_eq_true.mp h1 j (List.mem_range.mpr hj)
  simp only [Bool.and_eq_true] at h
  exact errF_of h.1
abbrev bmV : List Value := [.type "ValueError", .type "Exception", .type "BaseException", .type "object"]

theorem all_mk {P : Program} {w : World} {K : PySem.W.Frag} {h : Heap} {mg : Str → Option Value} {fa : Addr} (X : K.In h) (G : h.Ns mainGlobals mg) (hfa : mg "law" = some (.ref fa))
    {cB c0 c1 c2 c3 c4 c5 c6 c7 c8 c9 c10 CC CS fC fN fWU fCU fR fWT fWE fEO fB fD fP fNm fE fTo fSt fRf fL fIN fCI fSI fTk fAU fAE fBg fCm fRb fUn pE pU pN pD gE gU gN gD c Tb : Addr} (hTb : h.get? Tb = some { cls := .none, data := .fields #[] })
    (acB : PySem.W.nsIn K mainGlobals "BlockorderError" = some (some (.ref cB)))
    (ac0 : PySem.W.nsIn K mainGlobals "InvalidName" = some (some (.ref c0)))
    (ac1 : PySem.W.nsIn K mainGlobals "DuplicateItem" = some (some (.ref c1)))
    (ac2 : PySem.W.nsIn K mainGlobals "UnknownItem" = some (some (.ref c2)))
    (ac3 : PySem.W.nsIn K mainGlobals "DuplicateEntry" = some (some (.ref c3)))
    (ac4 : PySem.W.nsIn K mainGlobals "UnknownEntry" = some (some (.ref c4)))
    (ac5 : PySem.W.nsIn K mainGlobals "TooLarge" = some (some (.ref c5)))
    (ac6 : PySem.W.nsIn K mainGlobals "NoTransaction" = some (some (.ref c6)))
    (ac7 : PySem.W.nsIn K mainGlobals "OpenTransaction" = some (some (.ref c7)))
    (ac8 : PySem.W.nsIn K mainGlobals "NothingToUndo" = some (some (.ref c8)))
    (ac9 : PySem.W.nsIn K mainGlobals "EditFailed" = some (some (.ref c9)))
    (ac10 : PySem.W.nsIn K mainGlobals "InvalidText" = some (some (.ref c10)))
    (aCC : PySem.W.nsIn K mainGlobals "Contents" = some (some (.ref CC)))
    (aCS : PySem.W.nsIn K mainGlobals "System" = some (some (.ref CS)))
    (bfC : PySem.W.nsIn K mainGlobals "copied" = some (some (.ref fC)))
    (bfN : PySem.W.nsIn K mainGlobals "is_name" = some (some (.ref fN)))
    (bfWU : PySem.W.nsIn K mainGlobals "with_unknowns" = some (some (.ref fWU)))
    (bfCU : PySem.W.nsIn K mainGlobals "check_unknowns" = some (some (.ref fCU)))
    (bfR : PySem.W.nsIn K mainGlobals "replaced" = some (some (.ref fR)))
    (bfWT : PySem.W.nsIn K mainGlobals "with_terms" = some (some (.ref fWT)))
    (bfWE : PySem.W.nsIn K mainGlobals "with_equation" = some (some (.ref fWE)))
    (bfEO : PySem.W.nsIn K mainGlobals "entries_of" = some (some (.ref fEO)))
    (bfB : PySem.W.nsIn K mainGlobals "_law_begin" = some (some (.ref fB)))
    (bfD : PySem.W.nsIn K mainGlobals "_law_draw" = some (some (.ref fD)))
    (bfP : PySem.W.nsIn K mainGlobals "_law_pick" = some (some (.ref fP)))
    (bfNm : PySem.W.nsIn K mainGlobals "_law_names" = some (some (.ref fNm)))
    (bfE : PySem.W.nsIn K mainGlobals "_law_error" = some (some (.ref fE)))
    (bfTo : PySem.W.nsIn K mainGlobals "_law_told" = some (some (.ref fTo)))
    (bfSt : PySem.W.nsIn K mainGlobals "_law_stands" = some (some (.ref fSt)))
    (bfRf : PySem.W.nsIn K mainGlobals "_law_refuses" = some (some (.ref fRf)))
    (bfL : PySem.W.nsIn K mainGlobals "law" = some (some (.ref fL)))
    (dfIN : PySem.W.findIn K (.ref c0) "__init__" = some (some (.ref fIN)))
    (dfCI : PySem.W.findIn K (.ref CC) "__init__" = some (some (.ref fCI)))
    (dfSI : PySem.W.findIn K (.ref CS) "__init__" = some (some (.ref fSI)))
    (dfTk : PySem.W.findIn K (.ref CS) "_take" = some (some (.ref fTk)))
    (dfAU : PySem.W.findIn K (.ref CS) "add_unknown" = some (some (.ref fAU)))
    (dfAE : PySem.W.findIn K (.ref CS) "add_equation" = some (some (.ref fAE)))
    (dfBg : PySem.W.findIn K (.ref CS) "begin" = some (some (.ref fBg)))
    (dfCm : PySem.W.findIn K (.ref CS) "commit" = some (some (.ref fCm)))
    (dfRb : PySem.W.findIn K (.ref CS) "rollback" = some (some (.ref fRb)))
    (dfUn : PySem.W.findIn K (.ref CS) "undo" = some (some (.ref fUn)))
    (eE : PySem.W.findIn K (.ref CS) "equations" = some (some (.ref pE)))
    (rE : ∃ rest, PySem.W.recIn K pE "property" = some (.ref gE :: rest))
    (sE : PySem.W.specialIn K (.ref pE) "__get__" = some (some (.builtin "property.__get__")) ∧ PySem.W.takesIn K (.ref pE) = some true)
    (eU : PySem.W.findIn K (.ref CS) "unknowns" = some (some (.ref pU)))
    (rU : ∃ rest, PySem.W.recIn K pU "property" = some (.ref gU :: rest))
    (sU : PySem.W.specialIn K (.ref pU) "__get__" = some (some (.builtin "property.__get__")) ∧ PySem.W.takesIn K (.ref pU) = some true)
    (eN : PySem.W.findIn K (.ref CS) "entries" = some (some (.ref pN)))
    (rN : ∃ rest, PySem.W.recIn K pN "property" = some (.ref gN :: rest))
    (sN : PySem.W.specialIn K (.ref pN) "__get__" = some (some (.builtin "property.__get__")) ∧ PySem.W.takesIn K (.ref pN) = some true)
    (eD : PySem.W.findIn K (.ref CS) "depth" = some (some (.ref pD)))
    (rD : ∃ rest, PySem.W.recIn K pD "property" = some (.ref gD :: rest))
    (sD : PySem.W.specialIn K (.ref pD) "__get__" = some (some (.builtin "property.__get__")) ∧ PySem.W.takesIn K (.ref pD) = some true)
    (hfC : ∃ fd, Fun K "copied" "copied" sCopied fC fd)
    (hfN : ∃ fd, Fun K "is_name" "is_name" sIsName fN fd)
    (hfWU : ∃ fd, Fun K "with_unknowns" "with_unknowns" sWU fWU fd)
    (hfCU : ∃ fd, Fun K "check_unknowns" "check_unknowns" sCU fCU fd)
    (hfR : ∃ fd, Fun K "replaced" "replaced" sReplaced fR fd)
    (hfWT : ∃ fd, Fun K "with_terms" "with_terms" sWT fWT fd)
    (hfWE : ∃ fd, Fun K "with_equation" "with_equation" sWE fWE fd)
    (hfEO : ∃ fd, Fun K "entries_of" "entries_of" sEO fEO fd)
    (hfB : ∃ fd, Fun K "_law_begin" "_law_begin" sBegin fB fd)
    (hfD : ∃ fd, Fun K "_law_draw" "_law_draw" sDraw fD fd)
    (hfP : ∃ fd, Fun K "_law_pick" "_law_pick" sPick fP fd)
    (hfNm : ∃ fd, Fun K "_law_names" "_law_names" sNames fNm fd)
    (hfE : ∃ fd, Fun K "_law_error" "_law_error" sErr fE fd)
    (hfTo : ∃ fd, Fun K "_law_told" "_law_told" sTold fTo fd)
    (hfSt : ∃ fd, Fun K "_law_stands" "_law_stands" sStands fSt fd)
    (hfRf : ∃ fd, Fun K "_law_refuses" "_law_refuses" sRf fRf fd)
    (hfIN : ∃ fd, Fun K "__init__" "InvalidName.__init__" sI5 fIN fd)
    (hfCI : ∃ fd, Fun K "__init__" "Contents.__init__" sCtInit fCI fd)
    (hfSI : ∃ fd, Fun K "__init__" "System.__init__" sSInit fSI fd)
    (hfTk : ∃ fd, Fun K "_take" "System._take" sTake fTk fd)
    (hfAU : ∃ fd, Fun K "add_unknown" "System.add_unknown" sAU fAU fd)
    (hfAE : ∃ fd, Fun K "add_equation" "System.add_equation" sAE fAE fd)
    (hfBg : ∃ fd, Fun K "begin" "System.begin" sBg fBg fd)
    (hfCm : ∃ fd, Fun K "commit" "System.commit" sCm fCm fd)
    (hfRb : ∃ fd, Fun K "rollback" "System.rollback" sRb fRb fd)
    (hfUn : ∃ fd, Fun K "undo" "System.undo" sUndo fUn fd)
    (hE : ∃ fd, Fun K "equations" "System.equations" sEqs gE fd)
    (hU : ∃ fd, Fun K "unknowns" "System.unknowns" sUns gU fd)
    (hN : ∃ fd, Fun K "entries" "System.entries" sEns gN fd)
    (hD : ∃ fd, Fun K "depth" "System.depth" sDep gD fd)
    (hL : ∃ fd, FunC K "law" "law" sLaw fL fd c)
    (tO : K.lookup Tb = none)
    (tC : PySem.W.codeHdIn K c Tb = true)
    (kCC : PySem.W.plainGet K CC Str.empty = true ∧ PySem.W.hasDictIn K CC = true ∧ PySem.W.plainOver K CC = true ∧ PySem.W.findIn K (.ref CC) "__setattr__" = some (some (.builtin "object.__setattr__")))
    (mCC : PySem.W.makesIn K CC = true ∧ PySem.W.keepIn K (.ref CC) = true)
    (kCS : PySem.W.plainGet K CS Str.empty = true ∧ PySem.W.hasDictIn K CS = true ∧ PySem.W.plainOver K CS = true ∧ PySem.W.findIn K (.ref CS) "__setattr__" = some (some (.builtin "object.__setattr__")))
    (mCS : PySem.W.makesIn K CS = true ∧ PySem.W.keepIn K (.ref CS) = true)
    (nCC0 : PySem.W.findIn K (.ref CC) "columns" = some none)
    (nCC1 : PySem.W.findIn K (.ref CC) "rows" = some none)
    (nCC2 : PySem.W.findIn K (.ref CC) "constants" = some none)
    (nCS0 : PySem.W.findIn K (.ref CS) "_contents" = some none)
    (nCS1 : PySem.W.findIn K (.ref CS) "_begun" = some none)
    (nCS2 : PySem.W.findIn K (.ref CS) "_history" = some none)
    (ifCI : PySem.W.isFn K (.ref fCI) = true)
    (ifSI : PySem.W.isFn K (.ref fSI) = true)
    (ifTk : PySem.W.isFn K (.ref fTk) = true)
    (ifAU : PySem.W.isFn K (.ref fAU) = true)
    (ifAE : PySem.W.isFn K (.ref fAE) = true)
    (ifBg : PySem.W.isFn K (.ref fBg) = true)
    (ifCm : PySem.W.isFn K (.ref fCm) = true)
    (ifRb : PySem.W.isFn K (.ref fRb) = true)
    (ifUn : PySem.W.isFn K (.ref fUn) = true)
    (tfIN : PySem.W.typeIn K (.ref fIN) = some (.type "function"))
    (eB : errsB K cB [c0, c1, c2, c3, c4, c5, c6, c7, c8, c9, c10] = true)
    (eK : kitsB K [c0, c1, c2, c3, c4, c5, c6, c7, c8, c9, c10] = true)
    (oc0 : OexL K c0)
    (xc6 : PySem.W.excIn K c6 [.type "ValueError", .type "Exception", .type "BaseException", .type "object"] "ValueError.__new__" = true)
    (xc7 : PySem.W.excIn K c7 [.type "ValueError", .type "Exception", .type "BaseException", .type "object"] "ValueError.__new__" = true)
    (xc8 : PySem.W.excIn K c8 [.type "ValueError", .type "Exception", .type "BaseException", .type "object"] "ValueError.__new__" = true)
    (l_LETTERS : ∃ t, PySem.W.nsIn K mainGlobals "LETTERS" = some (some (.str lets t)))
    (l_DIGITS : ∃ t, PySem.W.nsIn K mainGlobals "DIGITS" = some (some (.str digs t)))
    (l_LONGEST_NAME : ∃ t, PySem.W.nsIn K mainGlobals "LONGEST_NAME" = some (some (.int 8 t)))
    (l_MOST : ∃ t, PySem.W.nsIn K mainGlobals "MOST" = some (some (.int 24 t)))
    (kw : kwOne K fUn "count" 1 = true)
    (no0 : PySem.W.findIn K (.ref c0) "name" = some none)
    (z_isinstance : PySem.W.nsIn K mainGlobals "isinstance" = some none)
    (z_tuple : PySem.W.nsIn K mainGlobals "tuple" = some none)
    (z_list : PySem.W.nsIn K mainGlobals "list" = some none)
    (z_dict : PySem.W.nsIn K mainGlobals "dict" = some none)
    (z_len : PySem.W.nsIn K mainGlobals "len" = some none)
    (z_str : PySem.W.nsIn K mainGlobals "str" = some none)
    (z_all : PySem.W.nsIn K mainGlobals "all" = some none)
    (z_set : PySem.W.nsIn K mainGlobals "set" = some none)
    (z_sorted : PySem.W.nsIn K mainGlobals "sorted" = some none)
    (z_enumerate : PySem.W.nsIn K mainGlobals "enumerate" = some none)
    (z_range : PySem.W.nsIn K mainGlobals "range" = some none)
    (z_min : PySem.W.nsIn K mainGlobals "min" = some none)
    (z_repr : PySem.W.nsIn K mainGlobals "repr" = some none)
    (z_ValueError : PySem.W.nsIn K mainGlobals "ValueError" = some none)
    (z_int : PySem.W.nsIn K mainGlobals "int" = some none)
    : ∃ (fd : FuncData) (c T : Addr) (sp : Sp), OneTab K h c T ∧ (∀ (s : Shared) (u : Value), BindsTo s fd ⟨[u], []⟩ [("_law_script", u)]) ∧
      (∀ (H : Hp) (a : Addr) (ns : List Int), ns.length ≤ 63 → H T = some (.tbl #[]) → SqL K H a (ns.map V.int) → sp [.ref a] H (fun v _ => v = .bl true) E0) ∧
      ∀ base : Heap, K.In base → base.Ns mainGlobals mg → LamX.TabB base mg c T → FnQ P w K mg base CX0 10 fa fd ["_law_script"] sp := by
  have e := hfa.symm.trans (PySem.W.mg_of X G bfL)
  cases e
  obtain ⟨fd_fC, F_fC⟩ := hfC
  obtain ⟨fd_fN, F_fN⟩ := hfN
  obtain ⟨fd_fWU, F_fWU⟩ := hfWU
  obtain ⟨fd_fCU, F_fCU⟩ := hfCU
  obtain ⟨fd_fR, F_fR⟩ := hfR
  obtain ⟨fd_fWT, F_fWT⟩ := hfWT
  obtain ⟨fd_fWE, F_fWE⟩ := hfWE
  obtain ⟨fd_fEO, F_fEO⟩ := hfEO
  obtain ⟨fd_fB, F_fB⟩ := hfB
  obtain ⟨fd_fD, F_fD⟩ := hfD
  obtain ⟨fd_fP, F_fP⟩ := hfP
  obtain ⟨fd_fNm, F_fNm⟩ := hfNm
  obtain ⟨fd_fE, F_fE⟩ := hfE
  obtain ⟨fd_fTo, F_fTo⟩ := hfTo
  obtain ⟨fd_fSt, F_fSt⟩ := hfSt
  obtain ⟨fd_fRf, F_fRf⟩ := hfRf
  obtain ⟨fd_fIN, F_fIN⟩ := hfIN
  obtain ⟨fd_fCI, F_fCI⟩ := hfCI
  obtain ⟨fd_fSI, F_fSI⟩ := hfSI
  obtain ⟨fd_fTk, F_fTk⟩ := hfTk
  obtain ⟨fd_fAU, F_fAU⟩ := hfAU
  obtain ⟨fd_fAE, F_fAE⟩ := hfAE
  obtain ⟨fd_fBg, F_fBg⟩ := hfBg
  obtain ⟨fd_fCm, F_fCm⟩ := hfCm
  obtain ⟨fd_fRb, F_fRb⟩ := hfRb
  obtain ⟨fd_fUn, F_fUn⟩ := hfUn
  obtain ⟨fd_E, F_E⟩ := hE
  obtain ⟨fd_U, F_U⟩ := hU
  obtain ⟨fd_N, F_N⟩ := hN
  obtain ⟨fd_D, F_D⟩ := hD
  obtain ⟨fd_L, F_L⟩ := hL
  have B_fC := F_fC.binds (ps := ["thing"]) fun _ _ _ _ _ _ us hl => match us, hl with | [_], _ => rfl
  have B_fN := F_fN.binds (ps := ["thing"]) fun _ _ _ _ _ _ us hl => match us, hl with | [_], _ => rfl
  have B_fWU := F_fWU.binds (ps := ["contents", "names"]) fun _ _ _ _ _ _ us hl => match us, hl with | [_, _], _ => rfl
  have B_fCU := F_fCU.binds (ps := ["known", "unknowns"]) fun _ _ _ _ _ _ us hl => match us, hl with | [_, _], _ => rfl
  have B_fR := F_fR.binds (ps := ["table", "key", "thing"]) fun _ _ _ _ _ _ us hl => match us, hl with | [_, _, _], _ => rfl
  have B_fWT := F_fWT.binds (ps := ["contents", "name", "constant", "terms"]) fun _ _ _ _ _ _ us hl => match us, hl with | [_, _, _, _], _ => rfl
  have B_fWE := F_fWE.binds (ps := ["contents", "name", "unknowns"]) fun _ _ _ _ _ _ us hl => match us, hl with | [_, _, _], _ => rfl
  have B_fEO := F_fEO.binds (ps := ["contents"]) fun _ _ _ _ _ _ us hl => match us, hl with | [_], _ => rfl
  have B_fB := F_fB.binds (ps := ["_law_script"]) fun _ _ _ _ _ _ us hl => match us, hl with | [_], _ => rfl
  have B_fD := F_fD.binds (ps := ["_law_tape", "_law_many"]) fun _ _ _ _ _ _ us hl => match us, hl with | [_, _], _ => rfl
  have B_fP := F_fP.binds (ps := ["_law_tape", "_law_items"]) fun _ _ _ _ _ _ us hl => match us, hl with | [_, _], _ => rfl
  have B_fNm := F_fNm.binds (ps := ["_law_tape", "_law_many"]) fun _ _ _ _ _ _ us hl => match us, hl with | [_, _], _ => rfl
  have B_fE := F_fE.binds (ps := ["_law_call"]) fun _ _ _ _ _ _ us hl => match us, hl with | [_], _ => rfl
  have B_fTo := F_fTo.binds (ps := ["_law_plain"]) fun _ _ _ _ _ _ us hl => match us, hl with | [_], _ => rfl
  have B_fSt := F_fSt.binds (ps := ["_law_system", "_law_plain"]) fun _ _ _ _ _ _ us hl => match us, hl with | [_, _], _ => rfl
  have B_fRf := F_fRf.binds (ps := ["_law_system", "_law_told_here", "_law_due"]) fun _ _ _ _ _ _ us hl => match us, hl with | [_, _, _], _ => rfl
  have B_fIN := F_fIN.binds (ps := ["self", "name"]) fun _ _ _ _ _ _ us hl => match us, hl with | [_, _], _ => rfl
  have B_fCI := F_fCI.binds (ps := ["self", "columns", "rows", "constants"]) fun _ _ _ _ _ _ us hl => match us, hl with | [_, _, _, _], _ => rfl
  have B_fSI := F_fSI.binds (ps := ["self"]) fun _ _ _ _ _ _ us hl => match us, hl with | [_], _ => rfl
  have B_fTk := F_fTk.binds (ps := ["self", "contents"]) fun _ _ _ _ _ _ us hl => match us, hl with | [_, _], _ => rfl
  have B_fBg := F_fBg.binds (ps := ["self"]) fun _ _ _ _ _ _ us hl => match us, hl with | [_], _ => rfl
  have B_fCm := F_fCm.binds (ps := ["self"]) fun _ _ _ _ _ _ us hl => match us, hl with | [_], _ => rfl
  have B_fRb := F_fRb.binds (ps := ["self"]) fun _ _ _ _ _ _ us hl => match us, hl with | [_], _ => rfl
  have B_E := F_E.binds (ps := ["self"]) fun _ _ _ _ _ _ us hl => match us, hl with | [_], _ => rfl
  have B_U := F_U.binds (ps := ["self"]) fun _ _ _ _ _ _ us hl => match us, hl with | [_], _ => rfl
  have B_N := F_N.binds (ps := ["self"]) fun _ _ _ _ _ _ us hl => match us, hl with | [_], _ => rfl
  have B_D := F_D.binds (ps := ["self"]) fun _ _ _ _ _ _ us hl => match us, hl with | [_], _ => rfl
  have m_fC := PySem.W.mg_of X G bfC
  have m_fN := PySem.W.mg_of X G bfN
  have m_fWU := PySem.W.mg_of X G bfWU
  have m_fCU := PySem.W.mg_of X G bfCU
  have m_fR := PySem.W.mg_of X G bfR
  have m_fWT := PySem.W.mg_of X G bfWT
  have m_fWE := PySem.W.mg_of X G bfWE
  have m_fEO := PySem.W.mg_of X G bfEO
  have m_fB := PySem.W.mg_of X G bfB
  have m_fD := PySem.W.mg_of X G bfD
  have m_fP := PySem.W.mg_of X G bfP
  have m_fNm := PySem.W.mg_of X G bfNm
  have m_fE := PySem.W.mg_of X G bfE
  have m_fTo := PySem.W.mg_of X G bfTo
  have m_fSt := PySem.W.mg_of X G bfSt
  have m_fRf := PySem.W.mg_of X G bfRf
  have n_isinstance := PySem.W.mg_none_of X G z_isinstance
  have n_tuple := PySem.W.mg_none_of X G z_tuple
  have n_list := PySem.W.mg_none_of X G z_list
  have n_dict := PySem.W.mg_none_of X G z_dict
  have n_len := PySem.W.mg_none_of X G z_len
  have n_str := PySem.W.mg_none_of X G z_str
  have n_all := PySem.W.mg_none_of X G z_all
  have n_set := PySem.W.mg_none_of X G z_set
  have n_sorted := PySem.W.mg_none_of X G z_sorted
  have n_enumerate := PySem.W.mg_none_of X G z_enumerate
  have n_range := PySem.W.mg_none_of X G z_range
  have n_min := PySem.W.mg_none_of X G z_min
  have n_repr := PySem.W.mg_none_of X G z_repr
  have n_ValueError := PySem.W.mg_none_of X G z_ValueError
  have n_int := PySem.W.mg_none_of X G z_int
  obtain ⟨t_L, l_LETTERS⟩ := l_LETTERS
  have g_L := PySem.W.mg_of X G l_LETTERS
  obtain ⟨t_D, l_DIGITS⟩ := l_DIGITS
  have g_D := PySem.W.mg_of X G l_DIGITS
  obtain ⟨t_O, l_LONGEST_NAME⟩ := l_LONGEST_NAME
  have g_O := PySem.W.mg_of X G l_LONGEST_NAME
  obtain ⟨t_M, l_MOST⟩ := l_MOST
  have g_M := PySem.W.mg_of X G l_MOST
  have g_cB := PySem.W.mg_of X G acB
  have g_c0 := PySem.W.mg_of X G ac0
  have g_c1 := PySem.W.mg_of X G ac1
  have g_c2 := PySem.W.mg_of X G ac2
  have g_c3 := PySem.W.mg_of X G ac3
  have g_c4 := PySem.W.mg_of X G ac4
  have g_c5 := PySem.W.mg_of X G ac5
  have g_c6 := PySem.W.mg_of X G ac6
  have g_c7 := PySem.W.mg_of X G ac7
  have g_c8 := PySem.W.mg_of X G ac8
  have g_c9 := PySem.W.mg_of X G ac9
  have g_c10 := PySem.W.mg_of X G ac10
  have g_CC := PySem.W.mg_of X G aCC
  have g_CS := PySem.W.mg_of X G aCS
  have cl_CC : Cls K CC := ⟨kCC.1, kCC.2.1, kCC.2.2.1, kCC.2.2.2⟩
  have cl_CS : Cls K CS := ⟨kCS.1, kCS.2.1, kCS.2.2.1, kCS.2.2.2⟩
  have mk_CC : Mk K CC fCI := ⟨mCC.1, dfCI, ifCI, mCC.2⟩
  have mk_CS : Mk K CS fSI := ⟨mCS.1, dfSI, ifSI, mCS.2⟩
  have M_fTk : Meth K CS "_take" fTk := ⟨dfTk, ifTk, F_fTk.kp⟩
  have M_fAU : Meth K CS "add_unknown" fAU := ⟨dfAU, ifAU, F_fAU.kp⟩
  have M_fAE : Meth K CS "add_equation" fAE := ⟨dfAE, ifAE, F_fAE.kp⟩
  have M_fBg : Meth K CS "begin" fBg := ⟨dfBg, ifBg, F_fBg.kp⟩
  have M_fCm : Meth K CS "commit" fCm := ⟨dfCm, ifCm, F_fCm.kp⟩
  have M_fRb : Meth K CS "rollback" fRb := ⟨dfRb, ifRb, F_fRb.kp⟩
  have M_fUn : Meth K CS "undo" fUn := ⟨dfUn, ifUn, F_fUn.kp⟩
  have P_E : PropOf K CS "equations" pE gE := ⟨eE, sE.1, sE.2, rE⟩
  have P_U : PropOf K CS "unknowns" pU gU := ⟨eU, sU.1, sU.2, rU⟩
  have P_N : PropOf K CS "entries" pN gN := ⟨eN, sN.1, sN.2, rN⟩
  have P_D : PropOf K CS "depth" pD gD := ⟨eD, sD.1, sD.2, rD⟩
  have TE : ErrA K mg cB (fun j => ([c0, c1, c2, c3, c4, c5, c6, c7, c8, c9, c10] : List Addr).getD j 0) := errA_of eB eK g_cB n_ValueError n_isinstance g_c0 g_c1 g_c2 g_c3 g_c4 g_c5 g_c6 g_c7 g_c8 g_c9 g_c10
  have ox_c0 : OexC K c0 := ⟨oc0, (errF_at eB 0 (by decide)).sa, (errF_at eB 0 (by decide)).ex.hs, (errF_at eB 0 (by decide)).ty, (errF_at eB 0 (by decide)).kp⟩
  have bare_c6 : BareC K mg "NoTransaction" c6 := ⟨xc6, g_c6, (errF_at eB 6 (by decide)).kp, (errF_at eB 6 (by decide)).ex.hs, (errF_at eB 6 (by decide)).ty⟩
  have bare_c7 : BareC K mg "OpenTransaction" c7 := ⟨xc7, g_c7, (errF_at eB 7 (by decide)).kp, (errF_at eB 7 (by decide)).ex.hs, (errF_at eB 7 (by decide)).ty⟩
  have bare_c8 : BareC K mg "NothingToUndo" c8 := ⟨xc8, g_c8, (errF_at eB 8 (by decide)).kp, (errF_at eB 8 (by decide)).ex.hs, (errF_at eB 8 (by decide)).ty⟩
  have TC : TxtC mg := ⟨n_isinstance, n_tuple, n_list, n_dict⟩
  have TN : TxtN mg := ⟨TC, ⟨_, g_L⟩, ⟨_, g_D⟩, ⟨_, g_O⟩, n_len, n_str, n_all⟩
  have TCt : CtT K mg CC fCI := { cl := cl_CC, mkC := mk_CC, g := g_CC, n1 := nCC0, n2 := nCC1, n3 := nCC2 }
  have TEn : ErrC K c0 fIN "name" := ⟨ox_c0, dfIN, tfIN, no0⟩
  have TS : TxtS K mg CC fCI c0 fIN := { toTxtN := TN, ct := TCt, en := TEn, gN := g_c0, set_ := n_set, srt := n_sorted, most := ⟨_, g_M⟩ }
  have TY : SysT K mg CS fSI fTk := { cl := cl_CS, mkC := mk_CS, g := g_CS, n1 := nCS0, n2 := nCS1, n3 := nCS2, tk := M_fTk }
  have TP : TxtP mg := ⟨n_tuple, n_sorted⟩
  have TB : TxtB mg := ⟨n_len⟩
  have TSh : TxtSh mg := ⟨n_len, n_list⟩
  have TL : TxtL mg := ⟨n_range, n_min, n_len, n_repr, n_int⟩
  have PT : PropV K CS pE gE pU gU pN gN pD gD := ⟨P_E, P_U, P_N, P_D⟩
  obtain ⟨dsU, vU, bU0⟩ := undo_b0 F_fUn kw
  have kbU := undo_kb F_fUn
  refine ⟨fd_L, c, Tb, spLaw K Tb, ⟨hTb, tO, PySem.W.codeHd_of_K X tC⟩, ?_, fun H a ns hl hT hS => ⟨a, ns, rfl, hS, hl, hT, fun _ => rfl⟩, fun base hK hG hTB => ?_⟩
  · obtain ⟨oc, od, kV, doc, pm, an, ct, osl, rfl, _, _⟩ := F_L.ex
    exact fun s v => .of_eq rfl
  · have GC : FnOk P w K mg base CX0 2 fC fd_fC ["thing"] (spCopy K) := ok_copy F_fC TC m_fC B_fC
    have GI : FnOk P w K mg base CX0 3 fIN fd_fIN ["self", "name"] (spInit K "name") := ok_i5 F_fIN GC m_fC F_fC.kp B_fC
    have GN : FnOk P w K mg base CX0 1 fN fd_fN ["thing"] (spIsName K) := ok_isName F_fN TN
    have GCI : FnOk P w K mg base CX0 1 fCI fd_fCI ["self", "columns", "rows", "constants"] (spCtInit CC) := ok_ctInit F_fCI TCt
    have GWU : FnOk P w K mg base (L2.CX P w) 5 fWU fd_fWU ["contents", "names"] (spWU K CC c0) := ok_wu F_fWU TS GN m_fN F_fN.kp B_fN GCI B_fCI GI B_fIN
    have GCU : FnOk P w K mg base CX0 1 fCU fd_fCU ["known", "unknowns"] spCU0 := ok_cu0 F_fCU n_enumerate
    have GR : FnOk P w K mg base CX0 1 fR fd_fR ["table", "key", "thing"] spReplaced := ok_replaced F_fR
    have GWT : FnOk P w K mg base (L2.CX P w) 5 fWT fd_fWT ["contents", "name", "constant", "terms"] (spWT K CC c0) := ok_wt F_fWT TS GN m_fN F_fN.kp B_fN GCU m_fCU F_fCU.kp B_fCU GR m_fR F_fR.kp B_fR GCI B_fCI GI B_fIN
    have GWE : FnOk P w K mg base (L2.CX P w) 6 fWE fd_fWE ["contents", "name", "unknowns"] (spWE K CC c0) := ok_we F_fWE GWT m_fWT F_fWT.kp B_fWT
    have GTk : FnOk P w K mg base CX0 1 fTk fd_fTk ["self", "contents"] (spTakeG K CC CS) := ok_takeG F_fTk TY
    have GSI : FnOk P w K mg base CX0 3 fSI fd_fSI ["self"] (spSInitG K CC CS) := ok_sInitG F_fSI TY TCt GCI B_fCI
    have GAU : FnR P w K mg base CX0 6 fAU (spAUG K CC CS) := ok_auG F_fAU TY TCt GTk B_fTk GWU m_fWU F_fWU.kp B_fWU
    have GAE : FnR P w K mg base CX0 7 fAE (spAEG K CC CS) := ok_aeG F_fAE TY TCt GTk B_fTk GWE m_fWE F_fWE.kp B_fWE
    have GBg : FnOk P w K mg base CX0 1 fBg fd_fBg ["self"] (spBg K CC CS) := ok_bg F_fBg TY
    have GCm : FnOk P w K mg base (L2.CX P w) 1 fCm fd_fCm ["self"] (spCm K CC CS c6) := ok_cm F_fCm TY bare_c6
    have GRb : FnOk P w K mg base (L2.CX P w) 1 fRb fd_fRb ["self"] (spRbX K CC CS c6) := ok_rbX F_fRb TY bare_c6
    have GUn : FnOk P w K mg base (L2.CX P w) 1 fUn fd_fUn ["self", "count"] (spUndo K CC CS c7 c8) := ok_undo F_fUn TY bare_c7 bare_c8 n_len
    have GEq : FnOk P w K mg base CX0 1 gE fd_E ["self"] (spEqsV K CC CS) := ok_eqsV F_E TY TCt TP
    have GUs : FnOk P w K mg base CX0 1 gU fd_U ["self"] (spUnsV K CC CS) := ok_unsV F_U TY TCt
    have GEO : FnOk P w K mg base CX0 1 fEO fd_fEO ["contents"] (spEO0 K CC) := ok_eo0 F_fEO TCt TP
    have GEn : FnOk P w K mg base CX0 2 gN fd_N ["self"] (spEnsV K CC CS) := ok_ensV F_N TY GEO m_fEO F_fEO.kp B_fEO
    have GDp : FnOk P w K mg base CX0 1 gD fd_D ["self"] (spDepV K CC CS) := ok_depV F_D TY n_len
    have GB : FnOk P w K mg base CX0 1 fB fd_fB ["_law_script"] (spBegin K) := ok_begin F_fB
    have GD : FnOk P w K mg base CX0 1 fD fd_fD ["_law_tape", "_law_many"] spDraw := ok_draw F_fD TB
    have GP : FnOk P w K mg base CX0 2 fP fd_fP ["_law_tape", "_law_items"] spPick := ok_pick F_fP TB GD m_fD F_fD.kp B_fD
    have GPS : FnOk P w K mg base CX0 2 fP fd_fP ["_law_tape", "_law_items"] spPickS := ok_pickS F_fP TB GD m_fD F_fD.kp B_fD
    have GNm : FnOk P w K mg base CX0 3 fNm fd_fNm ["_law_tape", "_law_many"] spNames := ok_names F_fNm TSh n_range GD m_fD F_fD.kp B_fD GP GPS m_fP F_fP.kp B_fP
    have GTo : FnOk P w K mg base CX0 1 fTo fd_fTo ["_law_plain"] (spTold K) := ok_told F_fTo TP
    have GSt : FnQ P w K mg base CX0 4 fSt fd_fSt ["_law_system", "_law_plain"] (spStands0 K CC CS) := ok_stands0 F_fSt TY n_repr PT GTo m_fTo F_fTo.kp B_fTo GEq B_E GUs B_U GEn B_N
    exact ok_law F_L hTB TY TE TL PT GB m_fB F_fB.kp B_fB GD m_fD F_fD.kp B_fD GNm m_fNm F_fNm.kp B_fNm F_fE m_fE B_fE F_fRf m_fRf B_fRf GSt m_fSt F_fSt.kp B_fSt GSI B_fSI GAU M_fAU GAE M_fAE GBg M_fBg B_fBg GCm M_fCm B_fCm GRb M_fRb B_fRb GUn M_fUn kbU vU bU0 GEq B_E GUs B_U GEn B_N GDp B_D
end Bo

set_option Elab.async false
set_option linter.all false
open PySem PySem.W PyProof.Rows
set_option maxRecDepth 100000 in
set_option maxHeartbeats 0 in
theorem PySem.Challenge.cw_blockorder_k40_errors_of_transactions_an_holds : PySem.Challenge.rw_blockorder_k40_errors_of_transactions_an.Holds := by
  w_on; o_law; k_head; (case hw => w_witness2)
  k_fill
  refine Bo.walkTQ (l := PySem.Challenge.rw_blockorder_k40_errors_of_transactions_an) (n := 63) (k := 10) (x := "_law_script") rfl (by decide) rfl ⟨rfl, by decide, by decide⟩ (fun w h Y => PySem.W.km_in_of Y) ?F
  case F =>
    intro w mg fa h Y KX G hmg
    have T := PySem.W.km_tabs_of Y
    refine' Bo.all_mk KX G hmg (c := 721) (Tb := 717) ?tb ?acB ?ac0 ?ac1 ?ac2 ?ac3 ?ac4 ?ac5 ?ac6 ?ac7 ?ac8 ?ac9 ?ac10 ?aCC ?aCS ?bfC ?bfN ?bfWU ?bfCU ?bfR ?bfWT ?bfWE ?bfEO ?bfB ?bfD ?bfP ?bfNm ?bfE ?bfTo ?bfSt ?bfRf ?bfL ?dfIN ?dfCI ?dfSI ?dfTk ?dfAU ?dfAE ?dfBg ?dfCm ?dfRb ?dfUn ?eE ?rE ?sE ?eU ?rU ?sU ?eN ?rN ?sN ?eD ?rD ?sD ?hfC ?hfN ?hfWU ?hfCU ?hfR ?hfWT ?hfWE ?hfEO ?hfB ?hfD ?hfP ?hfNm ?hfE ?hfTo ?hfSt ?hfRf ?hfIN ?hfCI ?hfSI ?hfTk ?hfAU ?hfAE ?hfBg ?hfCm ?hfRb ?hfUn ?hE ?hU ?hN ?hD ?hL ?tO ?tC ?kCC ?mCC ?kCS ?mCS ?nCC0 ?nCC1 ?nCC2 ?nCS0 ?nCS1 ?nCS2 ?ifCI ?ifSI ?ifTk ?ifAU ?ifAE ?ifBg ?ifCm ?ifRb ?ifUn ?tfIN ?eB ?eK ?oc0 ?xc6 ?xc7 ?xc8 ?l_LETTERS ?l_DIGITS ?l_LONGEST_NAME ?l_MOST ?kw ?no0 ?z_isinstance ?z_tuple ?z_list ?z_dict ?z_len ?z_str ?z_all ?z_set ?z_sorted ?z_enumerate ?z_range ?z_min ?z_repr ?z_ValueError ?z_int
    (case tb => exact T 717 (by k_mem))
    (case acB => k_is)
    (case ac0 => k_is)
    (case ac1 => k_is)
    (case ac2 => k_is)
    (case ac3 => k_is)
    (case ac4 => k_is)
    (case ac5 => k_is)
    (case ac6 => k_is)
    (case ac7 => k_is)
    (case ac8 => k_is)
    (case ac9 => k_is)
    (case ac10 => k_is)
    (case aCC => k_is)
    (case aCS => k_is)
    (case bfC => k_is)
    (case bfN => k_is)
    (case bfWU => k_is)
    (case bfCU => k_is)
    (case bfR => k_is)
    (case bfWT => k_is)
    (case bfWE => k_is)
    (case bfEO => k_is)
    (case bfB => k_is)
    (case bfD => k_is)
    (case bfP => k_is)
    (case bfNm => k_is)
    (case bfE => k_is)
    (case bfTo => k_is)
    (case bfSt => k_is)
    (case bfRf => k_is)
    (case bfL => k_is)
    (case dfIN => k_is)
    (case dfCI => k_is)
    (case dfSI => k_is)
    (case dfTk => k_is)
    (case dfAU => k_is)
    (case dfAE => k_is)
    (case dfBg => k_is)
    (case dfCm => k_is)
    (case dfRb => k_is)
    (case dfUn => k_is)
    (case eE => k_is)
    (case rE => exact ⟨_, by k_is⟩)
    (case sE => exact ⟨by k_is, by k_is⟩)
    (case eU => k_is)
    (case rU => exact ⟨_, by k_is⟩)
    (case sU => exact ⟨by k_is, by k_is⟩)
    (case eN => k_is)
    (case rN => exact ⟨_, by k_is⟩)
    (case sN => exact ⟨by k_is, by k_is⟩)
    (case eD => k_is)
    (case rD => exact ⟨_, by k_is⟩)
    (case sD => exact ⟨by k_is, by k_is⟩)
    (case hfC => exact ⟨_, L2.fun_mk (by k_is) (by k_is) (by k_is)⟩)
    (case hfN => exact ⟨_, L2.fun_mk (by k_is) (by k_is) (by k_is)⟩)
    (case hfWU => exact ⟨_, L2.fun_mk (by k_is) (by k_is) (by k_is)⟩)
    (case hfCU => exact ⟨_, L2.fun_mk (by k_is) (by k_is) (by k_is)⟩)
    (case hfR => exact ⟨_, L2.fun_mk (by k_is) (by k_is) (by k_is)⟩)
    (case hfWT => exact ⟨_, L2.fun_mk (by k_is) (by k_is) (by k_is)⟩)
    (case hfWE => exact ⟨_, L2.fun_mk (by k_is) (by k_is) (by k_is)⟩)
    (case hfEO => exact ⟨_, L2.fun_mk (by k_is) (by k_is) (by k_is)⟩)
    (case hfB => exact ⟨_, L2.fun_mk (by k_is) (by k_is) (by k_is)⟩)
    (case hfD => exact ⟨_, L2.fun_mk (by k_is) (by k_is) (by k_is)⟩)
    (case hfP => exact ⟨_, L2.fun_mk (by k_is) (by k_is) (by k_is)⟩)
    (case hfNm => exact ⟨_, L2.fun_mk (by k_is) (by k_is) (by k_is)⟩)
    (case hfE => exact ⟨_, L2.fun_mk (by k_is) (by k_is) (by k_is)⟩)
    (case hfTo => exact ⟨_, L2.fun_mk (by k_is) (by k_is) (by k_is)⟩)
    (case hfSt => exact ⟨_, L2.fun_mk (by k_is) (by k_is) (by k_is)⟩)
    (case hfRf => exact ⟨_, L2.fun_mk (by k_is) (by k_is) (by k_is)⟩)
    (case hfIN => exact ⟨_, L2.fun_mk (by k_is) (by k_is) (by k_is)⟩)
    (case hfCI => exact ⟨_, L2.fun_mk (by k_is) (by k_is) (by k_is)⟩)
    (case hfSI => exact ⟨_, L2.fun_mk (by k_is) (by k_is) (by k_is)⟩)
    (case hfTk => exact ⟨_, L2.fun_mk (by k_is) (by k_is) (by k_is)⟩)
    (case hfAU => exact ⟨_, L2.fun_mk (by k_is) (by k_is) (by k_is)⟩)
    (case hfAE => exact ⟨_, L2.fun_mk (by k_is) (by k_is) (by k_is)⟩)
    (case hfBg => exact ⟨_, L2.fun_mk (by k_is) (by k_is) (by k_is)⟩)
    (case hfCm => exact ⟨_, L2.fun_mk (by k_is) (by k_is) (by k_is)⟩)
    (case hfRb => exact ⟨_, L2.fun_mk (by k_is) (by k_is) (by k_is)⟩)
    (case hfUn => exact ⟨_, L2.fun_mk (by k_is) (by k_is) (by k_is)⟩)
    (case hE => exact ⟨_, L2.fun_mk (by k_is) (by k_is) (by k_is)⟩)
    (case hU => exact ⟨_, L2.fun_mk (by k_is) (by k_is) (by k_is)⟩)
    (case hN => exact ⟨_, L2.fun_mk (by k_is) (by k_is) (by k_is)⟩)
    (case hD => exact ⟨_, L2.fun_mk (by k_is) (by k_is) (by k_is)⟩)
    (case hL => exact ⟨_, Bo.funC_mk (by k_is) (by k_is)⟩)
    (case tO => kernel_rfl)
    (case tC => kernel_rfl)
    (case kCC => exact ⟨by k_is, by k_is, by k_is, by k_is⟩)
    (case mCC => exact ⟨by k_is, by k_is⟩)
    (case kCS => exact ⟨by k_is, by k_is, by k_is, by k_is⟩)
    (case mCS => exact ⟨by k_is, by k_is⟩)
    (case nCC0 => k_is)
    (case nCC1 => k_is)
    (case nCC2 => k_is)
    (case nCS0 => k_is)
    (case nCS1 => k_is)
    (case nCS2 => k_is)
    (case ifCI => k_is)
    (case ifSI => k_is)
    (case ifTk => k_is)
    (case ifAU => k_is)
    (case ifAE => k_is)
    (case ifBg => k_is)
    (case ifCm => k_is)
    (case ifRb => k_is)
    (case ifUn => k_is)
    (case tfIN => k_is)
    (case eB => kernel_rfl)
    (case eK => kernel_rfl)
    (case oc0 => exact ⟨_, _, _, _, _, _, _, _, _, _, _, _, _, _, _, by k_is, by decide +kernel⟩)
    (case xc6 => first | k_exc | k_is | kernel_rfl)
    (case xc7 => first | k_exc | k_is | kernel_rfl)
    (case xc8 => first | k_exc | k_is | kernel_rfl)
    (case l_LETTERS => exact ⟨_, by k_is⟩)
    (case l_DIGITS => exact ⟨_, by k_is⟩)
    (case l_LONGEST_NAME => exact ⟨_, by k_is⟩)
    (case l_MOST => exact ⟨_, by k_is⟩)
    (case kw => kernel_rfl)
    (case no0 => k_is)
    (case z_isinstance => k_is)
    (case z_tuple => k_is)
    (case z_list => k_is)
    (case z_dict => k_is)
    (case z_len => k_is)
    (case z_str => k_is)
    (case z_all => k_is)
    (case z_set => k_is)
    (case z_sorted => k_is)
    (case z_enumerate => k_is)
    (case z_range => k_is)
    (case z_min => k_is)
    (case z_repr => k_is)
    (case z_ValueError => k_is)
    (case z_int => k_is)
#print axioms PySem.Challenge.cw_blockorder_k40_errors_of_transactions_an_holds

