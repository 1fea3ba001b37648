import PyProof.Rows.All
import Wide.All
import OpenK.AllK
import Wide.FinOn
import HandS.ForMost
import HandS.Set
import HandS.Strs
import HandS.SetKeys
import HandS.Flow
import HandS.Wide
import HandS.Small
import HandS.Exc
import HandS.ExcOwn
import HandS.RaiseMore
import PyProof.ReprRoads
import HandS.Conv
import HandS.DictComp
import HandS.Walk
import HandS.IsInst
import HandS.ListItems
import HandS.Text
import HandS.ExcInit
import HandS.ExcIs
import HandS.ExcField
import HandS.WordsExc
import HandS.TryOnly
import HandS.Star
import HandS.Property
import PyProof.DictCopy
import PyProof.RowDictHeap
import PyProof.NeKinds
import KE.KEqDict
import PyProof.StrBlock2
import HandS.Codes
import PyProof.Rows.StrSigns2
import HandS.Lambda
import KE.KExcIs
import PyProof.Rows.CountFlat
import HandS.EndTab
import PySem.Challenge.RW_blockorder_k29_names_or_not
set_option Elab.async false
set_option linter.all false
set_option maxRecDepth 100000
set_option maxHeartbeats 4000000
/-! sets of texts whose members can be walked: set(texts), add, in, len, sorted -/
namespace Bo
open PySem PySem.Spec PyProof.Rows L2
/-- the text that a set's place holds -/
def txtOf (z : Int × Value) : Str := match z.2 with | .str x _ => x | _ => Str.empty
def TxtAt (w : World) (z : Int × Value) : Prop := ∃ (x : Str) (k : Tok), z.2 = Value.str x k ∧ z.1 = hashStr w x
/-- at a stands the set of the texts xs -/
def SetTx (w : World) (a : Addr) (xs : List Str) (h : Heap) : Prop :=
  ∃ (ob : Obj) (zs : Array (Int × Value)) (gen : Nat) (tb : SetTable), (h.get? a = some ob ∧ ob.ExactSet ∧ ob.data = .set zs gen tb) ∧ (∀ z ∈ zs.toList, TxtAt w z) ∧ (zs.toList.map txtOf).Perm xs ∧ xs.Nodup ∧
    (zs.size < scanBound ∧ tb.fits zs.size = true) ∧ Ris tb.place.toList ∧ (w.params.followText "set-order" = true ∨ tb.led = true)
section
variable {P : Program} {w : World} {A : Around} {E : Value → Shared → Prop} {s : Shared} {a : Addr} {xs : List Str}
theorem txt_elems {zs : List (Int × Value)} (g : ∀ z ∈ zs, TxtAt w z) : ElemsOf (PySem.strKind P w) zs := fun z hz => by
  obtain ⟨x, k, h1, h2⟩ := g z hz
  refine ⟨⟨x, ?_, h2⟩, ?_⟩
  · rw [h1]; exact strKind_is P w x k
  · rw [h1]; rfl
theorem txt_is {z : Int × Value} (g : TxtAt w z) (x : Str) : (PySem.strKind P w).is x z.2 = true ↔ txtOf z = x := by
  obtain ⟨y, k, h1, _⟩ := g
  unfold txtOf
  rw [h1]
  constructor
  · intro h
    obtain ⟨k', h'⟩ := Value.isStrOf_shape (x := x) (v := Value.str y k) h
    injection h' with h1 _
  · rintro rfl
    exact strKind_is P w _ _
theorem txt_mem {zs : List (Int × Value)} (g : ∀ z ∈ zs, TxtAt w z) (x : Str) : x ∈ zs.map txtOf ↔ ∃ z ∈ zs, (PySem.strKind P w).is x z.2 = true := by
  rw [List.mem_map]
  exact ⟨fun ⟨z, hz, q⟩ => ⟨z, hz, (txt_is (g z hz) x).2 q⟩, fun ⟨z, hz, q⟩ => ⟨z, hz, (txt_is (g z hz) x).1 q⟩⟩
theorem SetTx.size {h : Heap} {ob : Obj} {zs : Array (Int × Value)} (p : (zs.toList.map txtOf).Perm xs) : zs.size = xs.length := by
  rw [← p.length_eq, List.length_map, Array.length_toList]
theorem SetTx.setOf {h : Heap} (R : SetTx w a xs h) : h.SetOf (PySem.strKind P w) a (fun x => decide (x ∈ xs)) xs.length := by
  obtain ⟨ob, zs, gen, tb, ⟨e1, e2, e3⟩, g, p, nd, ⟨b1, b2⟩, _, _⟩ := R
  refine ⟨ob, zs, gen, tb, e1, e2, e3, txt_elems g, fun x => ?_, b1, b2, SetTx.size (h := h) (ob := ob) p⟩
  rw [decide_eq_true_eq, ← p.mem_iff]
  exact txt_mem g x
/-- behind the table's turn -/
theorem txt_store {g : Bool → Sem Unit} (hg : ∀ (b : Bool) (s1 : Shared) (Q' : Unit → Shared → Prop), Q' () s1 → wpAny (model P w) A (g b) Q' E s1)
    {ob : Obj} {zs zs1 : Array (Int × Value)} {gen : Nat} {tb tb1 : SetTable} (e1 : s.heap.get? a = some ob) (e2 : ob.ExactSet) (e3 : ob.data = .set zs gen tb)
    (g1 : ∀ z ∈ zs1.toList, TxtAt w z) (p1 : (zs1.toList.map txtOf).Perm xs) (nd : xs.Nodup) (b1 : zs1.size < scanBound) (f1 : tb1.fits zs1.size = true) (r1 : Ris tb1.place.toList) (l1 : w.params.followText "set-order" = true ∨ tb1.led = true)
    {wd : Bool} {R : Option Bool → Shared → Prop} (hR : ∀ h', Heap.SameBut a s.heap h' → SetTx w a xs h' → R (some true) { s with heap := h' }) :
    wpAny (model P w) A (do
        storeSet a zs1 tb1
        if (!wd && tb1.tooFull) = true then do
            g (relayAll tb1 zs1 (SetTable.grown zs1.size)).2.2
            storeSet a (relayAll tb1 zs1 (SetTable.grown zs1.size)).1 (relayAll tb1 zs1 (SetTable.grown zs1.size)).2.1
            pure (some true)
          else pure (some true)) R E s := by
  have at1 := L2.store_at (es' := zs1) (t' := tb1) e1 e3
  have same1 := Heap.SameBut.update s.heap a (Obj.putSet zs1 tb1)
  refine wpAny_bind (wpAny_storeSet_of e1 e3 ?_ (fits_of_scanBound b1))
  split
  · have q1 := relayAll_perm tb1 zs1 (SetTable.grown zs1.size)
    have q2 := relayAll_fits tb1 zs1 (SetTable.grown zs1.size)
    have q3 := L2.relayAll_ris tb1 zs1 (SetTable.grown zs1.size)
    have q4 := L2.relayAll_led tb1 zs1 (SetTable.grown zs1.size)
    generalize relayAll tb1 zs1 (SetTable.grown zs1.size) = T at q1 q2 q3 q4 ⊢
    obtain ⟨zs2, tb2, gave⟩ := T
    dsimp only at q1 q2 q3 q4 ⊢
    have n2 : zs2.size = zs1.size := by rw [← Array.length_toList, q1.length_eq, Array.length_toList]
    have b2 : zs2.size < scanBound := by rw [n2]; exact b1
    refine wpAny_bind (hg _ _ _ (wpAny_bind (wpAny_storeSet_of at1 rfl (wpAny_pure (hR _ (same1.trans (Heap.SameBut.update _ a _)) ?_)) (fits_of_scanBound b2))))
    refine ⟨_, zs2, _, tb2, ⟨L2.store_at (es' := zs2) (t' := tb2) at1 rfl, e2, rfl⟩, fun z hz => g1 z (q1.mem_iff.mp hz), (q1.map txtOf).trans p1, nd, ⟨b2, q2⟩, q3, ?_⟩
    rw [q4]
    exact l1
  · exact wpAny_pure (hR _ same1 ⟨_, zs1, _, tb1, ⟨at1, e2, rfl⟩, g1, p1, nd, ⟨b1, f1⟩, r1, l1⟩)
/-- what a member's adding makes of the texts -/
def addTx (xs : List Str) (x : Str) : List Str := if x ∈ xs then xs else x :: xs
theorem addTx_nd {xs : List Str} {x : Str} (h : xs.Nodup) : (addTx xs x).Nodup := by
  unfold addTx
  split
  · exact h
  · rename_i n
    exact List.nodup_cons.mpr ⟨n, h⟩
theorem addTx_mem {xs : List Str} {x y : Str} : y ∈ addTx xs x ↔ y = x ∨ y ∈ xs := by
  unfold addTx
  split
  · rename_i h
    exact ⟨.inr, fun z => z.elim (fun e => e ▸ h) id⟩
  · exact List.mem_cons
theorem addTx_len {xs : List Str} {x : Str} : (addTx xs x).length ≤ xs.length + 1 := by
  unfold addTx
  split
  · omega
  · simp
theorem txt_addHashed {x : Str} {k : Tok} {Q : Bool → Shared → Prop} (R : SetTx w a xs s.heap) (room : xs.length + 1 < scanBound)
    (hQ : ∀ (b : Bool) (h' : Heap), Heap.SameBut a s.heap h' → SetTx w a (addTx xs x) h' → Q b { s with heap := h' }) :
    wpAny (model P w) A (setAddHashed a (.str x k) ((PySem.strKind P w).hash x)) Q E s := by
  obtain ⟨ob, zs, gen, tb, ⟨e1, e2, e3⟩, g, p, nd, ⟨b1, f1⟩, r1, l1⟩ := R
  have ky : (PySem.strKind P w).is x (.str x k) = true := strKind_is P w x k
  have sc : (Value.str x k).scannable = true := rfl
  have el : ElemsOf (PySem.strKind P w) zs.toList := txt_elems g
  have nz : zs.size = xs.length := SetTx.size (h := s.heap) (ob := ob) p
  unfold setAddHashed setAddHashedIn
  refine wpAny_holding (wpAny_bind (wpAny_setState_of e1 e3 f1 ?_))
  dsimp only
  rw [byScan_of sc b1 el]
  simp only [↓reduceIte]
  unfold setAddByScan
  refine wpAny_bind (wpAny_bind (wpAny_rule (wpAny_bind (wpAny_setScan_of ky e1 e3 f1 el ?_))))
  cases hf : List.findIdx? (fun e => (PySem.strKind P w).is x e.2) zs.toList with
  | some j =>
    dsimp only
    obtain ⟨hj, pj, _⟩ := List.findIdx?_eq_some_iff_getElem.mp hf
    have hin : x ∈ xs := p.mem_iff.mp ((txt_mem (P := P) (w := w) g x).2 ⟨zs.toList[j], List.getElem_mem hj, pj⟩)
    refine wpAny_pure (wpAny_pure (hQ _ s.heap (Heap.SameBut.refl a s.heap) ⟨ob, zs, gen, tb, ⟨e1, e2, e3⟩, g, ?_, addTx_nd nd, ⟨b1, f1⟩, r1, l1⟩))
    unfold addTx
    rw [if_pos hin]
    exact p
  | none =>
    dsimp only
    have hno : x ∉ xs := fun z => by
      obtain ⟨e, he, q⟩ := (txt_mem (P := P) (w := w) g x).1 (p.mem_iff.mpr z)
      rw [List.findIdx?_eq_none_iff.mp hf e he] at q
      cases q
    have gw : ∀ (b : Bool) {s1 : Shared} {Q' : Unit → Shared → Prop}, Q' () s1 → wpAny (model P w) A (match b with | true => rule "set.scan.the-table-gave-way" | false => pure ()) Q' E s1 :=
      fun b _ _ q => by
        cases b
        · exact wpAny_pure q
        · exact wpAny_rule q
    have q1 := layNew_perm tb zs ((PySem.strKind P w).hash x) (.str x k)
    have q2 := layNew_fits tb zs ((PySem.strKind P w).hash x) (.str x k)
    have q3 := L2.layNew_ris tb zs ((PySem.strKind P w).hash x) (.str x k) r1
    have q4 := L2.layNew_led tb zs ((PySem.strKind P w).hash x) (.str x k)
    generalize layNew tb zs ((PySem.strKind P w).hash x) (.str x k) = T at q1 q2 q3 q4 ⊢
    obtain ⟨zs1, tb1, wd, gave⟩ := T
    dsimp only at q1 q2 q3 q4 ⊢
    rw [Array.toList_push] at q1
    have pc : zs1.toList.Perm (((PySem.strKind P w).hash x, Value.str x k) :: zs.toList) := q1.trans (List.perm_append_singleton _ _)
    have px : (zs1.toList.map txtOf).Perm (addTx xs x) := by
      unfold addTx
      rw [if_neg hno]
      exact (pc.map txtOf).trans (p.cons x)
    have g1 : ∀ z ∈ zs1.toList, TxtAt w z := fun z hz => by
      rcases List.mem_cons.mp (pc.mem_iff.mp hz) with e | hz
      · rw [e]
        exact ⟨x, k, rfl, rfl⟩
      · exact g z hz
    have n1 : zs1.size = xs.length + 1 := by rw [← Array.length_toList, pc.length_eq, List.length_cons, Array.length_toList, nz]
    have bb : zs1.size < scanBound := by rw [n1]; exact room
    have ll : w.params.followText "set-order" = true ∨ tb1.led = true := l1.imp id fun z => by rw [q4]; exact z
    have fin : ∀ h', Heap.SameBut a s.heap h' → SetTx w a (addTx xs x) h' → Q true { s with heap := h' } := fun h' m r => hQ _ h' m r
    refine wpAny_bind (gw _ ?_)
    split
    · refine wpAny_bind ?_
      rw [hashByValue_scannable 8 sc]
      refine wpAny_pure (txt_store ?_ e1 e2 e3 g1 px (addTx_nd nd) bb ?_ ?_ ?_ ?_)
      · intro b s1 Q' q
        exact gw b q
      · first | (split <;> first | exact q2 | exact SetTable.fits_plain_off q2) | exact q2
      · first | (split <;> exact q3) | exact q3
      · first | (split <;> exact ll) | exact ll
      · intro h' m r
        dsimp only
        exact wpAny_pure (fin h' m r)
    · refine wpAny_bind (wpAny_pure ?_)
      simp only [↓reduceIte]
      refine txt_store ?_ e1 e2 e3 g1 px (addTx_nd nd) bb q2 q3 ll ?_
      · intro b s1 Q' q
        exact gw b q
      · intro h' m r
        dsimp only
        exact wpAny_pure (fin h' m r)
end
end Bo

set_option Elab.async false
set_option linter.all false
set_option maxRecDepth 100000
set_option maxHeartbeats 8000000
namespace Bo
open PySem PySem.Spec PyProof.Rows L2
/-- the texts of a list, each once -/
def onceTx : List Str → List Str := fun ys => ys.foldl addTx []
theorem onceTx_go_nd : ∀ (ys acc : List Str), acc.Nodup → (ys.foldl addTx acc).Nodup
  | [], _, h => h
  | y :: r, acc, h => onceTx_go_nd r (addTx acc y) (addTx_nd h)
theorem onceTx_nd (ys : List Str) : (onceTx ys).Nodup := onceTx_go_nd ys [] List.nodup_nil
theorem onceTx_go_mem {y : Str} : ∀ (ys acc : List Str), y ∈ ys.foldl addTx acc ↔ y ∈ ys ∨ y ∈ acc
  | [], acc => by simp
  | z :: r, acc => by
    rw [List.foldl_cons, onceTx_go_mem r (addTx acc z), addTx_mem, List.mem_cons]
    constructor
    · rintro (h | h | h)
      · exact .inl (.inr h)
      · exact .inl (.inl h)
      · exact .inr h
    · rintro ((h | h) | h)
      · exact .inr (.inl h)
      · exact .inl h
      · exact .inr (.inr h)
theorem onceTx_mem {ys : List Str} {y : Str} : y ∈ onceTx ys ↔ y ∈ ys := by
  unfold onceTx
  rw [onceTx_go_mem]
  simp
theorem onceTx_take {ys : List Str} {i : Nat} {y : Str} (h : ys[i]? = some y) : onceTx (ys.take (i + 1)) = addTx (onceTx (ys.take i)) y := by
  have e : ys.take (i + 1) = ys.take i ++ [y] := by
    rw [List.take_add_one, h]
    rfl
  unfold onceTx
  rw [e, List.foldl_append]
  rfl
theorem addTx_new {xs : List Str} {x : Str} (h : x ∉ xs) : addTx xs x = x :: xs := if_neg h
/-- no text twice: the same texts, turned round -/
theorem onceTx_perm : ∀ {ys : List Str}, ys.Nodup → (onceTx ys).Perm ys := by
  intro ys
  have key : ∀ (ys acc : List Str), (ys ++ acc).Nodup → (ys.foldl addTx acc).Perm (ys ++ acc) := by
    intro ys
    induction ys with
    | nil => intro acc _; exact List.Perm.refl _
    | cons y r ih =>
      intro acc h
      obtain ⟨h1, h2⟩ := List.nodup_cons.mp (show (y :: (r ++ acc)).Nodup from h)
      have hn : y ∉ acc := fun z => h1 (List.mem_append.mpr (.inr z))
      rw [List.foldl_cons, addTx_new hn]
      have h3 : (r ++ y :: acc).Nodup := (List.perm_middle.nodup_iff).mpr h
      exact (ih (y :: acc) h3).trans List.perm_middle
  intro h
  have q := key ys [] (by rw [List.append_nil]; exact h)
  rw [List.append_nil] at q
  exact q
theorem len_onceTx (ys : List Str) : (onceTx ys).length ≤ ys.length := by
  have key : ∀ (ys acc : List Str), (ys.foldl addTx acc).length ≤ ys.length + acc.length := by
    intro ys
    induction ys with
    | nil => intro acc; simp
    | cons y r ih =>
      intro acc
      have h1 := ih (addTx acc y)
      have h2 := addTx_len (xs := acc) (x := y)
      rw [List.foldl_cons, List.length_cons]
      omega
  have h := key ys []
  rw [List.length_nil, Nat.add_zero] at h
  exact h
section
variable {prog : Program} {w : World} {A : Around} {R : Result → Shared → Prop} {I : Addr} {fp wr : List Addr} {G : Array GenState → Array GenState → Prop} {n : Nat} {Pv : Nat → Value → Prop} {St : Nat → Shared → Prop}
theorem SetTx.at {xs : List Str} {a : Addr} {h h' : Heap} (R : SetTx w a xs h) (k : ∀ o, h.get? a = some o → h'.get? a = some o) : SetTx w a xs h' := by
  obtain ⟨ob, zs, gen, tb, ⟨e1, e2⟩, r⟩ := R
  exact ⟨ob, zs, gen, tb, ⟨k ob e1, e2⟩, r⟩
/-- the loop of set(..): one member a turn -/
theorem set_turns (W : WalksS prog w A.in1 I fp wr G n Pv St) (C : Addr) (hC : C ∉ fp) (ys : List Str) (hn : ys.length = n) (hb : n + 1 < scanBound) (hv : ∀ i v, Pv i v → ∃ t, v = .str (ys.getD i Str.empty) t) :
    ∀ (m i : Nat) (s : Shared), n - i = m → i ≤ n → St i s → SetTx w C (onceTx (ys.take i)) s.heap → (∀ s', Moved (C :: wr) G s s' → SetTx w C (onceTx ys) s'.heap → R (.ok (.ret .none)) s') →
      codeAny (model prog w) A (.builtin "set.update.loop" ⟨[.ref C, .ref I], []⟩) R s := by
  have hCw : C ∉ wr := fun z => hC (W.sub _ z)
  have up : ∀ b ∈ wr, b ∈ C :: wr := fun b z => List.mem_cons_of_mem _ z
  intro m
  induction m with
  | zero =>
    intro i s hm hi hst hS hR
    obtain rfl : i = n := by omega
    refine codeAny_builtin PyProof.Rows.F.entry_set_update_loop ?_
    rw [Around.under_plainId PyProof.Rows.F.plain_set_update_loop _]
    show wpAny _ A.in1 (pyNext (.ref I) >>= _) _ _ s
    refine wpAny_bind (W.done s _ _ hst fun s' mv => wpAny_pure (hR s' (mv.mono up) ?_))
    have e : ys.take i = ys := by rw [← hn, List.take_length]
    rw [e] at hS
    exact hS.at fun o ho => mv.heap C o hCw ho
  | succ m ih =>
    intro i s hm hi hst hS hR
    have hlt : i < n := by omega
    refine codeAny_builtin PyProof.Rows.F.entry_set_update_loop ?_
    rw [Around.under_plainId PyProof.Rows.F.plain_set_update_loop _]
    show wpAny _ A.in1 (pyNext (.ref I) >>= _) _ _ s
    refine wpAny_bind (W.item i s _ _ hlt hst fun v s' hP hst' mv => ?_)
    obtain ⟨t, rfl⟩ := hv i v hP
    have hy : ys[i]? = some (ys.getD i Str.empty) := by
      have hl : i < ys.length := by omega
      rw [List.getD_eq_getElem?_getD, List.getElem?_eq_getElem hl]
      rfl
    have hS' : SetTx w C (onceTx (ys.take i)) s'.heap := hS.at fun o ho => mv.heap C o hCw ho
    show wpAny _ _ (holding [Value.str (ys.getD i Str.empty) t] (setAdd C (.str (ys.getD i Str.empty) t)) >>= _) _ _ s'
    refine wpAny_bind (wpAny_holding ?_)
    unfold setAdd
    refine wpAny_holding (wpAny_bind ((PySem.strKind prog w).pyHash (k := ys.getD i Str.empty) (strKind_is _ _ _ _) ?_))
    have few : (onceTx (ys.take i)).length + 1 < scanBound := by
      have h1 := len_onceTx (ys.take i)
      rw [List.length_take] at h1
      omega
    refine txt_addHashed (P := prog) (s := { s' with toks := s'.toks + 1 }) hS' few fun _ h' sb hS2 => ?_
    rw [← onceTx_take hy] at hS2
    refine wpAny_pure ⟨plainId_quiet PyProof.Rows.F.plain_set_update_loop _, ih (i + 1) _ (by omega) hlt (W.frame _ s' _ _ hst' (Nat.le_succ _) fun b hb o e => ?_) hS2 fun s2 mv2 hS3 => ?_⟩
    · rw [sb.2 b (fun z : b = C => hC (by rw [← z]; exact hb))]
      exact e
    · refine hR s2 (Moved.trans W.gtrans ((mv.mono up).then_heap (Nat.le_succ _) fun b o hb e => ?_) mv2) hS3
      rw [sb.2 b (fun z : b = C => hb (by rw [z]; exact List.mem_cons_self))]
      exact e
end

def freshSet (w : World) : Obj := { cls := .type "set", dict := none, data := .set #[] 0 (.fresh 0 0 (!w.params.followText "set-order")) }
theorem freshSet_tx {h : Heap} (w : World) : SetTx w h.objs.size (onceTx (([] : List Str).take 0)) (h.push (freshSet w)) := by
  refine ⟨_, #[], 0, _, ⟨Heap.get?_push_size _ rfl, ⟨rfl, rfl, rfl⟩, rfl⟩, fun z hz => by simp at hz, List.Perm.refl _, List.nodup_nil, ⟨by decide, by rfl⟩, List.Pairwise.nil, ?_⟩
  show _ ∨ (!w.params.followText "set-order") = true
  cases w.params.followText "set-order"
  · exact .inr rfl
  · exact .inl rfl
section
variable {P : Program} {w : World} {A : Around} {E : Value → Shared → Prop} {s : Shared}
theorem code_setNew (a : Value) {Q : Value → Shared → Prop} (h : Q (.ref s.heap.objs.size) { s with heap := s.heap.push (freshSet w) }) :
    codeAny (model P w) A (.call (.builtin "set.__new__") ⟨[.type "set", a], []⟩) (wants Q E) s := by
  refine codeAny_of_tree ?_
  show wpAny _ A.in1 (do checkBuiltinCall "set.__new__" ⟨[.type "set", a], []⟩; again (.builtin "set.__new__" ⟨[.type "set", a], []⟩)) _ _ s
  refine wpAny_bind (wpAny_of_eq (PySem.F.newCall_set_1 a) (wpAny_pure ⟨plainId_quiet PySem.F.plain_set_new _, codeAny_builtin PySem.F.entry_set_new ?_⟩))
  rw [Around.under_plainId PySem.F.plain_set_new _]
  unfold Builtin.«set.__new__» Builtin.Frozenset.newClass
  have self := sub_set_self
  obtain ⟨hp, g, d, tk, os⟩ := s
  dsimp only
  wp_walk
  refine wpAny_askSetting (wpAny_pure ?_)
  dsimp only
  simp only [newObj]
  exact wpAny_bind (wpAny_alloc (wpAny_pure (wpAny_pure h)))
end

section
variable {prog : Program} {w : World} {A : Around} {E : Value → Shared → Prop} {s : Shared}
/-- set(ys), ys a tuple of texts -/
theorem set_of_tuple {l : Addr} {its : Array Value} {ys : List Str} {Q : Value → Shared → Prop} (hh : A.handled = none) (hl : s.heap.IsTuple l its) (hi : StrsAre its.toList ys) (hb : ys.length + 1 < scanBound)
    (hQ : ∀ (h' : Heap) (tk : Nat), SetTx w s.heap.objs.size (onceTx ys) h' → (∀ b o, b < s.heap.objs.size → s.heap.get? b = some o → h'.get? b = some o) → Q (.ref s.heap.objs.size) { s with heap := h', toks := tk }) :
    wpAny (model prog w) A (call (.type "set") [.ref l]) Q E s := by
  obtain ⟨c, tl, mro⟩ := PySem.F.called_set.mro
  have f1 := PySem.F.called_set.made
  have f2 := PySem.F.called_set.sub
  refine wpAny_call (codeAny_of_tree (?_ : wpAny _ _ (callAny (.type "set") _) _ _ _))
  refine wpAny_pure ⟨Code.quiet_builtin _ (by decide +kernel), codeAny_builtin PySem.F.entry_type_call ?_⟩
  rw [Around.under_plain (weight_type_call_type "set" [.ref l] []) rfl]
  have f3 := PySem.F.called_set.notType
  have f4 := PySem.F.called_set.canCreate
  have f5 := PySem.F.typeCall_set_1 (.ref l)
  repeat (any_goals (first | assumption | wp_step))
  refine codeAny_mono (code_setNew (.ref l) (E := E) (Q := fun v s1 => v = .ref s.heap.objs.size ∧ s1 = { s with heap := s.heap.push (freshSet w) }) ⟨rfl, rfl⟩) fun r s1 hr => ?_
  match r, hr with
  | .error e, hr => exact hr
  | .ok (.ret v), hr =>
    obtain ⟨rfl, rfl⟩ := hr
    have at0 : (s.heap.push (freshSet w)).get? s.heap.objs.size = some (freshSet w) := Heap.get?_push_size _ rfl
    have ty0 : Shared.TypeIs { s with heap := s.heap.push (freshSet w) } (.ref s.heap.objs.size) "set" := ⟨_, at0, rfl⟩
    have f6 := PySem.F.called_set.init.lookup
    have f7 := PySem.F.called_set.init.bind (.ref s.heap.objs.size)
    repeat (any_goals (first | assumption | wp_step))
    refine codeAny_mono (codeAny_call_builtin (R := wants (fun r s2 => r = .none ∧ ∃ h' tk, s2 = { s with heap := h', toks := tk } ∧ SetTx w s.heap.objs.size (onceTx ys) h' ∧
        (∀ b o, b < s.heap.objs.size → s.heap.get? b = some o → h'.get? b = some o)) E) PySem.F.called_set.init.plain PySem.F.entry_set_init (check_set_init_1 ty0 ?_)) fun r2 s2 hr2 => ?_
    · obtain ⟨⟨lc, ld, ldat, lsl⟩, hol, hcl, nl, hdl⟩ := hl
      simp only at hcl hdl
      subst hcl
      subst hdl
      have at1 : (s.heap.push (freshSet w)).get? l = some { cls := .type "tuple", dict := ld, data := .seq its nl, slots := lsl } := Heap.get?_push_of_some _ hol
      have g1 := PySem.F.sub_tuple_set
      have g2 := PySem.F.sub_tuple_frozenset
      have g3 : (Value.type "tuple" == Value.type "dict") = false := by decide
      have is1 : (s.heap.push (freshSet w)).IsTuple l its := ⟨_, at1, rfl, nl, rfl⟩
      unfold Builtin.«set.__init__» noKeywords Builtin.Frozenset.updateFrom
      generalize hPI : pyIter = PI
      wp_walk
      subst hPI
      refine wpAny_pyIter_tuple is1 (wpAny_bind (wpAny_runValue ?_))
      have lt1 : l < s.heap.objs.size := Heap.lt_size hol
      have hh3 : A.in1.in1.in1.handled = none := by simp [hh]
      have ne1 : l ≠ (s.heap.push (freshSet w)).objs.size := by
        rw [Heap.size_push]
        exact Nat.ne_of_lt (Nat.lt_succ_of_lt lt1)
      have out1 : s.heap.objs.size ∉ [(s.heap.push (freshSet w)).objs.size, l] := by
        rw [Heap.size_push]
        intro z
        rcases List.mem_cons.mp z with z | z
        · exact absurd z (Nat.ne_of_lt (Nat.lt_succ_self _))
        · exact absurd (List.mem_singleton.mp z) (Nat.ne_of_gt lt1)
      have n1 : ys.length = its.size := by rw [← StrsAre.len_eq hi, Array.length_toList]
      have val1 : ∀ (i : Nat) (v : Value), its[i]? = some v → ∃ t, v = .str (ys.getD i Str.empty) t := fun i v hv => SS.strs_at hi i v (by rw [Array.getElem?_toList]; exact hv)
      refine set_turns ((Walks.tuple hh3 _ l ne1 its).toS) s.heap.objs.size out1 ys n1 (by rw [← n1]; exact hb) val1 (its.size - 0) 0 _ rfl (Nat.zero_le _) ⟨⟨_, Heap.get?_push_size _ rfl, rfl, rfl⟩, is1.push _⟩ ?h0 ?hR
      case h0 => exact (freshSet_tx w).at fun o ho => Heap.get?_push_of_some _ ho
      case hR =>
        rintro ⟨h', g', d', tk', os'⟩ mv hS'
        obtain rfl : g' = s.gens := mv.gens
        obtain rfl : d' = s.drawn := mv.drawn
        obtain rfl : os' = s.os := mv.os
        refine wpAny_pure (?_ : wpAny _ _ (ret Value.none) _ _ _)
        refine wpAny_pure ⟨rfl, h', tk', rfl, hS', fun b o hb e => ?_⟩
        refine mv.heap b o (fun z => ?_) (Heap.get?_push_of_some _ (Heap.get?_push_of_some _ e))
        rcases List.mem_cons.mp z with z | z
        · exact absurd z (Nat.ne_of_lt hb)
        · have z := List.mem_singleton.mp z
          rw [Heap.size_push] at z
          exact absurd z (Nat.ne_of_lt (Nat.lt_succ_of_lt hb))
    · match r2, hr2 with
      | .error e, hr2 => exact hr2
      | .ok (.ret r), hr2 =>
        obtain ⟨e1, h', tk, e2, hS', hk'⟩ := hr2
        subst e1 e2
        repeat (any_goals (first | assumption | wp_step))
        exact hQ _ _ hS' hk'
end
end Bo

set_option Elab.async false
set_option linter.all false
set_option maxRecDepth 100000
set_option maxHeartbeats 4000000
namespace Bo
open PySem PySem.Spec PyProof.Rows L2
/-- the set of the texts xs, as a thing of the abstract heap -/
def TxO (w : World) (a : Addr) (xs : List Str) : HO := .ext (SetTx w a xs)
theorem txO_new {P : Program} {w : World} {H : Hp} {h : Heap} {a : Addr} {xs : List Str} (R : SetTx w a xs h) : ObjOk P w H h a (TxO w a xs) := by
  refine ⟨R, ?_, fun _ _ q k => q.at k⟩
  obtain ⟨ob, _, _, _, ⟨e, _⟩, _⟩ := R
  exact ⟨ob, e⟩
section
variable {X : Cx} {pins : List (Addr × Obj)} {σ : L2.St} {H : Hp} {s : Shared} {a : Addr} {xs : List Str}
theorem txO_get (I : L2.Inv X pins σ H s) (ha : H a = some (TxO X.w a xs)) : SetTx X.w a xs s.heap := (I.hok a _ ha).1
/-- set(ys), ys a tuple of texts -/
def rSetTx (K : PySem.W.Frag) (w : World) : List V → Hp → VK → Prop := fun vs H Q => ∃ (l : Addr) (ys : List Str), vs = [.ref l] ∧ SqT K H l (ys.map V.str) ∧ ys.length + 1 < scanBound ∧ ∀ a, H a = none → Q (.ref a) (upd H a (TxO w a (onceTx ys)))
theorem cr_setTx (hc : X.calm = true) : CallR X (.type "set") (rSetTx X.K X.w) := by
  intro pins s σ H vs us Q I r h
  obtain ⟨l, ys, rfl, hq, hb, q⟩ := h
  rw [Vals.ref1 r]
  obtain ⟨its, rv, hT, _⟩ := I.tuple hq
  refine set_of_tuple (I.ok.hd hc) hT (ys := ys) (by simpa using strsAre_of rv) hb fun h' tk hS k => ?_
  have n0 : H s.heap.objs.size = none := I.hok.fresh (Nat.le_refl _)
  exact ⟨.ref s.heap.objs.size, _, I.laid (t' := tk) (a := s.heap.objs.size) (o := TxO X.w s.heap.objs.size (onceTx ys)) (h' := h') (fun b o e => k b o (Heap.lt_size e) e) (Nat.le_refl _) (txO_new hS), rfl, q _ n0⟩
/-- x in ys, x not in ys -/
def rInTx (w : World) (neg : Bool) : V → V → Hp → VK → Prop := fun x y H Q => ∃ (z : Str) (a : Addr) (xs : List Str), x = .str z ∧ y = .ref a ∧ H a = some (TxO w a xs) ∧ Q (.bl (if neg then !decide (z ∈ xs) else decide (z ∈ xs))) H
theorem op_inTx : OpR X (compareOp .In) (rInTx X.w false) := by
  intro pins s σ H x y u v Q I rx ry h
  obtain ⟨z, a, xs, rfl, rfl, ha, q⟩ := h
  obtain ⟨k, rfl⟩ := rx
  cases ry
  exact wpAny_inSet_of (knd := PySem.strKind X.prog X.w) (strKind_is _ _ _ _) rfl (txO_get I ha).setOf ⟨.bl (decide (z ∈ xs)), H, I.tok _, rfl, q⟩
theorem op_ninTx : OpR X (compareOp .NotIn) (rInTx X.w true) := by
  intro pins s σ H x y u v Q I rx ry h
  obtain ⟨z, a, xs, rfl, rfl, ha, q⟩ := h
  obtain ⟨k, rfl⟩ := rx
  cases ry
  exact wpAny_notInSet_of (knd := PySem.strKind X.prog X.w) (strKind_is _ _ _ _) rfl (txO_get I ha).setOf ⟨.bl (!decide (z ∈ xs)), H, I.tok _, rfl, q⟩
/-- len(s) -/
def rLenTx (w : World) : List V → Hp → VK → Prop := fun vs H Q => ∃ (a : Addr) (xs : List Str), vs = [.ref a] ∧ H a = some (TxO w a xs) ∧ Q (.int xs.length) H
theorem call_lenTx : CallR X (.builtin "len") (rLenTx X.w) := by
  intro pins s σ H vs us Q I r h
  obtain ⟨a, xs, rfl, ha, q⟩ := h
  rw [Vals.ref1 r]
  obtain ⟨ob, zs, gen, tb, ⟨e1, e2, e3⟩, g, p, nd, ⟨b1, f1⟩, _⟩ := txO_get I ha
  have n1 : zs.size = xs.length := SetTx.size (h := s.heap) (ob := ob) p
  have b2 : (zs.size : Int) < 2 ^ 63 := by
    have : scanBound = 4096 := rfl
    omega
  refine call_len_set e1 e2 e3 f1 b2 ⟨.int xs.length, H, I.tok _, ⟨s.toks + 1, by rw [n1]⟩, q⟩
/-- sorted(s), fewer than 64 members -/
def rSortTx (w : World) : List V → Hp → VK → Prop := fun vs H Q => ∃ (a : Addr) (xs : List Str), vs = [.ref a] ∧ H a = some (TxO w a xs) ∧ xs.length < 64 ∧
  ∀ (ys : List Str) (p : Addr), ys.Perm xs → sortedS ys = true → H p = none → Q (.ref p) (upd H p (.lst (ys.map V.str)))
theorem txts_are {w : World} : ∀ {vs : List Value}, (∀ v ∈ vs, ∃ x k, v = Value.str x k) → StrsAre vs (vs.map fun v => match v with | .str x _ => x | _ => Str.empty)
  | [], _ => .nil
  | v :: r, h => by
    obtain ⟨x, k, rfl⟩ := h v List.mem_cons_self
    exact .cons x k (txts_are (w := w) fun u hu => h u (List.mem_cons_of_mem _ hu))
theorem cr_sortTx (hc : X.calm = true) : CallR X (.builtin "sorted") (rSortTx X.w) := by
  intro pins s σ H vs us Q I r h
  obtain ⟨a, xs, rfl, ha, few, q⟩ := h
  rw [Vals.ref1 r]
  obtain ⟨ob, zs, gen, tb, ⟨e1, e2, e3⟩, g, p, nd, ⟨b1, f1⟩, r1, l1⟩ := txO_get I ha
  have n1 : zs.size = xs.length := SetTx.size (h := s.heap) (ob := ob) p
  refine Calls.call_function_entry kind_sorted plain_sorted entry_sorted (args_sorted1 _) ?_
  unfold Builtin.«sorted»
  refine wpAny_bind (m := checkCount "sorted" 1 1 _) (wpAny_pure (wpAny_bind (L2.collect_set (A := X.A.in1) (I.ok.hd hc) ⟨ob, e1, e2.1, e3⟩ f1 b1 r1 l1 fun s1 vs k1 z1 g1 o1 pm => ?_)))
  have nv : vs.length = xs.length := by rw [pm.length_eq, List.length_map, Array.length_toList]; exact n1
  have sa : StrsAre vs (vs.map fun v => match v with | .str x _ => x | _ => Str.empty) := txts_are (w := X.w) fun v hv => by
    obtain ⟨z, hz, e⟩ := List.mem_map.mp (pm.mem_iff.mp hv)
    obtain ⟨x, k, h1, _⟩ := g z hz
    exact ⟨x, k, by rw [← e]; exact h1⟩
  have pk : (vs.map fun v => match v with | .str x _ => x | _ => Str.empty).Perm xs := by
    have q1 := pm.map fun v => match v with | .str x _ => x | _ => Str.empty
    rw [List.map_map] at q1
    exact q1.trans p
  refine wpAny_bind (wpAny_newList ?_ (by rw [nv, sizeLine_eq]; omega))
  have at1 : (s1.heap.push (seqObj "list" vs.toArray 0)).get? s1.heap.objs.size = some (seqObj "list" vs.toArray 0) := Heap.get?_push_size _ rfl
  refine wpAny_bind (wpAny_holding (wpAny_call_entry slot_list_sort ⟨_, at1, rfl⟩ entry_list_sort (list_sort_treeK strKind_oneLt at1 sa.keysOf (fun v1 v2 rest e => keyKind_strs (by rw [← e]; exact sa)) (by rw [nv]; exact few) fun st hp hs => ?_) (args_list_sort _)))
  obtain ⟨ys, q1, q2, q3⟩ := sorted_out_str sa hp hs
  obtain ⟨c, hc2⟩ := sortedHeap_at (vs := vs) (out := (arrOf st).map (·.2)) at1
  refine ⟨_, rfl, wpAny_pure ⟨_, rfl, ?_⟩⟩
  have hn : H s1.heap.objs.size = none := I.hok.fresh z1
  have py : ys.Perm xs := q2.trans pk
  have nl : (ys.map V.str).length ≤ sizeLine := by rw [List.length_map, py.length_eq, sizeLine_eq]; omega
  have kp : ∀ b o, s.heap.get? b = some o → (sortedHeap (s1.heap.push (seqObj "list" vs.toArray 0)) s1.heap.objs.size vs ((arrOf st).map (·.2))).get? b = some o := fun b o e => by
    have e' := k1 b o e
    have lt := Heap.lt_size e'
    rw [sortedHeap_old (Nat.ne_of_lt lt) (by rw [size_push']; exact Nat.lt_succ_of_lt lt)]
    exact Heap.get?_push_of_some _ e'
  have J : L2.Inv X pins σ (upd H s1.heap.objs.size (.lst (ys.map V.str))) { s with heap := sortedHeap (s1.heap.push (seqObj "list" vs.toArray 0)) s1.heap.objs.size vs ((arrOf st).map (·.2)), gens := s1.gens, drawn := s1.drawn, toks := s1.toks } :=
    I.call (ch := []) (Un.laid kp z1 hn) (I.hok.laid kp z1 ⟨nl, _, c, vals_of_strs q1, hc2⟩) (by rw [g1]; exact I.bare) (fun _ z => nomatch z)
  have e : ({ s1 with heap := sortedHeap (s1.heap.push (seqObj "list" vs.toArray 0)) s1.heap.objs.size vs ((arrOf st).map (·.2)) } : Shared) = { s with heap := sortedHeap (s1.heap.push (seqObj "list" vs.toArray 0)) s1.heap.objs.size vs ((arrOf st).map (·.2)), gens := s1.gens, drawn := s1.drawn, toks := s1.toks } := by
    cases s1
    cases s
    cases o1
    rfl
  show EP X pins σ Q _ ({ s1 with heap := _ } : Shared)
  rw [e]
  exact ⟨.ref s1.heap.objs.size, _, J, rfl, q ys _ py q3 hn⟩
/-- s.add(x) -/
def tAddTx (w : World) (to : TE) (t : TA) : TE := fun σ H Q => to σ H fun x H1 => (∃ a xs, x = V.ref a ∧ H1 a = some (TxO w a xs)) ∧ t σ H1 fun vs H2 => ∃ (a : Addr) (xs : List Str) (z : Str), x = .ref a ∧ vs = [.str z] ∧ H2 a = some (TxO w a xs) ∧ xs.length + 1 < scanBound ∧ Q .non (upd H2 a (TxO w a (addTx xs z)))
theorem pe_addTx {o e : Expr} {es : List Expr} {to : TE} {t : TA} {apos cpos : Pos} (ho : PE X o to) (ha : PA X (e :: es) t) (hbase : attributeBase o "add" X.env (eval o X.env) = eval o X.env := by rfl)
    (hfew : ((backTo cpos (starEach (e :: es) X.env)).all (fun x => !x.1) && (backToKw cpos (keywordEach [] X.env)).all (fun x => x.1.isSome) && decide ((e :: es).length + ([] : List Keyword).length + (if ([] : List Keyword).isEmpty then 0 else 1) < 30)) = true := by rfl)
    (hline : (apos.endLine == cpos.line) = true := by rfl) (hs : starEach (e :: es) X.env = (false, eval e X.env) :: starEach es X.env := by rfl) (hpl : (backTo cpos (starEach es X.env)).any (·.1) = false := by rfl) :
    PE X (.Call (.Attribute o "add" apos) (e :: es) [] cpos) (tAddTx X.w to t) := by
  refine ⟨fun pins s σ H Q I h => wpAny_Call_method_late hbase hfew hline rfl (thn (ho.run pins s σ H _ I h) fun v s1 ⟨x, H1, I1, r1, ty, q1⟩ => ?_)⟩
  obtain ⟨a, xs, rfl, ha1⟩ := ty
  have st := (txO_get I1 ha1).setOf (P := X.prog)
  cases r1
  refine ⟨"set", "set.add", PySem.F.plainAttrs_set, PySem.F.slot_set_add, PySem.F.type_set_add, st.typeIs, st.noDict, ?_⟩
  have hA := ha.run cpos pins s1 σ H1 _ I1 q1
  rw [hs] at hA ⊢
  refine Calls.callWith_builtin (by show (false || (backTo cpos (starEach es X.env)).any (·.1)) = false; rw [hpl]; rfl) (Calls.evalArgs_plain (thn hA fun us s2 ⟨vs, H2, I2, r2, a', ys, z, ea, ev, ha2, room, q2⟩ => ?_))
  cases ea
  subst ev
  obtain ⟨u, rfl, k, rfl⟩ := vals1 r2
  have R2 := txO_get I2 ha2
  refine wpAny_call_entry PySem.F.slot_set_add (R2.setOf (P := X.prog)).typeIs PySem.F.entry_set_add ?_ (PySem.F.args_set_add_2 _ _)
  unfold Builtin.«set.add» Builtin.Frozenset.oneOther
  simp only [List.isEmpty_nil, bind_assoc]
  unfold Builtin.Frozenset.addrOf setAdd
  refine wpAny_bind (wpAny_pure ?_)
  try dsimp only
  refine wpAny_bind (wpAny_holding (wpAny_bind ((PySem.strKind X.prog X.w).pyHash (strKind_is X.prog X.w z k) (txt_addHashed (P := X.prog) (s := { s2 with toks := s2.toks + 1 }) R2 room fun b h' sb R3 => ?_))))
  refine wpAny_pure ⟨_, rfl, ?_⟩
  have he : ∃ u, h'.get? a = some u := by
    obtain ⟨ob, _, _, _, ⟨e, _⟩, _⟩ := R3
    exact ⟨ob, e⟩
  exact ⟨.non, _, I2.write (e := a) (x := a) (o := TxO X.w a (addTx ys z)) (t' := s2.toks + 1) (by rw [ha2]; trivial) (.inl rfl) (fun b u hb hu => (sb.2 b hb).trans hu) he (txO_new R3), rfl, q2⟩
end
end Bo

set_option Elab.async false
set_option linter.all false
set_option maxRecDepth 100000
set_option maxHeartbeats 4000000
namespace Bo
open PySem L2
def top (i : Nat) : Stmt := PySem.Challenge.pw_blockorder_k29_names_or_not.main.body.getD i (.Pass ⟨0, 0, 0, 0⟩)
abbrev sBegin : Stmt := top 65
abbrev sDraw : Stmt := top 66
abbrev sPick : Stmt := top 67

/-! ### the tape -/
abbrev kC : Key := Sum.inr (Str.ofString "cells")
abbrev kP : Key := Sum.inr (Str.ofString "place")
abbrev kL : Key := Sum.inr (Str.ofString "left")
theorem ne1 : ¬ (kC = kP) := by decide +kernel
theorem ne2 : ¬ (kC = kL) := by decide +kernel
theorem ne3 : ¬ (kP = kL) := by decide +kernel
theorem same_new {H : Hp} {p : Addr} {o : HO} (h : H p = none) : Same H (upd H p o) := fun b u e => by rw [upd_ne (ne_of_none e h)]; exact e
def tapeK (c : Addr) (p l : Int) : List (Key × V) := [(kC, V.ref c), (kP, V.int p), (kL, V.int l)]
theorem tk_cells (c : Addr) (p l : Int) : valV (tapeK c p l) kC = some (V.ref c) := by
  unfold tapeK; rw [valV_pos rfl]
theorem tk_place (c : Addr) (p l : Int) : valV (tapeK c p l) kP = some (V.int p) := by
  unfold tapeK; rw [valV_neg ne1, valV_pos rfl]
theorem tk_left (c : Addr) (p l : Int) : valV (tapeK c p l) kL = some (V.int l) := by
  unfold tapeK; rw [valV_neg ne2, valV_neg ne3, valV_pos rfl]
theorem tp_place (c : Addr) (p l q : Int) : putK (tapeK c p l) kP (V.int q) = tapeK c q l := by
  unfold tapeK putK
  have e : ([(kC, V.ref c), (kP, V.int p), (kL, V.int l)].any fun kv => decide (kv.1 = kP)) = true := by
    rw [List.any_cons, List.any_cons, decide_eq_true (rfl : kP = kP), Bool.true_or, Bool.or_true]
  rw [if_pos e]
  show [if kC = kP then _ else _, if kP = kP then _ else _, if kL = kP then _ else _] = _
  rw [if_neg ne1, if_pos rfl, if_neg (Ne.symm ne3)]
theorem tp_left (c : Addr) (p l q : Int) : putK (tapeK c p l) kL (V.int q) = tapeK c p q := by
  unfold tapeK putK
  have e : ([(kC, V.ref c), (kP, V.int p), (kL, V.int l)].any fun kv => decide (kv.1 = kL)) = true := by
    rw [List.any_cons, List.any_cons, List.any_cons, decide_eq_true (rfl : kL = kL), Bool.true_or, Bool.or_true, Bool.or_true]
  rw [if_pos e]
  show [if kC = kL then _ else _, if kP = kL then _ else _, if kL = kL then _ else _] = _
  rw [if_neg ne2, if_neg ne3, if_pos rfl]
theorem tk_merge (c : Addr) (p l : Int) : mergeK [] (tapeK c p l) = tapeK c p l := by
  have e1 : putK ([] : List (Key × V)) kC (V.ref c) = [(kC, V.ref c)] := rfl
  have e2 : putK [(kC, V.ref c)] kP (V.int p) = [(kC, V.ref c), (kP, V.int p)] := putK_new _ (by rw [valV_neg ne1]; rfl)
  have e3 : putK [(kC, V.ref c), (kP, V.int p)] kL (V.int l) = tapeK c p l := putK_new _ (by rw [valV_neg ne2, valV_neg ne3]; rfl)
  show putK (putK (putK [] kC (V.ref c)) kP (V.int p)) kL (V.int l) = _
  rw [e1, e2, e3]
/-- all that was tracked but t is as it was -/
def But (t : Addr) (H H' : Hp) : Prop := ∀ b o, H b = some o → b ≠ t → H' b = some o
theorem But.refl {t : Addr} {H : Hp} : But t H H := fun _ _ e _ => e
theorem But.trans {t : Addr} {H H1 H2 : Hp} (a : But t H H1) (b : But t H1 H2) : But t H H2 := fun c o e n => b c o (a c o e n) n
theorem But.upd {t : Addr} {H H1 : Hp} {o : HO} (a : But t H H1) : But t H (upd H1 t o) := fun c u e n => by rw [upd_ne n]; exact a c u e n
theorem But.new {t q : Addr} {H H1 : Hp} {o : HO} (a : But t H H1) (h : H1 q = none) : But t H (L2.upd H1 q o) := fun c u e n => by
  have e1 := a c u e n
  rw [upd_ne (ne_of_none e1 h)]; exact e1
/-- a reader of draws stands at t -/
structure Tape (H : Hp) (t c : Addr) (cs : List Int) (p l : Int) : Prop where
  d : H t = some (.dK (tapeK c p l))
  c : H c = some (.lst (cs.map V.int))
  n : cs ≠ []
  m : cs.length ≤ 63
  p0 : 0 ≤ p
  l0 : 0 ≤ l
theorem Tape.ne {H : Hp} {t c : Addr} {cs : List Int} {p l : Int} (T : Tape H t c cs p l) : t ≠ c := ne_of T.d T.c (by intro z; cases z)
theorem Tape.keep {H H' : Hp} {t c : Addr} {cs : List Int} {p l : Int} (T : Tape H t c cs p l) (k : Same H H') : Tape H' t c cs p l := ⟨k _ _ T.d, k _ _ T.c, T.n, T.m, T.p0, T.l0⟩

theorem Tape.gl {H : Hp} {t c : Addr} {cs : List Int} {p l : Int} (T : Tape H t c cs p l) : DGet H t (V.str (Str.ofString "left")) (some (V.int l)) := tk_left c p l ▸ DGet.k (k := kL) T.d
theorem Tape.gp {H : Hp} {t c : Addr} {cs : List Int} {p l : Int} (T : Tape H t c cs p l) : DGet H t (V.str (Str.ofString "place")) (some (V.int p)) := tk_place c p l ▸ DGet.k (k := kP) T.d
theorem Tape.gc {H : Hp} {t c : Addr} {cs : List Int} {p l : Int} (T : Tape H t c cs p l) : DGet H t (V.str (Str.ofString "cells")) (some (V.ref c)) := tk_cells c p l ▸ DGet.k (k := kC) T.d
theorem Tape.pp {H : Hp} {t c : Addr} {cs : List Int} {p l : Int} (T : Tape H t c cs p l) (q : Int) : DPut H t (V.str (Str.ofString "place")) (V.int q) (upd H t (.dK (tapeK c q l))) := tp_place c p l q ▸ DPut.k (k := kP) T.d (by show 3 < sizeLine; decide)
theorem Tape.pl {H : Hp} {t c : Addr} {cs : List Int} {p l : Int} (T : Tape H t c cs p l) (q : Int) : DPut H t (V.str (Str.ofString "left")) (V.int q) (upd H t (.dK (tapeK c p q))) := tp_left c p l q ▸ DPut.k (k := kL) T.d (by show 3 < sizeLine; decide)
theorem Tape.put {H : Hp} {t c : Addr} {cs : List Int} {p l : Int} (T : Tape H t c cs p l) {p' l' : Int} (h1 : 0 ≤ p') (h2 : 0 ≤ l') : Tape (upd H t (.dK (tapeK c p' l'))) t c cs p' l' :=
  ⟨upd_same, by rw [upd_ne T.ne.symm]; exact T.c, T.n, T.m, h1, h2⟩
theorem Tape.new {H : Hp} {t c : Addr} {cs : List Int} {p l : Int} (T : Tape H t c cs p l) {q : Addr} {o : HO} (h : H q = none) : Tape (upd H q o) t c cs p l := T.keep (same_new h)
def spBegin (K : PySem.W.Frag) : Sp := fun vs H Q _ => ∃ (a : Addr) (ns : List Int), vs = [.ref a] ∧ SqL K H a (ns.map V.int) ∧ ns.length ≤ 63 ∧
  ∀ (t c : Addr) (cs : List Int) (H' : Hp), H t = none → H c = none → Tape H' t c cs 0 0 → Same H H' → Q (.ref t) H'
structure TxtB (mg : Str → Option Value) : Prop where
  len : mg "len" = none
section
variable {P : Program} {w : World} {K : PySem.W.Frag} {mg : Str → Option Value} {base : Heap}
theorem scB : FnScope ["_law_script"] ["_law_script"] (defScope sBegin) := ⟨rfl, rfl, rfl, by decide +kernel, rfl, by decide +kernel, by decide +kernel⟩
theorem ok_begin {f : Addr} {fd : FuncData} (F : Fun K "_law_begin" "_law_begin" sBegin f fd) : FnOk P w K mg base CX0 1 f fd ["_law_script"] (spBegin K) := by
  refine F.ok scB (fun vs H Q E h => ?_) (fun cdv A outer s H vs Q E hr h => ?_)
  · obtain ⟨a, ns, rfl, _⟩ := h
    rfl
  · obtain ⟨a, ns, rfl, hS, hl, k⟩ := h
    refine ⟨_, pss_one (ps_ret (pe_disp (pps_cons pe_str (pe_orT (pe_slice sl_list (pv 0) po_none (po_some pe_int)) (pe_one (pe_lst (pa_cons pe_int pa_nil)))) (pps_cons pe_str pe_int (pps_cons pe_str pe_int pps_nil))) (by rfl) (by rfl) (fun z => by cases z) (by decide))), ?_⟩
    intro t ht
    have s1 : Same H (upd H t (HO.dK [])) := same_new ht
    refine ⟨_, rfl, ⟨63, rfl, a, _, rfl, s1.seq hS, fun c hc => ?_⟩⟩
    have hcn : H c = none := s1.free hc
    have tc : t ≠ c := fun e => by rw [← e, upd_same] at hc; cases hc
    have ecut : cutV (ns.map V.int) none (some 63) = ns.map V.int := by
      unfold cutV
      rw [HT.sIx_none, Nat.sub_zero, List.drop_zero]
      have : HT.sIx (ns.map V.int).length (ns.map V.int).length (some (63 : Int)) = (ns.map V.int).length := by
        have h2 : (ns.map V.int).length ≤ 63 := by rw [List.length_map]; exact hl
        exact (HT.sIx_nat _ _ 63).trans (by omega)
      rw [this, List.take_length]
    rw [ecut]
    cases ns with
    | nil =>
      refine ⟨false, .inl ⟨[], .inl (.inl upd_same), rfl⟩, ?_⟩
      refine iteF ?_
      refine ⟨by decide, fun d hd => ?_⟩
      have td : t ≠ d := fun e => by rw [← e, upd_ne tc, upd_same] at hd; cases hd
      have cd : c ≠ d := fun e => by rw [← e, upd_same] at hd; cases hd
      have hdn : H d = none := by rw [upd_ne cd.symm, upd_ne td.symm] at hd; exact hd
      refine ⟨by rw [upd_ne td, upd_ne tc]; exact upd_same, tapeK d 0 0, rfl, by show 3 ≤ 15; decide, ?_⟩
      have em : mergeK [] (tapeK d 0 0) = tapeK d 0 0 := tk_merge d 0 0
      rw [em]
      refine k t d [0] _ ht hdn ⟨upd_same, by rw [upd_ne td.symm]; exact upd_same, by simp, by decide, by decide, by decide⟩ fun b o e => ?_
      rw [upd_ne (ne_of_none e ht), upd_ne (ne_of_none e hdn), upd_ne (ne_of_none e hcn), upd_ne (ne_of_none e ht)]
      exact e
    | cons n r =>
      refine ⟨true, .inl ⟨_, .inl (.inl upd_same), rfl⟩, ?_⟩
      refine iteT ?_
      refine ⟨by rw [upd_ne tc]; exact upd_same, tapeK c 0 0, rfl, by show 3 ≤ 15; decide, ?_⟩
      have em : mergeK [] (tapeK c 0 0) = tapeK c 0 0 := tk_merge c 0 0
      rw [em]
      refine k t c (n :: r) _ ht hcn ⟨upd_same, by rw [upd_ne tc.symm]; exact upd_same, by simp, hl, by decide, by decide⟩ fun b o e => ?_
      rw [upd_ne (ne_of_none e ht), upd_ne (ne_of_none e hcn), upd_ne (ne_of_none e ht)]
      exact e
/-- draw(tape, m) -/
def spDraw : Sp := fun vs H Q _ => ∃ (t c : Addr) (cs : List Int) (p l m : Int), vs = [.ref t, .int m] ∧ Tape H t c cs p l ∧ 0 < m ∧ m < 1073741824 ∧ p < 1000000000000 ∧
  ∀ (r p' l' : Int) (H' : Hp), 0 ≤ r → r < m → p ≤ p' → p' ≤ p + 1 → Tape H' t c cs p' l' → But t H H' → Q (.int r) H'
theorem scD : FnScope ["_law_tape", "_law_many", "_law_place", "_law_cap", "_law_cell", "_law_found"] ["_law_tape", "_law_many"] (defScope sDraw) := ⟨rfl, rfl, rfl, by decide +kernel, rfl, by decide +kernel, by decide +kernel⟩
theorem ok_draw {f : Addr} {fd : FuncData} (F : Fun K "_law_draw" "_law_draw" sDraw f fd) (T : TxtB mg) : FnOk P w K mg base CX0 1 f fd ["_law_tape", "_law_many"] spDraw := by
  refine F.ok scD (fun vs H Q E h => ?_) (fun cdv A outer s H vs Q E hr h => ?_)
  · obtain ⟨t, c, cs, p, l, m, rfl, _⟩ := h
    rfl
  · obtain ⟨t, c, cs, p, l, m, rfl, hT, hm0, hm1, hp, k⟩ := h
    have hu := hu_of hr
    refine ⟨_, pss_cons (ps_if (pt_cmpR op_lt (pe_dget hu (pv 0) pe_str (fun _ _ => rfl)) (pv 1) (nomark _))
        (pss_cons (ps_par (i := 2) (j := 3) (by rfl) scD.nd rfl rfl (by decide) rfl rfl (pa_cons (pe_dget hu (pv 0) pe_str (fun _ _ => rfl)) (pa_cons (pe_callB call_len_seq (by rfl) T.len PySem.boot_len (pa_cons (pe_dget hu (pv 0) pe_str (fun _ _ => rfl)) pa_nil)) pa_nil)) (by rfl))
        (pss_cons (ps_asg (pe_tup (pa_cons (pe_ix ix_list (pe_dget hu (pv 0) pe_str (fun _ _ => rfl)) (pe_op op_mod (pv 2) (pv 3)) (fun _ _ => rfl)) (pa_cons (pe_op op_add (pv 2) pe_int) pa_nil)))
          (pg_tup (by rfl) (pgs_cons (pg_name (i := 4) scD.nd rfl (.inl rfl)) (pgs_cons (pg_sub (pv 0) pe_str (set_dict hu)) pgs_nil))))
        (pss_cons (ps_dput hu (pv 0) pe_str (pe_op op_mod (pe_op op_pow (pe_op op_add (pe_op op_add (pe_op op_mod (pv 4) pe_int) (pe_op op_mul pe_int (pv 2))) pe_int) pe_int) (pe_op op_add (pe_op op_pow pe_int pe_int) pe_int)) rfl)
        (pss_one (ps_if (PW.pt (pw_and (pt_cmpR op_ge (pv 4) (pe_op op_pow pe_int pe_int) (nomark _)) (pw_and1 (pt_cmpR op_lt (pv 2) (pv 3) (nomark _)))))
          (pss_one (ps_dput hu (pv 0) pe_str (pe_op op_sub (pv 4) (pe_op op_pow pe_int pe_int)) rfl)) pss_nil))))) pss_nil)
      (pss_cons (ps_asg (pe_tup (pa_cons (pe_op op_mod (pe_dget hu (pv 0) pe_str (fun _ _ => rfl)) (pv 1)) (pa_cons (pe_op op_fdivW (pe_dget hu (pv 0) pe_str (fun _ _ => rfl)) (pv 1)) pa_nil)))
          (pg_tup (by rfl) (pgs_cons (pg_name (i := 5) scD.nd rfl (.inl rfl)) (pgs_cons (pg_sub (pv 0) pe_str (set_dict hu)) pgs_nil))))
      (pss_one (ps_ret (pv 5)))), ?_⟩
    refine ⟨_, rfl, t, _, rfl, hT.gl, _, rfl, _, _, rfl, rfl, _, rfl, ?_⟩
    -- behind the if: the left is what it is
    have last : ∀ (H1 : Hp) (σ : St) (p1 l1 : Int), σ[0]? = some (some (V.ref t)) → σ[1]? = some (some (V.int m)) → σ.length = 6 → Tape H1 t c cs p1 l1 → p ≤ p1 → p1 ≤ p + 1 → But t H H1 →
      (tSeq (tAsg (tTup (tCons (tOp (rI (fun _ j => 0 < j) fun i j => .int (i % j)) (tDGet (tVar 0) (tC (V.str (Str.ofString "left")))) (tVar 1)) (tCons (tOp (rI CDivW fun i j => .int (i / j)) (tDGet (tVar 0) (tC (V.str (Str.ofString "left")))) (tVar 1)) tNil))) (gTup K 2 (gCons (gName 5) (gCons (gSub (tVar 0) (tC (V.str (Str.ofString "left"))) rSetD) gNil)))) (tRet (tVar 5))) { nx := fun _ H' => Q .non H', rt := Q } σ H1 := by
      intro H1 σ p1 l1 e0 e1 el T1 a1 a2 sm
      refine ⟨_, e0, t, _, rfl, T1.gl, _, e1, _, _, rfl, rfl, hm0, _, e0, t, _, rfl, T1.gl, _, e1, _, _, rfl, rfl, wide_div (b := 40) hm0 (by omega) (by decide) (by decide), by show 2 ≤ sizeLine; decide, fun q hq => ?_⟩
      have T2 := T1.new (q := q) (o := .tup [.int (l1 % m), .int (l1 / m)]) hq
      have hr0 : 0 ≤ l1 % m := Int.emod_nonneg l1 (by omega)
      have hr1 : l1 % m < m := Int.emod_lt_of_pos l1 hm0
      have hl0 : 0 ≤ l1 / m := Int.ediv_nonneg T1.l0 (by omega)
      refine ⟨q, _, rfl, SqT.of upd_same, rfl, _, _, rfl, _, _, rfl, ?_⟩
      have g0 : (σ.set 5 (some (V.int (l1 % m))))[0]? = some (some (V.ref t)) := by rw [List.getElem?_set_ne (by decide)]; exact e0
      have g5 : (σ.set 5 (some (V.int (l1 % m))))[5]? = some (some (V.int (l1 % m))) := by rw [List.getElem?_set_self (by omega)]
      refine ⟨_, g0, t, _, rfl, T2.pl _, rfl, _, g5, ?_⟩
      exact k _ p1 _ _ hr0 hr1 a1 a2 (T2.put T1.p0 hl0) (But.upd (But.new sm hq))
    refine ite2 (fun hlt => ?_) (fun hge => ?_)
    · -- the cell is read
      have hlen : (0 : Int) < (cs.length : Int) := by
        have := List.length_pos_iff.mpr hT.n
        omega
      have hp0 := hT.p0
      have hix : ∃ cell, cs[(p % (cs.length : Int)).toNat]? = some cell := by
        have h1 : p % (cs.length : Int) < (cs.length : Int) := Int.emod_lt_of_pos _ hlen
        have h0 : 0 ≤ p % (cs.length : Int) := Int.emod_nonneg _ (by omega)
        exact ⟨_, List.getElem?_eq_getElem (by omega)⟩
      obtain ⟨cell, hcell⟩ := hix
      have hcv : atI (cs.map V.int) (p % ((cs.map V.int).length : Int)) = some (V.int cell) := by
        have h0 : 0 ≤ p % (cs.length : Int) := Int.emod_nonneg _ (by omega)
        rw [List.length_map]
        have e : p % (cs.length : Int) = ((p % (cs.length : Int)).toNat : Int) := by omega
        rw [e]
        exact atI_nat (by rw [List.getElem?_map, hcell]; rfl)
      refine ⟨_, rfl, t, _, rfl, hT.gp, _, rfl, t, _, rfl, hT.gc, c, _, rfl, .inl (SqL.of hT.c), _, _, rfl, ?_⟩
      refine ⟨_, rfl, t, _, rfl, hT.gc, _, rfl, _, rfl, _, _, rfl, rfl, by rw [List.length_map]; exact hlen, c, _, _, _, rfl, rfl, SqL.of hT.c, hcv, _, rfl, _, _, rfl, rfl, by show 2 ≤ sizeLine; decide, fun q hq => ?_⟩
      have T2 := hT.new (q := q) (o := .tup [V.int cell, .int (p + 1)]) hq
      refine ⟨q, _, rfl, SqT.of upd_same, rfl, _, _, rfl, _, _, rfl, ?_⟩
      refine ⟨_, rfl, t, _, rfl, T2.pp _, rfl, ?_⟩
      have T3 := T2.put (p' := p + 1) (l' := l) (by omega) T2.l0
      have B3 : But t H (upd (upd H q (.tup [V.int cell, .int (p + 1)])) t (.dK (tapeK c (p + 1) l))) := But.upd (But.new But.refl hq)
      -- left = (..) ** 17 .. 
      have hb0 : 0 ≤ cell % 2147483647 := Int.emod_nonneg _ (by decide)
      have hb1 : cell % 2147483647 < 2147483647 := Int.emod_lt_of_pos _ (by decide)
      refine ⟨_, rfl, _, _, rfl, rfl, (by show (0 : Int) < 2147483647; decide), _, rfl, _, _, rfl, rfl, .inl ⟨by decide, by decide⟩, _, _, rfl, rfl, _, _, rfl, rfl, _, _, rfl, rfl, ⟨by decide, by decide, by omega⟩, _, _, rfl, rfl, ⟨by decide, by decide, by decide⟩, _, _, rfl, rfl, _, _, rfl, rfl, ?_, ?_⟩
      · show (0 : Int) < 10 ^ 50 + 151
        decide
      have hbig : (0 : Int) ≤ ((cell % 2147483647 + 69621 * p + 48271) ^ Int.toNat 17) % (10 ^ Int.toNat 50 + 151) := Int.emod_nonneg _ (by show (10 : Int) ^ 50 + 151 ≠ 0; decide)
      refine ⟨_, rfl, t, _, rfl, T3.pl _, ?_⟩
      have T4 := T3.put (p' := p + 1) (l' := ((cell % 2147483647 + 69621 * p + 48271) ^ Int.toNat 17) % (10 ^ Int.toNat 50 + 151)) (by omega) hbig
      have B4 := B3.upd (o := .dK (tapeK c (p + 1) (((cell % 2147483647 + 69621 * p + 48271) ^ Int.toNat 17) % (10 ^ Int.toNat 50 + 151))))
      refine ⟨_, rfl, _, _, rfl, rfl, ⟨by decide, by decide, by decide⟩, _, _, rfl, rfl, _, rfl, ?_⟩
      refine ite2 (fun hc => ?_) (fun hc => iteF (last _ _ (p + 1) _ rfl rfl rfl T4 (by omega) (by omega) B4))
      refine ⟨_, rfl, _, rfl, _, _, rfl, rfl, _, rfl, ?_⟩
      refine ite2 (fun _ => ?_) (fun _ => last _ _ (p + 1) _ rfl rfl rfl T4 (by omega) (by omega) B4)
      refine ⟨_, rfl, _, _, rfl, rfl, ⟨by decide, by decide, by decide⟩, _, _, rfl, rfl, _, rfl, t, _, rfl, T4.pl _, ?_⟩
      have hc' : (10 : Int) ^ Int.toNat 18 ≤ cell := of_decide_eq_true hc
      exact last _ _ (p + 1) _ rfl rfl rfl (T4.put (by omega) (by omega)) (by omega) (by omega) B4.upd
    · exact last H _ p l rfl rfl rfl hT (by omega) (by omega) But.refl
/-- pick(tape, items): one of the items, which stands as before -/
def spPick : Sp := fun vs H Q _ => ∃ (t c a : Addr) (cs : List Int) (p l : Int) (xs : List V), vs = [.ref t, .ref a] ∧ Tape H t c cs p l ∧ H a = some (.lst xs) ∧ xs ≠ [] ∧ xs.length ≤ 1000000 ∧ p < 1000000000000 ∧
  ∀ (i : Nat) (x : V) (p' l' : Int) (H' : Hp), xs[i]? = some x → p ≤ p' → p' ≤ p + 1 → Tape H' t c cs p' l' → But t H H' → Q x H'
theorem scP : FnScope ["_law_tape", "_law_items"] ["_law_tape", "_law_items"] (defScope sPick) := ⟨rfl, rfl, rfl, by decide +kernel, rfl, by decide +kernel, by decide +kernel⟩
theorem ok_pick {f fD : Addr} {fd fdD : FuncData} (F : Fun K "_law_pick" "_law_pick" sPick f fd) (T : TxtB mg) (G : FnOk P w K mg base CX0 1 fD fdD ["_law_tape", "_law_many"] spDraw) (mD : mg "_law_draw" = some (.ref fD)) (kD : PySem.W.keepIn K (.ref fD) = true) (bD : Binds K fdD ["_law_tape", "_law_many"] []) :
    FnOk P w K mg base CX0 2 f fd ["_law_tape", "_law_items"] spPick := by
  refine F.ok scP (fun vs H Q E h => ?_) (fun cdv A outer s H vs Q E hr h => ?_)
  · obtain ⟨t, c, a, cs, p, l, xs, rfl, _⟩ := h
    rfl
  · obtain ⟨t, c, a, cs, p, l, xs, rfl, hT, ha, hn, hx, hp, k⟩ := h
    have hl : 0 < xs.length := List.length_pos_iff.mpr hn
    refine ⟨_, pss_one (ps_ret (pe_ix ix_list (pv 1) (pe_call G hr rfl mD kD bD .nil pass0 (pa_cons (pv 0) (pa_cons (pe_callB call_len_seq (by rfl) T.len PySem.boot_len (pa_cons (pv 1) pa_nil)) pa_nil))) (fun _ _ => rfl))), ?_⟩
    refine ⟨_, rfl, _, rfl, _, rfl, a, xs, rfl, .inl (SqL.of ha), t, c, cs, p, l, _, rfl, hT, by omega, by omega, hp, fun r p' l' H' h0 h1 a1 a2 hT' hB => ?_⟩
    have hat : a ≠ t := ne_of ha hT.d (by intro z; cases z)
    obtain ⟨i, rfl⟩ : ∃ i : Nat, r = (i : Int) := ⟨r.toNat, by omega⟩
    have hi : i < xs.length := by omega
    refine ⟨a, xs, _, _, rfl, rfl, SqL.of (hB _ _ ha hat), atI_nat (List.getElem?_eq_getElem hi), k i _ p' l' H' (List.getElem?_eq_getElem hi) a1 a2 hT' hB⟩
end
end Bo

set_option Elab.async false
set_option linter.all false
set_option maxRecDepth 100000
set_option maxHeartbeats 4000000
/-! defs that ask repr: what runs around them is known to bear no repr in progress -/
namespace Bo
open PySem PySem.Spec PyProof.Rows L2
/-- room, and no repr in progress -/
structure Quiet (k : Nat) (A : Around) : Prop where
  room : Room k A
  gd : A.guards = some []
theorem Quiet.mono {j k : Nat} {A : Around} (q : Quiet k A) (h : j ≤ k) : Quiet j A := ⟨q.room.mono h, q.gd⟩
/-- a def's promise, kept where no repr is in progress -/
structure FnQ (P : Program) (w : World) (K : PySem.W.Frag) (mg : Str → Option Value) (base : Heap) (CX : CXT) (k : Nat) (f : Addr) (fd : FuncData) (ps : List Str) (sp : Sp) : Prop where
  len : ∀ vs H Q E, sp vs H Q E → vs.length = ps.length
  run : ∀ (A : Around) (outer : List Env) (s : Shared) (H : Hp) (args : Args) (us : List Value) (vs : List V) (Q : VK) (E : XK), Quiet k A → Env0 P w K mg base A outer s H → BindsTo s fd args (ps.zip us) → Vals vs us → sp vs H Q E →
    codeAny (model P w) A (.call (.ref f) args) (CR CX outer P w H s Q E) s
theorem FnQ.of {P : Program} {w : World} {K : PySem.W.Frag} {mg : Str → Option Value} {base : Heap} {CX : CXT} {k : Nat} {f : Addr} {fd : FuncData} {ps : List Str} {sp : Sp} (F : FnOk P w K mg base CX k f fd ps sp) : FnQ P w K mg base CX k f fd ps sp :=
  ⟨F.len, fun A outer s H args us vs Q E hr => F.run A outer s H args us vs Q E hr.room⟩
section
variable {CX : CXT} {P : Program} {w : World} {K : PySem.W.Frag} {mg : Str → Option Value} {base : Heap}
theorem fnq_of {k : Nat} {f : Addr} {name qual : Str} {params : Arguments} {body : List Stmt} {scope : Scope} {dV kV doc pm cdv ct oc : Value} {an od : Option Addr}
    {osl : Array (Option Value)} {N ps : List Str} {sp : Sp} (lk : K.lookup f = some ⟨oc, od, .func (PySem.W.fnOf name qual params body scope dV kV doc pm an cdv ct), osl⟩) (hcd : PySem.W.codeIn K cdv qual = true) (S : FnScope N ps scope)
    (len : ∀ vs H Q E, sp vs H Q E → vs.length = ps.length)
    (hbody : ∀ (A : Around) (outer : List Env) (s : Shared) (H : Hp) (vs : List V) (Q : VK) (E : XK), Quiet k (A.deeper (envOfC qual scope s.heap.objs.size f cdv)) → sp vs H Q E →
      ∃ t, PSs (cxOf CX P w K mg base N qual scope f cdv A outer s H E) body t ∧ t { nx := fun _ H' => Q .non H', rt := Q } (start N vs) H) :
    FnQ P w K mg base CX (k + 1) f (PySem.W.fnOf name qual params body scope dV kV doc pm an cdv ct) ps sp := by
  refine ⟨len, fun A outer s H args us vs Q E hq0 e0 hb r hsp => ?_⟩
  have hr := hq0.room
  have hl := len _ _ _ _ hsp
  have KX : K.In s.heap := e0.mod.kin.keeps fun b o e => (e0.bs b o e).1
  have lim : s.heap.NoLimit := e0.mod.nolimit.keeps fun b o e => (e0.bs b o e).1
  have hk : ∀ y ∈ ps.zip us, scope.names.lookup y.1 = some .local ∨ (scope.names.lookup y.1 = some .cell ∧ ((cellsFrom (s.heap.objs.size + 1) scope.names []).lookup y.1).isSome = true) := fun ⟨n, v⟩ hy => by
    rcases S.par n (List.of_mem_zip hy).1 with q | q
    · exact .inl q
    · exact .inr ⟨q, PySem.W.cellsFrom_some _ _ _ (.inl q)⟩
  refine codeAny_call_function hr.depth (KX _ _ lk) rfl S.co S.gen rfl (PySem.W.codeRec_of KX hcd) (hb _ _ _ _ (wpAny_newFunctionEnv_cells S.kind hk fun env he s1 x => ?_))
  subst he
  refine ⟨lim.keeps x.toInCall.keep, codeAny_func ?_⟩
  have hq1 : Quiet k (A.deeper (envOfC qual scope s.heap.objs.size f cdv)) := ⟨hr.deeper _, hq0.gd⟩
  obtain ⟨t, ht, hq⟩ := hbody A outer s H vs Q E hq1 hsp
  have I : L2.Inv (cxOf CX P w K mg base N qual scope f cdv A outer s H E) [] (start N vs) H s1 := inv_start S hr.hd e0 hl r x
  refine wpAny_mono (ht.run [] s1 (start N vs) H _ I hq) (fun fl s' hs => ?_) fun e s' hs => hs
  cases fl with
  | ret u =>
    obtain ⟨v, σ', H', J, rv, q⟩ := hs
    exact ⟨v, H', J.os, J.bare, J.base, J.hok, rv, q⟩
  | next =>
    obtain ⟨σ', H', J, q⟩ := hs
    exact ⟨V.non, H', J.os, J.bare, J.base, J.hok, rfl, q⟩
  | brk => exact (let ⟨_, _, _, q⟩ := hs; False.elim q)
  | cont => exact (let ⟨_, _, _, q⟩ := hs; False.elim q)
/-- THE RULE for a def of the text that asks repr -/
theorem fun_okQ {x qual : Str} {st : Stmt} {f : Addr} {fd : FuncData} {N ps : List Str} {k : Nat} {sp : Sp} (F : Fun K x qual st f fd) (S : FnScope N ps (defScope st)) (len : ∀ vs H Q E, sp vs H Q E → vs.length = ps.length)
    (hbody : ∀ (cdv : Value) (A : Around) (outer : List Env) (s : Shared) (H : Hp) (vs : List V) (Q : VK) (E : XK), Quiet k (A.deeper (envOfC qual (defScope st) s.heap.objs.size f cdv)) → sp vs H Q E →
      ∃ t, PSs (cxOf CX P w K mg base N qual (defScope st) f cdv A outer s H E) (defBody st) t ∧ t { nx := fun _ H' => Q .non H', rt := Q } (start N vs) H) : FnQ P w K mg base CX (k + 1) f fd ps sp := by
  obtain ⟨oc, od, kV, doc, pm, an, cdv, ct, osl, rfl, lk, hcd⟩ := F.ex
  exact fnq_of lk hcd S len fun A outer s H vs Q E hr hsp => hbody cdv A outer s H vs Q E hr hsp
/-- .. which no exception leaves -/
theorem fun_okQ0 {x qual : Str} {st : Stmt} {f : Addr} {fd : FuncData} {N ps : List Str} {k : Nat} {sp : Sp} (F : Fun K x qual st f fd) (S : FnScope N ps (defScope st)) (len : ∀ vs H Q E, sp vs H Q E → vs.length = ps.length)
    (hbody : ∀ (cdv : Value) (A : Around) (outer : List Env) (s : Shared) (H : Hp) (vs : List V) (Q : VK) (E : XK), Quiet k (A.deeper (envOfC qual (defScope st) s.heap.objs.size f cdv)) → sp vs H Q E →
      ∃ t, PSs (cxOf CX0 P w K mg base N qual (defScope st) f cdv A outer s H E).nox (defBody st) t ∧ t { nx := fun _ H' => Q .non H', rt := Q } (start N vs) H) : FnQ P w K mg base CX0 (k + 1) f fd ps sp :=
  fun_okQ F S len fun cdv A outer s H vs Q E hq hsp => let ⟨t, h, q⟩ := hbody cdv A outer s H vs Q E hq hsp; ⟨t, h.nox, q⟩
end
section
variable {X : Cx} {CX : CXT} {k : Nat} {f C : Addr} {fd : FuncData} {ps : List Str} {ds : List Value} {dvs : List V} {sp : Sp} {E : XK} {x m : Str} {p pos apos : Pos} {e o : Expr} {es : List Expr} {ta : TE} {t : TA}
theorem run_fnQ {pins : List (Addr × Obj)} {σ : L2.St} {H : Hp} {s : Shared} {Q : VK} {us : List Value} {vs : List V} (F : FnQ X.prog X.w X.K X.mg X.base CX k f fd ps sp) (hr : Quiet k X.A) (hb : Binds X.K fd ps ds) (hd : Vals dvs ds) (hx : Passes CX X E)
    (I : L2.Inv X pins σ H s) (r : Vals vs us) (h : sp (vs ++ dvs) H Q E) : wpAny (model X.prog X.w) X.A (call (.ref f) us) (EP X pins σ Q) X.xe s := by
  have r2 : Vals (vs ++ dvs) (us ++ ds) := r.append hd
  have hl : (us ++ ds).length = ps.length := r2.length.symm.trans (F.len _ _ _ _ h)
  refine wpAny_call (codeAny_mono (F.run X.A X.stack s H ⟨us, []⟩ (us ++ ds) (vs ++ dvs) Q E hr I.env0 (hb s us I.kIn hl) r2 h) fun r s' hq => ?_)
  match r, hq with
  | .error e, hq => exact hx pins σ H s e s' I hq
  | .ok (.ret u), hq => exact I.after hq
/-- f(e, ..) of such a def -/
theorem pe_callQ (F : FnQ X.prog X.w X.K X.mg X.base CX k f fd ps sp) (hr : Quiet k X.A) (hg : Gl X x) (hm : X.mg x = some (.ref f)) (hk : PySem.W.keepIn X.K (.ref f) = true) (hb : Binds X.K fd ps ds) (hd : Vals dvs ds) (hx : Passes CX X E)
    (ha : PA X (e :: es) t) (hdb : (x == ("__debug__" : Str)) = false := by decide) (he : starEach (e :: es) X.env = (false, eval e X.env) :: starEach es X.env := by rfl) (hpl : (backTo pos (starEach es X.env)).any (·.1) = false := by rfl) :
    PE X (.Call (.Name x p) (e :: es) [] pos) (tCall sp dvs E t) :=
  ⟨fun pins s σ H Q I h => wpAny_Call_Name_kw (ld_glob I hg hm
    (PySem.W.callWith_K (h₀ := X.base) I.ok.mod.kin hk (thn (ha.run pos pins s σ H _ I h) fun us s1 ⟨vs, H1, I1, r, q⟩ => ⟨I1.kIn, run_fnQ F hr hb hd hx I1 r q⟩) he hpl) hdb)⟩
mutual
theorem dp_hasDict {K : PySem.W.Frag} {H : Hp} : ∀ (d : PyData) (v : V), Dp K H v d → d.hasDict = false
  | .none, _, _ => rfl
  | .bool _, _, _ => rfl
  | .int _, _, _ => rfl
  | .str _, _, _ => rfl
  | .list ds, _, h => by
    cases h with
    | lst _ ha => unfold PyData.hasDict; exact dp_hasDictAll ds _ ha
  | .tuple ds, _, h => by
    cases h with
    | tup _ ha => unfold PyData.hasDict; exact dp_hasDictAll ds _ ha
  | .dict _, _, h => by cases h
theorem dp_hasDictAll {K : PySem.W.Frag} {H : Hp} : ∀ (ds : List PyData) (vs : List V), DpAll K H vs ds → PyData.hasDictAll ds = false
  | [], _, _ => rfl
  | d :: ds, _, h => by
    cases h with
    | cons h1 h2 => unfold PyData.hasDictAll; rw [dp_hasDict d _ h1, dp_hasDictAll ds _ h2]; rfl
end
/-- repr(x), x data of any depth without dicts: its text -/
def rRepr (K : PySem.W.Frag) : List V → Hp → VK → Prop := fun xs H Q => ∃ (x : V) (d : PyData), xs = [x] ∧ Dp K H x d ∧ d.showable = true ∧ d.depth ≤ 60 ∧ d.shown.length ≤ sizeLine ∧ Q (.str d.shown) H
theorem call_reprQ {k : Nat} (hr : Quiet k X.A) : CallR X (.builtin "repr") (rRepr X.K) := by
  intro pins s σ H xs us Q I r h
  obtain ⟨x, d, rfl, hd, hs, hdep, hz, q⟩ := h
  obtain ⟨u, rfl, ru⟩ := vals1 r
  have hun := hr.room.un
  have hnd := dp_hasDict d x hd
  obtain ⟨as, R⟩ := Dp.reads I d x u hd ru
  have big : ∀ a, u = Value.ref a → wpAny (model X.prog X.w) X.A (call (.builtin "repr") [u]) (EP X pins σ Q) X.xe s := fun a e => by
    subst e
    refine repr_of_reads' R hs (fun z => by rw [hnd] at z; cases z) hr.gd (by omega) (fun _ _ e => e) (fun h' u tk hk => ?_) hz
    exact ⟨.str d.shown, H, I.kept (t' := tk) hk, ⟨u, rfl⟩, q⟩
  cases hd with
  | non =>
    cases (show u = Value.none from ru)
    exact P.repr_of_none ⟨.str PyData.none.shown, H, I.tok _, ⟨_, rfl⟩, q⟩
  | bl b =>
    cases (show u = Value.bool b from ru)
    refine P.repr_of_bool ⟨.str (PyData.bool b).shown, H, I.tok _, ⟨s.toks, ?_⟩, q⟩
    cases b <;> rfl
  | int i =>
    obtain ⟨t, rfl⟩ := (show ∃ t, u = Value.int i t from ru)
    exact P.repr_of_int (of_decide_eq_true hs) ⟨.str (PyData.int i).shown, H, I.tok _, ⟨_, rfl⟩, q⟩
  | str y =>
    obtain ⟨t, rfl⟩ := (show ∃ t, u = Value.str y t from ru)
    exact P.repr_of_str ⟨.str (PyData.str y).shown, H, I.tok _, ⟨_, rfl⟩, q⟩ hz
  | lst _ _ => exact big _ ru
  | tup _ _ => exact big _ ru
end
theorem quiet_caller {k : Nat} (h : Room k callerA) : Quiet k callerA := ⟨h, rfl⟩
end Bo

set_option Elab.async false
set_option linter.all false
set_option maxRecDepth 100000
set_option maxHeartbeats 8000000
namespace Bo
open PySem PySem.Spec PyProof.Rows L2
/-! ### a thing that is known from now on: it is never written again -/
def tFz (t : TE) : TE := fun σ H Q => t σ H fun x H1 => ∃ d u, x = .ref d ∧ H1 d = some u ∧ Mut (some u) ∧ ∀ od, Q x (upd H1 d (.frz od u))
theorem pe_fz {X : Cx} {e : Expr} {t : TE} (h : PE X e t) : PE X e (tFz t) :=
  ⟨fun pins s σ H Q I hw => thn (h.run pins s σ H _ I hw) fun v s1 ⟨x, H1, I1, r, d, u, ex, hd, mu, q⟩ => by
    obtain ⟨od, I2⟩ := I1.lock hd mu
    exact ⟨x, _, I2, r, q od⟩⟩
def Fz (H : Hp) (a : Addr) (u : HO) : Prop := ∃ o, H a = some (.frz o u)
theorem Fz.rd {H : Hp} {a : Addr} {u : HO} (h : Fz H a u) : Rd H a u := .inr h
theorem Fz.keep {H H' : Hp} {a : Addr} {u : HO} (h : Fz H a u) (k : Same H H') : Fz H' a u := by
  obtain ⟨o, e⟩ := h
  exact ⟨o, k _ _ e⟩
theorem Rd.keep {H H' : Hp} {a : Addr} {u : HO} (h : Rd H a u) (k : Same H H') : Rd H' a u := h.elim (fun e => .inl (k _ _ e)) fun ⟨o, e⟩ => .inr ⟨o, k _ _ e⟩
theorem SqT.keep {K : PySem.W.Frag} {H H' : Hp} {a : Addr} {xs : List V} (h : SqT K H a xs) (k : Same H H') : SqT K H' a xs := h.elim (fun e => .inl (Rd.keep e k)) .inr
theorem SqL.keep {K : PySem.W.Frag} {H H' : Hp} {a : Addr} {xs : List V} (h : SqL K H a xs) (k : Same H H') : SqL K H' a xs := h.elim (fun e => .inl (Rd.keep e k)) .inr
theorem same_fz {H H1 : Hp} {d : Addr} {u w : HO} (k : Same H H1) (h : H d = none) : Same H (upd H1 d w) := fun b o e => by rw [upd_ne (ne_of_none e h)]; exact k _ _ e
/-- a comprehension that makes a dict -/
theorem dc_go {J : It} {n : Nat} {G : Hp → Prop} {Y : Nat → Hp → V → Hp → Prop} (w : L2.Walk J n G Y) {g : TG} {tt : TT} {tk tv : TE} {vs : List Nat} {σ : L2.St} {H1 : Hp} {D : Addr} {Qd : Hp → Prop} (Pv : Nat → Hp → Prop) (h0 : Pv 0 (upd H1 D (.dK [])))
    (hG : ∀ i H, i ≤ n → Pv i H → G H) (hs : ∀ i x H H', i < n → Pv i H → Y i H x H' → g x (wipe σ vs) H' fun σ2 H2 => wipe σ2 vs = wipe σ vs ∧ tt σ2 H2 fun b H3 =>
      if b = true then tk σ2 H3 fun y H4 => tv σ2 H4 fun z H5 => ∃ kvs k, y = kV k ∧ H5 D = some (.dK kvs) ∧ kvs.length < sizeLine ∧ Pv (i + 1) (upd H5 D (.dK (putK kvs k z))) else Pv (i + 1) H3) (hd : ∀ H, Pv n H → Qd H) :
    ∃ W : Nat → Nat → Hp → Prop, (∃ m, W 0 m (upd H1 D (.dK []))) ∧ ∀ i m H, W i m H → (J.stop i H ∧ Qd H) ∨ (J.go i H ∧ ∃ Nx : Hp → Prop, (∀ H', Nx H' → ∃ m', m' < m ∧ W (i + 1) m' H') ∧ ∀ x H', J.yld i H x H' → g x (wipe σ vs) H' fun σ2 H2 => wipe σ2 vs = wipe σ vs ∧ tt σ2 H2 fun b H3 =>
        if b = true then tk σ2 H3 fun y H4 => tv σ2 H4 fun z H5 => ∃ kvs k, y = kV k ∧ H5 D = some (.dK kvs) ∧ kvs.length < sizeLine ∧ Nx (upd H5 D (.dK (putK kvs k z))) else Nx H3) := by
  refine ⟨fun i m H => (m = n - i ∧ i ≤ n) ∧ Pv i H, ⟨n, ⟨rfl, Nat.zero_le _⟩, h0⟩, fun i m H hw => ?_⟩
  obtain ⟨⟨hm, hi⟩, p⟩ := hw
  have g1 := hG i H hi p
  rcases Nat.lt_or_ge i n with lt | ge
  · refine .inr ⟨w.goes i H lt g1, Pv (i + 1), fun H' p' => ⟨n - (i + 1), by omega, ⟨rfl, lt⟩, p'⟩, fun x H' y => hs i x H H' lt p (w.yields i H x H' lt g1 y)⟩
  · obtain rfl : i = n := Nat.le_antisymm hi ge
    exact .inl ⟨w.stops H g1, hd H p⟩
/-! ### flat data: an atom; a tuple or a list of atoms; a dict with texts as keys and atoms as values -/
def atomV : V → Bool
  | .non => true
  | .bl _ => true
  | .int _ => true
  | .str _ => true
  | _ => false
def tyA : V → String
  | .non => "NoneType"
  | .bl _ => "bool"
  | .int _ => "int"
  | _ => "str"
theorem atom_ty {K : PySem.W.Frag} {H : Hp} : ∀ {v : V}, atomV v = true → TyX K H v (.type (tyA v))
  | .non, _ => .base .non
  | .bl _, _ => .base (.bl _)
  | .int _, _ => .base (.int _)
  | .str _, _ => .base (.str _)
theorem atom_no {v : V} (h : atomV v = true) (K : PySem.W.Frag) {c : String} (hc : c = "tuple" ∨ c = "list" ∨ c = "dict") : PySem.W.kitOne K (.type (tyA v)) (.type c) = some false := by
  cases v with
  | non => rcases hc with rfl | rfl | rfl <;> exact kit_ty (by decide +kernel)
  | bl b => rcases hc with rfl | rfl | rfl <;> exact kit_ty (a := "bool") (by decide +kernel)
  | int i => rcases hc with rfl | rfl | rfl <;> exact kit_ty (a := "int") (by decide +kernel)
  | str x => rcases hc with rfl | rfl | rfl <;> exact kit_ty (a := "str") (by decide +kernel)
  | _ => cases h
def dataA : V → PyData
  | .bl b => .bool b
  | .int i => .int i
  | .str x => .str x
  | _ => .none
def Atoms (xs : List V) : Prop := ∀ x ∈ xs, atomV x = true
def strK (ps : List (Str × V)) : List (Key × V) := ps.map fun p => (Sum.inr p.1, p.2)
def strD (ps : List (Str × V)) : List (PyData × PyData) := ps.map fun p => (.str p.1, dataA p.2)
inductive Flat (K : PySem.W.Frag) (H : Hp) : V → PyData → Prop where
  | atom {v : V} (h : atomV v = true) : Flat K H v (dataA v)
  | tup {a : Addr} {xs : List V} (h : SqT K H a xs) (x : Atoms xs) (l : xs.length ≤ 1000) : Flat K H (.ref a) (.tuple (xs.map dataA))
  | lst {a : Addr} {xs : List V} (h : H a = some (.lst xs)) (x : Atoms xs) (l : xs.length ≤ 1000) : Flat K H (.ref a) (.list (xs.map dataA))
  | dct {a : Addr} {ps : List (Str × V)} (h : H a = some (.dK (strK ps))) (x : Atoms (ps.map (·.2))) (nd : (ps.map (·.1)).Nodup) (l : ps.length ≤ 1000) : Flat K H (.ref a) (.dict (strD ps))
theorem Flat.keep {K : PySem.W.Frag} {H H' : Hp} {v : V} {d : PyData} (h : Flat K H v d) (k : Same H H') : Flat K H' v d := by
  cases h with
  | atom h => exact .atom h
  | tup h x l => exact .tup (SqT.keep h k) x l
  | lst h x l => exact .lst (k _ _ h) x l
  | dct h x nd l => exact .dct (k _ _ h) x nd l
theorem take_snoc {α : Type} : ∀ {l : List α} {i : Nat} {x : α}, l[i]? = some x → l.take (i + 1) = l.take i ++ [x]
  | [], i, x, h => by simp at h
  | a :: l, 0, x, h => by simp at h; simp [h]
  | a :: l, i + 1, x, h => by simpa using take_snoc (l := l) (i := i) (x := x) (by simpa using h)
end Bo

set_option Elab.async false
set_option linter.all false
set_option maxRecDepth 100000
set_option maxHeartbeats 8000000
namespace Bo
open PySem L2
abbrev sCopied : Stmt := top 2
structure TxtC (mg : Str → Option Value) : Prop where
  isi : mg "isinstance" = none
  tup : mg "tuple" = none
  lst : mg "list" = none
  dct : mg "dict" = none
def spAtom : Sp := fun vs H Q _ => ∃ v, vs = [v] ∧ atomV v = true ∧ Q v H
section
variable {P : Program} {w : World} {K : PySem.W.Frag} {mg : Str → Option Value} {base : Heap}
theorem scC : FnScope ["thing", "inner", "key"] ["thing"] (defScope sCopied) := ⟨rfl, rfl, rfl, by decide +kernel, rfl, by decide +kernel, by decide +kernel⟩
theorem ok_atom {f : Addr} {fd : FuncData} (F : Fun K "copied" "copied" sCopied f fd) (T : TxtC mg) : FnOk P w K mg base CX0 1 f fd ["thing"] spAtom := by
  refine F.ok scC (fun vs H Q E h => ?_) (fun cdv A outer s H vs Q E hr h => ?_)
  · obtain ⟨v, rfl, _⟩ := h
    rfl
  · obtain ⟨v, rfl, hv, q⟩ := h
    refine ⟨_, pss_cons (ps_if (pt_val (pe_callB call_isi (by rfl) T.isi (by decide +kernel) (pa_cons (pv 0) (pa_cons (pe_bltn (v := .ty "tuple") (by rfl) T.tup (by decide +kernel) rfl) pa_nil)))) (pss_one ps_never) pss_nil)
      (pss_cons (ps_if (pt_val (pe_callB call_isi (by rfl) T.isi (by decide +kernel) (pa_cons (pv 0) (pa_cons (pe_bltn (v := .ty "list") (by rfl) T.lst (by decide +kernel) rfl) pa_nil)))) (pss_one ps_never) pss_nil)
      (pss_cons (ps_if (pt_val (pe_callB call_isi (by rfl) T.isi (by decide +kernel) (pa_cons (pv 0) (pa_cons (pe_bltn (v := .ty "dict") (by rfl) T.dct (by decide +kernel) rfl) pa_nil)))) (pss_one ps_never) pss_nil)
      (pss_one (ps_ret (pv 0))))), ?_⟩
    refine ⟨_, rfl, v, _, _, _, false, rfl, .ty "tuple", atom_ty hv, atom_no hv K (.inl rfl), _, rfl, iteF ?_⟩
    refine ⟨_, rfl, v, _, _, _, false, rfl, .ty "list", atom_ty hv, atom_no hv K (.inr (.inl rfl)), _, rfl, iteF ?_⟩
    refine ⟨_, rfl, v, _, _, _, false, rfl, .ty "dict", atom_ty hv, atom_no hv K (.inr (.inr rfl)), _, rfl, iteF ?_⟩
    exact ⟨_, rfl, q⟩
theorem sqT_ty {H : Hp} {a : Addr} {xs : List V} (h : SqT K H a xs) : TyX K H (.ref a) (.type "tuple") := by
  rcases h with (h | ⟨o, h⟩) | ⟨o, its, n, h, c, _⟩
  · exact .base (.tup h)
  · exact .fTuple h
  · exact .kTuple h c
/-- a tuple of atoms: a new tuple of the same -/
def spTupA (K : PySem.W.Frag) : Sp := fun vs H Q _ => ∃ (a : Addr) (xs : List V), vs = [.ref a] ∧ SqT K H a xs ∧ Atoms xs ∧ xs.length ≤ 1000 ∧ ∀ (b : Addr) (H' : Hp), Same H H' → H b = none → H' b = some (.tup xs) → Q (.ref b) H'
theorem ok_tupA {f : Addr} {fd : FuncData} (F : Fun K "copied" "copied" sCopied f fd) (T : TxtC mg) (mC : mg "copied" = some (.ref f)) (bC : Binds K fd ["thing"] []) : FnOk P w K mg base CX0 2 f fd ["thing"] (spTupA K) := by
  have G : FnOk P w K mg base CX0 1 f fd ["thing"] spAtom := ok_atom F T
  refine F.ok scC (fun vs H Q E h => ?_) (fun cdv A outer s H vs Q E hr h => ?_)
  · obtain ⟨a, xs, rfl, _⟩ := h
    rfl
  · obtain ⟨a, xs, rfl, ha, hat, hl, k⟩ := h
    refine ⟨_, pss_cons (ps_if (pt_val (pe_callB call_isi (by rfl) T.isi (by decide +kernel) (pa_cons (pv 0) (pa_cons (pe_bltn (v := .ty "tuple") (by rfl) T.tup (by decide +kernel) rfl) pa_nil)))) (pss_one (ps_ret (pe_callTy call_tuple_of (by rfl) T.tup (by decide +kernel)
          (pa_cons (pe_lc (own := [("inner", 1)]) (g := gName 1) (tt := tYes) rfl scC.nd (pi_tup (pv 0)) (blkOk_by (N := ["thing", "inner", "key"]) (sc := defScope sCopied) (by decide +kernel)) (fun _ _ _ _ _ => pg_name (i := 1) scC.nd rfl (Or.inl rfl)) (fun _ _ _ _ _ => pts_nil) (fun _ _ _ _ _ => pe_call G hr rfl mC F.kp bC .nil pass0 (pa_cons (pv 1) pa_nil))) pa_nil)))) pss_nil)
      (pss_cons ps_never (pss_cons ps_never (pss_one ps_never))), ?_⟩
    refine ⟨_, rfl, _, _, _, _, true, rfl, .ty "tuple", sqT_ty ha, kit_ty (by decide +kernel), _, rfl, iteT ?_⟩
    refine ⟨_, rfl, a, rfl, ⟨xs, ha⟩, fun D hD => ?_⟩
    refine lc_tup (xs := xs) (fun i H' => H' = upd H D (.lst (xs.take i))) rfl (fun i H' _ e => by subst e; exact SqT.keep ha (same_new hD)) ?_ ?_
    · intro i x H' hx e
      subst e
      refine ⟨rfl, iteT (B := True) ⟨x, rfl, x, rfl, hat x (List.mem_of_getElem? hx), xs.take i, upd_same, ?_, ?_⟩⟩
      · rw [sizeLine_eq, List.length_take]; omega
      · rw [upd_upd, ← take_snoc hx]
    · intro H' e
      subst e
      rw [List.take_length]
      refine ⟨D, xs, rfl, .inl ⟨SqL.of upd_same, fun b hb => ?_⟩⟩
      have bD : b ≠ D := fun z => by rw [z, upd_same] at hb; cases hb
      have hbn : H b = none := by rw [upd_ne bD] at hb; exact hb
      exact k b _ ((same_new hD).trans (same_new hb)) hbn upd_same
/-- a list of atoms: a new list of the same -/
def spLstA : Sp := fun vs H Q _ => ∃ (a : Addr) (xs : List V), vs = [.ref a] ∧ H a = some (.lst xs) ∧ Atoms xs ∧ xs.length ≤ 1000 ∧ ∀ (b : Addr) (H' : Hp), Same H H' → H b = none → H' b = some (.lst xs) → Q (.ref b) H'
theorem ok_lstA {f : Addr} {fd : FuncData} (F : Fun K "copied" "copied" sCopied f fd) (T : TxtC mg) (mC : mg "copied" = some (.ref f)) (bC : Binds K fd ["thing"] []) : FnOk P w K mg base CX0 2 f fd ["thing"] spLstA := by
  have G : FnOk P w K mg base CX0 1 f fd ["thing"] spAtom := ok_atom F T
  refine F.ok scC (fun vs H Q E h => ?_) (fun cdv A outer s H vs Q E hr h => ?_)
  · obtain ⟨a, xs, rfl, _⟩ := h
    rfl
  · obtain ⟨a, xs, rfl, ha, hat, hl, k⟩ := h
    refine ⟨_, pss_cons (ps_if (pt_val (pe_callB call_isi (by rfl) T.isi (by decide +kernel) (pa_cons (pv 0) (pa_cons (pe_bltn (v := .ty "tuple") (by rfl) T.tup (by decide +kernel) rfl) pa_nil)))) (pss_one ps_never) pss_nil)
      (pss_cons (ps_if (pt_val (pe_callB call_isi (by rfl) T.isi (by decide +kernel) (pa_cons (pv 0) (pa_cons (pe_bltn (v := .ty "list") (by rfl) T.lst (by decide +kernel) rfl) pa_nil)))) (pss_one (ps_ret
          (pe_lc (own := [("inner", 1)]) (g := gName 1) (tt := tYes) rfl scC.nd (pi_list (pv 0)) (blkOk_by (N := ["thing", "inner", "key"]) (sc := defScope sCopied) (by decide +kernel)) (fun _ _ _ _ _ => pg_name (i := 1) scC.nd rfl (Or.inl rfl)) (fun _ _ _ _ _ => pts_nil) (fun _ _ _ _ _ => pe_call G hr rfl mC F.kp bC .nil pass0 (pa_cons (pv 1) pa_nil))))) pss_nil)
      (pss_cons ps_never (pss_one ps_never))), ?_⟩
    refine ⟨_, rfl, _, _, _, _, false, rfl, .ty "tuple", .base (.lst ha), kit_ty (by decide +kernel), _, rfl, iteF ?_⟩
    refine ⟨_, rfl, _, _, _, _, true, rfl, .ty "list", .base (.lst ha), kit_ty (by decide +kernel), _, rfl, iteT ?_⟩
    refine ⟨_, rfl, a, rfl, ⟨xs, SqL.of ha⟩, fun D hD => ?_⟩
    refine lc_list (xs := xs) (fun i H' => H' = upd H D (.lst (xs.take i))) rfl (fun i H' _ e => by subst e; exact SqL.of (same_new hD _ _ ha)) ?_ ?_
    · intro i x H' hx e
      subst e
      refine ⟨rfl, iteT (B := True) ⟨x, rfl, x, rfl, hat x (List.mem_of_getElem? hx), xs.take i, upd_same, ?_, ?_⟩⟩
      · rw [sizeLine_eq, List.length_take]; omega
      · rw [upd_upd, ← take_snoc hx]
    · intro H' e
      subst e
      rw [List.take_length]
      exact k D _ (same_new hD) hD upd_same
theorem strK_get {ps : List (Str × V)} {i : Nat} {k : Key} {v : V} (h : (strK ps)[i]? = some (k, v)) : ∃ x, ps[i]? = some (x, v) ∧ k = Sum.inr x := by
  unfold strK at h
  rw [List.getElem?_map] at h
  obtain ⟨p, hp, e⟩ := Option.map_eq_some_iff.mp h
  cases e
  exact ⟨p.1, hp, rfl⟩
theorem strK_val {ps : List (Str × V)} (nd : (ps.map (·.1)).Nodup) {i : Nat} {x : Str} {v : V} (h : ps[i]? = some (x, v)) : valV (strK ps) (Sum.inr x) = some v := by
  induction ps generalizing i with
  | nil => simp at h
  | cons p r ih =>
    obtain ⟨n1, n2⟩ := List.nodup_cons.mp (show (p.1 :: r.map (·.1)).Nodup from nd)
    cases i with
    | zero =>
      simp at h
      subst h
      exact valV_pos (p := (Sum.inr x, v)) rfl
    | succ i =>
      have h' : r[i]? = some (x, v) := by simpa using h
      have hne : ¬ (Sum.inr p.1 : Key) = Sum.inr x := fun e => by
        cases e
        exact n1 (List.mem_map.mpr ⟨_, List.mem_of_getElem? h', rfl⟩)
      exact (valV_neg (p := (Sum.inr p.1, p.2)) hne).trans (ih n2 h')
theorem strK_put {ps : List (Str × V)} (nd : (ps.map (·.1)).Nodup) {i : Nat} {x : Str} {v : V} (h : ps[i]? = some (x, v)) : putK (strK (ps.take i)) (Sum.inr x) v = strK (ps.take (i + 1)) := by
  have hn : valV (strK (ps.take i)) (Sum.inr x) = none := by
    have key : ∀ qs : List (Str × V), x ∉ qs.map (·.1) → valV (strK qs) (Sum.inr x) = none := by
      intro qs
      induction qs with
      | nil => intro _; rfl
      | cons q r ih =>
        intro hx
        have hne : ¬ (Sum.inr q.1 : Key) = Sum.inr x := fun e => by
          cases e
          exact hx List.mem_cons_self
        exact (valV_neg (p := (Sum.inr q.1, q.2)) hne).trans (ih fun z => hx (List.mem_cons_of_mem _ z))
    refine key _ fun z => ?_
    rw [List.map_take] at z
    have hi : (ps.map (·.1))[i]? = some x := by rw [List.getElem?_map, h]; rfl
    obtain ⟨j, hj, e⟩ := List.getElem_of_mem z
    rw [List.length_take] at hj
    rw [List.getElem_take] at e
    obtain ⟨hl, e2⟩ := List.getElem?_eq_some_iff.mp hi
    have := (List.pairwise_iff_getElem.mp nd) j i (by omega) hl (by omega)
    exact this (e.trans e2.symm)
  rw [putK_new _ hn, take_snoc h]
  unfold strK
  rw [List.map_append]
  rfl
/-- a dict of atoms: a new dict of the same -/
def spDctA : Sp := fun vs H Q _ => ∃ (a : Addr) (ps : List (Str × V)), vs = [.ref a] ∧ H a = some (.dK (strK ps)) ∧ Atoms (ps.map (·.2)) ∧ (ps.map (·.1)).Nodup ∧ ps.length ≤ 1000 ∧ ∀ (b : Addr) (H' : Hp), Same H H' → H b = none → H' b = some (.dK (strK ps)) → Q (.ref b) H'
theorem ok_dctA {f : Addr} {fd : FuncData} (F : Fun K "copied" "copied" sCopied f fd) (T : TxtC mg) (mC : mg "copied" = some (.ref f)) (bC : Binds K fd ["thing"] []) : FnOk P w K mg base CX0 2 f fd ["thing"] spDctA := by
  have G : FnOk P w K mg base CX0 1 f fd ["thing"] spAtom := ok_atom F T
  refine F.ok scC (fun vs H Q E h => ?_) (fun cdv A outer s H vs Q E hr h => ?_)
  · obtain ⟨a, ps, rfl, _⟩ := h
    rfl
  · obtain ⟨a, ps, rfl, ha, hat, nd, hl, k⟩ := h
    refine ⟨_, pss_cons (ps_if (pt_val (pe_callB call_isi (by rfl) T.isi (by decide +kernel) (pa_cons (pv 0) (pa_cons (pe_bltn (v := .ty "tuple") (by rfl) T.tup (by decide +kernel) rfl) pa_nil)))) (pss_one ps_never) pss_nil)
      (pss_cons (ps_if (pt_val (pe_callB call_isi (by rfl) T.isi (by decide +kernel) (pa_cons (pv 0) (pa_cons (pe_bltn (v := .ty "list") (by rfl) T.lst (by decide +kernel) rfl) pa_nil)))) (pss_one ps_never) pss_nil)
      (pss_cons (ps_if (pt_val (pe_callB call_isi (by rfl) T.isi (by decide +kernel) (pa_cons (pv 0) (pa_cons (pe_bltn (v := .ty "dict") (by rfl) T.dct (by decide +kernel) rfl) pa_nil)))) (pss_one (ps_ret
          (pe_lock (pe_dc (own := [("key", 2)]) (g := gName 2) (tt := tYes) rfl scC.nd (pi_keys (pv 0)) (blkOk_by (N := ["thing", "inner", "key"]) (sc := defScope sCopied) (by decide +kernel)) (fun _ _ _ _ _ => pg_name (i := 2) scC.nd rfl (Or.inl rfl)) (fun _ _ _ _ _ => pts_nil) (fun _ _ _ _ _ => pv 2) (fun _ _ _ _ _ => pe_call G hr rfl mC F.kp bC .nil pass0 (pa_cons (pe_dget (hu_of hr) (pv 0) (pv 2) (fun _ _ => rfl)) pa_nil)))))) pss_nil)
      (pss_one ps_never))), ?_⟩
    refine ⟨_, rfl, _, _, _, _, false, rfl, .ty "tuple", .base (.dK ha), kit_ty (by decide +kernel), _, rfl, iteF ?_⟩
    refine ⟨_, rfl, _, _, _, _, false, rfl, .ty "list", .base (.dK ha), kit_ty (by decide +kernel), _, rfl, iteF ?_⟩
    refine ⟨_, rfl, _, _, _, _, true, rfl, .ty "dict", .base (.dK ha), kit_ty (by decide +kernel), _, rfl, iteT ?_⟩
    refine ⟨a, _, ha, True.intro, fun od => ?_⟩
    refine ⟨_, rfl, a, od, rfl, .inl ⟨_, upd_same, fun D hD => ?_⟩⟩
    have aD : D ≠ a := fun z => by rw [z, upd_same] at hD; cases hD
    have nD : H D = none := by rw [upd_ne aD] at hD; exact hD
    refine dc_go (walk_keys (kvs := strK ps)) (fun i H' => H' = upd (upd H a (.frz od (.dK (strK ps)))) D (.dK (strK (ps.take i)))) rfl (fun i H' _ e => by subst e; rw [upd_ne aD.symm]; exact upd_same) ?_ ?_
    · intro i x H1 H' hi e y
      subst e
      obtain ⟨eH, kk, v, hkv, rfl⟩ := y
      subst eH
      obtain ⟨z, hz, rfl⟩ := strK_get hkv
      refine ⟨rfl, iteT (B := True) ⟨_, rfl, _, rfl, _, rfl, a, v, rfl, ?_, v, rfl, hat v (List.mem_map.mpr ⟨_, List.mem_of_getElem? hz, rfl⟩), strK (ps.take i), Sum.inr z, rfl, upd_same, ?_, ?_⟩⟩
      · exact .inl ⟨_, Sum.inr z, .inr ⟨od, by rw [upd_ne aD.symm]; exact upd_same⟩, rfl, (strK_val nd hz).symm⟩
      · unfold strK
        rw [sizeLine_eq, List.length_map, List.length_take]; omega
      · rw [upd_upd, strK_put nd hz]
    · intro H' e
      subst e
      have hlen : (strK ps).length = ps.length := by unfold strK; rw [List.length_map]
      rw [hlen, List.take_length]
      refine ⟨by rw [upd_ne aD.symm]; exact upd_same, ?_⟩
      refine k D _ (fun b o e => ?_) nD (by rw [upd_ne aD, upd_same])
      by_cases hb : b = a
      · subst hb
        rw [ha] at e
        cases e
        exact upd_same
      · rw [upd_ne hb, upd_ne (ne_of_none e nD), upd_ne hb]
        exact e
def spCopy (K : PySem.W.Frag) : Sp := fun vs H Q _ => ∃ (v : V) (d : PyData), vs = [v] ∧ Flat K H v d ∧ ∀ v' H', Same H H' → Flat K H' v' d → Q v' H'
theorem ok_copy {f : Addr} {fd : FuncData} (F : Fun K "copied" "copied" sCopied f fd) (T : TxtC mg) (mC : mg "copied" = some (.ref f)) (bC : Binds K fd ["thing"] []) : FnOk P w K mg base CX0 2 f fd ["thing"] (spCopy K) := by
  have G1 : FnOk P w K mg base CX0 2 f fd ["thing"] spAtom := (ok_atom F T).mono (by decide)
  have G2 : FnOk P w K mg base CX0 2 f fd ["thing"] (spTupA K) := ok_tupA F T mC bC
  have G3 : FnOk P w K mg base CX0 2 f fd ["thing"] spLstA := ok_lstA F T mC bC
  have G4 : FnOk P w K mg base CX0 2 f fd ["thing"] spDctA := ok_dctA F T mC bC
  refine ⟨fun vs H Q E h => ?_, fun A outer s H args us vs Q E hr he hb hv hs => ?_⟩
  · obtain ⟨v, d, rfl, _⟩ := h
    rfl
  · obtain ⟨v, d, rfl, hp, k⟩ := hs
    cases id hp with
    | atom h => exact G1.run A outer s H args us _ Q E hr he hb hv ⟨v, rfl, h, k v H (Same.refl H) hp⟩
    | tup h x l => exact G2.run A outer s H args us _ Q E hr he hb hv ⟨_, _, rfl, h, x, l, fun b H' sm _ e => k _ H' sm (.tup (SqT.of e) x l)⟩
    | lst h x l => exact G3.run A outer s H args us _ Q E hr he hb hv ⟨_, _, rfl, h, x, l, fun b H' sm _ e => k _ H' sm (.lst e x l)⟩
    | dct h x nd l => exact G4.run A outer s H args us _ Q E hr he hb hv ⟨_, _, rfl, h, x, nd, l, fun b H' sm _ e => k _ H' sm (.dct e x nd l)⟩
end
end Bo

set_option Elab.async false
set_option linter.all false
set_option maxRecDepth 100000
set_option maxHeartbeats 8000000
namespace Bo
open PySem L2
abbrev sIsName : Stmt := top 23
def lets : Str := Str.ofString "abcdefghijklmnopqrstuvwxyz"
def digs : Str := Str.ofString "0123456789"
def isLet (c : Nat) : Bool := decide (c ∈ lets.cps.toList)
def isSign (c : Nat) : Bool := decide (c ∈ lets.cps.toList) || decide (c ∈ digs.cps.toList)
/-- x is a name -/
def nameOk (x : Str) : Bool := decide (1 ≤ x.cps.toList.length) && (decide (x.cps.toList.length ≤ 8) && ((x.cps.toList.head?.any isLet) && x.cps.toList.all isSign))
def nameV : V → Bool
  | .str x => nameOk x
  | _ => false
structure TxtN (mg : Str → Option Value) : Prop extends TxtC mg where
  let_ : ∃ t, mg "LETTERS" = some (.str lets t)
  dig : ∃ t, mg "DIGITS" = some (.str digs t)
  lon : ∃ t, mg "LONGEST_NAME" = some (.int 8 t)
  len : mg "len" = none
  str_ : mg "str" = none
  all_ : mg "all" = none
/-- v is no text, of one of the kinds of flat data -/
theorem flat_ty {K : PySem.W.Frag} {H : Hp} {v : V} {d : PyData} (h : Flat K H v d) : (∃ x, v = .str x) ∨ ∃ t : Value, TyX K H v t ∧ PySem.W.kitOne K t (.type "str") = some false := by
  cases h with
  | atom h =>
    cases v with
    | str x => exact .inl ⟨x, rfl⟩
    | non => exact .inr ⟨_, .base .non, kit_ty (by decide +kernel)⟩
    | bl b => exact .inr ⟨_, .base (.bl b), kit_ty (by decide +kernel)⟩
    | int i => exact .inr ⟨_, .base (.int i), kit_ty (by decide +kernel)⟩
    | _ => cases h
  | tup h x l => exact .inr ⟨_, sqT_ty h, kit_ty (by decide +kernel)⟩
  | lst h x l => exact .inr ⟨_, .base (.lst h), kit_ty (by decide +kernel)⟩
  | dct h x nd l => exact .inr ⟨_, .base (.dK h), kit_ty (by decide +kernel)⟩
theorem nameV_no {v : V} (h : ∀ x, v ≠ .str x) : nameV v = false := by
  cases v with
  | str x => exact absurd rfl (h x)
  | _ => rfl
/-- is_name(thing) -/
def spIsName (K : PySem.W.Frag) : Sp := fun vs H Q _ => ∃ (v : V) (d : PyData), vs = [v] ∧ Flat K H v d ∧ (∀ x, v = .str x → x.length ≤ 1000) ∧ ∀ H', Same H H' → Q (.bl (nameV v)) H'
section
variable {P : Program} {w : World} {K : PySem.W.Frag} {mg : Str → Option Value} {base : Heap}
theorem scN : FnScope ["thing", "sign"] ["thing"] (defScope sIsName) := ⟨rfl, rfl, rfl, by decide +kernel, rfl, by decide +kernel, by decide +kernel⟩
theorem ok_isName {f : Addr} {fd : FuncData} (F : Fun K "is_name" "is_name" sIsName f fd) (T : TxtN mg) : FnOk P w K mg base CX0 1 f fd ["thing"] (spIsName K) := by
  obtain ⟨t1, mL⟩ := T.let_
  obtain ⟨t2, mD⟩ := T.dig
  obtain ⟨t3, mO⟩ := T.lon
  refine F.ok scN (fun vs H Q E h => ?_) (fun cdv A outer s H vs Q E hr h => ?_)
  · obtain ⟨v, d, rfl, _⟩ := h
    rfl
  · obtain ⟨v, d, rfl, hf, hz, k⟩ := h
    refine ⟨_, pss_cons (ps_if (PW.pt (pw_or (pt_not (pt_val (pe_callB call_isi (by rfl) T.isi (by decide +kernel) (pa_cons (pv 0) (pa_cons (pe_bltn (v := .ty "str") (by rfl) T.str_ (by decide +kernel) rfl) pa_nil)))))
          (pw_or1 (pt_not (pt_chain op_le op_le pe_int (pe_callB call_len_str (by rfl) T.len PySem.boot_len (pa_cons (pv 0) pa_nil)) (pe_glob (v := .int 8) (by rfl) mO ⟨_, rfl⟩)))))) (pss_one (ps_ret pe_bl)) pss_nil)
      (pss_one (ps_ret (pe_and (pe_cmpR op_in_sign (pe_ix ix_str (pv 0) pe_int (fun _ _ => rfl)) (pe_glob (v := .str lets) (by rfl) mL ⟨_, rfl⟩) (by rfl))
        (pe_one (pe_callB (cr_all rfl) (by rfl) T.all_ (by decide +kernel) (pa_cons (pe_lc (own := [("sign", 1)]) (g := gName 1) (tt := tYes) rfl scN.nd (pi_str (pv 0)) (blkOk_by (N := ["thing", "sign"]) (sc := defScope sIsName) (by decide +kernel)) (fun _ _ _ _ _ => pg_name (i := 1) scN.nd rfl (Or.inl rfl)) (fun _ _ _ _ _ => pts_nil)
          (fun _ _ _ _ _ => pe_or (pe_cmpR op_in_sign (pv 1) (pe_glob (v := .str lets) (by rfl) mL ⟨_, rfl⟩) (by rfl)) (pe_one (pe_cmpR op_in_sign (pv 1) (pe_glob (v := .str digs) (by rfl) mD ⟨_, rfl⟩) (by rfl))))) pa_nil)))))), ?_⟩
    rcases flat_ty hf with ⟨x, rfl⟩ | ⟨t, ty, kn⟩
    · have hl := hz x rfl
      refine ⟨_, rfl, _, _, _, _, true, rfl, .ty "str", .base (.str x), kit_ty (by decide +kernel), _, rfl, iteF ?_⟩
      refine ⟨_, rfl, x, rfl, by rw [sizeLine_eq]; omega, _, _, rfl, rfl, _, rfl, ?_⟩
      have lenE : x.cps.toList.length = x.length := by show _ = x.cps.size; exact Array.length_toList
      have bad : (1 ≤ x.cps.toList.length ∧ x.cps.toList.length ≤ 8 → False) → Q (.bl false) H := fun hb => by
        have e : nameV (.str x) = false := by
          show (decide _ && (decide _ && _)) = false
          by_cases h1 : 1 ≤ x.cps.toList.length
          · rw [decide_eq_false (fun h2 => hb ⟨h1, h2⟩), Bool.false_and, Bool.and_false]
          · rw [decide_eq_false h1, Bool.false_and]
        rw [← e]
        exact k H (Same.refl H)
      refine ite2 (fun h1 => ?_) (fun h1 => ⟨_, rfl, iteT (bad fun z => h1 (decide_eq_true (by omega)))⟩)
      have h1 : (1 : Int) ≤ x.length := of_decide_eq_true h1
      refine ⟨_, _, rfl, rfl, _, rfl, ite2 (fun h2 => bad fun z => ?_) (fun h2 => ?_)⟩
      · rw [decide_eq_true (show ((x.length : Nat) : Int) ≤ 8 by omega)] at h2
        cases h2
      have h2 : (x.length : Int) ≤ 8 := by
        by_cases z : (x.length : Int) ≤ 8
        · exact z
        · exact absurd (by rw [decide_eq_false z]; rfl) h2
      obtain ⟨c, hc⟩ : ∃ c, x.cps.toList[0]? = some c := ⟨_, List.getElem?_eq_getElem (by omega)⟩
      have hhd : x.cps.toList.head? = some c := by
        rw [List.head?_eq_getElem?]
        exact hc
      have val : nameV (.str x) = (isLet c && x.cps.toList.all isSign) := by
        show (decide _ && (decide _ && _)) = _
        rw [decide_eq_true (show 1 ≤ x.cps.toList.length by omega), decide_eq_true (show x.cps.toList.length ≤ 8 by omega), hhd, Bool.true_and, Bool.true_and]
        rfl
      refine ⟨_, rfl, x, 0, c, rfl, rfl, by rw [sizeLine_eq]; omega, atI_nat (j := 0) hc, c, lets, rfl, rfl, _, rfl, ite2 (fun h3 => ?_) (fun h3 => ?_)⟩
      · refine ⟨_, rfl, x, rfl, fun D hD => ?_⟩
        refine lc_it walk_str (fun i H' => H' = upd H D (.lst ((x.cps.toList.take i).map fun c => V.bl (isSign c)))) rfl (fun _ _ _ _ => True.intro) ?_ ?_
        · intro i v H1 H' hi e y
          subst e
          obtain ⟨eH, c', hc', rfl⟩ := y
          subst eH
          have hc2 : x.cps.toList[i]? = some c' := by rw [Array.getElem?_toList]; exact hc'
          have fin : ∀ b : Bool, b = isSign c' → ∃ acc, (upd H D (.lst ((x.cps.toList.take i).map fun c => V.bl (isSign c)))) D = some (.lst acc) ∧ acc.length < sizeLine ∧ upd (upd H D (.lst ((x.cps.toList.take i).map fun c => V.bl (isSign c)))) D (.lst (acc ++ [V.bl b])) = upd H D (.lst ((x.cps.toList.take (i + 1)).map fun c => V.bl (isSign c))) := fun b hb => by
            refine ⟨_, upd_same, by rw [sizeLine_eq, List.length_map, List.length_take]; omega, ?_⟩
            rw [upd_upd, take_snoc hc2, List.map_append, hb]
            rfl
          refine ⟨rfl, iteT (B := True) ⟨_, rfl, c', lets, rfl, rfl, _, rfl, ite2 (fun h4 => fin true ?_) (fun h4 => ⟨_, rfl, c', digs, rfl, rfl, fin _ ?_⟩)⟩⟩
          · show true = (decide _ || _)
            rw [h4]
            rfl
          · show _ = (decide (c' ∈ lets.cps.toList) || _)
            rw [decide_eq_false (fun z => h4 (decide_eq_true z)), Bool.false_or]
        · intro H' e
          subst e
          have en : x.cps.toList.take x.cps.size = x.cps.toList := by
            rw [← Array.length_toList, List.take_length]
          refine ⟨D, x.cps.toList.map isSign, rfl, SqL.of ?_, ?_⟩
          · rw [en, List.map_map]
            exact upd_same
          · have e2 : ((x.cps.toList.map isSign).all id) = nameV (.str x) := by
              rw [val, List.all_map]
              show _ = (decide (c ∈ lets.cps.toList) && _)
              rw [h3, Bool.true_and]
              rfl
            rw [e2, en]
            exact k _ (same_new hD)
      · have e : nameV (.str x) = false := by
          rw [val]
          show (decide (c ∈ lets.cps.toList) && _) = false
          rw [decide_eq_false (fun z => h3 (decide_eq_true z)), Bool.false_and]
        rw [← e]
        exact k H (Same.refl H)
    · have hno : nameV v = false := nameV_no fun x e => by
        subst e
        cases ty with
        | base h =>
          cases h
          rw [show PySem.W.kitOne K (.type "str") (.type "str") = some true from kit_ty (by decide +kernel)] at kn
          cases kn
      refine ⟨_, rfl, v, _, _, _, false, rfl, .ty "str", ty, kn, _, rfl, iteT (iteT ?_)⟩
      rw [← hno]
      exact k H (Same.refl H)
end
end Bo

set_option Elab.async false
set_option linter.all false
set_option maxRecDepth 100000
set_option maxHeartbeats 8000000
namespace Bo
open PySem L2
/-! ### an error's __init__: self.f = copied(f) -/
def spInit (K : PySem.W.Frag) (f : Str) : Sp := fun vs H Q _ => ∃ (a C : Addr) (v : V) (d : PyData), vs = [.ref a, v] ∧ H a = some (exo a C none) ∧ OexC K C ∧ PySem.W.findIn K (.ref C) f = some none ∧ Flat K H v d ∧
  ∀ (v' : V) (dx : Addr) (H' : Hp), (∀ b o, H b = some o → b ≠ a → H' b = some o) → H' a = some (exo a C (some dx)) → H' dx = some (exd dx [(f, v')]) → H dx = none → dx ≠ a → Flat K (del H' a) v' d → Q .non H'
theorem Flat.step {K : PySem.W.Frag} {H H' : Hp} {v : V} {d : PyData} (h : Flat K H v d) (kt : ∀ a xs, SqT K H a xs → SqT K H' a xs) (kl : ∀ a xs, H a = some (.lst xs) → H' a = some (.lst xs)) (kd : ∀ a kvs, H a = some (.dK kvs) → H' a = some (.dK kvs)) : Flat K H' v d := by
  cases h with
  | atom h => exact .atom h
  | tup h x l => exact .tup (kt _ _ h) x l
  | lst h x l => exact .lst (kl _ _ h) x l
  | dct h x nd l => exact .dct (kd _ _ h) x nd l
theorem exo_lst {e C : Addr} {d : Option Addr} {xs : List V} : exo e C d ≠ .lst xs := fun z => by cases (show HO.ext _ = HO.lst xs from z)
theorem exo_dK {e C : Addr} {d : Option Addr} {xs : List (Key × V)} : exo e C d ≠ .dK xs := fun z => by cases (show HO.ext _ = HO.dK xs from z)
theorem sqT_off {K : PySem.W.Frag} {H H' : Hp} {a : Addr} (k : ∀ b o, H b = some o → b ≠ a → H' b = some o) (ha : ∀ xs, H a ≠ some (.tup xs)) (hf : ∀ o xs, H a ≠ some (.frz o (.tup xs))) {b : Addr} {xs : List V} (h : SqT K H b xs) : SqT K H' b xs := by
  rcases h with (h | ⟨o, h⟩) | h
  · exact .inl (.inl (k _ _ h fun z => ha xs (z ▸ h)))
  · exact .inl (.inr ⟨o, k _ _ h fun z => hf o xs (z ▸ h)⟩)
  · exact .inr h
theorem init_read {K : PySem.W.Frag} {a C : Addr} {f : Str} {v : V} {d : PyData} {H : Hp} {Q : VK} (ha : H a = some (exo a C none)) (T : OexC K C) (hno : PySem.W.findIn K (.ref C) f = some none) (hp : Flat K H v d)
    (k : ∀ (v' : V) (dx : Addr) (H' : Hp), (∀ b o, H b = some o → b ≠ a → H' b = some o) → H' a = some (exo a C (some dx)) → H' dx = some (exd dx [(f, v')]) → H dx = none → dx ≠ a → Flat K (del H' a) v' d → Q .non H') :
    tOst K f (tVar 0) (tCall (spCopy K) [] E0 (tCons (tVar 1) tNil)) { nx := fun _ H' => Q .non H', rt := Q } [some (.ref a), some v] H := by
  refine ⟨v, rfl, v, d, rfl, hp, fun v' H1 sm hp' => ⟨_, rfl, a, C, rfl, T, hno, .inl ⟨sm _ _ ha, fun dx hdx ne => ?_⟩⟩⟩
  have keepO : ∀ b o, H1 b = some o → b ≠ a → (del (upd (upd H1 dx (exd dx [(f, v')])) a (exo a C (some dx))) a) b = some o := fun b o e ba => by
    rw [del_ne ba, upd_ne ba, upd_ne (ne_of_none e hdx)]
    exact e
  have ea := sm _ _ ha
  refine k v' dx _ (fun b o e ba => ?_) upd_same (by rw [upd_ne ne]; exact upd_same) (sm.free hdx) ne (hp'.step (fun b xs h => sqT_off keepO (fun xs e => ?_) (fun o xs e => ?_) h) (fun b xs e => keepO b _ e (at_ne ea e exo_lst)) fun b xs e => keepO b _ e (at_ne ea e exo_dK))
  · rw [upd_ne ba, upd_ne (ne_of_none (sm _ _ e) hdx)]
    exact sm _ _ e
  · rw [ea] at e
    exact exo_tup (Option.some.inj e)
  · rw [ea] at e
    exact exo_frz (Option.some.inj e)
section
variable {P : Program} {w : World} {K : PySem.W.Frag} {mg : Str → Option Value} {base : Heap}
abbrev sI5 : Stmt := inClass (top 5) 0
theorem scI5 : FnScope ["self", "name"] ["self", "name"] (defScope sI5) := ⟨rfl, rfl, rfl, by decide +kernel, rfl, by decide +kernel, by decide +kernel⟩
theorem ok_i5 {f fC : Addr} {fd fdC : FuncData} (F : Fun K "__init__" "InvalidName.__init__" sI5 f fd) (G : FnOk P w K mg base CX0 2 fC fdC ["thing"] (spCopy K)) (mC : mg "copied" = some (.ref fC)) (kC : PySem.W.keepIn K (.ref fC) = true) (bC : Binds K fdC ["thing"] []) :
    FnOk P w K mg base CX0 3 f fd ["self", "name"] (spInit K "name") := by
  refine F.ok scI5 (fun vs H Q E h => ?_) (fun cdv A outer s H vs Q E hr h => ?_)
  · obtain ⟨a, C, v, d, rfl, _⟩ := h
    rfl
  · obtain ⟨a, C, v, d, rfl, ha, T, hno, hp, k⟩ := h
    exact ⟨_, pss_one (ps_ost (pv 0) (pe_call G hr rfl mC kC bC .nil pass0 (pa_cons (pv 1) pa_nil))), init_read ha T hno hp k⟩
end
/-- what the written part says of an error class with one field -/
structure ErrC (K : PySem.W.Frag) (C fI : Addr) (f : Str) : Prop where
  o : OexC K C
  i : PySem.W.findIn K (.ref C) "__init__" = some (some (.ref fI))
  t : PySem.W.typeIn K (.ref fI) = some (.type "function")
  no : PySem.W.findIn K (.ref C) f = some none
/-- the error of the class at C, its field data d, is let out -/
def Thrown (K : PySem.W.Frag) (E : XK) (H : Hp) (C : Addr) (f : Str) (d : PyData) : Prop := ∀ (dx : Addr) (v : V) (H' : Hp), Same H H' → H' dx = some (.xd [(f, v)]) → Flat K H' v d → E (.ref C) (some dx) H'
theorem Thrown.later {K : PySem.W.Frag} {E : XK} {H H1 : Hp} {C : Addr} {f : Str} {d : PyData} (h : Thrown K E H C f d) (k : Same H H1) : Thrown K E H1 C f d := fun dx v H' k' e1 e2 => h dx v H' (k.trans k') e1 e2
/-- the reading of raise C(v) -/
theorem raise_read {K : PySem.W.Frag} {E : XK} {H : Hp} {C fI : Addr} {f : Str} {d : PyData} {v : V} (T : ErrC K C fI f) (hf : Flat K H v d) (h : Thrown K E H C f d) :
    [v].length ≤ 1000 ∧ ∀ a, H a = none → spInit K f (.ref a :: ([v] ++ [])) (upd H a (exo a C none)) (fun v H2 => v = .non ∧ ∃ (d : Addr) (fs : List (Str × V)), H2 a = some (exo a C (some d)) ∧ H2 d = some (exd d fs) ∧ H d = none ∧ E (.ref C) (some d) (upd (del H2 a) d (.xd fs))) (fun _ _ _ => False) := by
  refine ⟨by show 1 ≤ 1000; decide, fun a ha => ⟨a, C, v, d, rfl, upd_same, T.o, T.no, hf.keep (same_new ha), fun v' dx H' k e1 e2 e3 e4 e5 => ⟨rfl, dx, _, e1, e2, ?_, h dx v' _ (fun b o e => ?_) upd_same (e5.step ?_ ?_ ?_)⟩⟩⟩
  · rw [upd_ne e4] at e3
    exact e3
  · have ba := ne_of_none e ha
    have nd : b ≠ dx := fun z => by
      rw [upd_ne e4, ← z] at e3
      rw [e] at e3
      cases e3
    rw [upd_ne nd, del_ne ba]
    exact k b o (by rw [upd_ne ba]; exact e) ba
  · have hx : del H' a dx = some (exd dx [(f, v')]) := by rw [del_ne e4]; exact e2
    exact fun b xs q => sqT_off (fun c o e n => by rw [upd_ne n]; exact e) (fun xs e => by rw [hx] at e; exact exd_tup (Option.some.inj e)) (fun o xs e => by rw [hx] at e; cases (show HO.ext _ = HO.frz _ _ from Option.some.inj e)) q
  · have hx : del H' a dx = some (exd dx [(f, v')]) := by rw [del_ne e4]; exact e2
    exact fun b xs q => by
      have n : b ≠ dx := fun z => by rw [z, hx] at q; cases (show HO.ext _ = HO.lst _ from Option.some.inj q)
      rw [upd_ne n]; exact q
  · have hx : del H' a dx = some (exd dx [(f, v')]) := by rw [del_ne e4]; exact e2
    exact fun b xs q => by
      have n : b ≠ dx := fun z => by rw [z, hx] at q; cases (show HO.ext _ = HO.dK _ from Option.some.inj q)
      rw [upd_ne n]; exact q
end Bo

set_option Elab.async false
set_option linter.all false
set_option maxRecDepth 100000
set_option maxHeartbeats 8000000
namespace Bo
open PySem PySem.Spec PyProof.Rows L2
section
variable {X : Cx}
/-- d.copy(), d a dict that may be known -/
def tDCopy (to : TE) : TE := fun σ H Q => to σ H fun x H1 => ∃ a kvs, x = .ref a ∧ Rd H1 a (.dK kvs) ∧ ∀ p, H1 p = none → Q (.ref p) (upd H1 p (.dK kvs))
theorem pe_dcopy {o : Expr} {to : TE} {apos cpos : Pos} (ho : PE X o to) (hbase : attributeBase o "copy" X.env (eval o X.env) = eval o X.env := by rfl) (hline : (apos.endLine == cpos.line) = true := by rfl) :
    PE X (.Call (.Attribute o "copy" apos) [] [] cpos) (tDCopy to) := by
  refine ⟨fun pins s σ H Q I h => wpAny_Call_method0_late hbase hline (thn (ho.run pins s σ H _ I h) fun v s1 ⟨x, H1, I1, r1, a, kvs, ex, hd, q⟩ => ?_)⟩
  subst ex
  obtain rfl : v = Value.ref a := r1
  obtain ⟨z, sysn, vs, rel, dd⟩ := dk_rd I1.hok hd
  obtain ⟨ob, es, ep, ho1, hex, _⟩ := id dd
  refine ⟨"dict", "dict.copy", PySem.F.plainAttrs_dict, PySem.F.slot_dict_copy, PySem.F.type_dict_copy, ⟨ob, ho1, hex.1⟩, fun b e => ?_, Calls.callWith_builtin rfl (PySem.evalArgs_none ?_)⟩
  · cases e
    exact ⟨ob, ho1, hex.2.1⟩
  refine call_meetsIn PySem.F.slot_dict_copy ⟨ob, ho1, hex.1⟩ PySem.F.entry_dict_copy (PySem.F.args_dict_copy_1 _) (meets_dict_copy (mixKind X.prog X.w) a sysn) ⟨vs, dd, by rw [← rel.length]; exact z, fun h' d1 d2 k => ?_⟩
  exact ⟨.ref s1.heap.objs.size, _, I1.laid (t' := s1.toks) (a := s1.heap.objs.size) (o := .dK kvs) k (Nat.le_refl _) (dk_new z (beq_eq_false_iff_ne.mpr (Ne.symm (Nat.ne_of_lt I1.big))) rel d1), rfl, q _ (I1.hok.fresh (Nat.le_refl _))⟩
/-- len(d), d a dict that may be known -/
theorem call_lenR : CallR X (.builtin "len") (fun xs H Q => ∃ a kvs, xs = [V.ref a] ∧ Rd H a (.dK kvs) ∧ Q (.int kvs.length) H) := by
  intro pins s σ H xs us Q I r h
  obtain ⟨a, kvs, rfl, ha, q⟩ := h
  obtain ⟨u, rfl, ru⟩ := vals1 r
  cases ru
  exact d_len I ha fun t s' I' => ⟨.int kvs.length, H, I', ⟨t, rfl⟩, q⟩
end
/-! ### what a system consists of -/
structure Ct where
  cols : List Str
  rows : List (Str × List (Str × Int))
  cons : List (Str × Int)
def refK (rs : List (Str × Addr)) : List (Key × V) := rs.map fun p => (Sum.inr p.1, V.ref p.2)
def intK (l : List (Str × Int)) : List (Key × V) := l.map fun p => (Sum.inr p.1, V.int p.2)
theorem putF_len (f : Str) (v : V) : ∀ fs : List (Str × V), (putF f v fs).length ≤ fs.length + 1
  | [] => Nat.le_refl _
  | (g, x) :: r => by
    show (if g = f then _ else _ : List (Str × V)).length ≤ _
    split
    · simp
    · have := putF_len f v r
      simp only [List.length_cons]
      omega
/-- the fields of Contents -/
def ctF (ac ar ak : Addr) : List (Str × V) := putF "constants" (.ref ak) (putF "rows" (.ref ar) (putF "columns" (.ref ac) []))
theorem ctF_c (ac ar ak : Addr) : (ctF ac ar ak).lookup ("columns" : Str) = some (.ref ac) := by
  unfold ctF
  rw [lookup_putF, if_neg (by decide +kernel), lookup_putF, if_neg (by decide +kernel), lookup_putF, if_pos rfl]
theorem ctF_r (ac ar ak : Addr) : (ctF ac ar ak).lookup ("rows" : Str) = some (.ref ar) := by
  unfold ctF
  rw [lookup_putF, if_neg (by decide +kernel), lookup_putF, if_pos rfl]
theorem ctF_k (ac ar ak : Addr) : (ctF ac ar ak).lookup ("constants" : Str) = some (.ref ak) := by
  unfold ctF
  rw [lookup_putF, if_pos rfl]
/-- at a stands a Contents with the state S -/
structure CtAt (K : PySem.W.Frag) (CC : Addr) (H : Hp) (a : Addr) (S : Ct) (dx ac ar ak : Addr) (rs : List (Str × Addr)) : Prop where
  i : H a = some (.ins CC dx (ctF ac ar ak))
  c : SqT K H ac (S.cols.map V.str)
  r : Fz H ar (.dK (refK rs))
  p : Paired (fun (p : Str × List (Str × Int)) (q : Str × Addr) => p.1 = q.1 ∧ Fz H q.2 (.dK (intK p.2))) S.rows rs
  k : Fz H ak (.dK (intK S.cons))
def CtIn (K : PySem.W.Frag) (CC : Addr) (H : Hp) (a : Addr) (S : Ct) : Prop := ∃ dx ac ar ak rs, CtAt K CC H a S dx ac ar ak rs
theorem CtAt.keep {K : PySem.W.Frag} {CC : Addr} {H H' : Hp} {a : Addr} {S : Ct} {dx ac ar ak : Addr} {rs : List (Str × Addr)} (h : CtAt K CC H a S dx ac ar ak rs) (m : Same H H') : CtAt K CC H' a S dx ac ar ak rs :=
  ⟨m _ _ h.i, SqT.keep h.c m, h.r.keep m, Paired.mapP h.p fun p q z => ⟨z.1, z.2.keep m⟩, h.k.keep m⟩
theorem CtIn.keep {K : PySem.W.Frag} {CC : Addr} {H H' : Hp} {a : Addr} {S : Ct} (h : CtIn K CC H a S) (m : Same H H') : CtIn K CC H' a S :=
  let ⟨dx, ac, ar, ak, rs, z⟩ := h; ⟨dx, ac, ar, ak, rs, z.keep m⟩
/-- what the written part says of a class without more -/
structure ClsT (K : PySem.W.Frag) (C fI : Addr) : Prop where
  cl : Cls K C
  mkC : Mk K C fI
abbrev sCtInit : Stmt := inClass (top 30) 0
/-- Contents.__init__ -/
def spCtInit (CC : Addr) : Sp := fun vs H Q _ => ∃ (p dx ac ar ak : Addr), vs = [.ref p, .ref ac, .ref ar, .ref ak] ∧ H p = some (.ins CC dx []) ∧ ∀ H', (∀ b o, H b = some o → b ≠ p → H' b = some o) → H' p = some (.ins CC dx (ctF ac ar ak)) → Q .non H'
section
variable {P : Program} {w : World} {K : PySem.W.Frag} {mg : Str → Option Value} {base : Heap} {CC : Addr}
structure CtT (K : PySem.W.Frag) (mg : Str → Option Value) (CC fI : Addr) : Prop extends ClsT K CC fI where
  g : mg "Contents" = some (.ref CC)
  n1 : NoAttr K CC "columns"
  n2 : NoAttr K CC "rows"
  n3 : NoAttr K CC "constants"
theorem scCI : FnScope ["self", "columns", "rows", "constants"] ["self", "columns", "rows", "constants"] (defScope sCtInit) := ⟨rfl, rfl, rfl, by decide +kernel, rfl, by decide +kernel, by decide +kernel⟩
theorem ok_ctInit {f : Addr} {fd : FuncData} (F : Fun K "__init__" "Contents.__init__" sCtInit f fd) {fI : Addr} (T : CtT K mg CC fI) : FnOk P w K mg base CX0 1 f fd ["self", "columns", "rows", "constants"] (spCtInit CC) := by
  refine F.ok scCI (fun vs H Q E h => ?_) (fun cdv A outer s H vs Q E hr h => ?_)
  · obtain ⟨p, dx, ac, ar, ak, rfl, _⟩ := h
    rfl
  · obtain ⟨p, dx, ac, ar, ak, rfl, hp, k⟩ := h
    refine ⟨_, pss_cons (ps_fld (pv 0) (pv 1) rfl) (pss_cons (ps_fld (pv 0) (pv 2) rfl) (pss_one (ps_fld (pv 0) (pv 3) rfl))), ?_⟩
    refine ⟨_, rfl, _, rfl, p, CC, dx, [], rfl, hp, T.cl, T.n1, by decide, ?_⟩
    refine ⟨_, rfl, _, rfl, p, CC, dx, _, rfl, upd_same, T.cl, T.n2, by have := putF_len "columns" (.ref ac) []; simp only [List.length_nil] at this; omega, ?_⟩
    refine ⟨_, rfl, _, rfl, p, CC, dx, _, rfl, upd_same, T.cl, T.n3, by have := putF_len "columns" (.ref ac) []; have := putF_len "rows" (.ref ar) (putF "columns" (.ref ac) []); simp only [List.length_nil] at *; omega, ?_⟩
    rw [upd_upd, upd_upd]
    exact k _ (fun b o e n => by rw [upd_ne n]; exact e) upd_same
/-- Contents(c, r, k): what it gives -/
theorem mk_ct {H : Hp} {Q : VK} {E : XK} {ac ar ak : Addr} (k : ∀ (a dx : Addr) (H' : Hp), Same H H' → H' a = some (.ins CC dx (ctF ac ar ak)) → Q (.ref a) H') :
    ∀ x dx, H x = none → H dx = none → dx ≠ x → spCtInit CC (.ref x :: ([.ref ac, .ref ar, .ref ak] ++ [])) (upd (upd H dx (.own x)) x (.ins CC dx [])) (fun v H2 => v = .non ∧ Q (.ref x) H2) E :=
  fun x dx hx hd ne => ⟨x, dx, ac, ar, ak, rfl, upd_same, fun H' kk e => ⟨rfl, k x dx H' (fun b o q => kk b o (by rw [upd_ne (ne_of_none q hx), upd_ne (ne_of_none q hd)]; exact q) (ne_of_none q hx)) e⟩⟩
/-- replaced(table, key, thing) -/
abbrev sReplaced : Stmt := top 47
def spReplaced : Sp := fun vs H Q _ => ∃ (a : Addr) (kvs : List (Key × V)) (k : Key) (v : V), vs = [.ref a, kV k, v] ∧ Rd H a (.dK kvs) ∧ kvs.length < sizeLine ∧ ∀ (p : Addr), H p = none → Q (.ref p) (upd H p (.dK (putK kvs k v)))
theorem scRp : FnScope ["table", "key", "thing", "changed"] ["table", "key", "thing"] (defScope sReplaced) := ⟨rfl, rfl, rfl, by decide +kernel, rfl, by decide +kernel, by decide +kernel⟩
theorem ok_replaced {f : Addr} {fd : FuncData} (F : Fun K "replaced" "replaced" sReplaced f fd) : FnOk P w K mg base CX0 1 f fd ["table", "key", "thing"] spReplaced := by
  refine F.ok scRp (fun vs H Q E h => ?_) (fun cdv A outer s H vs Q E hr h => ?_)
  · obtain ⟨a, kvs, k, v, rfl, _⟩ := h
    rfl
  · obtain ⟨a, kvs, k, v, rfl, ha, hl, q⟩ := h
    have hu := hu_of hr
    refine ⟨_, pss_cons (ps_set (i := 3) scRp.nd rfl (.inl rfl) (pe_dcopy (pv 0))) (pss_cons (ps_dput hu (pv 3) (pv 1) (pv 2) rfl) (pss_one (ps_ret (pv 3)))), ?_⟩
    refine ⟨_, rfl, a, kvs, rfl, ha, fun p hp => ?_⟩
    refine ⟨_, rfl, _, rfl, _, rfl, p, _, rfl, DPut.k (k := k) upd_same hl, _, rfl, ?_⟩
    rw [upd_upd]
    exact q p hp
end
end Bo

set_option Elab.async false
set_option linter.all false
set_option maxRecDepth 100000
set_option maxHeartbeats 8000000
namespace Bo
open PySem L2
abbrev sWU : Stmt := top 33
structure TxtS (K : PySem.W.Frag) (mg : Str → Option Value) (CC fCI CN fIN : Addr) : Prop extends TxtN mg where
  ct : CtT K mg CC fCI
  en : ErrC K CN fIN "name"
  gN : mg "InvalidName" = some (.ref CN)
  set_ : mg "set" = none
  srt : mg "sorted" = none
  most : ∃ t, mg "MOST" = some (.int 24 t)
/-- with_unknowns(contents, names): all are names, none twice, none there, room for all; or the first that is none is told -/
def spWU (K : PySem.W.Frag) (CC CN : Addr) : Sp := fun vs H Q E => ∃ (c n : Addr) (S : Ct) (xs : List V), vs = [.ref c, .ref n] ∧ CtIn K CC H c S ∧ SqT K H n xs ∧ xs.length ≤ 100 ∧ S.cols.length ≤ 24 ∧ (∀ x ∈ xs, ∃ d, Flat K H x d) ∧ (∀ z, V.str z ∈ xs → z.length ≤ 1000) ∧
  ((∃ (i : Nat) (v : V) (d : PyData), xs[i]? = some v ∧ Flat K H v d ∧ nameV v = false ∧ (∀ j x, j < i → xs[j]? = some x → nameV x = true) ∧ Thrown K E H CN "name" d) ∨
   (∃ ys : List Str, xs = ys.map V.str ∧ (∀ y ∈ ys, nameOk y = true) ∧ (ys ++ S.cols).Nodup ∧ (ys ++ S.cols).length ≤ 24 ∧
     ∀ (a : Addr) (H' : Hp) (zs : List Str), Same H H' → zs.Perm (ys ++ S.cols) → PyProof.Rows.sortedS zs = true → CtIn K CC H' a { S with cols := zs } → Q (.ref a) H'))
section
variable {P : Program} {w : World} {K : PySem.W.Frag} {mg : Str → Option Value} {base : Heap} {CC fCI CN fIN : Addr}
theorem scWU : FnScope ["contents", "names", "name", "seen"] ["contents", "names"] (defScope sWU) := ⟨rfl, rfl, rfl, by decide +kernel, rfl, by decide +kernel, by decide +kernel⟩
theorem ok_wu {f fN : Addr} {fd fdN fdCI fdIN : FuncData} (F : Fun K "with_unknowns" "with_unknowns" sWU f fd) (T : TxtS K mg CC fCI CN fIN) 
    (GN : FnOk P w K mg base CX0 1 fN fdN ["thing"] (spIsName K)) (mN : mg "is_name" = some (.ref fN)) (kN : PySem.W.keepIn K (.ref fN) = true) (bN : Binds K fdN ["thing"] [])
    (GC : FnOk P w K mg base CX0 1 fCI fdCI ["self", "columns", "rows", "constants"] (spCtInit CC)) (bC : Binds K fdCI ["self", "columns", "rows", "constants"] [])
    (GI : FnOk P w K mg base CX0 3 fIN fdIN ["self", "name"] (spInit K "name")) (bI : Binds K fdIN ["self", "name"] []) :
    FnOk P w K mg base (L2.CX P w) 5 f fd ["contents", "names"] (spWU K CC CN) := by
  obtain ⟨tm, mM⟩ := T.most
  refine F.okX scWU (fun vs H Q E h => ?_) (fun cdv A outer s H vs Q E hr h => ?_)
  · obtain ⟨c, n, S, xs, rfl, _⟩ := h
    rfl
  · obtain ⟨c, n, S, xs, rfl, hc, hn, hl, hcl, hfl, hz, alt⟩ := h
    have hr1 : Room 1 _ := hr.mono (by decide)
    have hr2 : Room 2 _ := hr.mono (by decide)
    refine ⟨_, pss_cons (ps_for (passes_of rfl) rfl (pi_tup (pv 1)) (pg_name (i := 2) scWU.nd rfl (.inl rfl))
        (pss_one (ps_if (pt_not (pt_val (pe_call GN hr1 rfl mN kN bN .nil pass0 (pa_cons (pv 2) pa_nil)))) (pss_one (ps_raise rfl (takes_of rfl rfl rfl rfl) (pmk_oex T.en.o T.en.i T.en.t GI hr bI .nil pass0 rfl T.gN (pa_cons (pv 2) pa_nil)))) pss_nil)))
      (pss_cons (ps_set (i := 3) scWU.nd rfl (.inl rfl) (pe_callTy (cr_setTx rfl) (by rfl) T.set_ (by decide +kernel) (pa_cons (pe_fld (pv 0) rfl) pa_nil)))
      (pss_cons (ps_for (passes_of rfl) rfl (pi_tup (pv 1)) (pg_name (i := 2) scWU.nd rfl (.inl rfl))
        (pss_cons (ps_if (pt_cmpR op_inTx (pv 2) (pv 3) (by rfl)) (pss_one ps_never) pss_nil)
        (pss_one (ps_expr (pe_addTx (pv 3) (pa_cons (pv 2) pa_nil))))))
      (pss_cons (ps_if (pt_cmpR op_gt (pe_callB call_lenTx (by rfl) T.len PySem.boot_len (pa_cons (pv 3) pa_nil)) (pe_glob (v := .int 24) (by rfl) mM ⟨_, rfl⟩) (nomark _)) (pss_one ps_never) pss_nil)
      (pss_one (ps_ret (pe_make T.ct.mkC GC hr2 rfl T.ct.g bC .nil pass0 (pa_cons (pe_callTy call_tuple_of (by rfl) T.tup (by decide +kernel) (pa_cons (pe_callB (cr_sortTx rfl) (by rfl) T.srt (by decide +kernel) (pa_cons (pv 3) pa_nil)) pa_nil)) (pa_cons (pe_fld (pv 0) rfl) (pa_cons (pe_fld (pv 0) rfl) pa_nil))))))))), ?_⟩
    refine ⟨_, rfl, n, rfl, ⟨xs, hn⟩, ?_⟩
    refine for_tup (xs := xs) (fun i σ H' => (∃ z, σ = [some (.ref c), some (.ref n), z, none]) ∧ Same H H' ∧ ∀ j x, j < i → xs[j]? = some x → nameV x = true) ⟨⟨_, rfl⟩, Same.refl H, fun _ _ h => absurd h (by omega)⟩ (fun i σ H' _ p => SqT.keep hn p.2.1) ?_ ?_
    · -- one name
      rintro i x σ H1 hx ⟨⟨z, rfl⟩, sm, hp⟩
      obtain ⟨d, fx⟩ := hfl x (List.mem_of_getElem? hx)
      refine ⟨x, rfl, x, d, rfl, fx.keep sm, fun z e => hz z (e ▸ List.mem_of_getElem? hx), fun H2 sm2 => ⟨_, rfl, ?_⟩⟩
      cases hnx : nameV x with
      | true =>
        refine iteF ⟨⟨_, rfl⟩, sm.trans sm2, fun j y hj hy => ?_⟩
        by_cases e : j = i
        · subst e
          rw [hx] at hy
          cases hy
          exact hnx
        · exact hp j y (by omega) hy
      | false =>
        refine iteT ?_
        rcases alt with ⟨k, v, d2, hk, fv, hnv, hbef, thr⟩ | ⟨ys, rfl, hok, _⟩
        · have ek : k = i := by
            rcases Nat.lt_trichotomy k i with c | c | c
            · rw [hp k v c hk] at hnv
              cases hnv
            · exact c
            · rw [hbef i x c hx] at hnx
              cases hnx
          subst ek
          rw [hx] at hk
          cases hk
          exact ⟨_, rfl, raise_read T.en ((fv.keep sm).keep sm2) ((thr.later sm).later sm2)⟩
        · rw [List.getElem?_map] at hx
          obtain ⟨y, hy, rfl⟩ := Option.map_eq_some_iff.mp hx
          have := hok y (List.mem_of_getElem? hy)
          rw [show nameV (.str y) = nameOk y from rfl, this] at hnx
          cases hnx
    · -- all are names
      rintro σ H1 ⟨⟨z, rfl⟩, sm, hp⟩
      rcases alt with ⟨k, v, d2, hk, fv, hnv, hbef, thr⟩ | ⟨ys, rfl, hok, hnd, hfew, q⟩
      · rw [hp k v (List.getElem?_eq_some_iff.mp hk).1 hk] at hnv
        cases hnv
      obtain ⟨dx, ac, ar, ak, rs, hC⟩ := hc.keep sm
      refine ⟨_, rfl, c, CC, dx, _, _, rfl, hC.i, T.ct.cl, T.ct.n1, ctF_c _ _ _, ac, S.cols, rfl, hC.c, by show _ < 4096; omega, fun a ha => ?_⟩
      obtain ⟨nd1, nd2, nd3⟩ := List.nodup_append.mp hnd
      have sm1 : Same H1 (upd H1 a (TxO w a (onceTx S.cols))) := same_new ha
      refine ⟨_, rfl, n, rfl, ⟨_, SqT.keep (SqT.keep hn sm) sm1⟩, ?_⟩
      refine for_tup (xs := ys.map V.str) (fun i σ H' => (∃ z, σ = [some (.ref c), some (.ref n), z, some (.ref a)]) ∧ Same H1 H' ∧ ∃ us, us.Perm (ys.take i ++ S.cols) ∧ H' a = some (TxO w a us)) ⟨⟨_, rfl⟩, sm1, _, onceTx_perm nd2, upd_same⟩ (fun i σ H' _ p => SqT.keep (SqT.keep hn sm) p.2.1) ?_ ?_
      · rintro i x σ H2 hx ⟨⟨z, rfl⟩, sm2, us, pu, hu⟩
        rw [List.getElem?_map] at hx
        obtain ⟨y, hy, rfl⟩ := Option.map_eq_some_iff.mp hx
        have hyt : ys.take (i + 1) = ys.take i ++ [y] := take_snoc hy
        have hno : y ∉ us := fun hm => by
          have h2 : ((ys.take i ++ [y]) ++ S.cols).Nodup := by
            rw [← hyt]
            refine List.nodup_append.mpr ⟨nd1.sublist (List.take_sublist _ _), nd2, fun p hp q hq => nd3 p (List.mem_of_mem_take hp) q hq⟩
          have h3 : (y :: (ys.take i ++ S.cols)).Nodup := by
            have e : ((ys.take i ++ [y]) ++ S.cols).Perm (y :: (ys.take i ++ S.cols)) := by
              rw [List.append_assoc]
              exact List.perm_middle
            exact e.nodup_iff.mp h2
          exact (List.nodup_cons.mp h3).1 (pu.mem_iff.mp hm)
        refine ⟨_, rfl, _, rfl, y, a, us, rfl, rfl, hu, _, rfl, ?_⟩
        rw [show (if false = true then !decide (y ∈ us) else decide (y ∈ us)) = false from by rw [if_neg Bool.false_ne_true, decide_eq_false hno]]
        refine iteF ⟨_, rfl, ⟨a, us, rfl, hu⟩, _, rfl, a, us, y, rfl, rfl, hu, ?_, ?_⟩
        · have h1 := pu.length_eq
          rw [List.length_append, List.length_take] at h1
          rw [List.length_append] at hfew
          show _ < 4096
          omega
        · refine ⟨⟨_, rfl⟩, fun b o e => ?_, y :: us, ?_, ?_⟩
          · by_cases hb : b = a
            · subst hb
              rw [ha] at e
              cases e
            · rw [upd_ne hb]
              exact sm2 _ _ e
          · rw [hyt, List.append_assoc]
            exact (pu.cons y).trans List.perm_middle.symm
          · rw [addTx_new hno]
            exact upd_same
      · rintro σ H2 ⟨⟨z, rfl⟩, sm2, us, pu, hu⟩
        have el : (ys.map V.str).length = ys.length := List.length_map _
        rw [el, List.take_length] at pu
        have lu : us.length ≤ 24 := by rw [pu.length_eq]; exact hfew
        refine ⟨_, rfl, a, us, rfl, hu, _, _, rfl, rfl, _, rfl, ?_⟩
        rw [decide_eq_false (show ¬ ((24 : Int) < (us.length : Int)) by omega)]
        refine iteF ?_
        refine ⟨_, rfl, a, us, rfl, hu, by omega, fun zs p hp1 hp2 hp3 => ?_⟩
        have sm3 : Same H2 (upd H2 p (.lst (zs.map V.str))) := same_new hp3
        refine ⟨p, _, rfl, .inl ⟨SqL.of upd_same, fun t ht => ?_⟩⟩
        have sm4 := sm3.trans (same_new (o := .tup (zs.map V.str)) ht)
        have hC4 := (hC.keep sm2).keep sm4
        refine ⟨_, rfl, c, CC, dx, _, _, rfl, hC4.i, T.ct.cl, T.ct.n2, ctF_r _ _ _, _, rfl, c, CC, dx, _, _, rfl, hC4.i, T.ct.cl, T.ct.n3, ctF_k _ _ _, ?_⟩
        refine mk_ct fun b dy H5 sm5 hb => q b H5 zs ((sm.trans sm2).trans (sm4.trans sm5)) (hp1.trans pu) hp2 ⟨dy, t, ar, ak, rs, hb, SqT.of (sm5 _ _ upd_same), (hC4.keep sm5).r, (hC4.keep sm5).p, (hC4.keep sm5).k⟩
end
end Bo

set_option Elab.async false
set_option linter.all false
set_option maxRecDepth 100000
set_option maxHeartbeats 8000000
namespace Bo
open PySem L2
abbrev sCU : Stmt := top 44
abbrev sWE : Stmt := top 34
abbrev sWT : Stmt := top 36
theorem valV_out {k : Key} : ∀ {kvs : List (Key × V)}, k ∉ kvs.map (·.1) → valV kvs k = none
  | [], _ => rfl
  | p :: r, h => by
    have h1 : ¬ p.1 = k := fun e => h (by rw [List.map_cons, e]; exact List.mem_cons_self)
    exact (valV_neg (p := p) h1).trans (valV_out fun z => h (List.mem_cons_of_mem _ z))
theorem refK_out {rs : List (Str × Addr)} {y : Str} (h : y ∉ rs.map (·.1)) : valV (refK rs) (Sum.inr y) = none := valV_out fun z => by
  unfold refK at z
  rw [List.map_map] at z
  obtain ⟨p, hp, e⟩ := List.mem_map.mp z
  cases e
  exact h (List.mem_map.mpr ⟨p, hp, rfl⟩)
theorem intK_out {rs : List (Str × Int)} {y : Str} (h : y ∉ rs.map (·.1)) : valV (intK rs) (Sum.inr y) = none := valV_out fun z => by
  unfold intK at z
  rw [List.map_map] at z
  obtain ⟨p, hp, e⟩ := List.mem_map.mp z
  cases e
  exact h (List.mem_map.mpr ⟨p, hp, rfl⟩)
theorem pair_keys {F : (Str × List (Str × Int)) → (Str × Addr) → Prop} (hF : ∀ p q, F p q → p.1 = q.1) : ∀ {rows : List (Str × List (Str × Int))} {rs : List (Str × Addr)}, Paired F rows rs → rs.map (·.1) = rows.map (·.1)
  | _, _, .nil => rfl
  | _, _, .cons h t => by rw [List.map_cons, List.map_cons, pair_keys hF t, hF _ _ h]
theorem pair_snoc {α β : Type} {F : α → β → Prop} : ∀ {l₁ : List α} {l₂ : List β} {a : α} {b : β}, Paired F l₁ l₂ → F a b → Paired F (l₁ ++ [a]) (l₂ ++ [b])
  | _, _, _, _, .nil, h => .cons h .nil
  | _, _, _, _, .cons q t, h => .cons q (pair_snoc t h)
def spCU0 : Sp := fun vs H Q _ => ∃ (k u : Addr), vs = [.ref k, .ref u] ∧ H u = some (.lst []) ∧ Q .non H
/-- with_terms(contents, name, constant, []) -/
def spWT (K : PySem.W.Frag) (CC CN : Addr) : Sp := fun vs H Q E => ∃ (c l : Addr) (S : Ct) (v : V) (d : PyData) (m : Int), vs = [.ref c, v, .int m, .ref l] ∧ CtIn K CC H c S ∧ H l = some (.lst []) ∧ Flat K H v d ∧ (∀ z, v = .str z → z.length ≤ 1000) ∧
  ((nameV v = false ∧ Thrown K E H CN "name" d) ∨
   (∃ y : Str, v = .str y ∧ nameOk y = true ∧ y ∉ S.rows.map (·.1) ∧ y ∉ S.cons.map (·.1) ∧ S.rows.length < 24 ∧ S.cons.length < 24 ∧
     ∀ (a : Addr) (H' : Hp), Same H H' → CtIn K CC H' a { S with rows := S.rows ++ [(y, [])], cons := S.cons ++ [(y, m)] } → Q (.ref a) H'))
/-- with_equation(contents, name, ()) -/
def spWE (K : PySem.W.Frag) (CC CN : Addr) : Sp := fun vs H Q E => ∃ (c n : Addr) (S : Ct) (v : V) (d : PyData), vs = [.ref c, v, .ref n] ∧ CtIn K CC H c S ∧ SqT K H n [] ∧ Flat K H v d ∧ (∀ z, v = .str z → z.length ≤ 1000) ∧
  ((nameV v = false ∧ Thrown K E H CN "name" d) ∨
   (∃ y : Str, v = .str y ∧ nameOk y = true ∧ y ∉ S.rows.map (·.1) ∧ y ∉ S.cons.map (·.1) ∧ S.rows.length < 24 ∧ S.cons.length < 24 ∧
     ∀ (a : Addr) (H' : Hp), Same H H' → CtIn K CC H' a { S with rows := S.rows ++ [(y, [])], cons := S.cons ++ [(y, 0)] } → Q (.ref a) H'))
section
variable {P : Program} {w : World} {K : PySem.W.Frag} {mg : Str → Option Value} {base : Heap} {CC fCI CN fIN : Addr}
theorem scCU : FnScope ["known", "unknowns", "unknown", "at"] ["known", "unknowns"] (defScope sCU) := ⟨rfl, rfl, rfl, by decide +kernel, rfl, by decide +kernel, by decide +kernel⟩
theorem ok_cu0 {f : Addr} {fd : FuncData} (F : Fun K "check_unknowns" "check_unknowns" sCU f fd) (mE : mg "enumerate" = none) : FnOk P w K mg base CX0 1 f fd ["known", "unknowns"] spCU0 := by
  refine F.ok scCU (fun vs H Q E h => ?_) (fun cdv A outer s H vs Q E hr h => ?_)
  · obtain ⟨k, u, rfl, _⟩ := h
    rfl
  · obtain ⟨k, u, rfl, hu, q⟩ := h
    refine ⟨_, pss_cons (ps_for PassesOwn.never rfl (pi_list (pv 1)) (pg_name (i := 2) scCU.nd rfl (.inl rfl)) (pss_cons ps_never pss_nil))
      (pss_one (ps_for PassesOwn.never rfl (pi_enum (by rfl) mE (pa_cons (pv 1) pa_nil)) (pg_tup (by rfl) (pgs_cons (pg_name (i := 3) scCU.nd rfl (.inl rfl)) (pgs_cons (pg_name (i := 2) scCU.nd rfl (.inl rfl)) pgs_nil))) (pss_cons ps_never pss_nil))), ?_⟩
    refine ⟨_, rfl, u, rfl, ⟨[], SqL.of hu⟩, ?_⟩
    refine for_list (xs := []) (fun i σ H' => σ = [some (.ref k), some (.ref u), none, none] ∧ H' = H) ⟨rfl, rfl⟩ (fun i σ H' _ p => by rw [p.2]; exact SqL.of hu) (fun i x σ H' hx _ => by simp at hx) ?_
    rintro σ H' ⟨rfl, rfl⟩
    refine ⟨_, rfl, u, [], rfl, SqL.of hu, ?_⟩
    refine for_it (walk_enum (a := u) (xs := [])) (fun i σ H'' => H'' = H') rfl (fun i σ H'' _ p => by rw [p]; exact SqL.of hu) (fun i x σ H1 H2 hi => absurd hi (by simp)) ?_
    intro σ H'' e
    rw [e]
    exact q
theorem scWT : FnScope ["contents", "name", "constant", "terms", "rows", "unknown", "number"] ["contents", "name", "constant", "terms"] (defScope sWT) := ⟨rfl, rfl, rfl, by decide +kernel, rfl, by decide +kernel, by decide +kernel⟩
theorem ok_wt {f fN fU fR : Addr} {fd fdN fdCI fdIN fdU fdR : FuncData} (F : Fun K "with_terms" "with_terms" sWT f fd) (T : TxtS K mg CC fCI CN fIN) 
    (GN : FnOk P w K mg base CX0 1 fN fdN ["thing"] (spIsName K)) (mN : mg "is_name" = some (.ref fN)) (kN : PySem.W.keepIn K (.ref fN) = true) (bN : Binds K fdN ["thing"] [])
    (GU : FnOk P w K mg base CX0 1 fU fdU ["known", "unknowns"] spCU0) (mU : mg "check_unknowns" = some (.ref fU)) (kU : PySem.W.keepIn K (.ref fU) = true) (bU : Binds K fdU ["known", "unknowns"] [])
    (GR : FnOk P w K mg base CX0 1 fR fdR ["table", "key", "thing"] spReplaced) (mR : mg "replaced" = some (.ref fR)) (kR : PySem.W.keepIn K (.ref fR) = true) (bR : Binds K fdR ["table", "key", "thing"] [])
    (GC : FnOk P w K mg base CX0 1 fCI fdCI ["self", "columns", "rows", "constants"] (spCtInit CC)) (bC : Binds K fdCI ["self", "columns", "rows", "constants"] [])
    (GI : FnOk P w K mg base CX0 3 fIN fdIN ["self", "name"] (spInit K "name")) (bI : Binds K fdIN ["self", "name"] []) :
    FnOk P w K mg base (L2.CX P w) 5 f fd ["contents", "name", "constant", "terms"] (spWT K CC CN) := by
  obtain ⟨tm, mM⟩ := T.most
  refine F.okX scWT (fun vs H Q E h => ?_) (fun cdv A outer s H vs Q E hr h => ?_)
  · obtain ⟨c, l, S, v, d, m, rfl, _⟩ := h
    rfl
  · obtain ⟨c, l, S, v, d, m, rfl, hc, hl, hf, hz, alt⟩ := h
    have hr1 : Room 1 _ := hr.mono (by decide)
    have hr2 : Room 2 _ := hr.mono (by decide)
    have hu := hu_of hr
    refine ⟨_, pss_cons (ps_if (pt_not (pt_val (pe_call GN hr1 rfl mN kN bN .nil pass0 (pa_cons (pv 1) pa_nil)))) (pss_one (ps_raise rfl (takes_of rfl rfl rfl rfl) (pmk_oex T.en.o T.en.i T.en.t GI hr bI .nil pass0 rfl T.gN (pa_cons (pv 1) pa_nil)))) pss_nil)
      (pss_cons (ps_if (pt_cmp (pc_din hu (pv 1) (pe_fld (pv 0) rfl))) (pss_one ps_never) pss_nil)
      (pss_cons (ps_if (pt_cmpR op_ge (pe_callB call_lenR (by rfl) T.len PySem.boot_len (pa_cons (pe_fld (pv 0) rfl) pa_nil)) (pe_glob (v := .int 24) (by rfl) mM ⟨_, rfl⟩) (nomark _)) (pss_one ps_never) pss_nil)
      (pss_cons (ps_expr (pe_call GU hr1 rfl mU kU bU .nil pass0 (pa_cons (pe_fld (pv 0) rfl) (pa_cons
          (pe_lc (own := [("unknown", 5), ("number", 6)]) (g := gTup K 2 (gCons (gName 5) (gCons (gName 6) gNil))) (tt := tYes) rfl scWT.nd (pi_list (pv 3)) (blkOk_by (N := ["contents", "name", "constant", "terms", "rows", "unknown", "number"]) (sc := defScope sWT) (by decide +kernel))
            (fun _ _ _ _ _ => pg_tup (by rfl) (pgs_cons (pg_name (i := 5) scWT.nd rfl (Or.inl rfl)) (pgs_cons (pg_name (i := 6) scWT.nd rfl (Or.inl rfl)) pgs_nil))) (fun _ _ _ _ _ => pts_nil) (fun _ _ _ _ _ => pv 5)) pa_nil))))
      (pss_cons (ps_set (i := 4) scWT.nd rfl (.inl rfl) (pe_fz (pe_call GR hr1 rfl mR kR bR .nil pass0 (pa_cons (pe_fld (pv 0) rfl) (pa_cons (pv 1) (pa_cons (pe_fz
          (pe_dc (own := [("unknown", 5), ("number", 6)]) (g := gTup K 2 (gCons (gName 5) (gCons (gName 6) gNil))) (tt := tYes) rfl scWT.nd (pi_list (pv 3)) (blkOk_by (N := ["contents", "name", "constant", "terms", "rows", "unknown", "number"]) (sc := defScope sWT) (by decide +kernel))
            (fun _ _ _ _ _ => pg_tup (by rfl) (pgs_cons (pg_name (i := 5) scWT.nd rfl (Or.inl rfl)) (pgs_cons (pg_name (i := 6) scWT.nd rfl (Or.inl rfl)) pgs_nil))) (fun _ _ _ _ _ => pts_nil) (fun _ _ _ _ _ => pv 5) (fun _ _ _ _ _ => pv 6))) pa_nil))))))
      (pss_one (ps_ret (pe_make T.ct.mkC GC hr2 rfl T.ct.g bC .nil pass0 (pa_cons (pe_fld (pv 0) rfl) (pa_cons (pv 4) (pa_cons (pe_fz (pe_call GR hr1 rfl mR kR bR .nil pass0 (pa_cons (pe_fld (pv 0) rfl) (pa_cons (pv 1) (pa_cons (pv 2) pa_nil))))) pa_nil)))))))))), ?_⟩
    refine ⟨v, rfl, v, d, rfl, hf, hz, fun H1 sm => ⟨_, rfl, ?_⟩⟩
    rcases alt with ⟨hno, thr⟩ | ⟨y, rfl, hok, hy1, hy2, hl1, hl2, q⟩
    · rw [hno]
      exact iteT ⟨_, rfl, raise_read T.en (hf.keep sm) (thr.later sm)⟩
    · rw [show nameV (.str y) = true from hok]
      refine iteF ?_
      obtain ⟨dx, ac, ar, ak, rs, hC⟩ := hc.keep sm
      have hks : rs.map (·.1) = S.rows.map (·.1) := pair_keys (fun p q z => z.1) hC.p
      have hlr : rs.length = S.rows.length := by
        have e := congrArg List.length hks
        rw [List.length_map, List.length_map] at e
        exact e
      refine ⟨_, rfl, _, rfl, c, CC, dx, _, _, rfl, hC.i, T.ct.cl, T.ct.n2, ctF_r _ _ _, ar, _, rfl, .inl ⟨_, Sum.inr y, hC.r.rd, rfl, rfl⟩, _, rfl, ?_⟩
      rw [refK_out (by rw [hks]; exact hy1)]
      refine iteF ⟨_, rfl, c, CC, dx, _, _, rfl, hC.i, T.ct.cl, T.ct.n2, ctF_r _ _ _, ar, _, rfl, hC.r.rd, _, _, rfl, rfl, _, rfl, ?_⟩
      have hrl : (refK rs).length = S.rows.length := by unfold refK; rw [List.length_map, hlr]
      rw [decide_eq_false (show ¬ ((24 : Int) ≤ ((refK rs).length : Int)) by rw [hrl]; omega)]
      refine iteF ⟨_, rfl, c, CC, dx, _, _, rfl, hC.i, T.ct.cl, T.ct.n1, ctF_c _ _ _, _, rfl, l, rfl, ⟨[], SqL.of (sm _ _ hl)⟩, fun D hD => ?_⟩
      have smD : Same H1 (upd H1 D (.lst [])) := same_new hD
      refine lc_list (xs := []) (fun i H' => H' = upd H1 D (.lst [])) rfl (fun i H' _ e => by rw [e]; exact SqL.of (smD _ _ (sm _ _ hl))) (fun i x H' hx => by simp at hx) ?_
      intro H' e
      subst e
      refine ⟨ac, D, rfl, upd_same, ?_⟩
      have hC1 := hC.keep smD
      refine ⟨_, rfl, c, CC, dx, _, _, rfl, hC1.i, T.ct.cl, T.ct.n2, ctF_r _ _ _, _, rfl, _, rfl, l, rfl, ⟨[], SqL.of (smD _ _ (sm _ _ hl))⟩, fun D2 hD2 => ?_⟩
      have smD2 : Same (upd H1 D (.lst [])) (upd (upd H1 D (.lst [])) D2 (.dK [])) := same_new hD2
      refine dc_go (walk_list (K := K) (a := l) (xs := [])) (fun i H' => H' = upd (upd H1 D (.lst [])) D2 (.dK [])) rfl (fun i H' _ e => by rw [e]; exact SqL.of (smD2 _ _ (smD _ _ (sm _ _ hl)))) (fun i x H1 H2 hi => absurd hi (by simp)) ?_
      intro H' e
      subst e
      refine ⟨D2, _, rfl, upd_same, True.intro, fun od => ?_⟩
      rw [upd_upd]
      have smF : Same (upd H1 D (.lst [])) (upd (upd H1 D (.lst [])) D2 (.frz od (.dK []))) := same_new hD2
      have hC2 := hC1.keep smF
      refine ⟨ar, refK rs, Sum.inr y, .ref D2, rfl, hC2.r.rd, by rw [hrl, sizeLine_eq]; omega, fun p hp => ⟨p, _, rfl, upd_same, True.intro, fun od2 => ?_⟩⟩
      rw [upd_upd]
      have smP := same_new (o := .frz od2 (.dK (putK (refK rs) (Sum.inr y) (.ref D2)))) hp
      have hC3 := hC2.keep smP
      refine ⟨_, rfl, c, CC, dx, _, _, rfl, hC3.i, T.ct.cl, T.ct.n1, ctF_c _ _ _, _, rfl, _, rfl, c, CC, dx, _, _, rfl, hC3.i, T.ct.cl, T.ct.n3, ctF_k _ _ _, _, rfl, _, rfl, ?_⟩
      have hkl : (intK S.cons).length = S.cons.length := by unfold intK; rw [List.length_map]
      refine ⟨ak, intK S.cons, Sum.inr y, .int m, rfl, hC3.k.rd, by rw [hkl, sizeLine_eq]; omega, fun p2 hp2 => ⟨p2, _, rfl, upd_same, True.intro, fun od3 => ?_⟩⟩
      rw [upd_upd]
      have smQ := same_new (o := .frz od3 (.dK (putK (intK S.cons) (Sum.inr y) (.int m)))) hp2
      have hC4 := hC3.keep smQ
      refine mk_ct fun b dy H5 sm5 hb => q b H5 (((((sm.trans smD).trans smF).trans smP).trans smQ).trans sm5) ⟨dy, ac, p, p2, rs ++ [(y, D2)], hb, (hC4.keep sm5).c, ?_, ?_, ?_⟩
      · refine ⟨od2, sm5 _ _ (smQ _ _ ?_)⟩
        rw [upd_same, putK_new _ (refK_out (by rw [hks]; exact hy1))]
        unfold refK
        rw [List.map_append]
        rfl
      · exact pair_snoc (hC4.keep sm5).p ⟨rfl, od, sm5 _ _ (smQ _ _ (smP _ _ upd_same))⟩
      · refine ⟨od3, sm5 _ _ ?_⟩
        rw [upd_same, putK_new _ (intK_out hy2)]
        unfold intK
        rw [List.map_append]
        rfl
theorem scWE : FnScope ["contents", "name", "unknowns", "unknown"] ["contents", "name", "unknowns"] (defScope sWE) := ⟨rfl, rfl, rfl, by decide +kernel, rfl, by decide +kernel, by decide +kernel⟩
theorem ok_we {f fT : Addr} {fd fdT : FuncData} (F : Fun K "with_equation" "with_equation" sWE f fd) (GT : FnOk P w K mg base (L2.CX P w) 5 fT fdT ["contents", "name", "constant", "terms"] (spWT K CC CN)) (mT : mg "with_terms" = some (.ref fT)) (kT : PySem.W.keepIn K (.ref fT) = true) (bT : Binds K fdT ["contents", "name", "constant", "terms"] []) :
    FnOk P w K mg base (L2.CX P w) 6 f fd ["contents", "name", "unknowns"] (spWE K CC CN) := by
  refine F.okX scWE (fun vs H Q E h => ?_) (fun cdv A outer s H vs Q E hr h => ?_)
  · obtain ⟨c, n, S, v, d, rfl, _⟩ := h
    rfl
  · obtain ⟨c, n, S, v, d, rfl, hc, hn, hf, hz, alt⟩ := h
    refine ⟨_, pss_one (ps_ret (pe_call GT hr rfl mT kT bT .nil (passes_call (takes_of rfl rfl rfl rfl) (fun _ _ _ _ h => h)) (pa_cons (pv 0) (pa_cons (pv 1) (pa_cons pe_int (pa_cons
          (pe_lc (own := [("unknown", 3)]) (g := gName 3) (tt := tYes) rfl scWE.nd (pi_tup (pv 2)) (blkOk_by (N := ["contents", "name", "unknowns", "unknown"]) (sc := defScope sWE) (by decide +kernel)) (fun _ _ _ _ _ => pg_name (i := 3) scWE.nd rfl (Or.inl rfl)) (fun _ _ _ _ _ => pts_nil)
            (fun _ _ _ _ _ => pe_tup (pa_cons (pv 3) (pa_cons pe_int pa_nil)))) pa_nil)))))), ?_⟩
    refine ⟨_, rfl, _, rfl, _, rfl, n, rfl, ⟨[], hn⟩, fun D hD => ?_⟩
    have smD : Same H (upd H D (.lst [])) := same_new hD
    refine lc_tup (xs := []) (fun i H' => H' = upd H D (.lst [])) rfl (fun i H' _ e => by rw [e]; exact SqT.keep hn smD) (fun i x H' hx => by simp at hx) ?_
    intro H' e
    subst e
    refine ⟨c, D, S, v, d, 0, rfl, hc.keep smD, upd_same, hf.keep smD, hz, ?_⟩
    rcases alt with ⟨hno, thr⟩ | ⟨y, rfl, hok, hy1, hy2, hl1, hl2, q⟩
    · exact .inl ⟨hno, thr.later smD⟩
    · exact .inr ⟨y, rfl, hok, hy1, hy2, hl1, hl2, fun a H2 sm hC => q a H2 (smD.trans sm) hC⟩
end
end Bo

set_option Elab.async false
set_option linter.all false
set_option maxRecDepth 100000
set_option maxHeartbeats 8000000
namespace Bo
open PySem L2
abbrev sEO : Stmt := top 32
abbrev sSys : Stmt := top 63
abbrev sSInit : Stmt := inClass sSys 2
abbrev sAU : Stmt := inClass sSys 5
abbrev sAE : Stmt := inClass sSys 6
abbrev sEqs : Stmt := inClass sSys 16
abbrev sUns : Stmt := inClass sSys 17
abbrev sEns : Stmt := inClass sSys 18
abbrev sTake : Stmt := inClass sSys 23
/-- the fields of a System -/
def syF (c b h : Addr) : List (Str × V) := putF "_history" (.ref h) (putF "_begun" (.ref b) (putF "_contents" (.ref c) []))
theorem syF_c (c b h : Addr) : (syF c b h).lookup ("_contents" : Str) = some (.ref c) := by
  unfold syF
  rw [lookup_putF, if_neg (by decide +kernel), lookup_putF, if_neg (by decide +kernel), lookup_putF, if_pos rfl]
theorem syF_b (c b h : Addr) : (syF c b h).lookup ("_begun" : Str) = some (.ref b) := by
  unfold syF
  rw [lookup_putF, if_neg (by decide +kernel), lookup_putF, if_pos rfl]
theorem syF_h (c b h : Addr) : (syF c b h).lookup ("_history" : Str) = some (.ref h) := by
  unfold syF
  rw [lookup_putF, if_pos rfl]
theorem syF_no (c b h : Addr) {x : Str} (h1 : x ≠ "_contents") (h2 : x ≠ "_begun") (h3 : x ≠ "_history") : (syF c b h).lookup x = none := by
  unfold syF
  rw [lookup_putF, if_neg h3, lookup_putF, if_neg h2, lookup_putF, if_neg h1]
  rfl
theorem syF_eq (c b h : Addr) : syF c b h = [(("_contents" : Str), V.ref c), (("_begun" : Str), V.ref b), (("_history" : Str), V.ref h)] := by
  have e1 : ¬ (("_contents" : Str) = "_begun") := by decide +kernel
  have e2 : ¬ (("_contents" : Str) = "_history") := by decide +kernel
  have e3 : ¬ (("_begun" : Str) = "_history") := by decide +kernel
  show putF "_history" (.ref h) (if ("_contents" : Str) = "_begun" then _ else _) = _
  rw [if_neg e1]
  show (if ("_contents" : Str) = "_history" then _ else _) = _
  rw [if_neg e2]
  show _ :: (if ("_begun" : Str) = "_history" then _ else _) = _
  rw [if_neg e3]
  rfl
theorem syF_put (c c' b h : Addr) : putF "_contents" (.ref c') (syF c b h) = syF c' b h := by
  rw [syF_eq, syF_eq]
  show (if ("_contents" : Str) = "_contents" then _ else _) = _
  rw [if_pos rfl]
theorem syF_len (c b h : Addr) : (syF c b h).length = 3 := by
  rw [syF_eq]
  rfl
/-- at s stands a System without open transactions -/
structure SyAt (CS : Addr) (H : Hp) (s dx c b h : Addr) (hs : List V) : Prop where
  i : H s = some (.ins CS dx (syF c b h))
  b : H b = some (.lst [])
  h : H h = some (.lst hs)
/-- all but the things at M is as it was -/
def Off (M : List Addr) (H H' : Hp) : Prop := ∀ b o, H b = some o → b ∉ M → H' b = some o
theorem CtAt.off {K : PySem.W.Frag} {CC CS : Addr} {H H' : Hp} {a : Addr} {S : Ct} {d1 ac ar ak : Addr} {rs : List (Str × Addr)} {s dx c b h : Addr} {hs : List V} (C : CtAt K CC H a S d1 ac ar ak rs) (Y : SyAt CS H s dx c b h hs) (o : Off [s, h] H H') : CtAt K CC H' a S d1 ac ar ak rs := by
  have ins : H' a = some (.ins CC d1 (ctF ac ar ak)) := o _ _ C.i fun z => by
    rcases List.mem_cons.mp z with z | z
    · have e := C.i
      rw [z, Y.i] at e
      injection e with e
      injection e with _ _ e3
      have l1 := ctF_c ac ar ak
      rw [← e3, syF_no _ _ _ (by decide +kernel) (by decide +kernel) (by decide +kernel)] at l1
      cases l1
    · have e := C.i
      rw [List.mem_singleton.mp z, Y.h] at e
      cases e
  have out : ∀ q u, H q = some u → (∀ C' d' f', u ≠ .ins C' d' f') → (∀ xs, u ≠ .lst xs) → H' q = some u := fun q u e n1 n2 => o _ _ e fun z => by
    rcases List.mem_cons.mp z with z | z
    · rw [z, Y.i] at e
      exact n1 _ _ _ (Option.some.inj e).symm
    · rw [List.mem_singleton.mp z, Y.h] at e
      exact n2 _ (Option.some.inj e).symm
  have fz : ∀ q u, Fz H q u → Fz H' q u := fun q u ⟨ob, e⟩ => ⟨ob, out _ _ e (fun _ _ _ z => by cases z) fun _ z => by cases z⟩
  refine ⟨ins, ?_, fz _ _ C.r, Paired.mapP C.p fun p q z => ⟨z.1, fz _ _ z.2⟩, fz _ _ C.k⟩
  rcases C.c with (e | e) | e
  · exact .inl (.inl (out _ _ e (fun _ _ _ z => by cases z) fun _ z => by cases z))
  · exact .inl (.inr (fz _ _ e))
  · exact .inr e
theorem CtIn.off {K : PySem.W.Frag} {CC CS : Addr} {H H' : Hp} {a : Addr} {S : Ct} {s dx c b h : Addr} {hs : List V} (C : CtIn K CC H a S) (Y : SyAt CS H s dx c b h hs) (o : Off [s, h] H H') : CtIn K CC H' a S :=
  let ⟨d1, ac, ar, ak, rs, z⟩ := C; ⟨d1, ac, ar, ak, rs, z.off Y o⟩
theorem SyAt.keep {CS : Addr} {H H' : Hp} {s dx c b h : Addr} {hs : List V} (Y : SyAt CS H s dx c b h hs) (m : Same H H') : SyAt CS H' s dx c b h hs := ⟨m _ _ Y.i, m _ _ Y.b, m _ _ Y.h⟩
structure SysT (K : PySem.W.Frag) (mg : Str → Option Value) (CS fSI fTk : Addr) : Prop where
  cl : Cls K CS
  mkC : Mk K CS fSI
  g : mg "System" = some (.ref CS)
  n1 : NoAttr K CS "_contents"
  n2 : NoAttr K CS "_begun"
  n3 : NoAttr K CS "_history"
  tk : Meth K CS "_take" fTk
def spTake (CS : Addr) : Sp := fun vs H Q _ => ∃ (s c' dx c b h : Addr) (hs : List V), vs = [.ref s, .ref c'] ∧ SyAt CS H s dx c b h hs ∧ hs.length < 1000 ∧ h ≠ b ∧ ∀ H', Off [s, h] H H' → SyAt CS H' s dx c' b h (hs ++ [.ref c]) → Q .non H'
/-- System.__init__ -/
def spSInit (K : PySem.W.Frag) (CC CS : Addr) : Sp := fun vs H Q _ => ∃ (s dx : Addr), vs = [.ref s] ∧ H s = some (.ins CS dx []) ∧ ∀ (c b h : Addr) (H' : Hp), (∀ q o, H q = some o → q ≠ s → H' q = some o) → h ≠ b → H h = none → SyAt CS H' s dx c b h [] → CtIn K CC H' c ⟨[], [], []⟩ → Q .non H'
section
variable {P : Program} {w : World} {K : PySem.W.Frag} {mg : Str → Option Value} {base : Heap} {CC fCI CN fIN CS fSI fTk : Addr}
theorem scTk : FnScope ["self", "contents"] ["self", "contents"] (defScope sTake) := ⟨rfl, rfl, rfl, by decide +kernel, rfl, by decide +kernel, by decide +kernel⟩
theorem ok_take {f : Addr} {fd : FuncData} (F : Fun K "_take" "System._take" sTake f fd) (T : SysT K mg CS fSI fTk) : FnOk P w K mg base CX0 1 f fd ["self", "contents"] (spTake CS) := by
  refine F.ok scTk (fun vs H Q E h => ?_) (fun cdv A outer s H vs Q E hr h => ?_)
  · obtain ⟨s, c', dx, c, b, h, hs, rfl, _⟩ := h
    rfl
  · obtain ⟨s, c', dx, c, b, h, hs, rfl, Y, hl, hne, k⟩ := h
    refine ⟨_, pss_cons (ps_if (pt_not (pt_truth (pe_fld (pv 0) rfl) (by intro _; rfl))) (pss_one (ps_expr (pe_bm PySem.F.plainAttrs_list PySem.F.slot_list_append PySem.F.type_list_append mt_append (pe_fld (pv 0) rfl) (pa_cons (pe_fld (pv 0) rfl) pa_nil)))) pss_nil)
      (pss_one (ps_fld (pv 0) (pv 1) rfl)), ?_⟩
    refine ⟨_, rfl, s, CS, dx, _, _, rfl, Y.i, T.cl, T.n2, syF_b _ _ _, _, .inl ⟨[], SqL.of Y.b, rfl⟩, iteT ?_⟩
    refine ⟨_, rfl, s, CS, dx, _, _, rfl, Y.i, T.cl, T.n3, syF_h _ _ _, .inl ⟨rfl, _, SqL.of Y.h⟩, _, rfl, s, CS, dx, _, _, rfl, Y.i, T.cl, T.n1, syF_c _ _ _, h, hs, _, rfl, rfl, Y.h, by rw [sizeLine_eq]; omega, ?_⟩
    have sh : s ≠ h := ne_of Y.i Y.h (by intro z; cases z)
    have sb : s ≠ b := ne_of Y.i Y.b (by intro z; cases z)
    refine ⟨_, rfl, _, rfl, s, CS, dx, _, rfl, (upd_ne sh).trans Y.i, T.cl, T.n1, by rw [syF_len]; decide, ?_⟩
    rw [syF_put]
    refine k _ (fun q o e n => ?_) ⟨upd_same, ?_, ?_⟩
    · have n1 : q ≠ s := fun z => n (by rw [z]; exact List.mem_cons_self)
      have n2 : q ≠ h := fun z => n (by rw [z]; exact List.mem_cons_of_mem _ List.mem_cons_self)
      rw [upd_ne n1, upd_ne n2]
      exact e
    · rw [upd_ne sb.symm, upd_ne hne.symm]
      exact Y.b
    · rw [upd_ne sh.symm, upd_same]
theorem scSI : FnScope ["self"] ["self"] (defScope sSInit) := ⟨rfl, rfl, rfl, by decide +kernel, rfl, by decide +kernel, by decide +kernel⟩
theorem ok_sInit {f : Addr} {fd fdCI : FuncData} (F : Fun K "__init__" "System.__init__" sSInit f fd) (T : SysT K mg CS fSI fTk) (TC : CtT K mg CC fCI) (GC : FnOk P w K mg base CX0 1 fCI fdCI ["self", "columns", "rows", "constants"] (spCtInit CC)) (bC : Binds K fdCI ["self", "columns", "rows", "constants"] []) :
    FnOk P w K mg base CX0 3 f fd ["self"] (spSInit K CC CS) := by
  refine F.ok scSI (fun vs H Q E h => ?_) (fun cdv A outer s H vs Q E hr h => ?_)
  · obtain ⟨s, dx, rfl, _⟩ := h
    rfl
  · obtain ⟨s, dx, rfl, hs, k⟩ := h
    refine ⟨_, pss_cons (ps_fld (pv 0) (pe_make TC.mkC GC hr rfl TC.g bC .nil pass0 (pa_cons (pe_tup pa_nil) (pa_cons (pe_fz pe_dnewK) (pa_cons (pe_fz pe_dnewK) pa_nil)))) rfl)
      (pss_cons (ps_fld (pv 0) (pe_lst pa_nil) rfl) (pss_one (ps_fld (pv 0) (pe_lst pa_nil) rfl))), ?_⟩
    refine ⟨by decide, fun t ht d1 hd1 => ⟨d1, _, rfl, upd_same, True.intro, fun od1 => ?_⟩⟩
    rw [upd_upd]
    intro d2 hd2
    refine ⟨d2, _, rfl, upd_same, True.intro, fun od2 => ?_⟩
    rw [upd_upd]
    have s1 : Same H (upd H t (.tup [])) := same_new ht
    have s2 := same_new (o := .frz od1 (.dK [])) hd1
    have s3 := same_new (o := .frz od2 (.dK [])) hd2
    intro x0 dx0 h0 h1 h2
    refine ⟨x0, dx0, t, d1, d2, rfl, upd_same, fun H4 kk hc => ⟨rfl, ?_⟩⟩
    have s4 : Same (upd (upd (upd H t (.tup [])) d1 (.frz od1 (.dK []))) d2 (.frz od2 (.dK []))) H4 := fun b o q => kk b o (by rw [upd_ne (ne_of_none q h0), upd_ne (ne_of_none q h1)]; exact q) (ne_of_none q h0)
    have e0 : H4 s = some (.ins CS dx []) := s4 _ _ (s3 _ _ (s2 _ _ (s1 _ _ hs)))
    refine ⟨_, rfl, s, CS, dx, [], rfl, e0, T.cl, T.n1, by decide, ?_⟩
    have C0 : CtAt K CC H4 x0 ⟨[], [], []⟩ dx0 t d1 d2 [] := ⟨hc, SqT.of (s4 _ _ (s3 _ _ (s2 _ _ upd_same))), ⟨od1, s4 _ _ (s3 _ _ upd_same)⟩, .nil, ⟨od2, s4 _ _ upd_same⟩⟩
    refine ⟨by decide, fun b hb => ⟨_, rfl, s, CS, dx, (putF "_contents" (.ref x0) []), rfl, ?_, T.cl, T.n2, by have := putF_len "_contents" (.ref x0) []; simp only [List.length_nil] at this; omega, ?_⟩⟩
    · have sb : s ≠ b := fun z => by rw [← z, upd_same] at hb; cases hb
      rw [upd_ne sb, upd_same]
    refine ⟨by decide, fun h hh => ⟨_, rfl, s, CS, dx, (putF "_begun" (.ref b) (putF "_contents" (.ref x0) [])), rfl, ?_, T.cl, T.n3, by have := putF_len "_contents" (.ref x0) []; have := putF_len "_begun" (.ref b) (putF "_contents" (.ref x0) []); simp only [List.length_nil] at *; omega, ?_⟩⟩
    · have sh : s ≠ h := fun z => by rw [← z, upd_same] at hh; cases hh
      rw [upd_ne sh, upd_same]
    have sb : b ≠ s := fun z => by rw [z, upd_same] at hb; cases hb
    have sh : h ≠ s := fun z => by rw [z, upd_same] at hh; cases hh
    have bh : h ≠ b := fun z => by rw [z, upd_ne sb, upd_same] at hh; cases hh
    have hbn : H4 b = none := by rw [upd_ne sb] at hb; exact hb
    have hhn : H4 h = none := by rw [upd_ne sh, upd_ne bh, upd_ne sh] at hh; exact hh
    have all : ∀ q o, H4 q = some o → q ≠ s → (upd (upd (upd (upd (upd H4 s (.ins CS dx (putF "_contents" (.ref x0) []))) b (.lst [])) s (.ins CS dx (putF "_begun" (.ref b) (putF "_contents" (.ref x0) [])))) h (.lst [])) s (.ins CS dx (syF x0 b h))) q = some o := fun q o e n => by
      rw [upd_ne n, upd_ne (ne_of_none e hhn), upd_ne n, upd_ne (ne_of_none e hbn), upd_ne n]
      exact e
    have c_s : ∀ q o, H4 q = some o → (∀ fs, o ≠ .ins CS dx fs) → q ≠ s := fun q o e n z => by
      rw [z, e0] at e
      exact n _ (Option.some.inj e).symm
    refine k x0 b h _ (fun q o e n => all q o (s4 _ _ (s3 _ _ (s2 _ _ (s1 _ _ e)))) n) bh ?_ ⟨upd_same, ?_, ?_⟩ ⟨dx0, t, d1, d2, [], ?_, ?_, ?_, .nil, ?_⟩
    · cases q : H h with
      | none => rfl
      | some o => rw [s4 _ _ (s3 _ _ (s2 _ _ (s1 _ _ q)))] at hhn; cases hhn
    · rw [upd_ne sb, upd_ne bh.symm, upd_ne sb, upd_same]
    · rw [upd_ne sh, upd_same]
    · refine all _ _ hc fun z => ?_
      rw [z, e0] at hc
      injection hc with hc
      injection hc with _ _ hc
      have l1 := ctF_c t d1 d2
      rw [← hc] at l1
      cases l1
    · exact SqT.of (all _ _ (s4 _ _ (s3 _ _ (s2 _ _ upd_same))) (c_s _ _ (s4 _ _ (s3 _ _ (s2 _ _ upd_same))) fun _ z => by cases z))
    · exact ⟨od1, all _ _ (s4 _ _ (s3 _ _ upd_same)) (c_s _ _ (s4 _ _ (s3 _ _ upd_same)) fun _ z => by cases z)⟩
    · exact ⟨od2, all _ _ (s4 _ _ upd_same) (c_s _ _ (s4 _ _ upd_same) fun _ z => by cases z)⟩
end
end Bo

set_option Elab.async false
set_option linter.all false
set_option maxRecDepth 100000
set_option maxHeartbeats 8000000
namespace Bo
open PySem L2
/-- a System with the state S stands at s; it was made behind H0, and what H0 has is as it was -/
def SyOn (K : PySem.W.Frag) (CC CS : Addr) (H0 H : Hp) (s : Addr) (S : Ct) (m : Nat) : Prop := ∃ dx c b h hs, SyAt CS H s dx c b h hs ∧ CtIn K CC H c S ∧ h ≠ b ∧ hs.length ≤ m ∧ H0 s = none ∧ H0 h = none ∧ Same H0 H
theorem SyOn.keep {K : PySem.W.Frag} {CC CS : Addr} {H0 H H' : Hp} {s : Addr} {S : Ct} {m : Nat} (h : SyOn K CC CS H0 H s S m) (k : Same H H') : SyOn K CC CS H0 H' s S m :=
  let ⟨dx, c, b, h, hs, Y, C, e1, e2, e3, e4, e5⟩ := h; ⟨dx, c, b, h, hs, Y.keep k, C.keep k, e1, e2, e3, e4, e5.trans k⟩
theorem SyOn.same {K : PySem.W.Frag} {CC CS : Addr} {H0 H : Hp} {s : Addr} {S : Ct} {m : Nat} (h : SyOn K CC CS H0 H s S m) : Same H0 H := let ⟨_, _, _, _, _, _, _, _, _, _, _, e⟩ := h; e
theorem SyOn.more {K : PySem.W.Frag} {CC CS : Addr} {H0 H : Hp} {s : Addr} {S : Ct} {m m' : Nat} (h : SyOn K CC CS H0 H s S m) (l : m ≤ m') : SyOn K CC CS H0 H s S m' :=
  let ⟨dx, c, b, h, hs, Y, C, e1, e2, e3⟩ := h; ⟨dx, c, b, h, hs, Y, C, e1, Nat.le_trans e2 l, e3⟩
/-- System() -/
theorem sy_made {K : PySem.W.Frag} {CC CS : Addr} {H : Hp} {Q : VK} {E : XK} (k : ∀ (s : Addr) (H' : Hp), SyOn K CC CS H H' s ⟨[], [], []⟩ 0 → Q (.ref s) H') :
    ∀ x dx, H x = none → H dx = none → dx ≠ x → spSInit K CC CS (.ref x :: ([] ++ [])) (upd (upd H dx (.own x)) x (.ins CS dx [])) (fun v H2 => v = .non ∧ Q (.ref x) H2) E :=
  fun x dx hx hd ne => ⟨x, dx, rfl, upd_same, fun c b h H' kk e1 e2 Y C => ⟨rfl, k x H' ⟨dx, c, b, h, [], Y, C, e1, Nat.le_refl _, hx, (by
      cases q : H h with
      | none => rfl
      | some o =>
        rw [upd_ne (ne_of_none q hx), upd_ne (ne_of_none q hd), q] at e2
        cases e2),
    fun q o e => kk q o (by rw [upd_ne (ne_of_none e hx), upd_ne (ne_of_none e hd)]; exact e) (ne_of_none e hx)⟩⟩⟩
/-- s.add_unknown(..) -/
def spAU (K : PySem.W.Frag) (CC CN CS : Addr) : Sp := fun vs H Q E => ∃ (s : Addr) (H0 : Hp) (S : Ct) (m : Nat) (xs : List V), vs = .ref s :: xs ∧ SyOn K CC CS H0 H s S m ∧ m < 1000 ∧ xs.length ≤ 100 ∧ S.cols.length ≤ 24 ∧ (∀ x ∈ xs, ∃ d, Flat K H x d) ∧ (∀ z, V.str z ∈ xs → z.length ≤ 1000) ∧
  ((∃ (i : Nat) (v : V) (d : PyData), xs[i]? = some v ∧ Flat K H v d ∧ nameV v = false ∧ (∀ j x, j < i → xs[j]? = some x → nameV x = true) ∧ Thrown K E H CN "name" d) ∨
   (∃ ys : List Str, xs = ys.map V.str ∧ (∀ y ∈ ys, nameOk y = true) ∧ (ys ++ S.cols).Nodup ∧ (ys ++ S.cols).length ≤ 24 ∧
     ∀ (H' : Hp) (zs : List Str), zs.Perm (ys ++ S.cols) → PyProof.Rows.sortedS zs = true → SyOn K CC CS H0 H' s { S with cols := zs } (m + 1) → Q .non H'))
/-- .. its names in a tuple -/
def spAUt (K : PySem.W.Frag) (CC CN CS : Addr) : Sp := fun vs H Q E => ∃ (s n : Addr) (xs : List V), vs = [.ref s, .ref n] ∧ H n = some (.tup xs) ∧ spAU K CC CN CS (.ref s :: xs) H Q E
theorem spAU_new {K : PySem.W.Frag} {CC CN CS : Addr} {xs : List V} {H : Hp} {Q : VK} {E : XK} {p : Addr} {o : HO} (hp : H p = none) (h : spAU K CC CN CS xs H Q E) : spAU K CC CN CS xs (upd H p o) Q E := by
  obtain ⟨s, H0, S, m, xs, rfl, Y, hm, hx, hc, hf, hz, alt⟩ := h
  have sm : Same H (upd H p o) := same_new hp
  refine ⟨s, H0, S, m, xs, rfl, Y.keep sm, hm, hx, hc, fun x hx => let ⟨d, f⟩ := hf x hx; ⟨d, f.keep sm⟩, hz, ?_⟩
  rcases alt with ⟨i, v, d, h1, h2, h3, h4, h5⟩ | ⟨ys, h1, h2, h3, h4, h5⟩
  · exact .inl ⟨i, v, d, h1, h2.keep sm, h3, h4, h5.later sm⟩
  · exact .inr ⟨ys, h1, h2, h3, h4, h5⟩
/-- s.add_equation(x) -/
def spAE (K : PySem.W.Frag) (CC CN CS : Addr) : Sp := fun vs H Q E => ∃ (s : Addr) (H0 : Hp) (S : Ct) (m : Nat) (v : V) (d : PyData), vs = [.ref s, v] ∧ SyOn K CC CS H0 H s S m ∧ m < 1000 ∧ Flat K H v d ∧ (∀ z, v = .str z → z.length ≤ 1000) ∧
  ((nameV v = false ∧ Thrown K E H CN "name" d) ∨
   (∃ y : Str, v = .str y ∧ nameOk y = true ∧ y ∉ S.rows.map (·.1) ∧ y ∉ S.cons.map (·.1) ∧ S.rows.length < 24 ∧ S.cons.length < 24 ∧
     ∀ (H' : Hp), SyOn K CC CS H0 H' s { S with rows := S.rows ++ [(y, [])], cons := S.cons ++ [(y, 0)] } (m + 1) → Q .non H'))
def spAEt (K : PySem.W.Frag) (CC CN CS : Addr) : Sp := fun vs H Q E => ∃ (s n : Addr) (v : V), vs = [.ref s, v, .ref n] ∧ H n = some (.tup []) ∧ spAE K CC CN CS [.ref s, v] H Q E
theorem spAE_new {K : PySem.W.Frag} {CC CN CS : Addr} {xs : List V} {H : Hp} {Q : VK} {E : XK} {p : Addr} {o : HO} (hp : H p = none) (h : spAE K CC CN CS xs H Q E) : spAE K CC CN CS xs (upd H p o) Q E := by
  obtain ⟨s, H0, S, m, v, d, rfl, Y, hm, hf, hz, alt⟩ := h
  have sm : Same H (upd H p o) := same_new hp
  refine ⟨s, H0, S, m, v, d, rfl, Y.keep sm, hm, hf.keep sm, hz, ?_⟩
  rcases alt with ⟨h1, h2⟩ | h
  · exact .inl ⟨h1, h2.later sm⟩
  · exact .inr h
theorem Off.of {M : List Addr} {H0 H1 H2 : Hp} (a : Same H0 H1) (o : Off M H1 H2) (n : ∀ q ∈ M, H0 q = none) : Same H0 H2 := fun q u e => o _ _ (a _ _ e) fun z => by
  rw [n q z] at e
  cases e
section
variable {P : Program} {w : World} {K : PySem.W.Frag} {mg : Str → Option Value} {base : Heap} {CC fCI CN fIN CS fSI fTk : Addr}
theorem scAU : FnScope ["self", "names"] ([("self" : Str)] ++ [("names" : Str)]) (defScope sAU) := ⟨rfl, rfl, rfl, by decide +kernel, rfl, by decide +kernel, by decide +kernel⟩
theorem ok_au {f fW : Addr} {fd fdW fdTk : FuncData} (F : Fun K "add_unknown" "System.add_unknown" sAU f fd) (T : SysT K mg CS fSI fTk) (TC : CtT K mg CC fCI)
    (GT : FnOk P w K mg base CX0 1 fTk fdTk ["self", "contents"] (spTake CS)) (bT : Binds K fdTk ["self", "contents"] [])
    (GW : FnOk P w K mg base (L2.CX P w) 5 fW fdW ["contents", "names"] (spWU K CC CN)) (mW : mg "with_unknowns" = some (.ref fW)) (kW : PySem.W.keepIn K (.ref fW) = true) (bW : Binds K fdW ["contents", "names"] []) :
    FnR P w K mg base (L2.CX P w) 6 f (spAU K CC CN CS) := by
  obtain ⟨oc, od, kV, doc, pm, an, cdv, ct, osl, rfl, lk, hcd⟩ := F.ex
  have R : FnR P w K mg base (L2.CX P w) 6 f (fun vs H Q E => ∃ ws rest, vs = ws ++ rest ∧ ws.length = (["self"] : List Str).length ∧ rest.length ≤ sizeLine ∧ ∀ p, H p = none → spAUt K CC CN CS (ws ++ [V.ref p]) (upd H p (.tup rest)) Q E) := by
    refine StX.fn_star lk hcd scAU StX.cxUp (StX.bind_star1 (B := fun vs => bindArgs _ ⟨vs, []⟩) (fun _ => rfl) (fun _ _ _ => rfl)) (fun A outer s H vs Q E hr h => ?_)
    obtain ⟨s, n, xs, rfl, hn, h⟩ := h
    obtain ⟨s', H0, S, m, xs', e, ⟨dx, c, b, h, hs, Y, C, hne, hlh, n1, n2, sm0⟩, hm, hx, hc, hf, hz, alt⟩ := h
    cases e
    have hr1 : Room 1 _ := hr.mono (by decide)
    refine ⟨_, pss_one (ps_expr (pe_meth (pv 0) T.cl T.tk GT hr1 bT .nil pass0 (pa_cons (pe_call GW hr rfl mW kW bW .nil (passes_call (takes_of rfl rfl rfl rfl) (fun _ _ _ _ h => h)) (pa_cons (pe_fld (pv 0) rfl) (pa_cons (pv 1) pa_nil))) pa_nil))), ?_⟩
    refine ⟨_, rfl, s, dx, _, rfl, Y.i, syF_no _ _ _ (by decide +kernel) (by decide +kernel) (by decide +kernel), _, rfl, s, CS, dx, _, _, rfl, Y.i, T.cl, T.n1, syF_c _ _ _, _, rfl, ?_⟩
    refine ⟨c, n, S, xs, rfl, C, SqT.of hn, hx, hc, hf, hz, ?_⟩
    rcases alt with h1 | ⟨ys, h1, h2, h3, h4, h5⟩
    · exact .inl h1
    · refine .inr ⟨ys, h1, h2, h3, h4, fun a H1 zs sm p1 p2 C1 => ⟨s, a, dx, c, b, h, hs, rfl, Y.keep sm, by omega, hne, fun H2 o Y2 => h5 H2 zs p1 p2 ⟨dx, a, b, h, hs ++ [.ref c], Y2, C1.off (Y.keep sm) o, hne, ?_, n1, n2, Off.of (sm0.trans sm) o fun q hq => ?_⟩⟩⟩
      · rw [List.length_append]
        show _ + 1 ≤ _
        omega
      · rcases List.mem_cons.mp hq with z | z
        · rw [z]; exact n1
        · rw [List.mem_singleton.mp z]; exact n2
  refine R.imp fun vs H Q E h => ?_
  obtain ⟨s, H0, S, m, xs, rfl, r⟩ := id h
  refine ⟨[.ref s], xs, rfl, rfl, ?_, fun p hp => ⟨s, p, xs, rfl, upd_same, spAU_new hp h⟩⟩
  have := r.2.2.1
  rw [sizeLine_eq]
  omega
theorem scAE : FnScope ["self", "name", "unknowns"] ([("self" : Str), ("name" : Str)] ++ [("unknowns" : Str)]) (defScope sAE) := ⟨rfl, rfl, rfl, by decide +kernel, rfl, by decide +kernel, by decide +kernel⟩
theorem ok_ae {f fW : Addr} {fd fdW fdTk : FuncData} (F : Fun K "add_equation" "System.add_equation" sAE f fd) (T : SysT K mg CS fSI fTk) (TC : CtT K mg CC fCI)
    (GT : FnOk P w K mg base CX0 1 fTk fdTk ["self", "contents"] (spTake CS)) (bT : Binds K fdTk ["self", "contents"] [])
    (GW : FnOk P w K mg base (L2.CX P w) 6 fW fdW ["contents", "name", "unknowns"] (spWE K CC CN)) (mW : mg "with_equation" = some (.ref fW)) (kW : PySem.W.keepIn K (.ref fW) = true) (bW : Binds K fdW ["contents", "name", "unknowns"] []) :
    FnR P w K mg base (L2.CX P w) 7 f (spAE K CC CN CS) := by
  obtain ⟨oc, od, kV, doc, pm, an, cdv, ct, osl, rfl, lk, hcd⟩ := F.ex
  have R : FnR P w K mg base (L2.CX P w) 7 f (fun vs H Q E => ∃ ws rest, vs = ws ++ rest ∧ ws.length = (["self", "name"] : List Str).length ∧ rest.length ≤ sizeLine ∧ ∀ p, H p = none → spAEt K CC CN CS (ws ++ [V.ref p]) (upd H p (.tup rest)) Q E) := by
    refine StX.fn_star lk hcd scAE StX.cxUp (StX.bind_star2 (B := fun vs => bindArgs _ ⟨vs, []⟩) (fun _ _ => rfl) (fun _ _ _ _ => rfl)) (fun A outer s H vs Q E hr h => ?_)
    obtain ⟨s, n, v, rfl, hn, h⟩ := h
    obtain ⟨s', H0, S, m, v', d, e, ⟨dx, c, b, h, hs, Y, C, hne, hlh, n1, n2, sm0⟩, hm, hf, hz, alt⟩ := h
    cases e
    have hr1 : Room 1 _ := hr.mono (by decide)
    refine ⟨_, pss_one (ps_expr (pe_meth (pv 0) T.cl T.tk GT hr1 bT .nil pass0 (pa_cons (pe_call GW hr rfl mW kW bW .nil (passes_call (takes_of rfl rfl rfl rfl) (fun _ _ _ _ h => h)) (pa_cons (pe_fld (pv 0) rfl) (pa_cons (pv 1) (pa_cons (pv 2) pa_nil)))) pa_nil))), ?_⟩
    refine ⟨_, rfl, s, dx, _, rfl, Y.i, syF_no _ _ _ (by decide +kernel) (by decide +kernel) (by decide +kernel), _, rfl, s, CS, dx, _, _, rfl, Y.i, T.cl, T.n1, syF_c _ _ _, _, rfl, _, rfl, ?_⟩
    refine ⟨c, n, S, v, d, rfl, C, SqT.of hn, hf, hz, ?_⟩
    rcases alt with h1 | ⟨y, h1, h2, h3, h4, l1, l2, h5⟩
    · exact .inl h1
    · refine .inr ⟨y, h1, h2, h3, h4, l1, l2, fun a H1 sm C1 => ⟨s, a, dx, c, b, h, hs, rfl, Y.keep sm, by omega, hne, fun H2 o Y2 => h5 H2 ⟨dx, a, b, h, hs ++ [.ref c], Y2, C1.off (Y.keep sm) o, hne, ?_, n1, n2, Off.of (sm0.trans sm) o fun q hq => ?_⟩⟩⟩
      · rw [List.length_append]
        show _ + 1 ≤ _
        omega
      · rcases List.mem_cons.mp hq with z | z
        · rw [z]; exact n1
        · rw [List.mem_singleton.mp z]; exact n2
  refine R.imp fun vs H Q E h => ?_
  obtain ⟨s, H0, S, m, v, d, rfl, r⟩ := id h
  exact ⟨[.ref s, v], [], rfl, rfl, Nat.zero_le _, fun p hp => ⟨s, p, v, rfl, upd_same, spAE_new hp h⟩⟩
/-! ### what a system tells -/
structure TxtP (mg : Str → Option Value) : Prop where
  tup : mg "tuple" = none
  srt : mg "sorted" = none
def spEqs (K : PySem.W.Frag) (CC CS : Addr) : Sp := fun vs H Q _ => ∃ (s : Addr) (H0 : Hp) (S : Ct) (m : Nat), vs = [.ref s] ∧ SyOn K CC CS H0 H s S m ∧ S.rows.length < 64 ∧ ∀ (t : Addr) (H' : Hp) (ys : List Str), Same H H' → ys.Perm (S.rows.map (·.1)) → PyProof.Rows.sortedS ys = true → SqT K H' t (ys.map V.str) → Q (.ref t) H'
theorem scEqs : FnScope ["self"] ["self"] (defScope sEqs) := ⟨rfl, rfl, rfl, by decide +kernel, rfl, by decide +kernel, by decide +kernel⟩
theorem refK_keys (rs : List (Str × Addr)) : (refK rs).map (·.1) = (rs.map (·.1)).map Sum.inr := by
  unfold refK
  rw [List.map_map, List.map_map]
  rfl
theorem ok_eqs {f : Addr} {fd : FuncData} (F : Fun K "equations" "System.equations" sEqs f fd) (T : SysT K mg CS fSI fTk) (TC : CtT K mg CC fCI) (TP : TxtP mg) : FnOk P w K mg base CX0 1 f fd ["self"] (spEqs K CC CS) := by
  refine F.ok scEqs (fun vs H Q E h => ?_) (fun cdv A outer s H vs Q E hr h => ?_)
  · obtain ⟨s, H0, S, m, rfl, _⟩ := h
    rfl
  · obtain ⟨s, H0, S, m, rfl, ⟨dx, c, b, h, hs, Y, ⟨d1, ac, ar, ak, rs, C⟩, _⟩, hl, q⟩ := h
    refine ⟨_, pss_one (ps_ret (pe_callTy call_tuple_of (by rfl) TP.tup (by decide +kernel) (pa_cons (pe_callB (call_sortedD rfl) (by rfl) TP.srt (by decide +kernel) (pa_cons (pe_fld (pe_fld (pv 0) rfl) rfl) pa_nil)) pa_nil))), ?_⟩
    have hks : rs.map (·.1) = S.rows.map (·.1) := pair_keys (fun p q z => z.1) C.p
    have hln : (rs.map (·.1)).length = S.rows.length := by rw [hks, List.length_map]
    refine ⟨_, rfl, s, CS, dx, _, _, rfl, Y.i, T.cl, T.n1, syF_c _ _ _, c, CC, d1, _, _, rfl, C.i, TC.cl, TC.n2, ctF_r _ _ _, ar, _, _, rfl, C.r.rd, refK_keys rs, by rw [hln]; exact hl, fun ys p hp1 hp2 hp3 => ?_⟩
    have sm : Same H (upd H p (.lst (ys.map V.str))) := same_new hp3
    refine ⟨p, _, rfl, .inl ⟨SqL.of upd_same, fun t ht => ?_⟩⟩
    exact q t _ ys (sm.trans (same_new ht)) (hks ▸ hp1) hp2 (SqT.of upd_same)
def spUns (K : PySem.W.Frag) (CC CS : Addr) : Sp := fun vs H Q _ => ∃ (s : Addr) (H0 : Hp) (S : Ct) (m : Nat), vs = [.ref s] ∧ SyOn K CC CS H0 H s S m ∧ ∀ (t : Addr), SqT K H t (S.cols.map V.str) → Q (.ref t) H
theorem scUns : FnScope ["self"] ["self"] (defScope sUns) := ⟨rfl, rfl, rfl, by decide +kernel, rfl, by decide +kernel, by decide +kernel⟩
theorem ok_uns {f : Addr} {fd : FuncData} (F : Fun K "unknowns" "System.unknowns" sUns f fd) (T : SysT K mg CS fSI fTk) (TC : CtT K mg CC fCI) : FnOk P w K mg base CX0 1 f fd ["self"] (spUns K CC CS) := by
  refine F.ok scUns (fun vs H Q E h => ?_) (fun cdv A outer s H vs Q E hr h => ?_)
  · obtain ⟨s, H0, S, m, rfl, _⟩ := h
    rfl
  · obtain ⟨s, H0, S, m, rfl, ⟨dx, c, b, h, hs, Y, ⟨d1, ac, ar, ak, rs, C⟩, _⟩, q⟩ := h
    refine ⟨_, pss_one (ps_ret (pe_fld (pe_fld (pv 0) rfl) rfl)), ?_⟩
    exact ⟨_, rfl, s, CS, dx, _, _, rfl, Y.i, T.cl, T.n1, syF_c _ _ _, c, CC, d1, _, _, rfl, C.i, TC.cl, TC.n1, ctF_c _ _ _, q ac C.c⟩
/-- entries_of(contents), all rows empty -/
def spEO0 (K : PySem.W.Frag) (CC : Addr) : Sp := fun vs H Q _ => ∃ (c : Addr) (S : Ct), vs = [.ref c] ∧ CtIn K CC H c S ∧ (∀ p ∈ S.rows, p.2 = []) ∧ ∀ (t : Addr) (H' : Hp), Same H H' → SqT K H' t [] → Q (.ref t) H'
theorem scEO : FnScope ["contents", "equation", "unknown"] ["contents"] (defScope sEO) := ⟨rfl, rfl, rfl, by decide +kernel, rfl, by decide +kernel, by decide +kernel⟩
theorem pair_at {α β : Type} {F : α → β → Prop} : ∀ {l₁ : List α} {l₂ : List β} {i : Nat} {b : β}, Paired F l₁ l₂ → l₂[i]? = some b → ∃ a, l₁[i]? = some a ∧ F a b
  | _, _, i, b, .nil, h => by simp at h
  | _, _, 0, b, .cons (a := a) q t, h => by
    simp at h
    subst h
    exact ⟨a, by simp, q⟩
  | _, _, i + 1, b, .cons q t, h => by
    obtain ⟨a, h1, h2⟩ := pair_at t (by simpa using h)
    exact ⟨a, by simpa using h1, h2⟩
theorem refK_at {rs : List (Str × Addr)} {i : Nat} {k : Key} {v : V} (h : (refK rs)[i]? = some (k, v)) : ∃ y d, rs[i]? = some (y, d) ∧ k = Sum.inr y ∧ v = .ref d := by
  unfold refK at h
  rw [List.getElem?_map] at h
  obtain ⟨p, hp, e⟩ := Option.map_eq_some_iff.mp h
  cases e
  exact ⟨p.1, p.2, hp, rfl, rfl⟩
theorem refK_in {y : Str} : ∀ {rs : List (Str × Addr)}, y ∈ rs.map (·.1) → ∃ d, valV (refK rs) (Sum.inr y) = some (.ref d) ∧ (y, d) ∈ rs
  | p :: r, h => by
    by_cases e : p.1 = y
    · exact ⟨p.2, valV_pos (p := (Sum.inr p.1, V.ref p.2)) (congrArg Sum.inr e), by rw [← e]; exact List.mem_cons_self⟩
    · rw [List.map_cons, List.mem_cons] at h
      obtain ⟨d, h1, h2⟩ := refK_in (h.resolve_left (Ne.symm e))
      exact ⟨d, (valV_neg (p := (Sum.inr p.1, V.ref p.2)) (fun z => e (Sum.inr.inj z))).trans h1, List.mem_cons_of_mem _ h2⟩
theorem ok_eo0 {f : Addr} {fd : FuncData} (F : Fun K "entries_of" "entries_of" sEO f fd) (TC : CtT K mg CC fCI) (TP : TxtP mg) : FnOk P w K mg base CX0 1 f fd ["contents"] (spEO0 K CC) := by
  refine F.ok scEO (fun vs H Q E h => ?_) (fun cdv A outer s H vs Q E hr h => ?_)
  · obtain ⟨c, S, rfl, _⟩ := h
    rfl
  · obtain ⟨c, S, rfl, ⟨d1, ac, ar, ak, rs, C⟩, he, q⟩ := h
    refine ⟨_, pss_one (ps_ret (pe_callTy call_tuple_of (by rfl) TP.tup (by decide +kernel) (pa_cons (pe_callB cr_sorted (by rfl) TP.srt (by decide +kernel) (pa_cons
      (pe_lc2 (wi1 := iKeys (tDGet (tFld K (tVar 0) "rows") (tVar 1))) (own := [("equation", 1), ("unknown", 2)]) (vs1 := [2]) (g := gName 1) (tt := tYes) (g1 := gName 2) (tt1 := tYes) rfl scEO.nd (pi_keys (pe_fld (pv 0) rfl)) (blkOk_by (N := ["contents", "equation", "unknown"]) (sc := defScope sEO) (by decide +kernel)) (by decide)
        (fun _ _ _ _ _ => pg_name (i := 1) scEO.nd rfl (Or.inl rfl)) (fun _ _ _ _ _ => pts_nil)
        (fun _ _ _ _ _ => pi_keys (pe_dget (hu_of hr) (pe_fld (pv 0) rfl) (pv 1) (fun _ _ => rfl))) (fun _ _ _ _ _ => pg_name (i := 2) scEO.nd rfl (Or.inl rfl)) (fun _ _ _ _ _ => pts_nil)
        (fun _ _ _ _ _ => pe_tup (pa_cons (pv 1) (pa_cons (pv 2) pa_nil)))) pa_nil)) pa_nil))), ?_⟩
    have hks : rs.map (·.1) = S.rows.map (·.1) := pair_keys (fun p q z => z.1) C.p
    obtain ⟨or, hr0⟩ := C.r
    refine ⟨_, rfl, c, CC, d1, _, _, rfl, C.i, TC.cl, TC.n2, ctF_r _ _ _, ar, or, rfl, .inl ⟨_, hr0, fun D hD => ?_⟩⟩
    have sm : Same H (upd H D (.lst [])) := same_new hD
    have e1 : upd H D (.lst []) ar = some (.frz or (.dK (refK rs))) := sm _ _ hr0
    refine ⟨fun i m H' => (m = (refK rs).length - i ∧ i ≤ (refK rs).length) ∧ H' = upd H D (.lst []), ⟨_, ⟨rfl, Nat.zero_le _⟩, rfl⟩, fun i m H' hw => ?_⟩
    obtain ⟨⟨rfl, hi⟩, rfl⟩ := hw
    rcases Nat.lt_or_ge i (refK rs).length with lt | ge
    · refine .inr ⟨walk_keys.goes i _ lt e1, fun H' => H' = upd H D (.lst []), fun H' e => ⟨(refK rs).length - (i + 1), by omega, ⟨rfl, lt⟩, e⟩, fun x H' y => ?_⟩
      obtain ⟨rfl, k, v, hkv, rfl⟩ := walk_keys.yields i _ x H' lt e1 y
      obtain ⟨z, d, hz, rfl, rfl⟩ := refK_at hkv
      obtain ⟨d2, hv, hm⟩ := refK_in (rs := rs) (y := z) (List.mem_map.mpr ⟨_, List.mem_of_getElem? hz, rfl⟩)
      obtain ⟨j, hj⟩ := List.mem_iff_getElem?.mp hm
      obtain ⟨row, hrow, hrn, od2, hd2⟩ := pair_at C.p hj
      have hre : row.2 = [] := he row (List.mem_of_getElem? hrow)
      rw [hre] at hd2
      have hd2 : upd H D (.lst []) d2 = some (.frz od2 (.dK [])) := sm _ _ hd2
      refine ⟨rfl, iteT (B := True) ?_⟩
      refine ⟨_, rfl, c, CC, d1, _, _, rfl, sm _ _ C.i, TC.cl, TC.n2, ctF_r _ _ _, _, rfl, ar, _, rfl, .inl ⟨_, Sum.inr z, .inr ⟨or, e1⟩, rfl, hv.symm⟩, d2, od2, rfl, .inl ⟨[], hd2, ?_⟩⟩
      refine ⟨fun j k H' => j = 0 ∧ H' = upd H D (.lst []), ⟨0, rfl, rfl⟩, fun j k H' hw => .inl ?_⟩
      obtain ⟨rfl, rfl⟩ := hw
      exact ⟨(walk_keys (kvs := [])).stops _ hd2, rfl⟩
    · obtain rfl : i = (refK rs).length := Nat.le_antisymm hi ge
      refine .inl ⟨walk_keys.stops _ e1, ?_⟩
      refine ⟨D, [], rfl, SqL.of upd_same, by decide, fun ns p hp _ hn => ?_⟩
      obtain rfl : ns = [] := hp.eq_nil
      have sm2 := sm.trans (same_new (o := .lst []) hn)
      refine ⟨p, _, rfl, .inl ⟨SqL.of upd_same, fun t ht => ?_⟩⟩
      exact q t _ (sm2.trans (same_new ht)) (SqT.of upd_same)
def spEns (K : PySem.W.Frag) (CC CS : Addr) : Sp := fun vs H Q _ => ∃ (s : Addr) (H0 : Hp) (S : Ct) (m : Nat), vs = [.ref s] ∧ SyOn K CC CS H0 H s S m ∧ (∀ p ∈ S.rows, p.2 = []) ∧ ∀ (t : Addr) (H' : Hp), Same H H' → SqT K H' t [] → Q (.ref t) H'
theorem scEns : FnScope ["self"] ["self"] (defScope sEns) := ⟨rfl, rfl, rfl, by decide +kernel, rfl, by decide +kernel, by decide +kernel⟩
theorem ok_ens {f fO : Addr} {fd fdO : FuncData} (F : Fun K "entries" "System.entries" sEns f fd) (T : SysT K mg CS fSI fTk) (GO : FnOk P w K mg base CX0 1 fO fdO ["contents"] (spEO0 K CC)) (mO : mg "entries_of" = some (.ref fO)) (kO : PySem.W.keepIn K (.ref fO) = true) (bO : Binds K fdO ["contents"] []) :
    FnOk P w K mg base CX0 2 f fd ["self"] (spEns K CC CS) := by
  refine F.ok scEns (fun vs H Q E h => ?_) (fun cdv A outer s H vs Q E hr h => ?_)
  · obtain ⟨s, H0, S, m, rfl, _⟩ := h
    rfl
  · obtain ⟨s, H0, S, m, rfl, ⟨dx, c, b, h, hs, Y, C, _⟩, he, q⟩ := h
    refine ⟨_, pss_one (ps_ret (pe_call GO hr rfl mO kO bO .nil pass0 (pa_cons (pe_fld (pv 0) rfl) pa_nil))), ?_⟩
    exact ⟨_, rfl, s, CS, dx, _, _, rfl, Y.i, T.cl, T.n1, syF_c _ _ _, c, S, rfl, C, he, q⟩
end
end Bo

set_option Elab.async false
set_option linter.all false
set_option maxRecDepth 100000
set_option maxHeartbeats 4000000
/-! repr of flat data, also of dicts, and of a pair of a text and flat data -/
namespace Bo
open PySem PySem.Spec PyProof.Rows L2
theorem atom_reads {h : Heap} {v : V} {u : Value} (a : atomV v = true) (r : RelV v u) : Reads h u (dataA v) [] := by
  cases v with
  | non =>
    cases (show u = Value.none from r)
    exact .none
  | bl b =>
    cases (show u = Value.bool b from r)
    exact .bool b
  | int i =>
    obtain ⟨t, rfl⟩ := (show ∃ t, u = Value.int i t from r)
    exact .int i t
  | str x =>
    obtain ⟨t, rfl⟩ := (show ∃ t, u = Value.str x t from r)
    exact .str x t
  | _ => cases a
theorem atoms_reads {h : Heap} : ∀ {xs : List V} {us : List Value}, Atoms xs → Vals xs us → ReadsAll h us (xs.map dataA) []
  | [], _, _, .nil => .nil
  | x :: xs, _, a, .cons r t => ReadsAll.cons (as := []) (bs := []) (atom_reads (a x List.mem_cons_self) r) (atoms_reads (fun y hy => a y (List.mem_cons_of_mem _ hy)) t)
def encK : Key → PyData
  | .inl i => .int i
  | .inr x => .str x
theorem encK_reads {P : Program} {w : World} {h : Heap} (k : Key) (u : Value) (e : (mixKind P w).is k u = true) : Reads h u (encK k) [] := by
  rcases keyIs_shape e with ⟨i, t, rfl, rfl⟩ | ⟨x, t, rfl, rfl⟩
  · exact .int i t
  · exact .str x t
theorem strK_reads {h : Heap} : ∀ {ps : List (Str × V)} {vs : List (Key × Value)}, Atoms (ps.map (·.2)) → KV (strK ps) vs → PyProof.V.PairsRead h encK vs (strD ps) []
  | [], vs, _, r => by
    cases r
    exact .nil
  | p :: ps, vs, a, r => by
    cases r with
    | cons r1 r2 =>
      rename_i q qs
      obtain ⟨k, v⟩ := q
      obtain ⟨e1, e2⟩ := r1
      subst e1
      exact PyProof.V.PairsRead.cons (as := []) (bs := []) (atom_reads (a p.2 List.mem_cons_self) e2) (strK_reads (fun y hy => a y (List.mem_cons_of_mem _ hy)) r2)
theorem atoms_nodict : ∀ xs : List V, PyData.hasDictAll (xs.map dataA) = false
  | [] => rfl
  | x :: xs => by
    show (PyData.hasDict (dataA x) || PyData.hasDictAll (xs.map dataA)) = false
    rw [atoms_nodict xs, Bool.or_false]
    cases x <;> rfl
section
variable {X : Cx} {pins : List (Addr × Obj)} {σ : L2.St} {H : Hp} {s : Shared}
theorem Flat.reads (I : L2.Inv X pins σ H s) {v : V} {d : PyData} {u : Value} (f : Flat X.K H v d) (r : RelV v u) : ∃ as, Reads s.heap u d as ∧ (d.hasDict = true → sysModules ∉ as) := by
  cases f with
  | atom h => exact ⟨[], atom_reads h r, fun _ => List.not_mem_nil⟩
  | tup h x l =>
    cases r
    obtain ⟨its, rv, ⟨o, ho, hc, n, hd⟩, _⟩ := I.tuple h
    exact ⟨[], Reads.tuple ho hc hd (atoms_reads x rv), fun _ => List.not_mem_nil⟩
  | lst h x l =>
    cases r
    obtain ⟨its, rv, ⟨o, n, ho, hc, _, hd⟩, _⟩ := I.list (SqL.of h)
    refine ⟨_, Reads.list ho hc hd (atoms_reads x rv), fun z => ?_⟩
    rw [show PyData.hasDict (.list _) = PyData.hasDictAll _ from rfl, atoms_nodict] at z
    cases z
  | dct h x nd l =>
    cases r
    obtain ⟨_, z, vs, rel, dd⟩ := dk_of I.hok h
    refine ⟨_, PyProof.V.reads_dictOf encK_reads dd (strK_reads x rel), fun _ m => ?_⟩
    rw [List.mem_singleton.mp m] at z
    simp at z
end
/-- what _law_error tells: flat data, or a pair of a text and flat data -/
inductive Rp (K : PySem.W.Frag) (H : Hp) : V → PyData → Prop where
  | flat {v : V} {d : PyData} (h : Flat K H v d) : Rp K H v d
  | pair {a : Addr} {x : Str} {v : V} {d : PyData} (h : SqT K H a [.str x, v]) (f : Flat K H v d) : Rp K H (.ref a) (.tuple [.str x, d])
theorem Rp.keep {K : PySem.W.Frag} {H H' : Hp} {v : V} {d : PyData} (h : Rp K H v d) (k : Same H H') : Rp K H' v d := by
  cases h with
  | flat h => exact .flat (h.keep k)
  | pair h f => exact .pair (SqT.keep h k) (f.keep k)
section
variable {X : Cx} {pins : List (Addr × Obj)} {σ : L2.St} {H : Hp} {s : Shared}
theorem Rp.reads (I : L2.Inv X pins σ H s) {v : V} {d : PyData} {u : Value} (f : Rp X.K H v d) (r : RelV v u) : ∃ as, Reads s.heap u d as ∧ (d.hasDict = true → sysModules ∉ as) := by
  cases f with
  | flat h => exact h.reads I r
  | @pair a y w e h f =>
    cases r
    obtain ⟨its, rv, ⟨o, ho, hc, n, hd⟩, _⟩ := I.tuple h
    cases rv with
    | cons r1 r2 =>
      cases r2 with
      | cons r2 r3 =>
        cases r3
        obtain ⟨t, rfl⟩ := r1
        obtain ⟨as, h1, h2⟩ := f.reads I r2
        have ra : ReadsAll s.heap [Value.str y t, _] [PyData.str y, e] ([] ++ (as ++ [])) := ReadsAll.cons (.str y t) (ReadsAll.cons h1 .nil)
        rw [List.nil_append, List.append_nil] at ra
        refine ⟨as, Reads.tuple ho hc hd ra, fun z => h2 ?_⟩
        have e2 : PyData.hasDict (.tuple [.str y, e]) = (false || (PyData.hasDict e || false)) := rfl
        rw [e2, Bool.false_or, Bool.or_false] at z
        exact z
/-- repr(x) of such data: its text -/
def rReprX (K : PySem.W.Frag) : List V → Hp → VK → Prop := fun xs H Q => ∃ (x : V) (d : PyData), xs = [x] ∧ Rp K H x d ∧ d.showable = true ∧ d.depth ≤ 60 ∧ d.shown.length ≤ sizeLine ∧ Q (.str d.shown) H
theorem call_reprX {k : Nat} (hr : Quiet k X.A) : CallR X (.builtin "repr") (rReprX X.K) := by
  intro pins s σ H xs us Q I r h
  obtain ⟨x, d, rfl, hd, hs, hdep, hz, q⟩ := h
  obtain ⟨u, rfl, ru⟩ := vals1 r
  have hun := hr.room.un
  obtain ⟨as, R, hsm⟩ := Rp.reads I hd ru
  have big : ∀ a, u = Value.ref a → wpAny (model X.prog X.w) X.A (call (.builtin "repr") [u]) (EP X pins σ Q) X.xe s := fun a e => by
    subst e
    refine repr_of_reads' R hs hsm hr.gd (by omega) (fun _ _ e => e) (fun h' u tk hk => ?_) hz
    exact ⟨.str d.shown, H, I.kept (t' := tk) hk, ⟨u, rfl⟩, q⟩
  cases hd with
  | pair _ _ => exact big _ ru
  | flat f =>
    cases f with
    | tup _ _ _ => exact big _ ru
    | lst _ _ _ => exact big _ ru
    | dct _ _ _ _ => exact big _ ru
    | atom a =>
      cases x with
      | non =>
        cases (show u = Value.none from ru)
        exact P.repr_of_none ⟨.str PyData.none.shown, H, I.tok _, ⟨_, rfl⟩, q⟩
      | bl b =>
        cases (show u = Value.bool b from ru)
        refine P.repr_of_bool ⟨.str (PyData.bool b).shown, H, I.tok _, ⟨s.toks, ?_⟩, q⟩
        cases b <;> rfl
      | int i =>
        obtain ⟨t, rfl⟩ := (show ∃ t, u = Value.int i t from ru)
        exact P.repr_of_int (of_decide_eq_true hs) ⟨.str (PyData.int i).shown, H, I.tok _, ⟨_, rfl⟩, q⟩
      | str y =>
        obtain ⟨t, rfl⟩ := (show ∃ t, u = Value.str y t from ru)
        exact P.repr_of_str ⟨.str (PyData.str y).shown, H, I.tok _, ⟨_, rfl⟩, q⟩ hz
      | _ => cases a
end
end Bo

set_option Elab.async false
set_option linter.all false
set_option maxRecDepth 100000
set_option maxHeartbeats 4000000
/-! a dict is not a text -/
namespace Bo
open PySem PySem.Spec PySem.Calls PyProof.Rows L2
theorem txt_not_dct (z : Str) (u : Tok) (a : Addr) (dd : Option Addr) (es : Array DictEntry) (ep : Nat) (sl : Array (Option Value)) :
    Meets (Builtin.«str.__ne__» ⟨[.str z u, .ref a], []⟩) (fun _ R s => s.heap.get? a = some ⟨.type "dict", dd, .dict es ep, sl⟩ ∧ R (.ok (.ret .notImplemented)) s) :=
  .of_wp fun prog w A R s h => by
    obtain ⟨hp, g, d, tk, os⟩ := s
    obtain ⟨hl, h⟩ := h
    wp_walk using wpAny_loadPart' hl, wpAny_load hl
    exact ⟨_, rfl, h⟩
theorem dct_not_txt {prog : Program} {w : World} {A : Around} {E : Value → Shared → Prop} {s : Shared} {K : Type} [DecidableEq K] {knd : KeyKind prog w K} {a : Addr} {ka : List (K × Value)} {z : Str} {u : Tok} {Q : Value → Shared → Prop}
    (da : s.heap.DictOf knd a ka) (hu : A.units < cLine) (h : Q (.bool true) s) : wpAny (model prog w) A (compareOp .NotEq (.ref a) (.str z u)) Q E s := by
  obtain ⟨⟨cls, dd, data, sl⟩, es, ep, ho, hx, hd, _⟩ := id da
  have hc := hx.1
  dsimp only at hc hd
  subst hc hd
  refine SeqAt.rc_ne_decline_or (k := false) da.typeIs (typeIs_str s z u) (by decide) PySem.F.sub_str_dict PySem.F.slot_dict_ne PySem.F.slot_str_ne_refl (fun Q' hq => ?_) (fun Q' hq => ?_) (fun Q' hq => wpAny_of_eq (rfl : isSame (.ref a) (.str z u) = pure false) hq) (.inr hu) h
  · refine wpAny_call_entry PySem.F.slot_dict_ne da.typeIs PySem.F.entry_dict_ne ?_ (PySem.F.args_dict_ne_2 _ _)
    show wpAny _ _ (Builtin.Dict.dictSlotArgs "__ne__" ⟨[.ref a, .str z u], []⟩ >>= _) _ _ s
    refine wpAny_bind ?_
    unfold Builtin.Dict.dictSlotArgs
    refine wpAny_bind (wpAny_notOrdered_dict da.typeIs ?_)
    show wpAny _ _ (pure (Value.ref a, Value.str z u)) _ _ s
    refine wpAny_pure (wpAny_bind (wpAny_isInstance (T := "str") (typeIs_str s z u) PySem.F.sub_str_dict ?_))
    simp only [Bool.not_false, if_true]
    exact wpAny_bind (wpAny_rule (wpAny_bind (wpAny_pure (wpAny_pure ⟨_, rfl, hq⟩))))
  · exact call_meets PySem.F.slot_str_ne_refl (typeIs_str s z u) PySem.F.entry_str_ne (PySem.F.args_str_ne_2 _ _) (txt_not_dct z u a dd es ep sl) ⟨ho, hq⟩
theorem atoms_dp {K : PySem.W.Frag} {H : Hp} : ∀ {xs : List V}, Atoms xs → DpAll K H xs (xs.map dataA)
  | [], _ => .nil
  | x :: xs, a => by
    refine .cons ?_ (atoms_dp fun y hy => a y (List.mem_cons_of_mem _ hy))
    have ax := a x List.mem_cons_self
    cases x with
    | non => exact .non
    | bl b => exact .bl b
    | int i => exact .int i
    | str z => exact .str z
    | _ => cases ax
/-- v != z, v flat data, z a text -/
def rNeTx (K : PySem.W.Frag) : R2 := fun x y H Q => ∃ (d : PyData) (z : Str), y = .str z ∧ Flat K H x d ∧ (d.hasDict = false → SeqAt.shaped d = true) ∧ PyData.strOk z = true ∧ Q (.bl (!decide (x = .str z))) H
theorem op_neTx {X : Cx} (hu : X.A.units + 64 < cLine) : OpR X (compareOp .NotEq) (rNeTx X.K) := by
  intro pins s σ H x y v u Q I rx ry h
  obtain ⟨d, z, rfl, f, hsh, hz, q⟩ := h
  have zs : SeqAt.shaped (.str z) = true := by
    show (PyData.strOk z && decide (0 ≤ 64)) = true
    rw [hz]
    rfl
  cases f with
  | atom h =>
    refine op_ne pins s σ H _ _ v u Q I rx ry ⟨?_, q⟩
    cases x with
    | non => rfl
    | bl b => rfl
    | int i => rfl
    | str y => rfl
    | _ => cases h
  | tup h xa l =>
    have sh := hsh (show PyData.hasDictAll _ = false from atoms_nodict _)
    refine op_neD hu pins s σ H _ _ v u Q I rx ry ⟨_, _, .tup h (atoms_dp xa), .str z, sh, zs, ?_⟩
    rw [decide_eq_false (fun e => by cases e)] at q
    exact q
  | lst h xa l =>
    have sh := hsh (show PyData.hasDictAll _ = false from atoms_nodict _)
    refine op_neD hu pins s σ H _ _ v u Q I rx ry ⟨_, _, .lst (SqL.of h) (atoms_dp xa), .str z, sh, zs, ?_⟩
    rw [decide_eq_false (fun e => by cases e)] at q
    exact q
  | dct h xa nd l =>
    obtain ⟨_, _, vs, _, dd⟩ := dk_of I.hok h
    obtain rfl : v = Value.ref _ := rx
    obtain ⟨t, rfl⟩ := ry
    refine dct_not_txt dd (by omega) ⟨.bl true, H, I, rfl, ?_⟩
    rw [decide_eq_false (fun e => by cases e)] at q
    exact q
end Bo

set_option Elab.async false
set_option linter.all false
set_option maxRecDepth 100000
set_option maxHeartbeats 8000000
namespace Bo
open PySem L2
abbrev sLName : Stmt := top 68
abbrev sOdd : Stmt := top 69
abbrev sThing : Stmt := top 73
/-! ### a letter of a text -/
def spPickS : Sp := fun vs H Q _ => ∃ (t c : Addr) (cs : List Int) (p l : Int) (z : Str), vs = [.ref t, .str z] ∧ Tape H t c cs p l ∧ 0 < z.cps.toList.length ∧ z.cps.toList.length ≤ 1000000 ∧ p < 1000000000000 ∧
  ∀ (u : Nat) (p' l' : Int) (H' : Hp), u ∈ z.cps.toList → p ≤ p' → p' ≤ p + 1 → Tape H' t c cs p' l' → But t H H' → Q (.str ⟨#[u]⟩) H'
section
variable {P : Program} {w : World} {K : PySem.W.Frag} {mg : Str → Option Value} {base : Heap}
theorem ok_pickS {f fD : Addr} {fd fdD : FuncData} (F : Fun K "_law_pick" "_law_pick" sPick f fd) (T : TxtB mg) (G : FnOk P w K mg base CX0 1 fD fdD ["_law_tape", "_law_many"] spDraw) (mD : mg "_law_draw" = some (.ref fD)) (kD : PySem.W.keepIn K (.ref fD) = true) (bD : Binds K fdD ["_law_tape", "_law_many"] []) :
    FnOk P w K mg base CX0 2 f fd ["_law_tape", "_law_items"] spPickS := by
  refine F.ok scP (fun vs H Q E h => ?_) (fun cdv A outer s H vs Q E hr h => ?_)
  · obtain ⟨t, c, cs, p, l, z, rfl, _⟩ := h
    rfl
  · obtain ⟨t, c, cs, p, l, z, rfl, hT, hn, hx, hp, k⟩ := h
    have hsz : z.length = z.cps.toList.length := (Array.length_toList (xs := z.cps)).symm
    refine ⟨_, pss_one (ps_ret (pe_ix ix_str (pv 1) (pe_call G hr rfl mD kD bD .nil pass0 (pa_cons (pv 0) (pa_cons (pe_callB call_len_str (by rfl) T.len PySem.boot_len (pa_cons (pv 1) pa_nil)) pa_nil))) (fun _ _ => rfl))), ?_⟩
    refine ⟨_, rfl, _, rfl, _, rfl, z, rfl, by rw [sizeLine_eq]; omega, t, c, cs, p, l, _, rfl, hT, by omega, by omega, hp, fun r p' l' H' h0 h1 a1 a2 hT' hB => ?_⟩
    obtain ⟨i, rfl⟩ : ∃ i : Nat, r = (i : Int) := ⟨r.toNat, by omega⟩
    have hi : i < z.cps.toList.length := by omega
    exact ⟨z, _, _, rfl, rfl, by rw [sizeLine_eq]; omega, atI_nat (List.getElem?_eq_getElem hi), k _ p' l' H' (List.getElem_mem hi) a1 a2 hT' hB⟩
end
theorem op_mulTx {X : Cx} : OpR X (binaryOp .Mult) (fun x y H Q => ∃ a n, x = .str a ∧ y = .int n ∧ MulOk a n ∧ Q (.str (Txt.mul a n)) H) := by
  intro pins s σ H x y v u Q I rx ry h
  obtain ⟨a, n, rfl, rfl, hm, q⟩ := h
  obtain ⟨t, rfl⟩ := rx
  obtain ⟨t', rfl⟩ := ry
  exact SB.mul hm fun t' tk => ⟨.str (Txt.mul a n), H, I.tok _, ⟨_, rfl⟩, q⟩
/-! ### what _law_thing gives -/
structure TxtOk (x : Str) : Prop where
  l : x.cps.toList.length ≤ 20
  c : ∀ u ∈ x.cps.toList, u < 128
structure Thg (K : PySem.W.Frag) (H : Hp) (v : V) (d : PyData) : Prop where
  f : Flat K H v d
  t : ∀ x, v = .str x → TxtOk x
  s : d.showable = true
  p : d.depth ≤ 5
  z : d.shown.length ≤ 1000
  o : d.hasDict = false → SeqAt.shaped d = true
theorem Thg.keep {K : PySem.W.Frag} {H H' : Hp} {v : V} {d : PyData} (h : Thg K H v d) (k : Same H H') : Thg K H' v d := ⟨h.f.keep k, h.t, h.s, h.p, h.z, h.o⟩
theorem Flat.but {K : PySem.W.Frag} {H H' : Hp} {v : V} {d : PyData} {t : Addr} (h : Flat K H v d) (n : v ≠ .ref t) (b : But t H H') : Flat K H' v d := by
  have n' : ∀ a, v = .ref a → a ≠ t := fun a e z => n (by rw [e, z])
  cases h with
  | atom h => exact .atom h
  | tup h x l =>
    refine .tup ?_ x l
    rcases h with (h | ⟨o, h⟩) | h
    · exact .inl (.inl (b _ _ h (n' _ rfl)))
    · exact .inl (.inr ⟨o, b _ _ h (n' _ rfl)⟩)
    · exact .inr h
  | lst h x l => exact .lst (b _ _ h (n' _ rfl)) x l
  | dct h x nd l => exact .dct (b _ _ h (n' _ rfl)) x nd l
theorem txt_thg {K : PySem.W.Frag} {H : Hp} {x : Str} (h : TxtOk x) : Thg K H (.str x) (.str x) := by
  refine ⟨.atom (v := .str x) rfl, fun y e => by cases e; exact h, rfl, by show 0 ≤ 5; decide, ?_, fun _ => ?_⟩
  rotate_left
  · show (PyData.strOk x && decide (0 ≤ 64)) = true
    rw [Bool.and_eq_true]
    refine ⟨?_, rfl⟩
    show Array.all _ _ = true
    rw [← Array.all_toList, List.all_eq_true]
    intro u hu
    have := h.c u hu
    exact decide_eq_true (by omega)
  have h1 := PySem.StrLaws.reprText_len x fun c hc => Nat.lt_of_lt_of_le (h.c c hc) (by decide)
  have h2 : x.length = x.cps.toList.length := (Array.length_toList (xs := x.cps)).symm
  have h3 := h.l
  show (reprText x).length ≤ 1000
  omega
theorem atom_thg {K : PySem.W.Frag} {H : Hp} {v : V} (h : atomV v = true) (n : ∀ x, v ≠ .str x) (s : (dataA v).showable = true) (z : (dataA v).shown.length ≤ 1000) : Thg K H v (dataA v) := by
  refine ⟨.atom h, fun x e => absurd e (n x), s, ?_, z, fun _ => ?_⟩
  · cases v <;> (show 0 ≤ 5; decide)
  · cases v with
    | str x => exact absurd rfl (n x)
    | _ => rfl
theorem cat_ok {x y : Str} (h1 : ∀ u ∈ x.cps.toList, u < 128) (h2 : ∀ u ∈ y.cps.toList, u < 128) (l : x.cps.toList.length + y.cps.toList.length ≤ 20) : TxtOk (x ++ y) := by
  have e : (x ++ y).cps.toList = x.cps.toList ++ y.cps.toList := Array.toList_append
  refine ⟨by rw [e, List.length_append]; exact l, fun u hu => ?_⟩
  rw [e] at hu
  rcases List.mem_append.mp hu with z | z
  · exact h1 u z
  · exact h2 u z
end Bo

set_option Elab.async false
set_option linter.all false
set_option maxRecDepth 100000
set_option maxHeartbeats 8000000
namespace Bo
open PySem L2
def both : Str := Str.ofString "abcdefghijklmnopqrstuvwxyz0123456789"
theorem both_eq : both.cps.toList = lets.cps.toList ++ digs.cps.toList := by decide +kernel
theorem lets_eq : lets.cps.toList = List.range' 97 26 := by decide +kernel
theorem both_sign (c : Nat) : decide (c ∈ both.cps.toList) = isSign c := by
  unfold isSign
  rw [both_eq]
  by_cases h1 : c ∈ lets.cps.toList
  · rw [decide_eq_true (List.mem_append.mpr (.inl h1)), decide_eq_true h1, Bool.true_or]
  · by_cases h2 : c ∈ digs.cps.toList
    · rw [decide_eq_true (List.mem_append.mpr (.inr h2)), decide_eq_true h2, Bool.or_true]
    · rw [decide_eq_false (fun z => (List.mem_append.mp z).elim h1 h2), decide_eq_false h1, decide_eq_false h2, Bool.or_false]
theorem isLet_eq (c : Nat) : isLet c = decide (97 ≤ c ∧ c ≤ 122) := by
  unfold isLet
  rw [lets_eq]
  by_cases h : 97 ≤ c ∧ c ≤ 122
  · rw [decide_eq_true h, decide_eq_true (List.mem_range'_1.mpr ⟨h.1, by omega⟩)]
  · rw [decide_eq_false h, decide_eq_false (fun z => h ⟨(List.mem_range'_1.mp z).1, by have := (List.mem_range'_1.mp z).2; omega⟩)]
theorem lt_one (a b : Nat) : decide (([a] : List Nat) < [b]) = decide (a < b) := by
  by_cases h : a < b
  · rw [decide_eq_true h, decide_eq_true (show ([a] : List Nat) < [b] from List.Lex.rel h)]
  · rw [decide_eq_false h, decide_eq_false]
    intro z
    cases z with
    | rel h2 => exact h h2
    | cons h2 => cases h2
def oneTx (c : Nat) : V := V.str ⟨#[c]⟩
def oneD (c : Nat) : PyData := .str ⟨#[c]⟩
theorem ones_dp {K : PySem.W.Frag} {H : Hp} : ∀ cs : List Nat, DpAll K H (cs.map oneTx) (cs.map oneD)
  | [] => .nil
  | c :: cs => .cons (.str _) (ones_dp cs)
theorem ones_lay : ∀ {cs : List Nat}, (∀ c ∈ cs, c < 128) → PyData.canLayAll0 (cs.map oneD) = true
  | [], _ => rfl
  | c :: cs, h => by
    show (PyData.strOk ⟨#[c]⟩ && PyData.canLayAll0 (cs.map oneD)) = true
    rw [ones_lay fun x hx => h x (List.mem_cons_of_mem _ hx), Bool.and_true]
    have hc := h c List.mem_cons_self
    unfold PyData.strOk
    simp
    omega
theorem ones_depth : ∀ cs : List Nat, PyData.depthAll (cs.map oneD) = 0
  | [] => rfl
  | c :: cs => by
    show max (PyData.depth (oneD c)) (PyData.depthAll (cs.map oneD)) = 0
    rw [ones_depth cs]
    rfl
theorem ones_shaped {cs : List Nat} (h : ∀ c ∈ cs, c < 128) : SeqAt.shaped (.list (cs.map oneD)) = true := by
  show (PyData.canLayAll0 (cs.map oneD) && decide (PyData.depthAll (cs.map oneD) + 1 ≤ 64)) = true
  rw [ones_lay h, ones_depth]
  rfl
theorem ones_none : ∀ cs : List Nat, PyData.eqv (.list (cs.map oneD)) (.list []) = cs.isEmpty
  | [] => by simp [PyData.eqv, PyData.eqvAll]
  | c :: cs => by simp [PyData.eqv, PyData.eqvAll]
/-- _law_is_name(thing) -/
def spLName (K : PySem.W.Frag) : Sp := fun vs H Q _ => ∃ (v : V) (d : PyData), vs = [v] ∧ Flat K H v d ∧ (∀ x, v = .str x → TxtOk x) ∧ ∀ H', Same H H' → Q (.bl (nameV v)) H'
section
variable {P : Program} {w : World} {K : PySem.W.Frag} {mg : Str → Option Value} {base : Heap}
theorem scLN : FnScope ["_law_thing_here", "_law_sign"] ["_law_thing_here"] (defScope sLName) := ⟨rfl, rfl, rfl, by decide +kernel, rfl, by decide +kernel, by decide +kernel⟩
theorem ok_lname {f : Addr} {fd : FuncData} (F : Fun K "_law_is_name" "_law_is_name" sLName f fd) (T : TxtN mg) : FnOk P w K mg base CX0 1 f fd ["_law_thing_here"] (spLName K) := by
  refine F.ok scLN (fun vs H Q E h => ?_) (fun cdv A outer s H vs Q E hr h => ?_)
  · obtain ⟨v, d, rfl, _⟩ := h
    rfl
  · obtain ⟨v, d, rfl, hf, hz, k⟩ := h
    have hu64 : (A.deeper (PyProof.Rows.envOfC "_law_is_name" (defScope sLName) s.heap.objs.size f cdv)).units + 64 < cLine := by have := hr.un; omega
    refine ⟨_, pss_cons (ps_if (PW.pt (pw_or (pt_not (pt_val (pe_callB call_isi (by rfl) T.isi (by decide +kernel) (pa_cons (pv 0) (pa_cons (pe_bltn (v := .ty "str") (by rfl) T.str_ (by decide +kernel) rfl) pa_nil)))))
          (pw_or (pt_not (pt_chain op_le op_le pe_int (pe_callB call_len_str (by rfl) T.len PySem.boot_len (pa_cons (pv 0) pa_nil)) pe_int))
          (pw_or1 (pt_not (pt_chain op_le_str op_le_str pe_str (pe_ix ix_str (pv 0) pe_int (fun _ _ => rfl)) pe_str)))))) (pss_one (ps_ret pe_bl)) pss_nil)
      (pss_one (ps_ret (pe_cmpR (op_eqD hu64) (pe_lc (own := [("_law_sign", 1)]) (g := gName 1) rfl scLN.nd (pi_str (pv 0)) (blkOk_by (N := ["_law_thing_here", "_law_sign"]) (sc := defScope sLName) (by decide +kernel)) (fun _ _ _ _ _ => pg_name (i := 1) scLN.nd rfl (Or.inl rfl))
          (fun _ _ _ _ _ => pts_one (pt_cmpR op_notIn_sign (pv 1) pe_str (by rfl))) (fun _ _ _ _ _ => pv 1)) (pe_lst pa_nil) (by rfl)))), ?_⟩
    rcases flat_ty hf with ⟨x, rfl⟩ | ⟨t, ty, kn⟩
    · obtain ⟨hl, hcs⟩ := hz x rfl
      have lenE : x.length = x.cps.toList.length := (Array.length_toList (xs := x.cps)).symm
      refine ⟨_, rfl, _, _, _, _, true, rfl, .ty "str", .base (.str x), kit_ty (by decide +kernel), _, rfl, iteF ?_⟩
      have bad : (1 ≤ x.cps.toList.length ∧ x.cps.toList.length ≤ 8 → x.cps.toList.head?.any isLet = true → False) → Q (.bl false) H := fun hb => by
        have e : nameV (.str x) = false := by
          show (decide _ && (decide _ && (_ && _))) = false
          by_cases h1 : 1 ≤ x.cps.toList.length
          · by_cases h2 : x.cps.toList.length ≤ 8
            · cases h3 : x.cps.toList.head?.any isLet with
              | false => rw [Bool.false_and, Bool.and_false, Bool.and_false]
              | true => exact (hb ⟨h1, h2⟩ h3).elim
            · rw [decide_eq_false h2, Bool.false_and, Bool.and_false]
          · rw [decide_eq_false h1, Bool.false_and]
        rw [← e]
        exact k H (Same.refl H)
      refine ⟨_, rfl, x, rfl, by rw [sizeLine_eq]; omega, _, _, rfl, rfl, _, rfl, ?_⟩
      refine ite2 (fun h1 => ?_) (fun h1 => ⟨_, rfl, iteT (iteT (bad fun z _ => h1 (decide_eq_true (by omega))))⟩)
      have h1 : (1 : Int) ≤ x.length := of_decide_eq_true h1
      refine ⟨_, _, rfl, rfl, _, rfl, ite2 (fun h2 => iteT (bad fun z _ => ?_)) (fun h2 => ?_)⟩
      · rw [decide_eq_true (show ((x.length : Nat) : Int) ≤ 8 by omega)] at h2
        cases h2
      have h2 : (x.length : Int) ≤ 8 := by
        by_cases z : (x.length : Int) ≤ 8
        · exact z
        · exact absurd (by rw [decide_eq_false z]; rfl) h2
      obtain ⟨c, hc⟩ : ∃ c, x.cps.toList[0]? = some c := ⟨_, List.getElem?_eq_getElem (by omega)⟩
      have hhd : x.cps.toList.head? = some c := by
        rw [List.head?_eq_getElem?]
        exact hc
      have bad2 : isLet c = false → Q (.bl false) H := fun hb => bad fun _ z => by
        rw [hhd, show (some c).any isLet = isLet c from rfl, hb] at z
        cases z
      have ea : (Str.ofString "a").cps.toList = [97] := by decide +kernel
      have ez : (Str.ofString "z").cps.toList = [122] := by decide +kernel
      refine ⟨_, rfl, x, 0, c, rfl, rfl, by rw [sizeLine_eq]; omega, atI_nat (j := 0) hc, _, _, rfl, rfl, _, rfl, ?_⟩
      have g1 : (!decide (([c] : List Nat) < (Str.ofString "a").cps.toList)) = decide (97 ≤ c) := by
        rw [ea, lt_one]
        by_cases z : 97 ≤ c
        · rw [decide_eq_true z, decide_eq_false (by omega)]
          rfl
        · rw [decide_eq_false z, decide_eq_true (by omega)]
          rfl
      have g2 : (!decide ((Str.ofString "z").cps.toList < ([c] : List Nat))) = decide (c ≤ 122) := by
        rw [ez, lt_one]
        by_cases z : c ≤ 122
        · rw [decide_eq_true z, decide_eq_false (by omega)]
          rfl
        · rw [decide_eq_false z, decide_eq_true (by omega)]
          rfl
      refine ite2 (fun h3 => ?_) (fun h3 => ⟨_, rfl, iteT (bad2 ?_)⟩)
      rotate_left
      · rw [show (!decide (([c] : List Nat) < (Str.ofString "a").cps.toList)) = decide (97 ≤ c) from g1] at h3
        rw [isLet_eq]
        exact decide_eq_false fun z => h3 (decide_eq_true z.1)
      have h3 : 97 ≤ c := by
        rw [show (!decide (([c] : List Nat) < (Str.ofString "a").cps.toList)) = decide (97 ≤ c) from g1] at h3
        exact of_decide_eq_true h3
      refine ⟨_, _, rfl, rfl, _, rfl, ite2 (fun h4 => bad2 ?_) (fun h4 => ?_)⟩
      · rw [show (!decide ((Str.ofString "z").cps.toList < ([c] : List Nat))) = decide (c ≤ 122) from g2] at h4
        rw [isLet_eq]
        refine decide_eq_false fun z => ?_
        rw [decide_eq_true z.2] at h4
        cases h4
      have h4 : c ≤ 122 := by
        rw [show (!decide ((Str.ofString "z").cps.toList < ([c] : List Nat))) = decide (c ≤ 122) from g2] at h4
        by_cases z : c ≤ 122
        · exact z
        · exact absurd (by rw [decide_eq_false z]; rfl) h4
      have val : nameV (.str x) = x.cps.toList.all isSign := by
        show (decide _ && (decide _ && (_ && _))) = _
        rw [decide_eq_true (show 1 ≤ x.cps.toList.length by omega), decide_eq_true (show x.cps.toList.length ≤ 8 by omega), hhd, show (some c).any isLet = isLet c from rfl, isLet_eq, decide_eq_true ⟨h3, h4⟩, Bool.true_and, Bool.true_and, Bool.true_and]
      -- the signs that are none
      refine ⟨_, rfl, x, rfl, fun D hD => ?_⟩
      refine lc_it walk_str (fun i H' => H' = upd H D (.lst (((x.cps.toList.take i).filter fun c => !isSign c).map oneTx))) rfl (fun _ _ _ _ => True.intro) ?_ ?_
      · intro i v H1 H' hi e y
        subst e
        obtain ⟨eH, c', hc', rfl⟩ := y
        subst eH
        have hc2 : x.cps.toList[i]? = some c' := by rw [Array.getElem?_toList]; exact hc'
        refine ⟨rfl, _, rfl, c', both, rfl, rfl, _, rfl, ?_⟩
        rw [both_sign]
        refine ite2 (fun h5 => ?_) (fun h5 => ?_)
        · refine ⟨_, rfl, _, upd_same, ?_, ?_⟩
          · have l1 := List.length_filter_le (fun c => !isSign c) (x.cps.toList.take i)
            rw [List.length_take] at l1
            rw [sizeLine_eq, List.length_map]
            omega
          · rw [upd_upd, take_snoc hc2, List.filter_append, List.map_append, List.filter_cons, if_pos h5]
            rfl
        · rw [take_snoc hc2, List.filter_append, List.filter_cons, if_neg h5, List.filter_nil, List.append_nil]
      · intro H' e
        subst e
        have en : x.cps.toList.take x.cps.size = x.cps.toList := by
          rw [← Array.length_toList, List.take_length]
        rw [en]
        refine ⟨by decide, fun p hp => ?_⟩
        have pD : p ≠ D := fun z => by rw [z, upd_same] at hp; cases hp
        have ok : ∀ c ∈ x.cps.toList.filter (fun c => !isSign c), c < 128 := fun c hc => hcs c (List.mem_filter.mp hc).1
        refine ⟨.list ((x.cps.toList.filter fun c => !isSign c).map oneD), .list [], .lst (SqL.of (by rw [upd_ne pD.symm]; exact upd_same)) (ones_dp _), .lst (SqL.of upd_same) .nil, ones_shaped ok, rfl, ?_⟩
        have e2 : PyData.eqv (.list ((x.cps.toList.filter fun c => !isSign c).map oneD)) (.list []) = nameV (.str x) := by
          rw [ones_none, val]
          cases h5 : x.cps.toList.all isSign with
          | true =>
            rw [List.isEmpty_iff, List.filter_eq_nil_iff]
            intro a ha
            rw [List.all_eq_true.mp h5 a ha]
            simp
          | false =>
            cases h6 : (x.cps.toList.filter fun c => !isSign c).isEmpty with
            | false => rfl
            | true =>
              rw [List.isEmpty_iff, List.filter_eq_nil_iff] at h6
              rw [List.all_eq_true.mpr fun a ha => by have := h6 a ha; cases z : isSign a <;> simp_all] at h5
              cases h5
        rw [e2]
        exact k _ ((same_new hD).trans (same_new hp))
    · have hno : nameV v = false := nameV_no fun x e => by
        subst e
        cases ty with
        | base h =>
          cases h
          rw [show PySem.W.kitOne K (.type "str") (.type "str") = some true from kit_ty (by decide +kernel)] at kn
          cases kn
      refine ⟨_, rfl, v, _, _, _, false, rfl, .ty "str", ty, kn, _, rfl, iteT (iteT ?_)⟩
      rw [← hno]
      exact k H (Same.refl H)
end
end Bo

set_option Elab.async false
set_option linter.all false
set_option maxRecDepth 100000
set_option maxHeartbeats 8000000
namespace Bo
open PySem L2
/-- the signs of which the law takes some that no name has: the text's own first constant -/
def oddS : Str := match (defBody sOdd).getD 0 (.Pass ⟨0, 0, 0, 0⟩) with
  | .Assign _ (.Constant (.str x) _ _) _ => x
  | _ => Str.empty
theorem oddS_ok : ∀ u ∈ oddS.cps.toList, u < 128 := by decide +kernel
theorem one_ok {u : Nat} (h : u < 128) : ∀ x ∈ (⟨#[u]⟩ : Str).cps.toList, x < 128 := fun x hx => by
  have : x = u := by simpa using hx
  omega
/-- what can be drawn -/
def spOdd (K : PySem.W.Frag) (n : Int) : Sp := fun vs H Q _ => ∃ (t c : Addr) (cs : List Int) (p l : Int), vs = [.ref t] ∧ Tape H t c cs p l ∧ p + n < 100000000000 ∧
  ∀ (v : V) (d : PyData) (p' l' : Int) (H' : Hp), Thg K H' v d → v ≠ .ref t → p ≤ p' → p' ≤ p + n → Tape H' t c cs p' l' → But t H H' → Q v H'
theorem Thg.but {K : PySem.W.Frag} {H H' : Hp} {v : V} {d : PyData} {t : Addr} (h : Thg K H v d) (n : v ≠ .ref t) (b : But t H H') : Thg K H' v d := ⟨h.f.but n b, h.t, h.s, h.p, h.z, h.o⟩
theorem But.same {t : Addr} {H H' : Hp} (h : Same H H') : But t H H' := fun q o e _ => h q o e
theorem str_ne {x : Str} {t : Addr} : V.str x ≠ .ref t := fun z => by cases z
theorem ref_thg {K : PySem.W.Frag} {H : Hp} {a : Addr} {d : PyData} (f : Flat K H (.ref a) d) (s : d.showable = true) (p : d.depth ≤ 5) (z : d.shown.length ≤ 1000) (o : d.hasDict = false → SeqAt.shaped d = true) : Thg K H (.ref a) d := ⟨f, fun x e => (by cases e), s, p, z, o⟩
section
variable {P : Program} {w : World} {K : PySem.W.Frag} {mg : Str → Option Value} {base : Heap}
theorem scOdd : FnScope ["_law_tape", "_law_signs", "_law_odd_here"] ["_law_tape"] (defScope sOdd) := ⟨rfl, rfl, rfl, by decide +kernel, rfl, by decide +kernel, by decide +kernel⟩
theorem ok_odd {f fP : Addr} {fd fdP : FuncData} (F : Fun K "_law_odd" "_law_odd" sOdd f fd)
    (GL : FnOk P w K mg base CX0 2 fP fdP ["_law_tape", "_law_items"] spPick) (GS : FnOk P w K mg base CX0 2 fP fdP ["_law_tape", "_law_items"] spPickS) (mP : mg "_law_pick" = some (.ref fP)) (kP : PySem.W.keepIn K (.ref fP) = true) (bP : Binds K fdP ["_law_tape", "_law_items"] []) :
    FnOk P w K mg base CX0 3 f fd ["_law_tape"] (spOdd K 3) := by
  refine F.ok scOdd (fun vs H Q E h => ?_) (fun cdv A outer s H vs Q E hr h => ?_)
  · obtain ⟨t, c, cs, p, l, rfl, _⟩ := h
    rfl
  · obtain ⟨t, c, cs, p, l, rfl, hT, hp, k⟩ := h
    refine ⟨_, pss_cons (ps_set (i := 1) scOdd.nd rfl (.inl rfl) pe_str)
      (pss_cons (ps_set (i := 2) scOdd.nd rfl (.inl rfl) (pe_lst (pa_cons pe_str (pa_cons pe_str (pa_cons pe_str
          (pa_cons (pe_op op_add_str pe_str (pe_call GS hr rfl mP kP bP .nil pass0 (pa_cons (pv 0) (pa_cons (pv 1) pa_nil))))
          (pa_cons (pe_op op_add_str (pe_call GS hr rfl mP kP bP .nil pass0 (pa_cons (pv 0) (pa_cons (pv 1) pa_nil))) pe_str)
          (pa_cons (pe_op op_mulTx pe_str pe_int) (pa_cons pe_str (pa_cons pe_non pa_nil))))))))))
      (pss_one (ps_ret (pe_call GL hr rfl mP kP bP .nil pass0 (pa_cons (pv 0) (pa_cons (pe_op op_cat (pv 2)
          (pe_lst (pa_cons pe_bl (pa_cons pe_int (pa_cons (pe_un un_neg pe_int) (pa_cons (pe_tup pa_nil) (pa_cons (pe_lst pa_nil) (pa_cons pe_dnewK (pa_cons (pe_tup (pa_cons pe_str pa_nil)) (pa_cons (pe_lst (pa_cons pe_str pa_nil))
            (pa_cons (pe_disp (pps_cons pe_str pe_int pps_nil) (by rfl) (by rfl) (fun z => by cases z) (by decide)) (pa_cons (pe_op op_pow pe_int pe_int) (pa_cons pe_str pa_nil))))))))))))) pa_nil)))))), ?_⟩
    refine ⟨_, rfl, _, rfl, t, c, cs, p, l, oddS, rfl, hT, by decide +kernel, by decide +kernel, by omega, fun u1 p1 l1 H1 hu1 a1 b1 hT1 hB1 => ⟨_, _, rfl, rfl, by show 1 + 1 ≤ sizeLine; decide, ?_⟩⟩
    refine ⟨_, rfl, _, rfl, t, c, cs, p1, l1, oddS, rfl, hT1, by decide +kernel, by decide +kernel, by omega, fun u2 p2 l2 H2 hu2 a2 b2 hT2 hB2 => ⟨_, _, rfl, rfl, by show 1 + 1 ≤ sizeLine; decide, ?_⟩⟩
    refine ⟨_, _, rfl, rfl, ⟨by decide, by decide +kernel, by decide +kernel⟩, by show 8 ≤ sizeLine; decide, fun q1 hq1 => ?_⟩
    have hT3 := hT2.new (o := .lst [V.str (Str.ofString ""), V.str (Str.ofString "abcdefghi"), V.str (Str.ofString "1a"), V.str (Str.ofString "a" ++ ⟨#[u1]⟩), V.str (⟨#[u2]⟩ ++ Str.ofString "a"), V.str (Txt.mul (Str.ofString "a") 9), V.str (Str.ofString "a\n"), V.non]) hq1
    have hBx : But t H (upd H2 q1 (.lst [V.str (Str.ofString ""), V.str (Str.ofString "abcdefghi"), V.str (Str.ofString "1a"), V.str (Str.ofString "a" ++ ⟨#[u1]⟩), V.str (⟨#[u2]⟩ ++ Str.ofString "a"), V.str (Txt.mul (Str.ofString "a") 9), V.str (Str.ofString "a\n"), V.non])) := (hB1.trans hB2).new hq1
    have hQ1 : (upd H2 q1 (.lst [V.str (Str.ofString ""), V.str (Str.ofString "abcdefghi"), V.str (Str.ofString "1a"), V.str (Str.ofString "a" ++ ⟨#[u1]⟩), V.str (⟨#[u2]⟩ ++ Str.ofString "a"), V.str (Txt.mul (Str.ofString "a") 9), V.str (Str.ofString "a\n"), V.non])) q1 = _ := upd_same
    generalize upd H2 q1 (.lst [V.str (Str.ofString ""), V.str (Str.ofString "abcdefghi"), V.str (Str.ofString "1a"), V.str (Str.ofString "a" ++ ⟨#[u1]⟩), V.str (⟨#[u2]⟩ ++ Str.ofString "a"), V.str (Txt.mul (Str.ofString "a") 9), V.str (Str.ofString "a\n"), V.non]) = H3 at hT3 hBx hQ1 ⊢
    refine ⟨_, rfl, _, rfl, ?_⟩
    refine ⟨_, rfl, by decide, fun r1 hr1 => ⟨by decide, fun r2 hr2 r3 hr3 => ⟨by show 1 ≤ sizeLine; decide, fun r4 hr4 => ⟨by show 1 ≤ sizeLine; decide, fun r5 hr5 r6 hr6 => ?_⟩⟩⟩⟩
    refine ⟨upd_same, [(Sum.inr (Str.ofString "a"), V.int 1)], rfl, by show 1 ≤ 15; decide, ?_⟩
    rw [upd_upd]
    have em : mergeK [] [((Sum.inr (Str.ofString "a") : Key), V.int 1)] = strK [(Str.ofString "a", V.int 1)] := rfl
    rw [em]
    refine ⟨_, _, rfl, rfl, ⟨by decide, by decide, by decide⟩, by show 11 ≤ sizeLine; decide, fun r7 hr7 => ?_⟩
    -- what stands there
    have k1 : Same H3 (upd H3 r1 (.tup [])) := same_new hr1
    have f1 : Flat K (upd H3 r1 (.tup [])) (.ref r1) (.tuple []) := .tup (xs := []) (SqT.of upd_same) (fun _ h => nomatch h) (by decide)
    have n1 := ne_of_none hT3.d hr1
    have T1 := hT3.keep k1
    have g1 : (upd H3 r1 (.tup [])) q1 = _ := k1 _ _ hQ1
    have b1' := hBx.trans (But.same k1)
    generalize upd H3 r1 (.tup []) = H4 at *
    have k2 : Same H4 (upd H4 r2 (.lst [])) := same_new hr2
    have f2 : Flat K (upd H4 r2 (.lst [])) (.ref r2) (.list []) := .lst (xs := []) upd_same (fun _ h => nomatch h) (by decide)
    have n2 := ne_of_none T1.d hr2
    replace f1 := f1.keep k2
    replace T1 := T1.keep k2
    replace g1 := k2 _ _ g1
    replace b1' := b1'.trans (But.same k2)
    generalize upd H4 r2 (.lst []) = H5 at *
    have k3 : Same H5 (upd H5 r3 (.dK [])) := same_new hr3
    have f3 : Flat K (upd H5 r3 (.dK [])) (.ref r3) (.dict []) := .dct (ps := []) upd_same (fun _ h => nomatch h) .nil (by decide)
    have n3 := ne_of_none T1.d hr3
    replace f1 := f1.keep k3
    replace f2 := f2.keep k3
    replace T1 := T1.keep k3
    replace g1 := k3 _ _ g1
    replace b1' := b1'.trans (But.same k3)
    generalize upd H5 r3 (.dK []) = H6 at *
    have ats : Atoms [V.str (Str.ofString "a")] := fun x h => by rw [List.mem_singleton.mp h]; rfl
    have k4 : Same H6 (upd H6 r4 (.tup [.str (Str.ofString "a")])) := same_new hr4
    have f4 : Flat K (upd H6 r4 (.tup [.str (Str.ofString "a")])) (.ref r4) (.tuple [.str (Str.ofString "a")]) := .tup (xs := [.str (Str.ofString "a")]) (SqT.of upd_same) ats (by decide)
    have n4 := ne_of_none T1.d hr4
    replace f1 := f1.keep k4
    replace f2 := f2.keep k4
    replace f3 := f3.keep k4
    replace T1 := T1.keep k4
    replace g1 := k4 _ _ g1
    replace b1' := b1'.trans (But.same k4)
    generalize upd H6 r4 (.tup [.str (Str.ofString "a")]) = H7 at *
    have k5 : Same H7 (upd H7 r5 (.lst [.str (Str.ofString "a")])) := same_new hr5
    have f5 : Flat K (upd H7 r5 (.lst [.str (Str.ofString "a")])) (.ref r5) (.list [.str (Str.ofString "a")]) := .lst (xs := [.str (Str.ofString "a")]) upd_same ats (by decide)
    have n5 := ne_of_none T1.d hr5
    replace f1 := f1.keep k5
    replace f2 := f2.keep k5
    replace f3 := f3.keep k5
    replace f4 := f4.keep k5
    replace T1 := T1.keep k5
    replace g1 := k5 _ _ g1
    replace b1' := b1'.trans (But.same k5)
    generalize upd H7 r5 (.lst [.str (Str.ofString "a")]) = H8 at *
    have k6 : Same H8 (upd H8 r6 (.dK (strK [(Str.ofString "a", V.int 1)]))) := same_new hr6
    have f6 : Flat K (upd H8 r6 (.dK (strK [(Str.ofString "a", V.int 1)]))) (.ref r6) (.dict [(.str (Str.ofString "a"), .int 1)]) := .dct (ps := [(Str.ofString "a", V.int 1)]) upd_same (fun x h => by rw [List.mem_singleton.mp h]; rfl) (by decide) (by decide)
    have n6 := ne_of_none T1.d hr6
    replace f1 := f1.keep k6
    replace f2 := f2.keep k6
    replace f3 := f3.keep k6
    replace f4 := f4.keep k6
    replace f5 := f5.keep k6
    replace T1 := T1.keep k6
    replace g1 := k6 _ _ g1
    replace b1' := b1'.trans (But.same k6)
    generalize upd H8 r6 (.dK (strK [(Str.ofString "a", V.int 1)])) = H9 at *
    refine ⟨q1, r7, _, _, rfl, rfl, (same_new hr7) _ _ g1, upd_same, by show 8 + 11 ≤ sizeLine; decide, fun r8 hr8 => ?_⟩
    have sm := (same_new (H := H9) (o := .lst [V.bl true, V.int 0, V.int (-1), V.ref r1, V.ref r2, V.ref r3, V.ref r4, V.ref r5, V.ref r6, V.int (10 ^ Int.toNat 30), V.str (Str.ofString "a b")]) hr7).trans (same_new (o := .lst ([V.str (Str.ofString ""), V.str (Str.ofString "abcdefghi"), V.str (Str.ofString "1a"), V.str (Str.ofString "a" ++ ⟨#[u1]⟩), V.str (⟨#[u2]⟩ ++ Str.ofString "a"), V.str (Txt.mul (Str.ofString "a") 9), V.str (Str.ofString "a\n"), V.non] ++ [V.bl true, V.int 0, V.int (-1), V.ref r1, V.ref r2, V.ref r3, V.ref r4, V.ref r5, V.ref r6, V.int (10 ^ Int.toNat 30), V.str (Str.ofString "a b")])) hr8)
    refine ⟨t, c, r8, cs, p2, l2, _, rfl, T1.keep sm, upd_same, by simp, by show 19 ≤ 1000000; decide, by omega, fun i x p' l' H' hi a3 b3 hT' hB => ?_⟩
    have all : ∀ x ∈ ([V.str (Str.ofString ""), V.str (Str.ofString "abcdefghi"), V.str (Str.ofString "1a"), V.str (Str.ofString "a" ++ ⟨#[u1]⟩), V.str (⟨#[u2]⟩ ++ Str.ofString "a"), V.str (Txt.mul (Str.ofString "a") 9), V.str (Str.ofString "a\n"), V.non] ++ [V.bl true, V.int 0, V.int (-1), V.ref r1, V.ref r2, V.ref r3, V.ref r4, V.ref r5, V.ref r6, V.int (10 ^ Int.toNat 30), V.str (Str.ofString "a b")]), ∃ d, Thg K H9 x d ∧ x ≠ .ref t := by
      have o1 : TxtOk (Str.ofString "a" ++ ⟨#[u1]⟩) := cat_ok (by decide +kernel) (one_ok (oddS_ok u1 hu1)) (by show 1 + 1 ≤ 20; decide)
      have o2 : TxtOk (⟨#[u2]⟩ ++ Str.ofString "a") := cat_ok (one_ok (oddS_ok u2 hu2)) (by decide +kernel) (by show 1 + 1 ≤ 20; decide)
      have rn : ∀ {r : Addr}, t ≠ r → V.ref r ≠ .ref t := fun n z => n (V.ref.inj z).symm
      have sx : ∀ (z : String), (Str.ofString z).cps.toList.length ≤ 20 → (∀ u ∈ (Str.ofString z).cps.toList, u < 128) → ∃ d, Thg K H9 (V.str (Str.ofString z)) d ∧ V.str (Str.ofString z) ≠ .ref t := fun z a b => ⟨_, txt_thg ⟨a, b⟩, str_ne⟩
      rw [List.forall_mem_append]
      constructor
      · refine List.forall_mem_cons.mpr ⟨sx _ (by decide +kernel) (by decide +kernel), List.forall_mem_cons.mpr ⟨sx _ (by decide +kernel) (by decide +kernel), List.forall_mem_cons.mpr ⟨sx _ (by decide +kernel) (by decide +kernel), List.forall_mem_cons.mpr ⟨⟨_, txt_thg o1, str_ne⟩, List.forall_mem_cons.mpr ⟨⟨_, txt_thg o2, str_ne⟩, List.forall_mem_cons.mpr ⟨⟨_, txt_thg ⟨by decide +kernel, by decide +kernel⟩, str_ne⟩, List.forall_mem_cons.mpr ⟨sx _ (by decide +kernel) (by decide +kernel), List.forall_mem_cons.mpr ⟨⟨_, atom_thg (v := .non) rfl (fun _ z => by cases z) rfl (by decide +kernel), fun z => by cases z⟩, List.forall_mem_nil _⟩⟩⟩⟩⟩⟩⟩⟩
      · refine List.forall_mem_cons.mpr ⟨⟨_, atom_thg (v := .bl true) rfl (fun _ z => by cases z) rfl (by decide +kernel), fun z => by cases z⟩, List.forall_mem_cons.mpr ⟨⟨_, atom_thg (v := .int 0) rfl (fun _ z => by cases z) (by decide +kernel) (by decide +kernel), fun z => by cases z⟩, List.forall_mem_cons.mpr ⟨⟨_, atom_thg (v := .int (-1)) rfl (fun _ z => by cases z) (by decide +kernel) (by decide +kernel), fun z => by cases z⟩, ?_⟩⟩⟩
        refine List.forall_mem_cons.mpr ⟨⟨_, ref_thg f1 rfl (by decide +kernel) (by decide +kernel) (by decide +kernel), rn n1⟩, List.forall_mem_cons.mpr ⟨⟨_, ref_thg f2 rfl (by decide +kernel) (by decide +kernel) (by decide +kernel), rn n2⟩, List.forall_mem_cons.mpr ⟨⟨_, ref_thg f3 rfl (by decide +kernel) (by decide +kernel) (by decide +kernel), rn n3⟩, ?_⟩⟩⟩
        refine List.forall_mem_cons.mpr ⟨⟨_, ref_thg f4 rfl (by decide +kernel) (by decide +kernel) (by decide +kernel), rn n4⟩, List.forall_mem_cons.mpr ⟨⟨_, ref_thg f5 rfl (by decide +kernel) (by decide +kernel) (by decide +kernel), rn n5⟩, List.forall_mem_cons.mpr ⟨⟨_, ref_thg f6 (by decide +kernel) (by decide +kernel) (by decide +kernel) (by decide +kernel), rn n6⟩, ?_⟩⟩⟩
        exact List.forall_mem_cons.mpr ⟨⟨_, atom_thg (v := .int (10 ^ Int.toNat 30)) rfl (fun _ z => by cases z) (by decide +kernel) (by decide +kernel), fun z => by cases z⟩, List.forall_mem_cons.mpr ⟨sx _ (by decide +kernel) (by decide +kernel), List.forall_mem_nil _⟩⟩
    obtain ⟨d, h1, h2⟩ := all x (List.mem_of_getElem? hi)
    exact k x d p' l' H' ((h1.keep sm).but h2 hB) h2 (by omega) (by omega) hT' ((b1'.trans (But.same sm)).trans hB)
end
end Bo

set_option Elab.async false
set_option linter.all false
set_option maxRecDepth 100000
set_option maxHeartbeats 8000000
namespace Bo
open PySem L2
def oneS (c : Nat) : Str := ⟨#[c]⟩
theorem ones_map (us : List Nat) : us.map oneTx = (us.map oneS).map V.str := by
  rw [List.map_map]
  rfl
theorem ones_join (us : List Nat) : (Txt.join (Str.ofString "") (us.map oneS)).cps.toList = us := by
  have h := PySem.StrLaws.glued_eq_join (Str.ofString "") (us.map oneS)
  show (Builtin.Str.glued (Str.ofString "") (us.map oneS)).cps.toList = us
  unfold Builtin.Str.glued
  have key : ∀ (l : List Nat) (acc : Array Nat), ((l.map oneS).foldl (fun acc p => acc ++ (Str.ofString "").cps ++ p.cps) acc).toList = acc.toList ++ l := by
    intro l
    induction l with
    | nil => intro acc; simp
    | cons c l ih =>
      intro acc
      rw [List.map_cons, List.foldl_cons, ih]
      have e : (Str.ofString "").cps = #[] := rfl
      rw [e]
      simp [oneS]
  cases us with
  | nil => rfl
  | cons c l =>
    show ((l.map oneS).foldl (fun acc p => acc ++ (Str.ofString "").cps ++ p.cps) (oneS c).cps).toList = _
    rw [key]
    rfl
theorem ones_sum : ∀ us : List Nat, ((us.map oneS).map (·.length)).sum = us.length
  | [] => rfl
  | c :: us => by
    rw [List.map_cons, List.map_cons, List.sum_cons, ones_sum us]
    show 1 + us.length = us.length + 1
    omega
theorem cut_mem {z : Str} {lo hi : Option Int} {u : Nat} (h : u ∈ (cutS z lo hi).cps.toList) : u ∈ z.cps.toList := by
  unfold cutS at h
  rw [List.toList_toArray] at h
  exact List.mem_of_mem_drop (List.mem_of_mem_take h)
theorem cut_len (z : Str) (lo hi : Option Int) : (cutS z lo hi).cps.toList.length ≤ z.cps.toList.length := by
  have := cutS_length z lo hi
  rw [show (cutS z lo hi).length = (cutS z lo hi).cps.toList.length from (Array.length_toList (xs := (cutS z lo hi).cps)).symm, show z.length = z.cps.toList.length from (Array.length_toList (xs := z.cps)).symm] at this
  exact this
theorem str_app (x y : Str) : (x ++ y).cps.toList = x.cps.toList ++ y.cps.toList := Array.toList_append
theorem str_len (x : Str) : x.length = x.cps.toList.length := (Array.length_toList (xs := x.cps)).symm
theorem lets_ok : ∀ u ∈ lets.cps.toList, u < 128 := by decide +kernel
theorem both_ok : ∀ u ∈ both.cps.toList, u < 128 := by decide +kernel
theorem otherS_ok : ∀ u ∈ (both ++ Str.ofString "A_ -.\n").cps.toList, u < 128 := by decide +kernel
theorem Tape.off {H : Hp} {t c D : Addr} {cs : List Int} {p l : Int} {o : HO} (T : Tape H t c cs p l) (n : D ≠ t) (m : c ≠ D) : Tape (upd H D o) t c cs p l := ⟨by rw [upd_ne n.symm]; exact T.d, by rw [upd_ne m]; exact T.c, T.n, T.m, T.p0, T.l0⟩
structure TxtR (mg : Str → Option Value) : Prop extends TxtB mg where
  rng : mg "range" = none
section
variable {P : Program} {w : World} {K : PySem.W.Frag} {mg : Str → Option Value} {base : Heap}
theorem scTh : FnScope ["_law_tape", "_law_letters", "_law_signs", "_law_name", "_law_way", "_law_place", "_law_other", "_law_k"] ["_law_tape"] (defScope sThing) := ⟨rfl, rfl, rfl, by decide +kernel, rfl, by decide +kernel, by decide +kernel⟩
theorem ok_thing {f fD fP fO : Addr} {fd fdD fdP fdO : FuncData} (F : Fun K "_law_thing" "_law_thing" sThing f fd) (T : TxtR mg)
    (GD : FnOk P w K mg base CX0 1 fD fdD ["_law_tape", "_law_many"] spDraw) (mD : mg "_law_draw" = some (.ref fD)) (kD : PySem.W.keepIn K (.ref fD) = true) (bD : Binds K fdD ["_law_tape", "_law_many"] [])
    (GS : FnOk P w K mg base CX0 2 fP fdP ["_law_tape", "_law_items"] spPickS) (mP : mg "_law_pick" = some (.ref fP)) (kP : PySem.W.keepIn K (.ref fP) = true) (bP : Binds K fdP ["_law_tape", "_law_items"] [])
    (GO : FnOk P w K mg base CX0 3 fO fdO ["_law_tape"] (spOdd K 3)) (mO : mg "_law_odd" = some (.ref fO)) (kO : PySem.W.keepIn K (.ref fO) = true) (bO : Binds K fdO ["_law_tape"] []) :
    FnOk P w K mg base CX0 4 f fd ["_law_tape"] (spOdd K 20) := by
  refine F.ok scTh (fun vs H Q E h => ?_) (fun cdv A outer s H vs Q E hr h => ?_)
  · obtain ⟨t, c, cs, p, l, rfl, _⟩ := h
    rfl
  · obtain ⟨t, c, cs, p, l, rfl, hT, hp, k⟩ := h
    have hr1 : Room 1 _ := hr.mono (by decide)
    have hr2 : Room 2 _ := hr.mono (by decide)
    refine ⟨_, pss_cons (ps_asg (pe_tup (pa_cons pe_str (pa_cons pe_str pa_nil))) (pg_tup (by rfl) (pgs_cons (pg_name (i := 1) scTh.nd rfl (.inl rfl)) (pgs_cons (pg_name (i := 2) scTh.nd rfl (.inr rfl)) pgs_nil))))
      (pss_cons (ps_set (i := 3) scTh.nd rfl (.inl rfl) (pe_op op_add_str (pe_call GS hr2 rfl mP kP bP .nil pass0 (pa_cons (pv 0) (pa_cons (pv 1) pa_nil)))
          (pe_join pe_str (pe_lc (own := [("_law_k", 7)]) (g := gName 7) (tt := tYes) rfl scTh.nd (pi_range1 rfl T.rng (pa_cons (pe_call GD hr1 rfl mD kD bD .nil pass0 (pa_cons (pv 0) (pa_cons pe_int pa_nil))) pa_nil)) (blkOk_by (N := ["_law_tape", "_law_letters", "_law_signs", "_law_name", "_law_way", "_law_place", "_law_other", "_law_k"]) (sc := defScope sThing) (by decide +kernel)) (fun _ _ _ _ _ => pg_name (i := 7) scTh.nd rfl (Or.inl rfl))
            (fun _ _ _ _ _ => pts_nil) (fun _ _ _ _ _ => pe_call GS hr2 rfl mP kP bP .nil pass0 (pa_cons (pv 0) (pa_cons (pv 2) pa_nil)))))))
      (pss_cons (ps_set (i := 4) scTh.nd rfl (.inl rfl) (pe_call GD hr1 rfl mD kD bD .nil pass0 (pa_cons (pv 0) (pa_cons pe_int pa_nil))))
      (pss_cons (ps_if (pt_cmpR op_lt (pv 4) pe_int (nomark _)) (pss_one (ps_ret (pv 3))) pss_nil)
      (pss_cons (ps_if (pt_cmpR op_eq (pv 4) pe_int (nomark _))
        (pss_cons (ps_par (i := 5) (j := 6) (by rfl) scTh.nd rfl rfl (by decide) rfl rfl (pa_cons (pe_call GD hr1 rfl mD kD bD .nil pass0 (pa_cons (pv 0) (pa_cons (pe_callB call_len_str (by rfl) T.len PySem.boot_len (pa_cons (pv 3) pa_nil)) pa_nil)))
            (pa_cons (pe_call GS hr2 rfl mP kP bP .nil pass0 (pa_cons (pv 0) (pa_cons (pe_op op_add_str (pv 2) pe_str) pa_nil))) pa_nil)) (by rfl))
        (pss_one (ps_ret (pe_op op_add_str (pe_op op_add_str (pe_slice sl_str (pv 3) po_none (po_some (pv 5))) (pv 6)) (pe_slice sl_str (pv 3) (po_some (pe_op op_add (pv 5) pe_int)) po_none))))) pss_nil)
      (pss_one (ps_ret (pe_call GO hr rfl mO kO bO .nil pass0 (pa_cons (pv 0) pa_nil)))))))), ?_⟩
    refine ⟨by decide, fun q0 hq0 => ?_⟩
    have hT0 := hT.new (o := .tup [V.str lets, V.str both]) hq0
    have hB0 : But t H (upd H q0 (.tup [V.str lets, V.str both])) := But.new But.refl hq0
    refine ⟨q0, _, rfl, SqT.of upd_same, rfl, _, _, rfl, _, _, rfl, rfl, ?_⟩
    have sgn : ∀ u ∈ both.cps.toList, u < 128 := both_ok
    refine ⟨_, rfl, _, rfl, t, c, cs, p, l, lets, rfl, hT0, by decide +kernel, by decide +kernel, by omega, fun u p1 l1 H1 hu a1 b1 hT1 hB1 => ⟨⟨_, rfl⟩, ?_⟩⟩
    refine ⟨_, rfl, t, c, cs, p1, l1, 8, rfl, hT1, by decide, by decide, by omega, fun r p2 l2 H2 r0 r1 a2 b2 hT2 hB2 => ⟨r, rfl, by omega, by omega, fun D hD => ?_⟩⟩
    have Dt : D ≠ t := fun z => by rw [z, hT2.d] at hD; cases hD
    have Dc : c ≠ D := ne_of_none hT2.c hD
    have hBD : But t H (upd H2 D (.lst [])) := ((hB0.trans hB1).trans hB2).new hD
    refine lc_it walk_range (fun i H' => ∃ (us : List Nat) (p' l' : Int), us.length = i ∧ (∀ u ∈ us, u ∈ both.cps.toList) ∧ p2 ≤ p' ∧ p' ≤ p2 + i ∧ Tape H' t c cs p' l' ∧ H' D = some (.lst (us.map oneTx)) ∧ But t H H')
      ⟨[], p2, l2, rfl, (fun _ z => nomatch z), by omega, by omega, hT2.new hD, upd_same, hBD⟩ (fun _ _ _ _ => True.intro) ?_ ?_
    · rintro i x H3 H4 hi ⟨us, p', l', e1, e2, a3, b3, hT3, hD3, hB3⟩ ⟨rfl, rfl⟩
      refine ⟨rfl, iteT (B := True) ⟨_, rfl, _, rfl, t, c, cs, p', l', both, rfl, hT3, by decide +kernel, by decide +kernel, by omega, fun v p'' l'' H5 hv a5 b5 hT5 hB5 => ⟨us.map oneTx, hB5 _ _ hD3 Dt, by rw [List.length_map, sizeLine_eq]; omega, us ++ [v], p'', l'', ?_⟩⟩⟩
      refine ⟨by rw [List.length_append, e1]; rfl, fun z hz => ?_, by omega, by omega, hT5.off Dt Dc, ?_, fun b o e nb => ?_⟩
      · rcases List.mem_append.mp hz with q | q
        · exact e2 z q
        · rw [List.mem_singleton.mp q]; exact hv
      · rw [upd_same, List.map_append]
        rfl
      · have h5 := (hB3.trans hB5) b o e nb
        have nD : b ≠ D := fun z => by
          have e2 := (hB0.trans (hB1.trans hB2)) b o e nb
          rw [z, hD] at e2
          cases e2
        rw [upd_ne nD]
        exact h5
    · rintro H3 ⟨us, p3, l3, e1, e2, a3, b3, hT3, hD3, hB3⟩
      have hus : us.length ≤ 7 := by omega
      refine ⟨_, D, us.map oneS, rfl, rfl, .inl (by rw [← ones_map]; exact SqL.of hD3), by rw [ones_sum, List.length_map]; show us.length + us.length * 0 ≤ _; omega, ?_⟩
      have hj := ones_join us
      refine ⟨_, _, rfl, rfl, ?_, ?_⟩
      · rw [str_len, str_len, hj]
        show 1 + us.length ≤ _
        rw [sizeLine_eq]
        omega
      have hnm : ((⟨#[u]⟩ : Str) ++ Txt.join (Str.ofString "") (us.map oneS)).cps.toList = u :: us := by
        rw [str_app, hj]
        rfl
      generalize ((⟨#[u]⟩ : Str) ++ Txt.join (Str.ofString "") (us.map oneS)) = nm at hnm ⊢
      have hnl : nm.cps.toList.length ≤ 8 := by rw [hnm, List.length_cons]; omega
      have hn0 : 0 < nm.cps.toList.length := by rw [hnm, List.length_cons]; omega
      have hnc : ∀ z ∈ nm.cps.toList, z < 128 := fun z hz => by
        rw [hnm] at hz
        rcases List.mem_cons.mp hz with q | q
        · rw [q]; exact lets_ok u hu
        · exact sgn z (e2 z q)
      refine ⟨_, rfl, t, c, cs, p3, l3, 4, rfl, hT3, by decide, by decide, by omega, fun w4 p4 l4 H4 w0 w1 a4 b4 hT4 hB4 => ?_⟩
      have hB40 := hB3.trans hB4
      refine ⟨_, rfl, _, _, rfl, rfl, _, rfl, ite2 (fun _ => ?_) (fun _ => ?_)⟩
      · exact ⟨_, rfl, k _ _ p4 l4 H4 (txt_thg ⟨by omega, hnc⟩) str_ne (by omega) (by omega) hT4 hB40⟩
      refine ⟨_, rfl, rfl, _, rfl, ite2 (fun _ => ?_) (fun _ => ?_)⟩
      · refine ⟨_, rfl, _, rfl, nm, rfl, by rw [str_len, sizeLine_eq]; omega, t, c, cs, p4, l4, _, rfl, hT4, by rw [str_len]; omega, by rw [str_len]; omega, by omega, fun r5 p5 l5 H5 r50 r51 a5 b5 hT5 hB5 => ?_⟩
        refine ⟨_, rfl, _, rfl, _, _, rfl, rfl, by decide +kernel, t, c, cs, p5, l5, _, rfl, hT5, by decide +kernel, by decide +kernel, by omega, fun v p6 l6 H6 hv a6 b6 hT6 hB6 => ⟨_, _, rfl, ?_⟩⟩
        have hsz : nm.length ≤ sizeLine := by rw [str_len, sizeLine_eq]; omega
        have c1 := cut_len nm none (some r5)
        have c2 := cut_len nm (some (r5 + 1)) none
        have lv : (⟨#[v]⟩ : Str).cps.toList.length = 1 := rfl
        refine ⟨_, rfl, _, rfl, _, rfl, nm, rfl, hsz, _, rfl, _, _, rfl, rfl, by rw [str_len, str_len, sizeLine_eq]; omega, _, rfl, _, rfl, _, _, rfl, rfl, _, rfl, nm, rfl, hsz, _, _, rfl, rfl, by rw [str_len, str_len, str_app, List.length_append, sizeLine_eq]; omega, ?_⟩
        refine k _ _ p6 l6 H6 (txt_thg (cat_ok (fun z hz => ?_) (fun z hz => hnc z (cut_mem hz)) (by rw [str_app, List.length_append]; omega))) str_ne (by omega) (by omega) hT6 ((hB40.trans hB5).trans hB6)
        rw [str_app] at hz
        rcases List.mem_append.mp hz with q | q
        · exact hnc z (cut_mem q)
        · have : z = v := by simpa using q
          rw [this]
          exact otherS_ok v hv
      · exact ⟨_, rfl, t, c, cs, p4, l4, rfl, hT4, by omega, fun v d p' l' H' hv nv a5 b5 hT' hB' => k v d p' l' H' hv nv (by omega) (by omega) hT' (hB40.trans hB')⟩
end
end Bo

set_option Elab.async false
set_option linter.all false
set_option maxRecDepth 100000
set_option maxHeartbeats 8000000
namespace Bo
open PySem PySem.Spec PyProof.Rows L2
abbrev sErr : Stmt := top 70
/-! ### isinstance of a caught error that has fields -/
def rIsX (K : PySem.W.Frag) (cls : Value) (d : Option Addr) (D a : Addr) : List V → Hp → VK → Prop := fun xs H Q => cls = .ref D ∧ ∃ (dd : Addr) (fs : List (Str × V)) (c : V) (cv : Value) (b : Bool), d = some dd ∧ H dd = some (.xd fs) ∧ xs = [.ref a, c] ∧ (∀ u, RelV c u → u = cv) ∧ PySem.W.kitOne K (.ref D) cv = some b ∧ Q (.bl b) H
theorem call_isX {X : Cx} {a D : Addr} {oe : Obj} {cls : Value} {d : Option Addr} {pn : List (Addr × Obj)} (C : ExcC X.K D) (hz : Zc cls d oe) (hf : ∃ vs, oe.data = .fields vs) : CallR (X.suite a ((a, oe) :: pn)) (.builtin "isinstance") (rIsX X.K cls d D a) := by
  intro pins s σ H xs us Q I r h
  obtain ⟨ec, dd, fs, c, cv, b, ed, ha, rfl, hcv, e, q⟩ := h
  subst ec
  subst ed
  cases r with
  | cons rx rr =>
    cases rr with
    | cons rt rr =>
      cases rr
      cases rx
      have ecv := hcv _ rt
      subst ecv
      have here := (I.pin (a, oe) (List.mem_append.mpr (.inl List.mem_cons_self))).1
      obtain ⟨vs, hv⟩ := hf
      obtain ⟨mA, hns, _⟩ := (show ObjOk X.prog X.w H s.heap dd (.xd fs) from I.hok dd _ ha)
      obtain ⟨od, hod, _⟩ := lookIn_ns hns
      have J : PySem.W.InstAt s.heap a oe D (some od) := ⟨here, hz.1, (by unfold PySem.W.notCls; rw [hv] <;> rfl), (by rw [hz.2]; exact hod)⟩
      obtain ⟨cd, hcd, _⟩ := PySem.W.any_some C.hd
      have Z := PySem.W.kitx_exc (K := X.K) (x := a) (C := D) (ox := oe) (od := some od) (by rw [hcd]; rfl) C.hg C.hk C.hs C.ha C.hn C.ht C.hm
      exact PySem.W.kia_one Z I.kIn J e (fun z => by cases z) fun tk => ⟨.bl b, H, I.kept (t' := tk) fun _ _ z => z, rfl, q⟩
/-- xs.count(b) of a list of bools -/
def rCntB (K : PySem.W.Frag) : V → List V → Hp → VK → Prop := fun x xs H Q => ∃ (p : Addr) (bs : List Bool) (k : Bool), x = .ref p ∧ xs = [.bl k] ∧ SqL K H p (bs.map V.bl) ∧ Q (.int (countIn (.bool k) (bs.map PyData.bool))) H
theorem mt_cntB {X : Cx} : MtR X "list.count" (rCntB X.K) := by
  intro pins s σ H x xs v us Q I rx rxs h
  obtain ⟨p, bs, k, rfl, rfl, hs, q⟩ := h
  cases rx
  obtain ⟨u, rfl, ru⟩ := rxs.one
  obtain rfl : u = Value.bool k := ru
  obtain ⟨its, rv, hl, _⟩ := I.list hs
  have ra := atoms_reads (h := s.heap) (xs := bs.map V.bl) (fun y hy => by
    obtain ⟨b, _, rfl⟩ := List.mem_map.mp hy
    rfl) rv
  rw [List.map_map] at ra
  have e : bs.map (dataA ∘ V.bl) = bs.map PyData.bool := rfl
  rw [e] at ra
  refine count_list_bools hl.isList ra ?_ ⟨.int (countIn (.bool k) (bs.map PyData.bool)), H, I.tok _, ⟨s.toks, rfl⟩, q⟩
  rw [List.all_eq_true]
  intro y hy
  obtain ⟨b, _, rfl⟩ := List.mem_map.mp hy
  rfl
theorem pe_bmE {X : Cx} {a : Addr} {oe : Obj} {pn : List (Addr × Obj)} {o e : Expr} {es : List Expr} {to : TE} {t : TA} {name : Str} {apos cpos : Pos} {T id : String} {r : V → List V → Hp → VK → Prop} (pa : PlainAttrs T) (slot : Slot T name id) (hty : typeOf (.builtin id) = pure (.type "method_descriptor"))
    (hm : MtR (X.suite a ((a, oe) :: pn)) id r) (ho : PE (X.suite a ((a, oe) :: pn)) o to) (ha : PA (X.suite a ((a, oe) :: pn)) (e :: es) t) (hb : attributeBase o name X.env (eval o X.env) = eval o X.env := by rfl)
    (hfew : ((backTo cpos (starEach (e :: es) X.env)).all (fun x => !x.1) && (backToKw cpos (keywordEach [] X.env)).all (fun x => x.1.isSome) && decide ((e :: es).length + ([] : List Keyword).length + (if ([] : List Keyword).isEmpty then 0 else 1) < 30)) = true := by rfl)
    (hl : (apos.endLine == cpos.line) = true := by rfl) (hs : starEach (e :: es) X.env = (false, eval e X.env) :: starEach es X.env := by rfl) (hp : (backTo cpos (starEach es X.env)).any (·.1) = false := by rfl) :
    PE (X.suite a ((a, oe) :: pn)) (.Call (.Attribute o name apos) (e :: es) [] cpos) (tBM X.K T r to t) := pe_bm pa slot hty hm ho ha hb hfew hl hs hp
theorem mt_cntE {X : Cx} {a : Addr} {oe : Obj} {pn : List (Addr × Obj)} : MtR (X.suite a ((a, oe) :: pn)) "list.count" (rCntB X.K) := mt_cntB
theorem mt_idxE {X : Cx} {a : Addr} {oe : Obj} {pn : List (Addr × Obj)} : MtR (X.suite a ((a, oe) :: pn)) "list.index" (rIndex X.K) := mt_index
/-! ### _law_error -/
/-- InvalidName let out: what is told of it -/
def EchN (K : PySem.W.Frag) (CN : Addr) (Q : VK) : XK := fun cls d H' => ∃ (dx : Addr) (v : V) (pd : PyData), cls = .ref CN ∧ d = some dx ∧ H' dx = some (.xd [("name", v)]) ∧ Flat K H' v pd ∧ ∀ (a : Addr) (H2 : Hp), Same H' H2 → SqT K H2 a [.str "name", v] → Q (.ref a) H2
/-- behind the call -/
def backN (Q : VK) : VK := fun v H' => tRet (tIf (tB (tIsN (tVar 1))) (tC V.non) (tTup (tCons (tC (V.str (Str.ofString "returned"))) tNil))) { nx := fun _ H' => Q .non H', rt := Q } [none, some v] H'
theorem backN_non {Q : VK} {H : Hp} (h : Q .non H) : backN Q .non H := ⟨_, rfl, _, rfl, iteT h⟩
/-- what it makes of a call that returns None or raises InvalidName -/
def TTe (K : PySem.W.Frag) (CN : Addr) : (XK → Hp → VK → Prop) → Hp → VK → Prop := fun tl H Q => tl (EchN K CN Q) H (backN Q)
structure ErrT (K : PySem.W.Frag) (mg : Str → Option Value) (CB CN : Addr) (cs : Nat → Addr) : Prop where
  gB : mg "BlockorderError" = some (.ref CB)
  ex : PySem.W.exmOne K (.ref CN) (.ref CB) = some true
  gN : mg "InvalidName" = some (.ref CN)
  g0 : mg "DuplicateItem" = some (.ref (cs 0))
  g1 : mg "UnknownItem" = some (.ref (cs 1))
  g2 : mg "DuplicateEntry" = some (.ref (cs 2))
  g3 : mg "UnknownEntry" = some (.ref (cs 3))
  g4 : mg "TooLarge" = some (.ref (cs 4))
  g5 : mg "NoTransaction" = some (.ref (cs 5))
  g6 : mg "OpenTransaction" = some (.ref (cs 6))
  g7 : mg "NothingToUndo" = some (.ref (cs 7))
  g8 : mg "EditFailed" = some (.ref (cs 8))
  g9 : mg "InvalidText" = some (.ref (cs 9))
  gV : mg "ValueError" = none
  isi : mg "isinstance" = none
  kN : PySem.W.kitOne K (.ref CN) (.ref CN) = some true
  k : ∀ j, j < 10 → PySem.W.kitOne K (.ref CN) (.ref (cs j)) = some false
  kV : PySem.W.kitOne K (.ref CN) (.type "ValueError") = some true
  E : ExcC K CN
  xf : XfC K CN
  no : PySem.W.findIn K (.ref CN) "name" = some none
section
variable {P : Program} {w : World} {K : PySem.W.Frag} {mg : Str → Option Value} {base : Heap}
theorem scErr : FnScope ["_law_call", "_law_told_here", "e", "_law_flags", "_law_at"] ["_law_call"] (defScope sErr) := ⟨rfl, rfl, rfl, by decide +kernel, rfl, by decide +kernel, by decide +kernel⟩
abbrev ngE : List Str := ["_law_call", "_law_told_here", "e", "_law_flags", "_law_at"]
theorem takes_len {X : Cx} {W : WX} (t : Takes X W) : Takes X (fun cls d σ H => σ.length = X.N.length → W cls d σ H) := fun u s' ⟨a, B, sI, pins, σ, H, cls, d, e, I, nb, up, sky, na, os, ag, w⟩ => t u s' ⟨a, B, sI, pins, σ, H, cls, d, e, I, nb, up, sky, na, os, ag, w I.len⟩
theorem err_gives {X : Cx} {g CB CN : Addr} {cs : Nat → Addr} {cdg : Value} {q : Str} (T : ErrT X.K X.mg CB CN cs) : LamX.GivesTo X ngE "_law_error" (defScope sErr) g cdg (defBody sErr) "_law_call" q (TTe X.K CN) := by
  intro f c' s H Q tl act hc h
  refine ⟨_, pss_cons (ps_try_as (i := 2) rfl rfl scErr.nd rfl rfl ⟨by rfl, by decide, .inl T.gB⟩ LamX.takes0
      (tb := fun W D σ H => ∃ Ech : XK, (∀ cls d σ' H', σ'.length = 5 → Ech cls d H' → W cls d σ' H') ∧ σ[0]? = some (some (.ref f)) ∧ H c' = some (LamX.CodeO c' q) ∧ tl Ech H fun v H' => D.nx (σ.set 1 (some v)) H')
      (fun W pn xe tk _ => ?_)
      (fun a oe cls d pn hz hf => pss_cons (ps_set (i := 3) scErr.nd rfl (.inl rfl) (pe_lst (pa_cons (pe_callB (call_isX T.E hz hf) (by rfl) T.isi (by decide +kernel) (pa_cons (pv 2) (pa_cons (pe_glob (v := .ref _) (by rfl) T.gN rfl) pa_nil))) (pa_cons (pe_callB (call_isX T.E hz hf) (by rfl) T.isi (by decide +kernel) (pa_cons (pv 2) (pa_cons (pe_glob (v := .ref _) (by rfl) T.g0 rfl) pa_nil))) (pa_cons (pe_callB (call_isX T.E hz hf) (by rfl) T.isi (by decide +kernel) (pa_cons (pv 2) (pa_cons (pe_glob (v := .ref _) (by rfl) T.g1 rfl) pa_nil))) pa_nil)))))
        (pss_cons (ps_set (i := 3) scErr.nd rfl (.inl rfl) (pe_op op_cat (pv 3) (pe_lst (pa_cons (pe_callB (call_isX T.E hz hf) (by rfl) T.isi (by decide +kernel) (pa_cons (pv 2) (pa_cons (pe_glob (v := .ref _) (by rfl) T.g2 rfl) pa_nil))) (pa_cons (pe_callB (call_isX T.E hz hf) (by rfl) T.isi (by decide +kernel) (pa_cons (pv 2) (pa_cons (pe_glob (v := .ref _) (by rfl) T.g3 rfl) pa_nil))) (pa_cons (pe_callB (call_isX T.E hz hf) (by rfl) T.isi (by decide +kernel) (pa_cons (pv 2) (pa_cons (pe_glob (v := .ref _) (by rfl) T.g4 rfl) pa_nil))) pa_nil))))))
        (pss_cons (ps_set (i := 3) scErr.nd rfl (.inl rfl) (pe_op op_cat (pv 3) (pe_lst (pa_cons (pe_callB (call_isX T.E hz hf) (by rfl) T.isi (by decide +kernel) (pa_cons (pv 2) (pa_cons (pe_glob (v := .ref _) (by rfl) T.g5 rfl) pa_nil))) (pa_cons (pe_callB (call_isX T.E hz hf) (by rfl) T.isi (by decide +kernel) (pa_cons (pv 2) (pa_cons (pe_glob (v := .ref _) (by rfl) T.g6 rfl) pa_nil))) (pa_cons (pe_callB (call_isX T.E hz hf) (by rfl) T.isi (by decide +kernel) (pa_cons (pv 2) (pa_cons (pe_glob (v := .ref _) (by rfl) T.g7 rfl) pa_nil))) pa_nil))))))
        (pss_cons (ps_set (i := 3) scErr.nd rfl (.inl rfl) (pe_op op_cat (pv 3) (pe_lst (pa_cons (pe_callB (call_isX T.E hz hf) (by rfl) T.isi (by decide +kernel) (pa_cons (pv 2) (pa_cons (pe_glob (v := .ref _) (by rfl) T.g8 rfl) pa_nil))) (pa_cons (pe_callB (call_isX T.E hz hf) (by rfl) T.isi (by decide +kernel) (pa_cons (pv 2) (pa_cons (pe_glob (v := .ref _) (by rfl) T.g9 rfl) pa_nil))) pa_nil)))))
        (pss_cons (ps_if (PW.pt (pw_or (pt_cmpR op_ne (pe_bmE PySem.F.plainAttrs_list PySem.F.slot_list_count PySem.F.type_list_count mt_cntE (pv 3) (pa_cons pe_bl pa_nil)) pe_int (nomark _)) (pw_or1 (pt_not (pt_val (pe_callB (call_isX T.E hz hf) (by rfl) T.isi (by decide +kernel) (pa_cons (pv 2) (pa_cons (pe_bltn (v := .ty "ValueError") (by rfl) T.gV (by decide +kernel) rfl) pa_nil)))))))) (pss_one ps_never) pss_nil)
        (pss_cons (ps_set (i := 4) scErr.nd rfl (.inl rfl) (pe_bmE PySem.F.plainAttrs_list PySem.F.slot_list_index PySem.F.type_list_index mt_idxE (pv 3) (pa_cons pe_bl pa_nil)))
        (pss_cons (ps_if (pt_cmpR op_eq (pv 4) pe_int (nomark _)) (pss_one (ps_ret (pe_tup (pa_cons pe_str (pa_cons (pe_xf T.xf T.no hz hf (pv 2)) pa_nil))))) pss_nil)
        (pss_cons ps_never (pss_cons ps_never (pss_cons ps_never (pss_one ps_never))))))))))))
    (pss_one (ps_ret (pe_ifExp (pt_cmp (pc_isN (pv 1))) pe_non (pe_tup (pa_cons pe_str pa_nil))))), ?_⟩
  · refine ⟨fun pins s' σ H' D I h' => ?_⟩
    obtain ⟨Ech, hW, h1, h2, h3⟩ := h'
    have hp := fun p1 p2 => act _ pn xe Ech p1 p2 (takes_len tk) (fun cls d σ' H' e l => hW cls d σ' H' l e)
    exact (pss_one (ps_set (i := 1) scErr.nd rfl (.inl rfl) (hp _ _))).run pins s' σ H' D I ⟨h1, h2, h3⟩
  · refine ⟨EchN X.K CN Q, fun cls d σ' H' hl hE => ?_, rfl, hc, h⟩
    obtain ⟨dx, v, pd, rfl, rfl, hx, hv, kk⟩ := hE
    obtain ⟨z0, z1, z2, z3, z4, rfl⟩ : ∃ z0 z1 z2 z3 z4, σ' = [z0, z1, z2, z3, z4] := by
      match σ', hl with
      | [z0, z1, z2, z3, z4], _ => exact ⟨z0, z1, z2, z3, z4, rfl⟩
    refine ⟨true, T.ex, fun _ a ha => ?_, fun z => by cases z⟩
    refine ⟨_, rfl, rfl, dx, _, _, _, _, rfl, hx, rfl, (fun _ r => r), T.kN, _, rfl, rfl, dx, _, _, _, _, rfl, hx, rfl, (fun _ r => r), T.k 0 (by decide), _, rfl, rfl, dx, _, _, _, _, rfl, hx, rfl, (fun _ r => r), T.k 1 (by decide), by show 3 ≤ sizeLine; decide, fun l1 hl1 => ?_⟩
    have s1 : Same H' (upd H' l1 (.lst [.bl true, .bl false, .bl false])) := same_new hl1
    have x1 := s1 _ _ hx
    have e1 : (upd H' l1 (.lst [.bl true, .bl false, .bl false])) l1 = _ := upd_same
    generalize upd H' l1 (.lst [.bl true, .bl false, .bl false]) = H1 at s1 x1 e1 ⊢
    refine ⟨_, rfl, _, rfl, rfl, dx, _, _, _, _, rfl, x1, rfl, (fun _ r => r), T.k 2 (by decide), _, rfl, rfl, dx, _, _, _, _, rfl, x1, rfl, (fun _ r => r), T.k 3 (by decide), _, rfl, rfl, dx, _, _, _, _, rfl, x1, rfl, (fun _ r => r), T.k 4 (by decide), by show 3 ≤ sizeLine; decide, fun l2 hl2 => ?_⟩
    refine ⟨l1, l2, _, _, rfl, rfl, (same_new hl2) _ _ e1, upd_same, by show 3 + 3 ≤ sizeLine; decide, fun l3 hl3 => ?_⟩
    have s3 : Same H1 (upd (upd H1 l2 (.lst [.bl false, .bl false, .bl false])) l3 (.lst ([.bl true, .bl false, .bl false] ++ [.bl false, .bl false, .bl false]))) := (same_new hl2).trans (same_new hl3)
    have x3 := s3 _ _ x1
    have e3 : (upd (upd H1 l2 (.lst [.bl false, .bl false, .bl false])) l3 (.lst ([.bl true, .bl false, .bl false] ++ [.bl false, .bl false, .bl false]))) l3 = _ := upd_same
    generalize upd (upd H1 l2 (.lst [.bl false, .bl false, .bl false])) l3 (.lst ([.bl true, .bl false, .bl false] ++ [.bl false, .bl false, .bl false])) = H3 at s3 x3 e3 ⊢
    refine ⟨_, rfl, _, rfl, rfl, dx, _, _, _, _, rfl, x3, rfl, (fun _ r => r), T.k 5 (by decide), _, rfl, rfl, dx, _, _, _, _, rfl, x3, rfl, (fun _ r => r), T.k 6 (by decide), _, rfl, rfl, dx, _, _, _, _, rfl, x3, rfl, (fun _ r => r), T.k 7 (by decide), by show 3 ≤ sizeLine; decide, fun l4 hl4 => ?_⟩
    refine ⟨l3, l4, _, _, rfl, rfl, (same_new hl4) _ _ e3, upd_same, by show 6 + 3 ≤ sizeLine; decide, fun l5 hl5 => ?_⟩
    have s5 : Same H3 (upd (upd H3 l4 (.lst [.bl false, .bl false, .bl false])) l5 (.lst (([.bl true, .bl false, .bl false] ++ [.bl false, .bl false, .bl false]) ++ [.bl false, .bl false, .bl false]))) := (same_new hl4).trans (same_new hl5)
    have x5 := s5 _ _ x3
    have e5 : (upd (upd H3 l4 (.lst [.bl false, .bl false, .bl false])) l5 (.lst (([.bl true, .bl false, .bl false] ++ [.bl false, .bl false, .bl false]) ++ [.bl false, .bl false, .bl false]))) l5 = _ := upd_same
    generalize upd (upd H3 l4 (.lst [.bl false, .bl false, .bl false])) l5 (.lst (([.bl true, .bl false, .bl false] ++ [.bl false, .bl false, .bl false]) ++ [.bl false, .bl false, .bl false])) = H5 at s5 x5 e5 ⊢
    refine ⟨_, rfl, _, rfl, rfl, dx, _, _, _, _, rfl, x5, rfl, (fun _ r => r), T.k 8 (by decide), _, rfl, rfl, dx, _, _, _, _, rfl, x5, rfl, (fun _ r => r), T.k 9 (by decide), by show 2 ≤ sizeLine; decide, fun l6 hl6 => ?_⟩
    refine ⟨l5, l6, _, _, rfl, rfl, (same_new hl6) _ _ e5, upd_same, by show 9 + 2 ≤ sizeLine; decide, fun l7 hl7 => ?_⟩
    have e : ((([V.bl true, .bl false, .bl false] ++ [.bl false, .bl false, .bl false]) ++ [.bl false, .bl false, .bl false]) ++ [.bl false, .bl false]) = [true, false, false, false, false, false, false, false, false, false, false].map V.bl := rfl
    have s7 : Same H5 (upd (upd H5 l6 (.lst [.bl false, .bl false])) l7 (.lst ((([.bl true, .bl false, .bl false] ++ [.bl false, .bl false, .bl false]) ++ [.bl false, .bl false, .bl false]) ++ [.bl false, .bl false]))) := (same_new hl6).trans (same_new hl7)
    have x7 := s7 _ _ x5
    have e7 : (upd (upd H5 l6 (.lst [.bl false, .bl false])) l7 (.lst ((([.bl true, .bl false, .bl false] ++ [.bl false, .bl false, .bl false]) ++ [.bl false, .bl false, .bl false]) ++ [.bl false, .bl false]))) l7 = _ := upd_same
    generalize upd (upd H5 l6 (.lst [.bl false, .bl false])) l7 (.lst ((([.bl true, .bl false, .bl false] ++ [.bl false, .bl false, .bl false]) ++ [.bl false, .bl false, .bl false]) ++ [.bl false, .bl false])) = H7 at s7 x7 e7 ⊢
    rw [e] at e7
    refine ⟨_, rfl, .inl ⟨rfl, _, SqL.of e7⟩, l7, _, true, rfl, rfl, SqL.of e7, rfl, _, rfl, iteF ?_⟩
    refine ⟨_, rfl, rfl, dx, _, _, _, _, rfl, x7, rfl, (fun _ r => r), T.kV, _, rfl, iteF ?_⟩
    refine ⟨_, rfl, .inl ⟨rfl, _, SqL.of e7⟩, l7, _, V.bl true, 0, V.bl true, rfl, rfl, SqL.of e7, rfl, rfl, rfl, rfl, (fun m _ z => absurd z (Nat.not_lt_zero m)), ?_⟩
    refine ⟨_, rfl, rfl, _, rfl, iteT ?_⟩
    refine ⟨_, rfl, rfl, rfl, dx, _, v, rfl, x7, rfl, by show 2 ≤ sizeLine; decide, fun p hp => ?_⟩
    exact kk p _ ((((s1.trans s3).trans s5).trans s7).trans (same_new hp)) (SqT.of upd_same)
end
end Bo

set_option Elab.async false
set_option linter.all false
set_option maxRecDepth 100000
set_option maxHeartbeats 8000000
namespace Bo
open PySem L2
abbrev sTold : Stmt := top 71
abbrev sStands : Stmt := top 72
abbrev kR : Key := Sum.inr (Str.ofString "rows")
abbrev kU : Key := Sum.inr (Str.ofString "unknowns")
theorem neRU : ¬ (kR = kU) := by decide +kernel
/-- the laws' own plain system: its rows (all empty) and its unknowns -/
structure Plain (H : Hp) (pl r u : Addr) (rs : List (Str × Addr)) (us : List Str) : Prop where
  d : H pl = some (.dK [(kR, .ref r), (kU, .ref u)])
  r : H r = some (.dK (refK rs))
  e : ∀ p ∈ rs, H p.2 = some (.lst [])
  u : H u = some (.lst (us.map V.str))
theorem Plain.keep {H H' : Hp} {pl r u : Addr} {rs : List (Str × Addr)} {us : List Str} (p : Plain H pl r u rs us) (k : Same H H') : Plain H' pl r u rs us := ⟨k _ _ p.d, k _ _ p.r, fun q hq => k _ _ (p.e q hq), k _ _ p.u⟩
theorem Plain.gr {H : Hp} {pl r u : Addr} {rs : List (Str × Addr)} {us : List Str} (p : Plain H pl r u rs us) : DGet H pl (V.str (Str.ofString "rows")) (some (V.ref r)) :=
  .inl ⟨_, kR, .inl p.d, rfl, (show some (V.ref r) = valV [(kR, V.ref r), (kU, V.ref u)] kR by rw [valV_pos rfl])⟩
theorem Plain.gu {H : Hp} {pl r u : Addr} {rs : List (Str × Addr)} {us : List Str} (p : Plain H pl r u rs us) : DGet H pl (V.str (Str.ofString "unknowns")) (some (V.ref u)) :=
  .inl ⟨_, kU, .inl p.d, rfl, (show some (V.ref u) = valV [(kR, V.ref r), (kU, V.ref u)] kU by rw [valV_neg neRU, valV_pos rfl])⟩
def spTold (K : PySem.W.Frag) : Sp := fun vs H Q _ => ∃ (pl r u : Addr) (rs : List (Str × Addr)) (us : List Str), vs = [.ref pl] ∧ Plain H pl r u rs us ∧ rs.length < 64 ∧ us.length < 64 ∧
  ∀ (q t1 t2 t3 : Addr) (zs ys : List Str) (H' : Hp), Same H H' → zs.Perm (rs.map (·.1)) → ys.Perm us → H' q = some (.lst [.ref t1, .ref t2, .ref t3]) → SqT K H' t1 (zs.map V.str) → SqT K H' t2 (ys.map V.str) → SqT K H' t3 [] → Q (.ref q) H'
section
variable {P : Program} {w : World} {K : PySem.W.Frag} {mg : Str → Option Value} {base : Heap}
theorem scTo : FnScope ["_law_plain", "_law_pairs", "_law_name", "_law_one"] ["_law_plain"] (defScope sTold) := ⟨rfl, rfl, rfl, by decide +kernel, rfl, by decide +kernel, by decide +kernel⟩
theorem ok_told {f : Addr} {fd : FuncData} (F : Fun K "_law_told" "_law_told" sTold f fd) (T : TxtP mg) : FnOk P w K mg base CX0 1 f fd ["_law_plain"] (spTold K) := by
  refine F.ok scTo (fun vs H Q E h => ?_) (fun cdv A outer s H vs Q E hr h => ?_)
  · obtain ⟨pl, r, u, rs, us, rfl, _⟩ := h
    rfl
  · obtain ⟨pl, r, u, rs, us, rfl, hP, hl1, hl2, k⟩ := h
    have hu := hu_of hr
    refine ⟨_, pss_cons (ps_set (i := 1) scTo.nd rfl (.inl rfl) (pe_lst pa_nil))
      (pss_cons (ps_for PassesOwn.never rfl (pi_list (pe_callB (call_sortedD rfl) (by rfl) T.srt (by decide +kernel) (pa_cons (pe_dget hu (pv 0) pe_str (fun _ _ => rfl)) pa_nil))) (pg_name (i := 2) scTo.nd rfl (.inr rfl))
        (pss_one (ps_expr (pe_bm PySem.F.plainAttrs_list PySem.F.slot_list_extend PySem.F.type_list_extend mt_extend (pv 1) (pa_cons
          (pe_lc (own := [("_law_one", 3)]) (g := gName 3) (tt := tYes) rfl scTo.nd (pi_list (pe_callB cr_sorted (by rfl) T.srt (by decide +kernel) (pa_cons (pe_dget hu (pe_dget hu (pv 0) pe_str (fun _ _ => rfl)) (pv 2) (fun _ _ => rfl)) pa_nil))) (blkOk_by (N := ["_law_plain", "_law_pairs", "_law_name", "_law_one"]) (sc := defScope sTold) (by decide +kernel)) (fun _ _ _ _ _ => pg_name (i := 3) scTo.nd rfl (Or.inl rfl))
            (fun _ _ _ _ _ => pts_nil) (fun _ _ _ _ _ => pe_tup (pa_cons (pv 2) (pa_cons (pv 3) pa_nil)))) pa_nil)))))
      (pss_one (ps_ret (pe_lst (pa_cons (pe_callTy call_tuple_of (by rfl) T.tup (by decide +kernel) (pa_cons (pe_callB (call_sortedD rfl) (by rfl) T.srt (by decide +kernel) (pa_cons (pe_dget hu (pv 0) pe_str (fun _ _ => rfl)) pa_nil)) pa_nil))
        (pa_cons (pe_callTy call_tuple_of (by rfl) T.tup (by decide +kernel) (pa_cons (pe_callB cr_sortedS (by rfl) T.srt (by decide +kernel) (pa_cons (pe_dget hu (pv 0) pe_str (fun _ _ => rfl)) pa_nil)) pa_nil))
        (pa_cons (pe_callTy call_tuple_of (by rfl) T.tup (by decide +kernel) (pa_cons (pv 1) pa_nil)) pa_nil))))))), ?_⟩
    refine ⟨by decide, fun l hl => ?_⟩
    have s1 : Same H (upd H l (.lst [])) := same_new hl
    have el : (upd H l (.lst [])) l = some (.lst []) := upd_same
    generalize upd H l (.lst []) = H1 at s1 el ⊢
    have hP1 := hP.keep s1
    have hkl : (rs.map (·.1)).length = rs.length := List.length_map _
    refine ⟨_, rfl, pl, _, rfl, hP1.gr, r, refK rs, rs.map (·.1), rfl, .inl hP1.r, refK_keys rs, by rw [hkl]; exact hl1, fun zs p hp1 hp2 hp3 => ⟨p, rfl, ⟨_, SqL.of upd_same⟩, ?_⟩⟩
    have s2 : Same H1 (upd H1 p (.lst (zs.map V.str))) := same_new hp3
    have ep : (upd H1 p (.lst (zs.map V.str))) p = _ := upd_same
    have lp : l ≠ p := ne_of_none el hp3
    generalize upd H1 p (.lst (zs.map V.str)) = H2 at s2 ep ⊢
    have hP2 := hP1.keep s2
    have el2 := s2 _ _ el
    refine for_list (xs := zs.map V.str) (fun i σ H' => (∃ z, σ = [some (.ref pl), some (.ref l), z, none]) ∧ Same H2 H') ⟨⟨_, rfl⟩, Same.refl H2⟩ (fun i σ H' _ q => SqL.of (q.2 _ _ ep)) ?_ ?_
    · rintro i x σ H3 hx ⟨⟨z, rfl⟩, s3⟩
      rw [List.getElem?_map] at hx
      obtain ⟨y, hy, rfl⟩ := Option.map_eq_some_iff.mp hx
      have hP3 := hP2.keep s3
      obtain ⟨d, hv, hm⟩ := refK_in (rs := rs) (y := y) (hp1.mem_iff.mp (List.mem_of_getElem? hy))
      refine ⟨_, rfl, .inl ⟨rfl, _, SqL.of (s3 _ _ el2)⟩, _, rfl, pl, _, rfl, hP3.gr, _, rfl, r, _, rfl, .inl ⟨_, Sum.inr y, .inl hP3.r, rfl, hv.symm⟩, d, [], rfl, SqL.of (hP3.e _ hm), by decide, fun ns p1 hn _ hp => ?_⟩
      obtain rfl : ns = [] := hn.eq_nil
      refine ⟨p1, rfl, ⟨[], SqL.of upd_same⟩, fun D hD => ?_⟩
      have s4 : Same H3 (upd (upd H3 p1 (.lst [])) D (.lst [])) := (same_new hp).trans (same_new hD)
      refine lc_list (xs := []) (fun i H' => H' = upd (upd H3 p1 (.lst [])) D (.lst [])) rfl (fun i H' _ e => by rw [e]; exact SqL.of (same_new hD _ _ upd_same)) (fun i x H' hx => by simp at hx) ?_
      intro H' e
      subst e
      have e4 := s4 _ _ (s3 _ _ el2)
      refine ⟨l, D, [], [], rfl, rfl, e4, upd_same, by decide, ⟨_, rfl⟩, fun b o e => ?_⟩
      have e5 := (s3.trans s4) b o e
      by_cases hb : b = l
      · subst hb
        rw [e4] at e5
        cases e5
        exact upd_same
      · rw [upd_ne hb]
        exact e5
    · rintro σ H3 ⟨⟨z, rfl⟩, s3⟩
      have hP3 := hP2.keep s3
      refine ⟨_, rfl, pl, _, rfl, hP3.gr, r, refK rs, rs.map (·.1), rfl, .inl hP3.r, refK_keys rs, by rw [hkl]; exact hl1, fun ws p1 h1 h2 h3 => ⟨p1, _, rfl, .inl ⟨SqL.of upd_same, fun t1 ht1 => ?_⟩⟩⟩
      have s4 : Same H3 (upd (upd H3 p1 (.lst (ws.map V.str))) t1 (.tup (ws.map V.str))) := (same_new h3).trans (same_new ht1)
      have q1 : SqT K (upd (upd H3 p1 (.lst (ws.map V.str))) t1 (.tup (ws.map V.str))) t1 (ws.map V.str) := SqT.of upd_same
      generalize upd (upd H3 p1 (.lst (ws.map V.str))) t1 (.tup (ws.map V.str)) = H4 at s4 q1 ⊢
      have hP4 := hP3.keep s4
      refine ⟨_, rfl, pl, _, rfl, hP4.gu, u, us, rfl, SqL.of hP4.u, hl2, fun ys p2 g1 g2 g3 => ⟨p2, _, rfl, .inl ⟨SqL.of upd_same, fun t2 ht2 => ?_⟩⟩⟩
      have s5 : Same H4 (upd (upd H4 p2 (.lst (ys.map V.str))) t2 (.tup (ys.map V.str))) := (same_new g3).trans (same_new ht2)
      have q2 : SqT K (upd (upd H4 p2 (.lst (ys.map V.str))) t2 (.tup (ys.map V.str))) t2 (ys.map V.str) := SqT.of upd_same
      generalize upd (upd H4 p2 (.lst (ys.map V.str))) t2 (.tup (ys.map V.str)) = H5 at s5 q2 ⊢
      refine ⟨_, rfl, l, _, rfl, .inl ⟨SqL.of (s5 _ _ (s4 _ _ (s3 _ _ el2))), fun t3 ht3 => ⟨by show 3 ≤ sizeLine; decide, fun q hq => ?_⟩⟩⟩
      have s6 := (same_new (o := .tup []) ht3).trans (same_new (o := .lst [.ref t1, .ref t2, .ref t3]) hq)
      exact k q t1 t2 t3 ws ys _ ((((s1.trans s2).trans s3).trans s4).trans (s5.trans s6)) h1 g1 upd_same (SqT.keep (SqT.keep q1 s5) s6) (SqT.keep q2 s6) (SqT.of (same_new hq _ _ upd_same))
end
end Bo

set_option Elab.async false
set_option linter.all false
set_option maxRecDepth 100000
set_option maxHeartbeats 8000000
namespace Bo
open PySem L2
theorem len_app (x y : Str) : (x ++ y).length = x.length + y.length := by
  rw [str_len, str_len, str_len, str_app, List.length_append]
/-- data of [(names), (names), ()] -/
def standD (ys us : List Str) : PyData := .list [.tuple (ys.map PyData.str), .tuple (us.map PyData.str), .tuple []]
theorem dp_strs {K : PySem.W.Frag} {H : Hp} : ∀ ys : List Str, DpAll K H (ys.map V.str) (ys.map PyData.str)
  | [] => .nil
  | y :: ys => .cons (.str y) (dp_strs ys)
theorem dp_stand {K : PySem.W.Frag} {H : Hp} {q t1 t2 t3 : Addr} {ys us : List Str} (h : H q = some (.lst [.ref t1, .ref t2, .ref t3])) (h1 : SqT K H t1 (ys.map V.str)) (h2 : SqT K H t2 (us.map V.str)) (h3 : SqT K H t3 []) : Dp K H (.ref q) (standD ys us) :=
  .lst (SqL.of h) (.cons (.tup h1 (dp_strs ys)) (.cons (.tup h2 (dp_strs us)) (.cons (.tup h3 .nil) .nil)))
/-- the names: none, or the one y -/
inductive One (y : Str) : List Str → Prop where
  | no : One y []
  | yes : One y [y]
theorem One.perm {y : Str} {l m : List Str} (h : One y l) (p : m.Perm l) : m = l := by
  cases h with
  | no => exact p.eq_nil
  | yes => exact List.perm_singleton.mp p
theorem repr_y {y : Str} (h : TxtOk y) : (reprText y).length ≤ 202 := by
  have h1 := PySem.StrLaws.reprText_len y fun c hc => Nat.lt_of_lt_of_le (h.c c hc) (by decide)
  have h2 := h.l
  have h3 : y.length = y.cps.toList.length := str_len y
  omega
theorem tup_y {y : Str} (h : TxtOk y) {l : List Str} (o : One y l) : (tupleText (PyData.shownAll (l.map PyData.str))).length ≤ 210 := by
  cases o with
  | no => decide +kernel
  | yes =>
    have h1 := repr_y h
    have e : (tupleText (PyData.shownAll [PyData.str y])) = ((("(" : Str) ++ reprText y) ++ (",)" : String)) := rfl
    show (tupleText (PyData.shownAll [PyData.str y])).length ≤ 210
    rw [e]
    show (((("(" : Str) ++ reprText y) ++ (Str.ofString ",)")) : Str).length ≤ 210
    rw [len_app, len_app]
    have a1 : (("(" : Str)).length = 1 := rfl
    have a2 : (Str.ofString ",)").length = 2 := rfl
    omega
theorem stand_len {y : Str} (h : TxtOk y) {l m : List Str} (o : One y l) (o2 : One y m) : (standD l m).shown.length ≤ 1000 := by
  have h1 := tup_y h o
  have h2 := tup_y h o2
  have h3 : (tupleText (PyData.shownAll [])).length ≤ 210 := by decide +kernel
  generalize e1 : tupleText (PyData.shownAll (l.map PyData.str)) = T1 at h1
  generalize e2 : tupleText (PyData.shownAll (m.map PyData.str)) = T2 at h2
  generalize e3 : tupleText (PyData.shownAll []) = T3 at h3
  have e : (standD l m).shown = (((((((Str.ofString "[" ++ Str.ofString "") ++ T1) ++ Str.ofString ", ") ++ T2) ++ Str.ofString ", ") ++ T3) ++ Str.ofString "]") := by
    rw [← e1, ← e2, ← e3]
    rfl
  rw [e, len_app, len_app, len_app, len_app, len_app, len_app, len_app]
  have a1 : (Str.ofString "[").length = 1 := rfl
  have a2 : (Str.ofString "").length = 0 := rfl
  have a3 : (Str.ofString ", ").length = 2 := rfl
  have a4 : (Str.ofString "]").length = 1 := rfl
  omega
theorem strs_ok : ∀ l : List Str, PyData.showableAll (l.map PyData.str) = true
  | [] => rfl
  | y :: l => by
    show (true && PyData.showableAll (l.map PyData.str)) = true
    rw [strs_ok l]
    rfl
theorem strs_depth : ∀ l : List Str, PyData.depthAll (l.map PyData.str) = 0
  | [] => rfl
  | y :: l => by
    show max 0 (PyData.depthAll (l.map PyData.str)) = 0
    rw [strs_depth l]
    rfl
theorem stand_ok (l m : List Str) : (standD l m).showable = true := by
  show (PyData.showableAll (l.map PyData.str) && (PyData.showableAll (m.map PyData.str) && (true && true))) = true
  rw [strs_ok, strs_ok]
  rfl
theorem stand_depth (l m : List Str) : (standD l m).depth ≤ 60 := by
  show max (PyData.depthAll (l.map PyData.str) + 1) (max (PyData.depthAll (m.map PyData.str) + 1) (max (0 + 1) 0)) + 1 ≤ 60
  rw [strs_depth, strs_depth]
  decide
/-- _law_stands(system, plain) -/
def spStands (K : PySem.W.Frag) (CC CS : Addr) : Sp := fun vs H Q _ => ∃ (s : Addr) (H0 : Hp) (S : Ct) (m : Nat) (pl r u : Addr) (rs : List (Str × Addr)) (us : List Str) (y : Str), vs = [.ref s, .ref pl] ∧ SyOn K CC CS H0 H s S m ∧ Plain H pl r u rs us ∧ TxtOk y ∧ One y (S.rows.map (·.1)) ∧ One y S.cols ∧ (∀ p ∈ S.rows, p.2 = []) ∧
  rs.map (·.1) = S.rows.map (·.1) ∧ us = S.cols ∧ ∀ H', Same H H' → Q (.bl true) H'
theorem One.len {y : Str} {l : List Str} (h : One y l) : l.length ≤ 1 := by
  cases h with
  | no => exact Nat.zero_le _
  | yes => exact Nat.le_refl _
structure PropT (K : PySem.W.Frag) (CS : Addr) (pE gE pU gU pN gN : Addr) : Prop where
  e : PropOf K CS "equations" pE gE
  u : PropOf K CS "unknowns" pU gU
  n : PropOf K CS "entries" pN gN
section
variable {P : Program} {w : World} {K : PySem.W.Frag} {mg : Str → Option Value} {base : Heap} {CC fCI CN fIN CS fSI fTk : Addr}
theorem scSt : FnScope ["_law_system", "_law_plain"] ["_law_system", "_law_plain"] (defScope sStands) := ⟨rfl, rfl, rfl, by decide +kernel, rfl, by decide +kernel, by decide +kernel⟩
theorem ok_stands {f fT pE gE pU gU pN gN : Addr} {fd fdT fdE fdU fdN : FuncData} (F : Fun K "_law_stands" "_law_stands" sStands f fd) (T : SysT K mg CS fSI fTk) (hrep : mg "repr" = none) (PT : PropT K CS pE gE pU gU pN gN)
    (GT : FnOk P w K mg base CX0 1 fT fdT ["_law_plain"] (spTold K)) (mT : mg "_law_told" = some (.ref fT)) (kT : PySem.W.keepIn K (.ref fT) = true) (bT : Binds K fdT ["_law_plain"] [])
    (GE : FnOk P w K mg base CX0 1 gE fdE ["self"] (spEqs K CC CS)) (bE : Binds K fdE ["self"] []) (GU : FnOk P w K mg base CX0 1 gU fdU ["self"] (spUns K CC CS)) (bU : Binds K fdU ["self"] []) (GN : FnOk P w K mg base CX0 2 gN fdN ["self"] (spEns K CC CS)) (bN : Binds K fdN ["self"] []) :
    FnQ P w K mg base CX0 4 f fd ["_law_system", "_law_plain"] (spStands K CC CS) := by
  refine fun_okQ0 F scSt (fun vs H Q E h => ?_) (fun cdv A outer s H vs Q E hq h => ?_)
  · obtain ⟨s, H0, S, m, pl, r, u, rs, us, y, rfl, _⟩ := h
    rfl
  · obtain ⟨s, H0, S, m, pl, r, u, rs, us, y, rfl, Y, hP, hy, o1, o2, he, e1, e2, k⟩ := h
    have hr := hq.room
    have hr1 : Room 1 _ := hr.mono (by decide)
    have hr2 : Room 2 _ := hr.mono (by decide)
    refine ⟨_, pss_one (ps_ret (pe_cmpR op_eq (pe_callB (call_reprQ hq) (by rfl) hrep (by decide +kernel) (pa_cons (pe_lst
        (pa_cons (pe_prop (pv 0) T.cl PT.e GE hr2 bE .nil pass0 rfl) (pa_cons (pe_prop (pv 0) T.cl PT.u GU hr2 bU .nil pass0 rfl) (pa_cons (pe_prop (pv 0) T.cl PT.n GN hr bN .nil pass0 rfl) pa_nil)))) pa_nil))
      (pe_callB (call_reprQ hq) (by rfl) hrep (by decide +kernel) (pa_cons (pe_call GT hr1 rfl mT kT bT .nil pass0 (pa_cons (pv 1) pa_nil)) pa_nil)) (nomark _))), ?_⟩
    obtain ⟨dx, c, b, h, hs, Y0, _⟩ := id Y
    refine ⟨_, rfl, s, dx, _, rfl, Y0.i, s, H0, S, m, rfl, Y, by have := o1.len; rw [List.length_map] at this; omega, fun t1 H1 ys s1 p1 _ q1 => ?_⟩
    refine ⟨_, rfl, s, dx, _, rfl, s1 _ _ Y0.i, s, H0, S, m, rfl, Y.keep s1, fun t2 q2 => ?_⟩
    refine ⟨_, rfl, s, dx, _, rfl, s1 _ _ Y0.i, s, H0, S, m, rfl, Y.keep s1, he, fun t3 H2 s2 q3 => ⟨by show 3 ≤ sizeLine; decide, fun q hq0 => ?_⟩⟩
    have s3 : Same H2 (upd H2 q (.lst [.ref t1, .ref t2, .ref t3])) := same_new hq0
    obtain rfl := o1.perm p1
    refine ⟨.ref q, standD (S.rows.map Prod.fst) S.cols, rfl, dp_stand upd_same (SqT.keep (SqT.keep q1 s2) s3) (SqT.keep (SqT.keep q2 s2) s3) (SqT.keep q3 s3), stand_ok _ _, stand_depth _ _, Nat.le_trans (stand_len hy o1 o2) (by decide), ?_⟩
    have s4 := (s1.trans s2).trans s3
    refine ⟨_, rfl, pl, r, u, rs, us, rfl, hP.keep s4, ?_, ?_, fun q' t4 t5 t6 zs ws H3 s5 g1 g2 hq' w1 w2 w3 => ?_⟩
    · have := o1.len
      rw [← e1, List.length_map] at this
      omega
    · have := o2.len
      rw [← e2] at this
      omega
    rw [e1] at g1
    rw [e2] at g2
    obtain rfl := o1.perm g1
    obtain rfl := o2.perm g2
    refine ⟨.ref q', standD (S.rows.map Prod.fst) S.cols, rfl, dp_stand hq' w1 w2 w3, stand_ok _ _, stand_depth _ _, Nat.le_trans (stand_len hy o1 o2) (by decide), rfl, ?_⟩
    rw [decide_eq_true rfl]
    exact k _ (s4.trans s5)
end
end Bo

set_option Elab.async false
set_option linter.all false
set_option maxRecDepth 100000
set_option maxHeartbeats 8000000
namespace Bo
open PySem PySem.Spec PyProof.Rows L2
/-! ### a def whose code object is told -/
structure FunC (K : PySem.W.Frag) (x qual : Str) (st : Stmt) (f : Addr) (fd : FuncData) (c : Addr) : Prop where
  ex : ∃ (oc : Value) (od : Option Addr) (kV doc pm : Value) (an : Option Addr) (ct : Value) (osl : Array (Option Value)),
    fd = PySem.W.fnOf x qual (defArgs st) (defBody st) (defScope st) .none kV doc pm an (.ref c) ct ∧ K.lookup f = some ⟨oc, od, .func fd, osl⟩ ∧ PySem.W.codeIn K (.ref c) qual = true
/-! ### objects that stay where lambdas are made -/
theorem ext_at {H H1 : Hp} {b : Addr} {o : HO} (e : LamX.ExtN H H1) (h : H b = some o) (n : ∀ ps, o ≠ .tbl ps) : H1 b = some o := e b o h n
theorem Rd.ext {H H1 : Hp} {a : Addr} {u : HO} (e : LamX.ExtN H H1) (h : Rd H a u) (n : ∀ ps, u ≠ .tbl ps) : Rd H1 a u := h.elim (fun z => .inl (e _ _ z n)) fun ⟨o, z⟩ => .inr ⟨o, e _ _ z fun _ q => by cases q⟩
theorem SqT.ext {K : PySem.W.Frag} {H H1 : Hp} {a : Addr} {xs : List V} (e : LamX.ExtN H H1) (h : SqT K H a xs) : SqT K H1 a xs := h.elim (fun z => .inl (Rd.ext e z fun _ q => by cases q)) .inr
theorem Flat.ext {K : PySem.W.Frag} {H H1 : Hp} {v : V} {d : PyData} (e : LamX.ExtN H H1) (h : Flat K H v d) : Flat K H1 v d := by
  cases h with
  | atom h => exact .atom h
  | tup h x l => exact .tup (SqT.ext e h) x l
  | lst h x l => exact .lst (e _ _ h fun _ z => by cases z) x l
  | dct h x nd l => exact .dct (e _ _ h fun _ z => by cases z) x nd l
theorem Thg.ext {K : PySem.W.Frag} {H H1 : Hp} {v : V} {d : PyData} (e : LamX.ExtN H H1) (h : Thg K H v d) : Thg K H1 v d := ⟨h.f.ext e, h.t, h.s, h.p, h.z, h.o⟩
theorem Fz.ext {H H1 : Hp} {a : Addr} {u : HO} (e : LamX.ExtN H H1) (h : Fz H a u) : Fz H1 a u := let ⟨o, z⟩ := h; ⟨o, e _ _ z fun _ q => by cases q⟩
theorem CtIn.ext {K : PySem.W.Frag} {CC : Addr} {H H1 : Hp} {a : Addr} {S : Ct} (e : LamX.ExtN H H1) (h : CtIn K CC H a S) : CtIn K CC H1 a S :=
  let ⟨dx, ac, ar, ak, rs, z⟩ := h
  ⟨dx, ac, ar, ak, rs, ⟨e _ _ z.i (fun _ q => by cases q), SqT.ext e z.c, z.r.ext e, Paired.mapP z.p fun p q y => ⟨y.1, y.2.ext e⟩, z.k.ext e⟩⟩
theorem SyAt.ext {CS : Addr} {H H1 : Hp} {s dx c b h : Addr} {hs : List V} (e : LamX.ExtN H H1) (Y : SyAt CS H s dx c b h hs) : SyAt CS H1 s dx c b h hs :=
  ⟨e _ _ Y.i (fun _ q => by cases q), e _ _ Y.b (fun _ q => by cases q), e _ _ Y.h (fun _ q => by cases q)⟩
/-- what the heap knows but for s and h -/
def hide2 (s h : Addr) (H : Hp) : Hp := fun b => if b = s ∨ b = h then none else H b
/-- a system told anew from the heap at which it stands: B, all but its own two objects -/
theorem SyOn.anew {K : PySem.W.Frag} {CC CS : Addr} {H0 H H1 : Hp} {s : Addr} {S : Ct} {m : Nat} (e : LamX.ExtN H H1) (Y : SyOn K CC CS H0 H s S m) :
    ∃ B, SyOn K CC CS B H1 s S m ∧ Same B H1 ∧ LamX.ExtN H0 B ∧ ∀ q o, H1 q = some o → (∀ C d f, o ≠ .ins C d f) → (∀ xs, o ≠ .lst xs) → B q = some o := by
  obtain ⟨dx, c, b, h, hs, Y, C, e1, e2, e3, e4, e5⟩ := Y
  have Y1 := Y.ext e
  have sm : Same (hide2 s h H1) H1 := fun q o z => by
    unfold hide2 at z
    split at z
    · cases z
    · exact z
  refine ⟨hide2 s h H1, ⟨dx, c, b, h, hs, Y1, C.ext e, e1, e2, if_pos (.inl rfl), if_pos (.inr rfl), sm⟩, sm, fun q o z n => ?_, fun q o z n1 n2 => ?_⟩
  · refine (if_neg fun y => ?_).trans (e _ _ (e5 _ _ z) n)
    rcases y with y | y
    · rw [y, e3] at z; cases z
    · rw [y, e4] at z; cases z
  · refine (if_neg fun y => ?_).trans z
    rcases y with y | y
    · rw [y, Y1.i] at z
      exact n1 _ _ _ (Option.some.inj z).symm
    · rw [y, Y1.h] at z
      exact n2 _ (Option.some.inj z).symm
end Bo

set_option Elab.async false
set_option linter.all false
set_option maxRecDepth 100000
set_option maxHeartbeats 8000000
namespace Bo
open PySem L2
theorem ext_of_same {H H1 : Hp} (k : Same H H1) : LamX.ExtN H H1 := fun b o e _ => k b o e
theorem Tape.ext {H H1 : Hp} {t c : Addr} {cs : List Int} {p l : Int} (e : LamX.ExtN H H1) (T : Tape H t c cs p l) : Tape H1 t c cs p l := ⟨e _ _ T.d (fun _ z => by cases z), e _ _ T.c (fun _ z => by cases z), T.n, T.m, T.p0, T.l0⟩
theorem tabs_in {T : List (Addr × Str)} {H B : Hp} (b : ∀ q o, H q = some o → (∀ C d f, o ≠ .ins C d f) → (∀ xs, o ≠ .lst xs) → B q = some o) (h : LamX.Tabs T H) : LamX.Tabs T B := fun p hp => by
  obtain ⟨ps, h1, h2, h3⟩ := h p hp
  refine ⟨ps, b _ _ h1 (fun _ _ _ z => by cases z) (fun _ z => by cases z), h2, fun pos cv hc => ?_⟩
  obtain ⟨c, e1, e2⟩ := h3 pos cv hc
  exact ⟨c, e1, b _ _ e2 (fun _ _ _ z => by cases (show HO.ext _ = HO.ins _ _ _ from z)) (fun _ z => by cases (show HO.ext _ = HO.lst _ from z))⟩
theorem tabs_but {T : List (Addr × Str)} {t : Addr} {H H' : Hp} {ks : List (Key × V)} (b : But t H H') (ht : H t = some (.dK ks)) (h : LamX.Tabs T H) : LamX.Tabs T H' := fun p hp => by
  obtain ⟨ps, h1, h2, h3⟩ := h p hp
  refine ⟨ps, b _ _ h1 fun z => ?_, h2, fun pos cv hc => ?_⟩
  · rw [z, ht] at h1
    cases h1
  · obtain ⟨c, e1, e2⟩ := h3 pos cv hc
    refine ⟨c, e1, b _ _ e2 fun z => ?_⟩
    rw [z, ht] at e2
    cases (show HO.dK _ = HO.ext _ from Option.some.inj e2)
section
variable {K : PySem.W.Frag} {CC CN CS : Addr} {B H : Hp} {s PT : Addr} {S : Ct} {m : Nat} {q : Str} {σ : L2.St} {v : V} {d : PyData} {Q : VK}
theorem perm_one {y : Str} {zs : List Str} (h : zs.Perm ([y] ++ [])) : zs = [y] := List.perm_singleton.mp h
/-- _law_error(lambda: s.add_unknown(v)) -/
theorem lam_au (hT : LamX.Tabs [(PT, q)] H) (Y : SyOn K CC CS B H s S m) (hm : m < 1000) (hc : S.cols = []) (hv : Thg K B v d) (e6 : σ[6]? = some (some (.ref s))) (e7 : σ[7]? = some (some v))
    (kY : ∀ (y : Str) (B' H' : Hp), v = .str y → nameV v = true → LamX.ExtN B B' → LamX.Tabs [(PT, q)] H' → SyOn K CC CS B' H' s { S with cols := [y] } (m + 1) → Q .non H')
    (kN : ∀ (a : Addr) (v' : V) (B' H' : Hp), nameV v = false → LamX.ExtN B B' → LamX.Tabs [(PT, q)] H' → SyOn K CC CS B' H' s S m → SqT K H' a [.str (Str.ofString "name"), v'] → Flat K H' v' d → Q (.ref a) H') :
    LamX.tLam [(PT, q)] (TTe K CN) (fun E => tMethR CS "add_unknown" (spAU K CC CN CS) E (tVar 6) (tCons (tVar 7) tNil)) σ H Q := by
  refine ⟨hT, fun H1 eN T1 => ?_⟩
  obtain ⟨B1, Y1, sm, eB, rest⟩ := Y.anew eN
  have TB1 := tabs_in rest T1
  have hv1 := (hv.ext eB).keep sm
  obtain ⟨dx, c, b, h, hs, Y0, _⟩ := id Y1
  show tMethR CS "add_unknown" (spAU K CC CN CS) (EchN K CN Q) (tVar 6) (tCons (tVar 7) tNil) σ H1 (backN Q)
  refine ⟨_, e6, s, dx, _, rfl, Y0.i, syF_no _ _ _ (by decide +kernel) (by decide +kernel) (by decide +kernel), _, e7, ?_⟩
  refine ⟨s, B1, S, m, [v], rfl, Y1, hm, by show 1 ≤ 100; decide, by rw [hc]; exact Nat.zero_le _, fun x hx => ⟨d, by rw [List.mem_singleton.mp hx]; exact hv1.f⟩, fun z hz => ?_, ?_⟩
  · have := (hv.t z (List.mem_singleton.mp hz).symm).l
    rw [str_len]
    omega
  cases hn : nameV v with
  | false =>
    refine .inl ⟨0, v, d, rfl, hv1.f, hn, fun j x hj _ => absurd hj (Nat.not_lt_zero _), fun dx2 v' H2 s2 e1 f2 => ⟨dx2, v', d, rfl, rfl, e1, f2, fun a H3 s3 hq => ?_⟩⟩
    have s4 := s2.trans s3
    exact kN a v' B1 H3 hn eB (TB1.ext (sm.trans s4)) (Y1.keep s4) hq (f2.keep s3)
  | true =>
    cases v with
    | str y =>
      refine .inr ⟨[y], rfl, fun z hz => by rw [List.mem_singleton.mp hz]; exact hn, by rw [hc]; simp, by rw [hc]; show 1 ≤ 24; decide, fun H2 zs p1 _ Y2 => backN_non ?_⟩
      rw [hc] at p1
      rw [perm_one p1] at Y2
      exact kY y B1 H2 rfl hn eB (TB1.ext Y2.same) Y2
    | _ => cases hn
/-- _law_error(lambda: s.add_equation(v)) -/
theorem lam_ae (hT : LamX.Tabs [(PT, q)] H) (Y : SyOn K CC CS B H s S m) (hm : m < 1000) (hc : S.rows = []) (hk : S.cons = []) (hv : Thg K B v d) (e6 : σ[6]? = some (some (.ref s))) (e7 : σ[7]? = some (some v))
    (kY : ∀ (y : Str) (B' H' : Hp), v = .str y → nameV v = true → LamX.ExtN B B' → LamX.Tabs [(PT, q)] H' → SyOn K CC CS B' H' s { S with rows := [(y, [])], cons := [(y, 0)] } (m + 1) → Q .non H')
    (kN : ∀ (a : Addr) (v' : V) (B' H' : Hp), nameV v = false → LamX.ExtN B B' → LamX.Tabs [(PT, q)] H' → SyOn K CC CS B' H' s S m → SqT K H' a [.str (Str.ofString "name"), v'] → Flat K H' v' d → Q (.ref a) H') :
    LamX.tLam [(PT, q)] (TTe K CN) (fun E => tMethR CS "add_equation" (spAE K CC CN CS) E (tVar 6) (tCons (tVar 7) tNil)) σ H Q := by
  refine ⟨hT, fun H1 eN T1 => ?_⟩
  obtain ⟨B1, Y1, sm, eB, rest⟩ := Y.anew eN
  have TB1 := tabs_in rest T1
  have hv1 := (hv.ext eB).keep sm
  obtain ⟨dx, c, b, h, hs, Y0, _⟩ := id Y1
  show tMethR CS "add_equation" (spAE K CC CN CS) (EchN K CN Q) (tVar 6) (tCons (tVar 7) tNil) σ H1 (backN Q)
  refine ⟨_, e6, s, dx, _, rfl, Y0.i, syF_no _ _ _ (by decide +kernel) (by decide +kernel) (by decide +kernel), _, e7, ?_⟩
  refine ⟨s, B1, S, m, v, d, rfl, Y1, hm, hv1.f, fun z hz => ?_, ?_⟩
  · have := (hv.t z hz).l
    rw [str_len]
    omega
  cases hn : nameV v with
  | false =>
    refine .inl ⟨rfl, fun dx2 v' H2 s2 e1 f2 => ⟨dx2, v', d, rfl, rfl, e1, f2, fun a H3 s3 hq => ?_⟩⟩
    have s4 := s2.trans s3
    exact kN a v' B1 H3 hn eB (TB1.ext (sm.trans s4)) (Y1.keep s4) hq (f2.keep s3)
  | true =>
    cases v with
    | str y =>
      refine .inr ⟨y, rfl, hn, by rw [hc]; simp, by rw [hk]; simp, by rw [hc]; decide, by rw [hk]; decide, fun H2 Y2 => backN_non ?_⟩
      rw [hc, hk] at Y2
      exact kY y B1 H2 rfl hn eB (TB1.ext Y2.same) Y2
    | _ => cases hn
/-- _law_error(lambda: s.add_unknown(z, v)), v no name -/
theorem lam_au2 {z : Str} (hT : LamX.Tabs [(PT, q)] H) (Y : SyOn K CC CS B H s S m) (hm : m < 1000) (hc : S.cols = []) (hv : Thg K B v d) (hz : nameOk z = true) (lz : z.length ≤ 1000) (hn : nameV v = false) (e5 : σ[5]? = some (some (.str z))) (e6 : σ[6]? = some (some (.ref s))) (e7 : σ[7]? = some (some v))
    (kN : ∀ (a : Addr) (v' : V) (B' H' : Hp), LamX.ExtN B B' → LamX.Tabs [(PT, q)] H' → SyOn K CC CS B' H' s S m → SqT K H' a [.str (Str.ofString "name"), v'] → Flat K H' v' d → Q (.ref a) H') :
    LamX.tLam [(PT, q)] (TTe K CN) (fun E => tMethR CS "add_unknown" (spAU K CC CN CS) E (tVar 6) (tCons (tVar 5) (tCons (tVar 7) tNil))) σ H Q := by
  refine ⟨hT, fun H1 eN T1 => ?_⟩
  obtain ⟨B1, Y1, sm, eB, rest⟩ := Y.anew eN
  have TB1 := tabs_in rest T1
  have hv1 := (hv.ext eB).keep sm
  obtain ⟨dx, c, b, h, hs, Y0, _⟩ := id Y1
  show tMethR CS "add_unknown" (spAU K CC CN CS) (EchN K CN Q) (tVar 6) (tCons (tVar 5) (tCons (tVar 7) tNil)) σ H1 (backN Q)
  refine ⟨_, e6, s, dx, _, rfl, Y0.i, syF_no _ _ _ (by decide +kernel) (by decide +kernel) (by decide +kernel), _, e5, _, e7, ?_⟩
  refine ⟨s, B1, S, m, [.str z, v], rfl, Y1, hm, by show 2 ≤ 100; decide, by rw [hc]; exact Nat.zero_le _, fun x hx => ?_, fun y hy => ?_, ?_⟩
  · rcases List.mem_cons.mp hx with e | e
    · rw [e]; exact ⟨_, .atom (v := .str z) rfl⟩
    · rw [List.mem_singleton.mp e]; exact ⟨d, hv1.f⟩
  · rcases List.mem_cons.mp hy with e | e
    · cases e; exact lz
    · have := (hv.t y (List.mem_singleton.mp e).symm).l
      rw [str_len]
      omega
  refine .inl ⟨1, v, d, rfl, hv1.f, hn, fun j x hj hx => ?_, fun dx2 v' H2 s2 e1 f2 => ⟨dx2, v', d, rfl, rfl, e1, f2, fun a H3 s3 hq => ?_⟩⟩
  · obtain rfl : j = 0 := by omega
    cases hx
    exact hz
  · have s4 := s2.trans s3
    exact kN a v' B1 H3 eB (TB1.ext (sm.trans s4)) (Y1.keep s4) hq (f2.keep s3)
end
/-- the texts of what is told and of what is due -/
theorem pair_good {K : PySem.W.Frag} {B : Hp} {v : V} {d : PyData} (h : Thg K B v d) : (PyData.tuple [.str (Str.ofString "name"), d]).showable = true ∧ (PyData.tuple [.str (Str.ofString "name"), d]).depth ≤ 60 ∧ (PyData.tuple [.str (Str.ofString "name"), d]).shown.length ≤ sizeLine := by
  refine ⟨?_, ?_, ?_⟩
  · show (true && (d.showable && true)) = true
    rw [h.s]
    rfl
  · show max 0 (max d.depth 0) + 1 ≤ 60
    have := h.p
    omega
  · have h1 := h.z
    have e : (PyData.tuple [.str (Str.ofString "name"), d]).shown = ((Str.ofString "(" ++ ((reprText (Str.ofString "name") ++ Str.ofString ", ") ++ d.shown)) ++ Str.ofString ")") := rfl
    rw [e, len_app, len_app, len_app, len_app]
    have a1 : (Str.ofString "(").length = 1 := rfl
    have a2 : (reprText (Str.ofString "name")).length = 6 := by decide +kernel
    have a3 : (Str.ofString ", ").length = 2 := rfl
    have a4 : (Str.ofString ")").length = 1 := rfl
    rw [sizeLine_eq]
    omega
end Bo

set_option Elab.async false
set_option linter.all false
set_option maxRecDepth 100000
set_option maxHeartbeats 16000000
namespace Bo
open PySem L2
abbrev sLaw : Stmt := top 74
def spLaw (K : PySem.W.Frag) (PT : Addr) : Sp := fun vs H Q _ => ∃ (a : Addr) (ns : List Int), vs = [.ref a] ∧ SqL K H a (ns.map V.int) ∧ ns.length ≤ 63 ∧ H PT = some (.tbl #[]) ∧ ∀ H', Q (.bl true) H'
structure TxtL (mg : Str → Option Value) : Prop extends TxtR mg where
  min_ : mg "min" = none
  rep : mg "repr" = none
  dct : mg "dict" = none
/-- all the defs that the law leans on -/
structure Leans (P : Program) (w : World) (K : PySem.W.Frag) (mg : Str → Option Value) (base : Heap) (CC CN CB CS : Addr) (cs : Nat → Addr) (fCI fIN fSI fTk : Addr) : Prop where
  T : SysT K mg CS fSI fTk
  TC : CtT K mg CC fCI
  TE : ErrT K mg CB CN cs
  TL : TxtL mg
  gS : mg "System" = some (.ref CS)
theorem sy_on {CC CS : Addr} {K : PySem.W.Frag} {H H' : Hp} {x dx c b h : Addr} (hx : H x = none) (hd : H dx = none) (kk : ∀ q o, upd (upd H dx (.own x)) x (.ins CS dx []) q = some o → q ≠ x → H' q = some o) (e1 : h ≠ b) (e2 : upd (upd H dx (.own x)) x (.ins CS dx []) h = none)
    (Y : SyAt CS H' x dx c b h []) (C : CtIn K CC H' c ⟨[], [], []⟩) : SyOn K CC CS H H' x ⟨[], [], []⟩ 0 := by
  refine ⟨dx, c, b, h, [], Y, C, e1, Nat.le_refl _, hx, ?_, fun q o e => kk q o (by rw [upd_ne (ne_of_none e hx), upd_ne (ne_of_none e hd)]; exact e) (ne_of_none e hx)⟩
  cases q : H h with
  | none => rfl
  | some o =>
    rw [upd_ne (ne_of_none q hx), upd_ne (ne_of_none q hd), q] at e2
    cases e2
theorem yes_q : PyData.strOk (Str.ofString "q") = true := by decide +kernel
theorem two_merge (r u : Addr) : mergeK [] [(kR, V.ref r), (kU, V.ref u)] = [(kR, V.ref r), (kU, V.ref u)] := by
  have e1 : putK ([] : List (Key × V)) kR (V.ref r) = [(kR, V.ref r)] := rfl
  have e2 : putK [(kR, V.ref r)] kU (V.ref u) = [(kR, V.ref r), (kU, V.ref u)] := putK_new _ (by rw [valV_neg neRU]; rfl)
  show putK (putK [] kR (V.ref r)) kU (V.ref u) = _
  rw [e1, e2]
theorem same_put {H H1 : Hp} {p : Addr} {o : HO} (k : Same H H1) (h : H p = none) : Same H (upd H1 p o) := fun b u e => by rw [upd_ne (ne_of_none e h)]; exact k _ _ e
abbrev nL : List Str := ["_law_script", "_law_tape", "_law_turn", "_law_due", "_law_some", "_law_fresh", "_law_system", "_law_thing_here", "_law_name"]
section
variable {P : Program} {w : World} {K : PySem.W.Frag} {mg : Str → Option Value} {base : Heap} {CC fCI CN fIN CS fSI fTk CB : Addr} {cs : Nat → Addr}
theorem scL : FnScope nL ["_law_script"] (defScope sLaw) := ⟨rfl, rfl, rfl, by decide +kernel, rfl, by decide +kernel, by decide +kernel⟩
theorem ok_law {f c PT fB fTh fN fE fSt fAU fAE pE gE pU gU pN gN : Addr} {fd fdB fdTh fdN fdE fdSt fdSI fdU : FuncData} (F : FunC K "law" "law" sLaw f fd c) (TB : LamX.TabB base mg c PT) (L : Leans P w K mg base CC CN CB CS cs fCI fIN fSI fTk)
    (GB : FnOk P w K mg base CX0 1 fB fdB ["_law_script"] (spBegin K)) (mB : mg "_law_begin" = some (.ref fB)) (kB : PySem.W.keepIn K (.ref fB) = true) (bB : Binds K fdB ["_law_script"] [])
    (GTh : FnOk P w K mg base CX0 4 fTh fdTh ["_law_tape"] (spOdd K 20)) (mTh : mg "_law_thing" = some (.ref fTh)) (kTh : PySem.W.keepIn K (.ref fTh) = true) (bTh : Binds K fdTh ["_law_tape"] [])
    (GN : FnOk P w K mg base CX0 1 fN fdN ["_law_thing_here"] (spLName K)) (mN : mg "_law_is_name" = some (.ref fN)) (kN : PySem.W.keepIn K (.ref fN) = true) (bN : Binds K fdN ["_law_thing_here"] [])
    (FE : Fun K "_law_error" "_law_error" sErr fE fdE) (mE : mg "_law_error" = some (.ref fE)) (bE : Binds K fdE ["_law_call"] [])
    (GSt : FnQ P w K mg base CX0 4 fSt fdSt ["_law_system", "_law_plain"] (spStands K CC CS)) (mSt : mg "_law_stands" = some (.ref fSt)) (kSt : PySem.W.keepIn K (.ref fSt) = true) (bSt : Binds K fdSt ["_law_system", "_law_plain"] [])
    (GS : FnOk P w K mg base CX0 3 fSI fdSI ["self"] (spSInit K CC CS)) (bS : Binds K fdSI ["self"] [])
    (GAU : FnR P w K mg base (L2.CX P w) 6 fAU (spAU K CC CN CS)) (mAU : Meth K CS "add_unknown" fAU) (GAE : FnR P w K mg base (L2.CX P w) 7 fAE (spAE K CC CN CS)) (mAE : Meth K CS "add_equation" fAE)
    (PrT : PropT K CS pE gE pU gU pN gN) (GU : FnOk P w K mg base CX0 1 gU fdU ["self"] (spUns K CC CS)) (bU : Binds K fdU ["self"] []) :
    FnQ P w K mg base CX0 10 f fd ["_law_script"] (spLaw K PT) := by
  obtain ⟨oc, od, kV, doc, pm, an, ct, osl, rfl, lk, hcd⟩ := F.ex
  obtain ⟨oc2, od2, kV2, doc2, pm2, an2, cdv2, ct2, osl2, rfl, lkE, hcdE⟩ := FE.ex
  refine fnq_of lk hcd scL (fun vs H Q E h => ?_) (fun A outer s H vs Q E hq h => ?_)
  · obtain ⟨a, ns, rfl, _⟩ := h
    rfl
  · obtain ⟨a, ns, rfl, hS, hl, hP, k⟩ := h
    have hr := hq.room
    have hu : (A.deeper (PyProof.Rows.envOfC "law" (defScope sLaw) s.heap.objs.size f (.ref c))).units + 64 < cLine := by have := hr.un; omega
    have hr1 : Room 1 _ := hr.mono (by decide)
    have hr2 : Room 2 _ := hr.mono (by decide)
    have hr4 : Room 4 _ := hr.mono (by decide)
    have hq4 : Quiet 4 _ := hq.mono (by decide)
    have TX := L.TL
    obtain ⟨q, hqe⟩ : ∃ q : Str, (cxOf CX0 P w K mg base nL "law" (defScope sLaw) f (.ref c) A outer s H E).nox.env.qual ++ "<lambda>" = q := ⟨_, rfl⟩
    suffices z : ∃ t, PSs (cxOf CX0 P w K mg base nL "law" (defScope sLaw) f (.ref c) A outer s H E).nox (defBody sLaw) t ∧ t { nx := fun _ H' => Q .non H', rt := Q } (L2.start nL [.ref a]) H from let ⟨t, h1, h2⟩ := z; ⟨t, h1.nox, h2⟩
    refine ⟨_, pss_cons (ps_set (i := 1) scL.nd rfl (.inl rfl) (pe_call GB hr1 rfl mB kB bB .nil pass0 (pa_cons (pv 0) pa_nil)))
      (pss_cons (ps_for PassesOwn.never rfl (pi_range1 rfl TX.rng (pa_cons (pe_op op_add pe_int (pe_callB (call_min2 rfl) (by rfl) TX.min_ (by decide +kernel) (pa_cons pe_int (pa_cons (pe_callB call_len_seq (by rfl) TX.len PySem.boot_len (pa_cons (pv 0) pa_nil)) pa_nil)))) pa_nil)) (pg_name (i := 2) scL.nd rfl (.inl rfl))
        (pss_cons (ps_asg (pe_tup (pa_cons (pe_call GTh hr4 rfl mTh kTh bTh .nil pass0 (pa_cons (pv 1) pa_nil)) (pa_cons (pe_make0 L.T.mkC GS hr4 rfl L.T.g bS .nil pass0) pa_nil))) (pg_tup (by rfl) (pgs_cons (pg_name (i := 7) scL.nd rfl (.inr rfl)) (pgs_cons (pg_name (i := 6) scL.nd rfl (.inr rfl)) pgs_nil))))
        (pss_cons (ps_set (i := 3) scL.nd rfl (.inl rfl) (pe_ifExp (pt_val (pe_call GN hr1 rfl mN kN bN .nil pass0 (pa_cons (pv 7) pa_nil))) pe_non (pe_tup (pa_cons pe_str (pa_cons (pv 7) pa_nil)))))
        (pss_cons (ps_if (pt_cmpR op_ne (pe_callB (call_reprX hq) (by rfl) TX.rep (by decide +kernel) (pa_cons (LamX.pe_lamcall (T := [(PT, q)]) (TT := TTe K CN) (k := 7) (t := fun E => tMethR CS "add_unknown" (spAU K CC CN CS) E (tVar 6) (tCons (tVar 7) tNil)) rfl mE FE.kp lkE hcdE bE scErr rfl (.inl rfl) (err_gives L.TE) TB rfl (List.mem_singleton.mpr (congrArg (Prod.mk PT) hqe)) (fun p hp _ => by rw [List.mem_singleton.mp hp]; exact hqe.symm) hr (LamX.lamS_by (sc := defScope sLaw) (by decide +kernel)) rfl (fun _ _ _ _ _ => rfl)
        (fun A2 outer2 s2 H2 E2 f2 c2 hr7 => pe_methR (pv 6) L.T.cl mAU GAU (hr7.mono (by decide)) (passes_call (takes_of rfl rfl rfl rfl) (fun _ _ _ _ h => h)) (pa_cons (pv 7) pa_nil))) pa_nil)) (pe_callB (call_reprX hq) (by rfl) TX.rep (by decide +kernel) (pa_cons (pv 3) pa_nil)) (nomark _)) (pss_one (ps_ret pe_bl)) pss_nil)
        (pss_cons (ps_if (pt_cmpR op_ne (pe_callB (call_reprX hq) (by rfl) TX.rep (by decide +kernel) (pa_cons (LamX.pe_lamcall (T := [(PT, q)]) (TT := TTe K CN) (k := 7) (t := fun E => tMethR CS "add_equation" (spAE K CC CN CS) E (tVar 6) (tCons (tVar 7) tNil)) rfl mE FE.kp lkE hcdE bE scErr rfl (.inl rfl) (err_gives L.TE) TB rfl (List.mem_singleton.mpr (congrArg (Prod.mk PT) hqe)) (fun p hp _ => by rw [List.mem_singleton.mp hp]; exact hqe.symm) hr (LamX.lamS_by (sc := defScope sLaw) (by decide +kernel)) rfl (fun _ _ _ _ _ => rfl)
        (fun A2 outer2 s2 H2 E2 f2 c2 hr7 => pe_methR (pv 6) L.T.cl mAE GAE (hr7.mono (by decide)) (passes_call (takes_of rfl rfl rfl rfl) (fun _ _ _ _ h => h)) (pa_cons (pv 7) pa_nil))) pa_nil)) (pe_callB (call_reprX hq) (by rfl) TX.rep (by decide +kernel) (pa_cons (pv 3) pa_nil)) (nomark _)) (pss_one (ps_ret pe_bl)) pss_nil)
        (pss_cons (ps_set (i := 4) scL.nd rfl (.inl rfl) (pe_ifExp (pt_cmp (pc_isN (pv 3))) (pe_lst (pa_cons (pv 7) pa_nil)) (pe_lst pa_nil)))
        (pss_cons (ps_if (pt_not (pt_val (pe_callQ GSt hq4 rfl mSt kSt bSt .nil pass0 (pa_cons (pv 6) (pa_cons (pe_disp (pps_cons pe_str (pe_callTy (call_dictP rfl) (by rfl) TX.dct (by decide +kernel) (pa_cons
            (pe_lc (own := [("_law_name", 8)]) (g := gName 8) (tt := tYes) rfl scL.nd (pi_list (pv 4)) (blkOk_by (N := nL) (sc := defScope sLaw) (by decide +kernel)) (fun _ _ _ _ _ => pg_name (i := 8) scL.nd rfl (Or.inl rfl)) (fun _ _ _ _ _ => pts_nil) (fun _ _ _ _ _ => pe_tup (pa_cons (pv 8) (pa_cons (pe_lst pa_nil) pa_nil)))) pa_nil)) (pps_cons pe_str (pv 4) pps_nil)) (by rfl) (by rfl) (fun z => by cases z) (by decide)) pa_nil))))) (pss_one (ps_ret pe_bl)) pss_nil)
        (pss_cons (ps_set (i := 5) scL.nd rfl (.inr rfl) (pe_ifExp (pt_cmpR (op_neTx hu) (pv 7) pe_str (nomark _)) pe_str pe_str))
        (pss_cons (ps_if (PW.pt (pw_and (pt_cmp (pc_notN (pv 3))) (pw_and1 (pt_cmpR op_ne (pe_callB (call_reprX hq) (by rfl) TX.rep (by decide +kernel) (pa_cons (LamX.pe_lamcall (T := [(PT, q)]) (TT := TTe K CN) (k := 7) (t := fun E => tMethR CS "add_unknown" (spAU K CC CN CS) E (tVar 6) (tCons (tVar 5) (tCons (tVar 7) tNil))) rfl mE FE.kp lkE hcdE bE scErr rfl (.inl rfl) (err_gives L.TE) TB rfl (List.mem_singleton.mpr (congrArg (Prod.mk PT) hqe)) (fun p hp _ => by rw [List.mem_singleton.mp hp]; exact hqe.symm) hr (LamX.lamS_by (sc := defScope sLaw) (by decide +kernel)) rfl (fun _ _ _ _ _ => rfl)
        (fun A2 outer2 s2 H2 E2 f2 c2 hr7 => pe_methR (pv 6) L.T.cl mAU GAU (hr7.mono (by decide)) (passes_call (takes_of rfl rfl rfl rfl) (fun _ _ _ _ h => h)) (pa_cons (pv 5) (pa_cons (pv 7) pa_nil)))) pa_nil)) (pe_callB (call_reprX hq) (by rfl) TX.rep (by decide +kernel) (pa_cons (pv 3) pa_nil)) (nomark _))))) (pss_one (ps_ret pe_bl)) pss_nil)
        (pss_one (ps_if (PW.pt (pw_and (pt_cmp (pc_notN (pv 3))) (pw_and1 (pt_cmpR (op_neD hu) (pe_prop (pv 6) L.T.cl PrT.u GU hr2 bU .nil pass0 rfl) (pe_tup pa_nil) (nomark _))))) (pss_one (ps_ret pe_bl)) pss_nil)))))))))))
      (pss_one (ps_ret pe_bl))), ?_⟩
    refine ⟨_, rfl, a, ns, rfl, hS, hl, fun t c0 cs0 H1 _ _ hT sm => ?_⟩
    have hTb : LamX.Tabs [(PT, q)] H1 := fun p hp => by
      rw [List.mem_singleton.mp hp]
      exact LamX.TabS.nil (sm _ _ hP)
    have hS1 : SqL K H1 a (ns.map V.int) := SqL.keep hS sm
    refine ⟨_, rfl, a, _, rfl, .inl hS1, _, _, rfl, _, _, rfl, rfl, _, rfl, ?_, ?_, ?_⟩
    · split <;> omega
    · split <;> omega
    have hn12 : (6 + (if ((ns.map V.int).length : Int) < 6 then ((ns.map V.int).length : Int) else 6)).toNat ≤ 12 := by split <;> omega
    generalize (6 + (if ((ns.map V.int).length : Int) < 6 then ((ns.map V.int).length : Int) else 6)).toNat = nt at hn12 ⊢
    refine for_range (fun i σ H' => ∃ (p l : Int) (z2 z3 z4 z5 z6 z7 z8 : Option V), σ = [some (.ref a), some (.ref t), z2, z3, z4, z5, z6, z7, z8] ∧ Tape H' t c0 cs0 p l ∧ p ≤ 20 * (i : Int) ∧ LamX.Tabs [(PT, q)] H') ⟨0, 0, none, none, none, none, none, none, none, rfl, hT, by omega, hTb⟩ ?_ ?_
    rotate_left
    · rintro σ H2 ⟨p, l, z2, z3, z4, z5, z6, z7, z8, rfl, _⟩
      exact k H2
    rintro i σ H2 hi ⟨p, l, z2, z3, z4, z5, z6, z7, z8, rfl, hT2, hp, hTb2⟩
    refine ⟨_, rfl, t, c0, cs0, p, l, rfl, hT2, by omega, fun v d p' l' H3 hv nv a1 b1 hT3 hB3 => ?_⟩
    have Tb3 := tabs_but hB3 hT2.d hTb2
    intro x0 dx0 g1 g2 g3
    refine ⟨x0, dx0, rfl, upd_same, fun c1 b1' h1 H4 kk e1 e2 Y0 C0 => ⟨rfl, ?_⟩⟩
    have Y4 : SyOn K CC CS H3 H4 x0 ⟨[], [], []⟩ 0 := sy_on g1 g2 kk e1 e2 Y0 C0
    refine ⟨by show 2 ≤ sizeLine; decide, fun q0 hq0 => ⟨q0, _, rfl, SqT.of upd_same, rfl, _, _, rfl, _, _, rfl, rfl, ?_⟩⟩
    have Y5 := Y4.keep (same_new (o := .tup [v, V.ref x0]) hq0)
    generalize upd H4 q0 (.tup [v, V.ref x0]) = H5 at Y5 ⊢
    have hv5 := hv.keep Y5.same
    refine ⟨_, rfl, v, d, rfl, hv5.f, hv5.t, fun H6 s6 => ⟨_, rfl, ?_⟩⟩
    have Y6 := Y5.keep s6
    have Tb6 := Tb3.ext Y6.same
    cases hn : nameV v with
    | true =>
      refine iteT ?_
      have vt : ∃ y, v = .str y := by
        cases v with
        | str y => exact ⟨y, rfl⟩
        | _ => cases hn
      obtain ⟨y, rfl⟩ := vt
      refine lam_au Tb6 Y6 (by decide) rfl hv rfl rfl (fun y2 B7 H7 ey _ eB7 Tb7 Y7 => ?_) (fun _ _ _ _ z => by rw [hn] at z; cases z)
      cases ey
      refine ⟨.non, .none, rfl, .flat (.atom (v := .non) rfl), rfl, by decide, by decide +kernel, ?_⟩
      refine ⟨_, rfl, .non, .none, rfl, .flat (.atom (v := .non) rfl), rfl, by decide, by decide +kernel, rfl, _, rfl, ite2 (fun z => by rw [decide_eq_true rfl] at z; cases z) (fun _ => ?_)⟩
      refine lam_ae Tb7 Y7 (by decide) rfl rfl (hv.ext eB7) rfl rfl (fun y2 B8 H8 ey _ eB8 Tb8 Y8 => ?_) (fun _ _ _ _ z => by rw [hn] at z; cases z)
      cases ey
      refine ⟨.non, .none, rfl, .flat (.atom (v := .non) rfl), rfl, by decide, by decide +kernel, ?_⟩
      refine ⟨_, rfl, .non, .none, rfl, .flat (.atom (v := .non) rfl), rfl, by decide, by decide +kernel, rfl, _, rfl, ite2 (fun z => by rw [decide_eq_true rfl] at z; cases z) (fun _ => ?_)⟩
      have hT8 := (hT3.ext eB7).ext eB8
      have hv8 := ((hv.ext eB7).ext eB8).keep Y8.same
      refine ⟨_, rfl, _, rfl, iteT ⟨_, rfl, by show 1 ≤ sizeLine; decide, fun l9 hl9 => ?_⟩⟩
      have k9 : Same H8 (upd H8 l9 (.lst [.str y])) := same_new hl9
      have el9 : (upd H8 l9 (.lst [.str y])) l9 = some (.lst [.str y]) := upd_same
      generalize upd H8 l9 (.lst [.str y]) = H9 at k9 el9 ⊢
      refine ⟨_, rfl, fun pl hpl => ?_⟩
      have k0 : Same H9 (upd H9 pl (.dK [])) := same_new hpl
      have epl : (upd H9 pl (.dK [])) pl = some (.dK []) := upd_same
      generalize upd H9 pl (.dK []) = G0 at k0 epl ⊢
      refine ⟨_, rfl, l9, rfl, ⟨[V.str y], SqL.of (k0 _ _ el9)⟩, fun D hD => ?_⟩
      refine lc_list (xs := [V.str y]) (fun i H' => Same G0 H' ∧ ((i = 0 ∧ H' D = some (.lst [])) ∨ (i = 1 ∧ ∃ e tp, H' D = some (.lst [.ref tp]) ∧ H' tp = some (.tup [.str y, .ref e]) ∧ H' e = some (.lst []))))
        ⟨same_new hD, .inl ⟨rfl, upd_same⟩⟩ (fun i H' _ p => SqL.of (p.1 _ _ (k0 _ _ el9))) ?_ ?_
      · rintro i x H' hx ⟨sm', p⟩
        have hi0 : i < 1 := (List.getElem?_eq_some_iff.mp hx).1
        rcases p with ⟨rfl, hD'⟩ | ⟨rfl, _⟩
        · cases hx
          refine ⟨rfl, iteT (B := True) ⟨_, rfl, by decide, fun e he => ⟨by show 2 ≤ sizeLine; decide, fun tp htp => ⟨[], ?_, by decide, same_put ((sm'.trans (same_new he)).trans (same_new htp)) hD, .inr ⟨rfl, e, tp, upd_same, ?_, ?_⟩⟩⟩⟩⟩
          · exact same_new htp _ _ (same_new he _ _ hD')
          · have n1 : tp ≠ D := fun z => by rw [z, same_new he _ _ hD'] at htp; cases htp
            rw [upd_ne n1]
            exact upd_same
          · have n1 : e ≠ D := fun z => by rw [z, hD'] at he; cases he
            rw [upd_ne n1]
            exact same_new htp _ _ upd_same
        · exact absurd hi0 (by decide)
      rintro G1 ⟨sG, p⟩
      rcases p with ⟨z, _⟩ | ⟨_, e, tp, gD, gt, ge⟩
      · cases z
      refine ⟨D, [tp], [(Sum.inr y, V.ref e)], rfl, SqL.of gD, .cons (SqT.of gt) .nil, fun r hr => ?_⟩
      have em1 : mergeK [] [((Sum.inr y : Key), V.ref e)] = refK [(y, e)] := rfl
      rw [em1]
      have kr : Same G1 (upd G1 r (.dK (refK [(y, e)]))) := same_new hr
      have er : (upd G1 r (.dK (refK [(y, e)]))) r = some (.dK (refK [(y, e)])) := upd_same
      generalize upd G1 r (.dK (refK [(y, e)])) = G2 at kr er ⊢
      have k2 := (k0.trans sG).trans kr
      refine ⟨_, rfl, kr _ _ (sG _ _ epl), [(kR, V.ref r), (kU, V.ref l9)], rfl, by show 2 ≤ 15; decide, ?_⟩
      rw [two_merge]
      have npl : ∀ {b : Addr} {o : HO}, G2 b = some o → o ≠ .dK [] → b ≠ pl := fun e n z => by rw [z, kr _ _ (sG _ _ epl)] at e; exact n (Option.some.inj e).symm
      have kf : Same H9 (upd G2 pl (.dK [(kR, V.ref r), (kU, V.ref l9)])) := same_put k2 hpl
      have hPl : Plain (upd G2 pl (.dK [(kR, V.ref r), (kU, V.ref l9)])) pl r l9 [(y, e)] [y] := by
        refine ⟨upd_same, ?_, fun p hp => ?_, kf _ _ el9⟩
        · rw [upd_ne (npl er fun z => by cases z)]
          exact er
        · rw [List.mem_singleton.mp hp]
          have ge2 := kr _ _ ge
          rw [upd_ne (npl ge2 fun z => by cases z)]
          exact ge2
      generalize upd G2 pl (.dK [(kR, V.ref r), (kU, V.ref l9)]) = G3 at kf hPl ⊢
      have k83 := k9.trans kf
      refine ⟨x0, B8, _, 2, pl, r, l9, [(y, e)], [y], y, rfl, Y8.keep k83, hPl, hv.t y rfl, .yes, .yes, (fun p hp => by rw [List.mem_singleton.mp hp]), rfl, rfl, fun H10 s10 => ⟨_, rfl, iteF ?_⟩⟩
      have k810 := k83.trans s10
      refine ⟨_, rfl, _, Str.ofString "q", rfl, (hv8.keep k810).f, hv8.o, yes_q, _, rfl, ite2 (fun _ => ?_) (fun _ => ?_)⟩
      all_goals
        refine ⟨_, rfl, _, rfl, iteF (iteF ?_)⟩
        refine ⟨_, rfl, _, rfl, iteF (iteF ?_)⟩
        exact ⟨p', l', _, _, _, _, _, _, _, rfl, (hT8.keep Y8.same).keep k810, by omega, Tb8.ext k810⟩
    | false =>
      refine iteF ⟨_, rfl, by show 2 ≤ sizeLine; decide, fun du hdu => ?_⟩
      obtain ⟨B7, Y7, sm7, eB7, rest7⟩ := (Y6.keep (same_new (o := .tup [.str (Str.ofString "name"), v]) hdu)).anew (LamX.ExtN.refl _)
      have hdu7 : B7 du = some (.tup [.str (Str.ofString "name"), v]) := rest7 _ _ upd_same (fun _ _ _ z => by cases z) (fun _ z => by cases z)
      have Tb7 := Tb6.ext (same_new (o := .tup [.str (Str.ofString "name"), v]) hdu)
      generalize upd H6 du (.tup [.str (Str.ofString "name"), v]) = H7 at Y7 sm7 Tb7 ⊢
      have hv7 := hv.ext eB7
      have du7 : SqT K B7 du [.str (Str.ofString "name"), v] := SqT.of hdu7
      obtain ⟨pg1, pg2, pg3⟩ := pair_good hv
      refine lam_au Tb7 Y7 (by decide) rfl hv7 rfl rfl (fun _ _ _ _ z => by rw [hn] at z; cases z) (fun a8 v8 B8 H8 _ eB8 Tb8 Y8 sq8 f8 => ?_)
      have du8 := SqT.ext eB8 du7
      have hv8 := hv7.ext eB8
      refine ⟨.ref a8, .tuple [.str (Str.ofString "name"), d], rfl, .pair sq8 f8, pg1, pg2, pg3, ?_⟩
      refine ⟨_, rfl, .ref du, .tuple [.str (Str.ofString "name"), d], rfl, .pair (SqT.keep du8 Y8.same) (hv8.keep Y8.same).f, pg1, pg2, pg3, rfl, _, rfl, ite2 (fun z => by rw [decide_eq_true rfl] at z; cases z) (fun _ => ?_)⟩
      refine lam_ae Tb8 Y8 (by decide) rfl rfl hv8 rfl rfl (fun _ _ _ _ z => by rw [hn] at z; cases z) (fun a9 v9 B9 H9 _ eB9 Tb9 Y9 sq9 f9 => ?_)
      have du9 := SqT.ext eB9 du8
      have hv9 := hv8.ext eB9
      refine ⟨.ref a9, .tuple [.str (Str.ofString "name"), d], rfl, .pair sq9 f9, pg1, pg2, pg3, ?_⟩
      refine ⟨_, rfl, .ref du, .tuple [.str (Str.ofString "name"), d], rfl, .pair (SqT.keep du9 Y9.same) (hv9.keep Y9.same).f, pg1, pg2, pg3, rfl, _, rfl, ite2 (fun z => by rw [decide_eq_true rfl] at z; cases z) (fun _ => ?_)⟩
      have hT9 := ((hT3.ext eB7).ext eB8).ext eB9
      refine ⟨_, rfl, _, rfl, iteF ⟨by decide, fun l9 hl9 => ?_⟩⟩
      have k9 : Same H9 (upd H9 l9 (.lst [])) := same_new hl9
      have el9 : (upd H9 l9 (.lst [])) l9 = some (.lst []) := upd_same
      generalize upd H9 l9 (.lst []) = F9 at k9 el9 ⊢
      refine ⟨_, rfl, fun pl hpl => ?_⟩
      have k0 : Same F9 (upd F9 pl (.dK [])) := same_new hpl
      have epl : (upd F9 pl (.dK [])) pl = some (.dK []) := upd_same
      generalize upd F9 pl (.dK []) = G0 at k0 epl ⊢
      refine ⟨_, rfl, l9, rfl, ⟨[], SqL.of (k0 _ _ el9)⟩, fun D hD => ?_⟩
      refine lc_list (xs := []) (fun i H' => H' = upd G0 D (.lst [])) rfl (fun i H' _ e => by rw [e]; exact SqL.of (same_new hD _ _ (k0 _ _ el9))) (fun i x H' hx => by simp at hx) ?_
      intro G1 eG
      have sG : Same G0 G1 := by rw [eG]; exact same_new hD
      have gD : G1 D = some (.lst []) := by rw [eG]; exact upd_same
      refine ⟨D, [], [], rfl, SqL.of gD, .nil, fun r hr => ?_⟩
      have em1 : mergeK [] ([] : List (Key × V)) = refK [] := rfl
      rw [em1]
      have kr : Same G1 (upd G1 r (.dK (refK []))) := same_new hr
      have er : (upd G1 r (.dK (refK []))) r = some (.dK (refK [])) := upd_same
      have rpl : r ≠ pl := fun z => by rw [z, sG _ _ epl] at hr; cases hr
      generalize upd G1 r (.dK (refK [])) = G2 at kr er ⊢
      have k2 := (k0.trans sG).trans kr
      refine ⟨_, rfl, kr _ _ (sG _ _ epl), [(kR, V.ref r), (kU, V.ref l9)], rfl, by show 2 ≤ 15; decide, ?_⟩
      rw [two_merge]
      have kf : Same F9 (upd G2 pl (.dK [(kR, V.ref r), (kU, V.ref l9)])) := same_put k2 hpl
      have hPl : Plain (upd G2 pl (.dK [(kR, V.ref r), (kU, V.ref l9)])) pl r l9 [] [] := ⟨upd_same, by rw [upd_ne rpl]; exact er, (fun _ z => nomatch z), kf _ _ el9⟩
      generalize upd G2 pl (.dK [(kR, V.ref r), (kU, V.ref l9)]) = G3 at kf hPl ⊢
      have k93 := k9.trans kf
      refine ⟨x0, B9, ⟨[], [], []⟩, 0, pl, r, l9, [], [], Str.ofString "a", rfl, Y9.keep k93, hPl, ⟨by decide +kernel, by decide +kernel⟩, .no, .no, (fun _ z => nomatch z), rfl, rfl, fun H10 s10 => ⟨_, rfl, iteF ?_⟩⟩
      have k910 := k93.trans s10
      have Y10 := Y9.keep k910
      have Tb10 := Tb9.ext k910
      refine ⟨_, rfl, _, Str.ofString "q", rfl, (hv9.keep Y10.same).f, hv9.o, yes_q, _, rfl, ite2 (fun _ => ?_) (fun _ => ?_)⟩
      all_goals
        refine ⟨_, rfl, _, rfl, iteT ?_⟩
        refine lam_au2 Tb10 Y10 (by decide) rfl hv9 (by decide +kernel) (by decide +kernel) hn rfl rfl rfl (fun a11 v11 B11 H11 eB11 Tb11 Y11 sq11 f11 => ?_)
        refine ⟨.ref a11, .tuple [.str (Str.ofString "name"), d], rfl, .pair sq11 f11, pg1, pg2, pg3, ?_⟩
        refine ⟨_, rfl, .ref du, .tuple [.str (Str.ofString "name"), d], rfl, .pair (SqT.keep (SqT.ext eB11 du9) Y11.same) ((hv9.ext eB11).keep Y11.same).f, pg1, pg2, pg3, rfl, _, rfl, ite2 (fun z => by rw [decide_eq_true rfl] at z; cases z) (fun _ => ?_)⟩
        obtain ⟨dx11, c11, b11, h11, hs11, Y110, _⟩ := id Y11
        refine ⟨_, rfl, _, rfl, iteT ⟨_, rfl, x0, dx11, _, rfl, Y110.i, x0, B11, _, _, rfl, Y11, fun t11 qt => ⟨by decide, fun e11 he11 => ?_⟩⟩⟩
        have k11 : Same H11 (upd H11 e11 (.tup [])) := same_new he11
        refine ⟨.tuple [], .tuple [], .tup (SqT.keep qt k11) .nil, .tup (SqT.of upd_same) .nil, rfl, rfl, _, rfl, iteF ?_⟩
        exact ⟨p', l', _, _, _, _, _, _, _, rfl, (((hT9.ext eB11).keep Y11.same).keep k11), by omega, Tb11.ext k11⟩
end
end Bo

set_option Elab.async false
set_option linter.all false
set_option maxRecDepth 100000
set_option maxHeartbeats 4000000
/-! the end of a law that hands a lambda and asks repr: one table -/
namespace Bo
open PySem PySem.Spec PyProof.Rows L2
/-- the law's code object at c has its table at T, which is empty and not told by the written part -/
structure OneTab (K : PySem.W.Frag) (h : Heap) (c T : Addr) : Prop where
  new : h.get? T = some { cls := .none, data := .fields #[] }
  out : K.lookup T = none
  code : PySem.W.CodeHd h c T
/-- what may be tracked: the script and the table -/
def scriptH (a T : Addr) (o : Option Obj) (xs : List V) : Hp := fun b => if b = T then some (.tbl #[]) else if b = a then o.map fun ob => .frz ob (.lst xs) else none
theorem sH_tab {a T : Addr} {o : Option Obj} {xs : List V} : scriptH a T o xs T = some (.tbl #[]) := if_pos rfl
theorem sH_scr {a T : Addr} {o : Option Obj} {xs : List V} (n : a ≠ T) : scriptH a T o xs a = o.map fun ob => .frz ob (.lst xs) := (if_neg n).trans (if_pos rfl)
theorem sH_else {a T b : Addr} {o : Option Obj} {xs : List V} (n : b ≠ T) (m : b ≠ a) : scriptH a T o xs b = none := (if_neg n).trans (if_neg m)
theorem law_tabQ {P : Program} {w : World} {K : PySem.W.Frag} {mg mb : Str → Option Value} {k : Nat} {fa a c T : Addr} {fd : FuncData} {x : Str} {sp : Sp} {s₁ : Shared} {vs : List Value} {ns : List Int}
    (KX : K.In s₁.heap) (gl : s₁.heap.Ns mainGlobals mg) (bl : s₁.heap.Ns builtinsNs mb) (bb : ∀ y : Str, y ≠ "__name__" → mb y = bootBuiltins y) (lim : s₁.heap.NoLimit) (gens : s₁.gens = #[]) (tab : OneTab K s₁.heap c T)
    (bm : ∃ (m : Addr) (o : Obj), mg "__builtins__" = some (.ref m) ∧ m ≠ builtinsNs ∧ s₁.heap.get? m = some o ∧ o.cls = .type "module" ∧ o.dict = some builtinsNs ∧ o.data = .plain)
    (scr : s₁.heap.get? a = some { cls := .type "list", data := .seq vs.toArray }) (hin : IntsAre vs ns) (len : ns.length ≤ sizeLine) (qt : Quiet k callerA)
    (F : ∀ base : Heap, K.In base → base.Ns mainGlobals mg → LamX.TabB base mg c T → FnQ P w K mg base CX0 k fa fd [x] sp) (bind : ∀ (s : Shared) (u : Value), BindsTo s fd ⟨[u], []⟩ [(x, u)])
    (asks : ∀ H : Hp, H T = some (.tbl #[]) → SqL K H a (ns.map V.int) → sp [.ref a] H (fun v _ => v = .bl true) E0) :
    codeAny (model P w) callerA (.call (.ref fa) ⟨[.ref a], []⟩) (fun r s' => r = .ok (.ret (.bool true)) ∧ OldK s₁.heap s'.heap ∧ s'.os = s₁.os ∧ AllBare s'.gens) s₁ := by
  have rv := vals_ints hin
  have aT : a ≠ T := fun z => by
    have e := tab.new
    rw [← z, scr] at e
    cases congrArg Obj.data (Option.some.inj e)
  have lenV : vs.length = ns.length := hin.length
  -- the heap that is tracked
  obtain ⟨o, hS, hok, hKa⟩ : ∃ o : Option Obj, SqL K (scriptH a T o (ns.map V.int)) a (ns.map V.int) ∧ HOk P w (scriptH a T o (ns.map V.int)) s₁.heap ∧ (o ≠ none → o = some { cls := .type "list", data := .seq vs.toArray } ∧ K.lookup a = none) := by
    cases hk : K.lookup a with
    | some ob =>
      have e := KX a ob hk
      rw [scr] at e
      cases e
      refine ⟨none, .inr ⟨_, vs.toArray, _, hk, rfl, rfl, rfl, by rw [List.size_toArray, lenV]; exact len, by simpa using rv⟩, fun b u z => ?_, fun z => absurd rfl z⟩
      by_cases hb : b = T
      · subst hb
        rw [sH_tab] at z
        cases z
        exact tab.new
      · by_cases ha : b = a
        · subst ha
          rw [sH_scr aT] at z
          cases z
        · rw [sH_else hb ha] at z
          cases z
    | none =>
      refine ⟨some { cls := .type "list", data := .seq vs.toArray }, .inl (.inr ⟨_, sH_scr aT⟩), fun b u z => ?_, fun _ => ⟨rfl, rfl⟩⟩
      by_cases hb : b = T
      · subst hb
        rw [sH_tab] at z
        cases z
        exact tab.new
      · by_cases ha : b = a
        · subst ha
          rw [sH_scr aT] at z
          cases z
          exact ⟨scr, by rw [List.length_map]; exact len, vs, _, rv, scr⟩
        · rw [sH_else hb ha] at z
          cases z
  generalize eH : scriptH a T o (ns.map V.int) = H at hS hok
  have hT : H T = some (.tbl #[]) := by rw [← eH]; exact sH_tab
  have hn : ∀ {b : Addr}, b ≠ T → b ≠ a → H b = none := fun n m => by rw [← eH]; exact sH_else n m
  -- what is neither a list nor a bare record is not tracked
  have calm : ∀ {b : Addr} {u : Obj}, s₁.heap.get? b = some u → (∀ ws n, u.data ≠ .seq ws n) → u.data ≠ .fields #[] → H b = none := fun {b u} e n1 n2 => by
    refine hn (fun z => ?_) (fun z => ?_)
    · rw [z, tab.new] at e
      exact n2 (congrArg Obj.data (Option.some.inj e).symm)
    · rw [z, scr] at e
      exact n1 _ _ (congrArg Obj.data (Option.some.inj e).symm)
  have dict : ∀ {b : Addr} {m : Str → Option Value}, s₁.heap.Ns b m → (hidT s₁.heap H).Ns b m := fun {b m} z => by
    obtain ⟨u, es, ep, e, hd, r⟩ := z
    refine ⟨u, es, ep, hidT_get e (calm e (fun ws n y => ?_) (fun y => ?_)), hd, r⟩
    · cases hd.symm.trans y
    · cases hd.symm.trans y
  have inK : K.In (hidT s₁.heap H) := fun b u e => by
    refine hidT_get (KX b u e) ?_
    by_cases z : b = T
    · rw [z, tab.out] at e
      cases e
    · by_cases y : b = a
      · subst y
        cases ho : o with
        | none => rw [← eH, sH_scr aT, ho]; rfl
        | some ob =>
          rw [(hKa (by rw [ho]; exact fun q => by cases q)).2] at e
          cases e
      · exact hn z y
  have env : Env0 P w K mg (hidT s₁.heap H) callerA [] s₁ H := by
    refine ⟨rfl, ⟨inK, dict gl, ⟨mb, dict bl, bb⟩, ?_⟩, fun b u e => of_hidT e, Nat.le_of_eq (hidT_size _ _), trivial, fun b hb => absurd (show b ∈ ([] : List Addr) from hb) (by simp), hok, .of_eq gens⟩
    obtain ⟨mc, l1, l2⟩ := lim
    exact ⟨mc, dict l1, l2⟩
  have TB : LamX.TabB (hidT s₁.heap H) mg c T := by
    obtain ⟨u, us, file, tf, flags, tg, inF, text, tt, e1, r1, r2, r3, rr⟩ := tab.code
    obtain ⟨m, ob, b1, b2, b3, b4, b5, b6⟩ := bm
    refine ⟨⟨u, us, file, tf, flags, tg, inF, text, tt, hidT_get e1 (calm e1 (fun ws n y => ?_) (fun y => ?_)), r1, r2, r3, rr⟩, ⟨m, ob, b1, b2, fun z => ?_, fun z => ?_, hidT_get b3 (calm b3 (fun ws n y => ?_) (fun y => ?_)), b4, b5, b6⟩, fun z => ?_⟩
    · cases r2.symm.trans y
    · have q := r2.symm.trans y
      cases q
      simp at r3
    · obtain ⟨u2, es, ep, e, hd, _⟩ := gl
      rw [z, e] at b3
      cases b3
      cases hd.symm.trans b6
    · rw [z, tab.new] at b3
      cases b3
      cases b6
    · cases b6.symm.trans y
    · cases b6.symm.trans y
    · obtain ⟨u2, es, ep, e, hd, _⟩ := gl
      rw [z, tab.new] at e
      cases e
      cases hd
  have run := (F _ inK (dict gl) TB).run callerA [] s₁ H ⟨[.ref a], []⟩ [.ref a] [.ref a] _ _ qt env (bind s₁ (.ref a)) (.cons rfl .nil) (asks H hT hS)
  refine codeAny_mono run fun r s' h => ?_
  match r, h with
  | .error e, h => exact (show False from h).elim
  | .ok (.ret u), ⟨v, H', os, bare, un, hok', r', q⟩ =>
    obtain rfl : v = .bl true := q
    obtain rfl : u = Value.bool true := r'
    obtain ⟨more, ht⟩ := un.tbls T #[] hT
    have grown : s'.heap.get? T = some { cls := .none, data := .fields (#[] ++ more) } := hok' T _ ht
    have stays : ∀ b u, b ≠ T → s₁.heap.get? b = some u → s'.heap.get? b = some u := fun b u nb e => by
      cases hb : H b with
      | none => exact un.keep b u e hb (fun z => by cases z) (by simp)
      | some y =>
        by_cases ha : b = a
        · subst ha
          cases ho : o with
          | none =>
            rw [← eH, sH_scr aT, ho] at hb
            cases hb
          | some ob =>
            rw [← eH, sH_scr aT, ho] at hb
            have hb2 : H b = some (.frz ob (.lst (ns.map V.int))) := by rw [← eH, sH_scr aT, ho]; rfl
            have e1 := (hok b _ hb2).1
            have e2 := (hok' b _ (un.frzs b ob _ hb2)).1
            rw [e] at e1
            cases e1
            exact e2
        · rw [hn nb ha] at hb
          cases hb
    refine ⟨rfl, ⟨fun b u e => ?_, fun b u e => ?_⟩, os, bare⟩
    · by_cases hb : b = T
      · subst hb
        rw [tab.new] at e
        cases e
        exact .inr (.inl ⟨(tab.code.tab tab.new).isCodeTable, rfl, #[], #[] ++ more, rfl, by rw [Array.empty_append]; exact grown⟩)
      · exact .inl (stays b u hb e)
    · by_cases hb : b = T
      · exact ⟨_, hb ▸ grown⟩
      · exact ⟨u, stays b u hb e⟩
/-- the walk's end -/
theorem walkTQ {l : PySem.W.OpenLaw} {n k : Nat} {q : Program} {loose : List Str} {XP : (Str → Option Value) → Heap → Prop} {YP : World → Heap → Prop} {d : DefRec} {K : Params → PySem.W.Frag} {x : Str} (most : l.most = some n) (few : n ≤ sizeLine) (defs : d.params.defaults = []) (room : Room k callerA)
    (inK : ∀ (w : World) (h : Heap), YP w h → (K w.params).In h)
    (F : ∀ (w : World) (mg : Str → Option Value) (fa : Addr) (h : Heap), YP w h → (K w.params).In h → h.Ns mainGlobals mg → mg d.name = some (.ref fa) →
      ∃ (fd : FuncData) (c T : Addr) (sp : Sp), OneTab (K w.params) h c T ∧ (∀ (s : Shared) (u : Value), BindsTo s fd ⟨[u], []⟩ [(x, u)]) ∧
        (∀ (H : Hp) (a : Addr) (ns : List Int), ns.length ≤ n → H T = some (.tbl #[]) → SqL (K w.params) H a (ns.map V.int) → sp [.ref a] H (fun v _ => v = .bl true) E0) ∧
        ∀ base : Heap, (K w.params).In base → base.Ns mainGlobals mg → LamX.TabB base mg c T → FnQ l.prog w (K w.params) mg base CX0 k fa fd [x] sp) :
    PySem.W.WalkO q loose XP YP l.row.toRowW d [] (fun f vs => PySem.call f vs) := by
  refine Att.attach_call most defs fun w s₀ s₁ mg mb fa o pm cd doc a vs ns G Y ho hd hcd hmg hobj hints hlen hg => ?_
  have KX := inK w _ Y
  obtain ⟨fd, c, T, sp, tab, hb, hsp, hF⟩ := F w mg fa _ Y KX G.T.g hmg
  exact law_tabQ KX G.T.g G.T.b G.T.builtins G.T.nolimit hg tab G.T.bmain hobj hints (Nat.le_trans hlen few) (quiet_caller room) hF hb fun H h1 h2 => hsp H a ns hlen h1 h2
end Bo

set_option Elab.async false
set_option linter.all false
set_option maxRecDepth 100000
set_option maxHeartbeats 16000000
namespace Bo
open PySem L2
theorem funC_mk {K : PySem.W.Frag} {x qual : Str} {st : Stmt} {f c : Addr} {oc : Value} {od an : Option Addr} {osl : Array (Option Value)} {kV doc pm ct : Value}
    (l : K.lookup f = some ⟨oc, od, .func (PySem.W.fnOf x qual (defArgs st) (defBody st) (defScope st) .none kV doc pm an (.ref c) ct), osl⟩) (e : PySem.W.codeIn K (.ref c) qual = true) : FunC K x qual st f (PySem.W.fnOf x qual (defArgs st) (defBody st) (defScope st) .none kV doc pm an (.ref c) ct) c := ⟨⟨oc, od, kV, doc, pm, an, ct, osl, rfl, l, e⟩⟩
/-- what the written part says of the error's class -/
def errB (K : PySem.W.Frag) (C : Addr) : Bool := decide (PySem.W.findIn K (.ref C) "__getattribute__" = some (some (.builtin "BaseException.__getattribute__"))) && (decide (PySem.W.findIn K (.ref C) "__getattr__" = some none) &&
  (decide (PySem.W.subIn K (.ref C) (.type "BaseException") = some true) && (PySem.W.hasDictIn K C && (decide (PySem.W.findIn K (.ref C) "__class__" = some (some (.builtin "object.__class__"))) &&
  (decide (PySem.W.specialIn K (.builtin "object.__class__") "__get__" = some (some (.builtin "getset_descriptor.__get__"))) && (decide (PySem.W.takesIn K (.builtin "object.__class__") = some true) && (decide (PySem.W.mroIn K C (.type "object") = some true) &&
  (decide (PySem.W.typeIn K (.ref C) = some (.type "type")) && (PySem.W.keepIn K (.ref C) && decide (PySem.W.findIn K (.ref C) "__setattr__" = some (some (.builtin "object.__setattr__"))))))))))))
structure ErrF (K : PySem.W.Frag) (C : Addr) : Prop where
  ex : ExcC K C
  xf : XfC K C
  ty : PySem.W.typeIn K (.ref C) = some (.type "type")
  kp : PySem.W.keepIn K (.ref C) = true
  sa : PySem.W.findIn K (.ref C) "__setattr__" = some (some (.builtin "object.__setattr__"))
theorem errF_of {K : PySem.W.Frag} {C : Addr} (h : errB K C = true) : ErrF K C := by
  unfold errB at h
  simp only [Bool.and_eq_true, decide_eq_true_eq] at h
  obtain ⟨d1, d2, d3, d4, d5, d6, d7, d8, d9, d10, d11⟩ := h
  exact ⟨⟨d1, d2, d3, d4, d5, d6, d7, d8⟩, ⟨d1, d2, d3, d4⟩, d9, d10, d11⟩
def OexL (K : PySem.W.Frag) (C : Addr) : Prop := ∃ nm q N bs bm sn sub ab col dd k0 k1 k2 k3 k5, K.lookup C = some (excClassObj nm q C N bs bm true sn sub ab col dd k0 k1 k2 k3 k5 "ValueError.__new__") ∧ PySem.HandSPX.refsVE bm = true
def othersB (K : PySem.W.Frag) (C : Addr) (cs : List Addr) : Bool := (List.range 10).all fun j => decide (PySem.W.kitOne K (.ref C) (.ref (cs.getD j 0)) = some false)
theorem all_mk {P : Program} {w : World} {K : PySem.W.Frag} {h : Heap} {mg : Str → Option Value} {fa : Addr} (X : K.In h) (G : h.Ns mainGlobals mg) (hfa : mg "law" = some (.ref fa))
    {cB CN c0 c1 c2 c3 c4 c5 c6 c7 c8 c9 CC CS fC fN fWU fCU fR fWT fWE fEO fB fD fP fLN fO fE fTo fSt fTh fL fIN fCI fSI fTk fAU fAE pE pU pN gE gU gN c Tb : Addr} (hTb : h.get? Tb = some { cls := .none, data := .fields #[] })
    (aB : PySem.W.nsIn K mainGlobals "BlockorderError" = some (some (.ref cB)))
    (aN : PySem.W.nsIn K mainGlobals "InvalidName" = some (some (.ref CN)))
    (a0 : PySem.W.nsIn K mainGlobals "DuplicateItem" = some (some (.ref c0)))
    (a1 : PySem.W.nsIn K mainGlobals "UnknownItem" = some (some (.ref c1)))
    (a2 : PySem.W.nsIn K mainGlobals "DuplicateEntry" = some (some (.ref c2)))
    (a3 : PySem.W.nsIn K mainGlobals "UnknownEntry" = some (some (.ref c3)))
    (a4 : PySem.W.nsIn K mainGlobals "TooLarge" = some (some (.ref c4)))
    (a5 : PySem.W.nsIn K mainGlobals "NoTransaction" = some (some (.ref c5)))
    (a6 : PySem.W.nsIn K mainGlobals "OpenTransaction" = some (some (.ref c6)))
    (a7 : PySem.W.nsIn K mainGlobals "NothingToUndo" = some (some (.ref c7)))
    (a8 : PySem.W.nsIn K mainGlobals "EditFailed" = some (some (.ref c8)))
    (a9 : PySem.W.nsIn K mainGlobals "InvalidText" = some (some (.ref c9)))
    (aC : PySem.W.nsIn K mainGlobals "Contents" = some (some (.ref CC)))
    (aS : PySem.W.nsIn K mainGlobals "System" = some (some (.ref CS)))
    (bfC : PySem.W.nsIn K mainGlobals "copied" = some (some (.ref fC)))
    (bfN : PySem.W.nsIn K mainGlobals "is_name" = some (some (.ref fN)))
    (bfWU : PySem.W.nsIn K mainGlobals "with_unknowns" = some (some (.ref fWU)))
    (bfCU : PySem.W.nsIn K mainGlobals "check_unknowns" = some (some (.ref fCU)))
    (bfR : PySem.W.nsIn K mainGlobals "replaced" = some (some (.ref fR)))
    (bfWT : PySem.W.nsIn K mainGlobals "with_terms" = some (some (.ref fWT)))
    (bfWE : PySem.W.nsIn K mainGlobals "with_equation" = some (some (.ref fWE)))
    (bfEO : PySem.W.nsIn K mainGlobals "entries_of" = some (some (.ref fEO)))
    (bfB : PySem.W.nsIn K mainGlobals "_law_begin" = some (some (.ref fB)))
    (bfD : PySem.W.nsIn K mainGlobals "_law_draw" = some (some (.ref fD)))
    (bfP : PySem.W.nsIn K mainGlobals "_law_pick" = some (some (.ref fP)))
    (bfLN : PySem.W.nsIn K mainGlobals "_law_is_name" = some (some (.ref fLN)))
    (bfO : PySem.W.nsIn K mainGlobals "_law_odd" = some (some (.ref fO)))
    (bfE : PySem.W.nsIn K mainGlobals "_law_error" = some (some (.ref fE)))
    (bfTo : PySem.W.nsIn K mainGlobals "_law_told" = some (some (.ref fTo)))
    (bfSt : PySem.W.nsIn K mainGlobals "_law_stands" = some (some (.ref fSt)))
    (bfTh : PySem.W.nsIn K mainGlobals "_law_thing" = some (some (.ref fTh)))
    (bfL : PySem.W.nsIn K mainGlobals "law" = some (some (.ref fL)))
    (dfIN : PySem.W.findIn K (.ref CN) "__init__" = some (some (.ref fIN)))
    (dfCI : PySem.W.findIn K (.ref CC) "__init__" = some (some (.ref fCI)))
    (dfSI : PySem.W.findIn K (.ref CS) "__init__" = some (some (.ref fSI)))
    (dfTk : PySem.W.findIn K (.ref CS) "_take" = some (some (.ref fTk)))
    (dfAU : PySem.W.findIn K (.ref CS) "add_unknown" = some (some (.ref fAU)))
    (dfAE : PySem.W.findIn K (.ref CS) "add_equation" = some (some (.ref fAE)))
    (eE : PySem.W.findIn K (.ref CS) "equations" = some (some (.ref pE)))
    (rE : ∃ rest, PySem.W.recIn K pE "property" = some (.ref gE :: rest))
    (sE : PySem.W.specialIn K (.ref pE) "__get__" = some (some (.builtin "property.__get__")) ∧ PySem.W.takesIn K (.ref pE) = some true)
    (eU : PySem.W.findIn K (.ref CS) "unknowns" = some (some (.ref pU)))
    (rU : ∃ rest, PySem.W.recIn K pU "property" = some (.ref gU :: rest))
    (sU : PySem.W.specialIn K (.ref pU) "__get__" = some (some (.builtin "property.__get__")) ∧ PySem.W.takesIn K (.ref pU) = some true)
    (eN : PySem.W.findIn K (.ref CS) "entries" = some (some (.ref pN)))
    (rN : ∃ rest, PySem.W.recIn K pN "property" = some (.ref gN :: rest))
    (sN : PySem.W.specialIn K (.ref pN) "__get__" = some (some (.builtin "property.__get__")) ∧ PySem.W.takesIn K (.ref pN) = some true)
    (hfC : ∃ fd, Fun K "copied" "copied" sCopied fC fd)
    (hfN : ∃ fd, Fun K "is_name" "is_name" sIsName fN fd)
    (hfWU : ∃ fd, Fun K "with_unknowns" "with_unknowns" sWU fWU fd)
    (hfCU : ∃ fd, Fun K "check_unknowns" "check_unknowns" sCU fCU fd)
    (hfR : ∃ fd, Fun K "replaced" "replaced" sReplaced fR fd)
    (hfWT : ∃ fd, Fun K "with_terms" "with_terms" sWT fWT fd)
    (hfWE : ∃ fd, Fun K "with_equation" "with_equation" sWE fWE fd)
    (hfEO : ∃ fd, Fun K "entries_of" "entries_of" sEO fEO fd)
    (hfB : ∃ fd, Fun K "_law_begin" "_law_begin" sBegin fB fd)
    (hfD : ∃ fd, Fun K "_law_draw" "_law_draw" sDraw fD fd)
    (hfP : ∃ fd, Fun K "_law_pick" "_law_pick" sPick fP fd)
    (hfLN : ∃ fd, Fun K "_law_is_name" "_law_is_name" sLName fLN fd)
    (hfO : ∃ fd, Fun K "_law_odd" "_law_odd" sOdd fO fd)
    (hfE : ∃ fd, Fun K "_law_error" "_law_error" sErr fE fd)
    (hfTo : ∃ fd, Fun K "_law_told" "_law_told" sTold fTo fd)
    (hfSt : ∃ fd, Fun K "_law_stands" "_law_stands" sStands fSt fd)
    (hfTh : ∃ fd, Fun K "_law_thing" "_law_thing" sThing fTh fd)
    (hfIN : ∃ fd, Fun K "__init__" "InvalidName.__init__" sI5 fIN fd)
    (hfCI : ∃ fd, Fun K "__init__" "Contents.__init__" sCtInit fCI fd)
    (hfSI : ∃ fd, Fun K "__init__" "System.__init__" sSInit fSI fd)
    (hfTk : ∃ fd, Fun K "_take" "System._take" sTake fTk fd)
    (hfAU : ∃ fd, Fun K "add_unknown" "System.add_unknown" sAU fAU fd)
    (hfAE : ∃ fd, Fun K "add_equation" "System.add_equation" sAE fAE fd)
    (hE : ∃ fd, Fun K "equations" "System.equations" sEqs gE fd)
    (hU : ∃ fd, Fun K "unknowns" "System.unknowns" sUns gU fd)
    (hN : ∃ fd, Fun K "entries" "System.entries" sEns gN fd)
    (hL : ∃ fd, FunC K "law" "law" sLaw fL fd c)
    (tO : K.lookup Tb = none)
    (tC : PySem.W.codeHdIn K c Tb = true)
    (kCC : PySem.W.plainGet K CC Str.empty = true ∧ PySem.W.hasDictIn K CC = true ∧ PySem.W.plainOver K CC = true ∧ PySem.W.findIn K (.ref CC) "__setattr__" = some (some (.builtin "object.__setattr__")))
    (mCC : PySem.W.makesIn K CC = true ∧ PySem.W.keepIn K (.ref CC) = true)
    (kCS : PySem.W.plainGet K CS Str.empty = true ∧ PySem.W.hasDictIn K CS = true ∧ PySem.W.plainOver K CS = true ∧ PySem.W.findIn K (.ref CS) "__setattr__" = some (some (.builtin "object.__setattr__")))
    (mCS : PySem.W.makesIn K CS = true ∧ PySem.W.keepIn K (.ref CS) = true)
    (nC0 : PySem.W.findIn K (.ref CC) "columns" = some none)
    (nC1 : PySem.W.findIn K (.ref CC) "rows" = some none)
    (nC2 : PySem.W.findIn K (.ref CC) "constants" = some none)
    (nS0 : PySem.W.findIn K (.ref CS) "_contents" = some none)
    (nS1 : PySem.W.findIn K (.ref CS) "_begun" = some none)
    (nS2 : PySem.W.findIn K (.ref CS) "_history" = some none)
    (ifCI : PySem.W.isFn K (.ref fCI) = true)
    (ifSI : PySem.W.isFn K (.ref fSI) = true)
    (ifTk : PySem.W.isFn K (.ref fTk) = true)
    (ifAU : PySem.W.isFn K (.ref fAU) = true)
    (ifAE : PySem.W.isFn K (.ref fAE) = true)
    (tyI : PySem.W.typeIn K (.ref fIN) = some (.type "function"))
    (oN : OexL K CN)
    (noN : PySem.W.findIn K (.ref CN) "name" = some none)
    (cl : errB K CN = true)
    (ot : othersB K CN [c0, c1, c2, c3, c4, c5, c6, c7, c8, c9] = true)
    (kN : PySem.W.kitOne K (.ref CN) (.ref CN) = some true)
    (kV : PySem.W.kitOne K (.ref CN) (.type "ValueError") = some true)
    (xm : PySem.W.exmOne K (.ref CN) (.ref cB) = some true)
    (lL : ∃ t, PySem.W.nsIn K mainGlobals "LETTERS" = some (some (.str lets t)))
    (lD : ∃ t, PySem.W.nsIn K mainGlobals "DIGITS" = some (some (.str digs t)))
    (lO : ∃ t, PySem.W.nsIn K mainGlobals "LONGEST_NAME" = some (some (.int 8 t)))
    (lM : ∃ t, PySem.W.nsIn K mainGlobals "MOST" = some (some (.int 24 t)))
    (z_isinstance : PySem.W.nsIn K mainGlobals "isinstance" = some none)
    (z_tuple : PySem.W.nsIn K mainGlobals "tuple" = some none)
    (z_list : PySem.W.nsIn K mainGlobals "list" = some none)
    (z_dict : PySem.W.nsIn K mainGlobals "dict" = some none)
    (z_len : PySem.W.nsIn K mainGlobals "len" = some none)
    (z_str : PySem.W.nsIn K mainGlobals "str" = some none)
    (z_all : PySem.W.nsIn K mainGlobals "all" = some none)
    (z_set : PySem.W.nsIn K mainGlobals "set" = some none)
    (z_sorted : PySem.W.nsIn K mainGlobals "sorted" = some none)
    (z_enumerate : PySem.W.nsIn K mainGlobals "enumerate" = some none)
    (z_range : PySem.W.nsIn K mainGlobals "range" = some none)
    (z_min : PySem.W.nsIn K mainGlobals "min" = some none)
    (z_repr : PySem.W.nsIn K mainGlobals "repr" = some none)
    (z_ValueError : PySem.W.nsIn K mainGlobals "ValueError" = some none)
    : ∃ (fd : FuncData) (c T : Addr) (sp : Sp), OneTab K h c T ∧ (∀ (s : Shared) (u : Value), BindsTo s fd ⟨[u], []⟩ [("_law_script", u)]) ∧
      (∀ (H : Hp) (a : Addr) (ns : List Int), ns.length ≤ 63 → H T = some (.tbl #[]) → SqL K H a (ns.map V.int) → sp [.ref a] H (fun v _ => v = .bl true) E0) ∧
      ∀ base : Heap, K.In base → base.Ns mainGlobals mg → LamX.TabB base mg c T → FnQ P w K mg base CX0 10 fa fd ["_law_script"] sp := by
  have e := hfa.symm.trans (PySem.W.mg_of X G bfL)
  cases e
  obtain ⟨fd_fC, F_fC⟩ := hfC
  obtain ⟨fd_fN, F_fN⟩ := hfN
  obtain ⟨fd_fWU, F_fWU⟩ := hfWU
  obtain ⟨fd_fCU, F_fCU⟩ := hfCU
  obtain ⟨fd_fR, F_fR⟩ := hfR
  obtain ⟨fd_fWT, F_fWT⟩ := hfWT
  obtain ⟨fd_fWE, F_fWE⟩ := hfWE
  obtain ⟨fd_fEO, F_fEO⟩ := hfEO
  obtain ⟨fd_fB, F_fB⟩ := hfB
  obtain ⟨fd_fD, F_fD⟩ := hfD
  obtain ⟨fd_fP, F_fP⟩ := hfP
  obtain ⟨fd_fLN, F_fLN⟩ := hfLN
  obtain ⟨fd_fO, F_fO⟩ := hfO
  obtain ⟨fd_fE, F_fE⟩ := hfE
  obtain ⟨fd_fTo, F_fTo⟩ := hfTo
  obtain ⟨fd_fSt, F_fSt⟩ := hfSt
  obtain ⟨fd_fTh, F_fTh⟩ := hfTh
  obtain ⟨fd_fIN, F_fIN⟩ := hfIN
  obtain ⟨fd_fCI, F_fCI⟩ := hfCI
  obtain ⟨fd_fSI, F_fSI⟩ := hfSI
  obtain ⟨fd_fTk, F_fTk⟩ := hfTk
  obtain ⟨fd_fAU, F_fAU⟩ := hfAU
  obtain ⟨fd_fAE, F_fAE⟩ := hfAE
  obtain ⟨fd_E, F_E⟩ := hE
  obtain ⟨fd_U, F_U⟩ := hU
  obtain ⟨fd_N, F_N⟩ := hN
  obtain ⟨fd_L, F_L⟩ := hL
  have B_fC := F_fC.binds (ps := ["thing"]) fun _ _ _ _ _ _ us hl => match us, hl with | [_], _ => rfl
  have B_fN := F_fN.binds (ps := ["thing"]) fun _ _ _ _ _ _ us hl => match us, hl with | [_], _ => rfl
  have B_fWU := F_fWU.binds (ps := ["contents", "names"]) fun _ _ _ _ _ _ us hl => match us, hl with | [_, _], _ => rfl
  have B_fCU := F_fCU.binds (ps := ["known", "unknowns"]) fun _ _ _ _ _ _ us hl => match us, hl with | [_, _], _ => rfl
  have B_fR := F_fR.binds (ps := ["table", "key", "thing"]) fun _ _ _ _ _ _ us hl => match us, hl with | [_, _, _], _ => rfl
  have B_fWT := F_fWT.binds (ps := ["contents", "name", "constant", "terms"]) fun _ _ _ _ _ _ us hl => match us, hl with | [_, _, _, _], _ => rfl
  have B_fWE := F_fWE.binds (ps := ["contents", "name", "unknowns"]) fun _ _ _ _ _ _ us hl => match us, hl with | [_, _, _], _ => rfl
  have B_fEO := F_fEO.binds (ps := ["contents"]) fun _ _ _ _ _ _ us hl => match us, hl with | [_], _ => rfl
  have B_fB := F_fB.binds (ps := ["_law_script"]) fun _ _ _ _ _ _ us hl => match us, hl with | [_], _ => rfl
  have B_fD := F_fD.binds (ps := ["_law_tape", "_law_many"]) fun _ _ _ _ _ _ us hl => match us, hl with | [_, _], _ => rfl
  have B_fP := F_fP.binds (ps := ["_law_tape", "_law_items"]) fun _ _ _ _ _ _ us hl => match us, hl with | [_, _], _ => rfl
  have B_fLN := F_fLN.binds (ps := ["_law_thing_here"]) fun _ _ _ _ _ _ us hl => match us, hl with | [_], _ => rfl
  have B_fO := F_fO.binds (ps := ["_law_tape"]) fun _ _ _ _ _ _ us hl => match us, hl with | [_], _ => rfl
  have B_fE := F_fE.binds (ps := ["_law_call"]) fun _ _ _ _ _ _ us hl => match us, hl with | [_], _ => rfl
  have B_fTo := F_fTo.binds (ps := ["_law_plain"]) fun _ _ _ _ _ _ us hl => match us, hl with | [_], _ => rfl
  have B_fSt := F_fSt.binds (ps := ["_law_system", "_law_plain"]) fun _ _ _ _ _ _ us hl => match us, hl with | [_, _], _ => rfl
  have B_fTh := F_fTh.binds (ps := ["_law_tape"]) fun _ _ _ _ _ _ us hl => match us, hl with | [_], _ => rfl
  have B_fIN := F_fIN.binds (ps := ["self", "name"]) fun _ _ _ _ _ _ us hl => match us, hl with | [_, _], _ => rfl
  have B_fCI := F_fCI.binds (ps := ["self", "columns", "rows", "constants"]) fun _ _ _ _ _ _ us hl => match us, hl with | [_, _, _, _], _ => rfl
  have B_fSI := F_fSI.binds (ps := ["self"]) fun _ _ _ _ _ _ us hl => match us, hl with | [_], _ => rfl
  have B_fTk := F_fTk.binds (ps := ["self", "contents"]) fun _ _ _ _ _ _ us hl => match us, hl with | [_, _], _ => rfl
  have B_E := F_E.binds (ps := ["self"]) fun _ _ _ _ _ _ us hl => match us, hl with | [_], _ => rfl
  have B_U := F_U.binds (ps := ["self"]) fun _ _ _ _ _ _ us hl => match us, hl with | [_], _ => rfl
  have B_N := F_N.binds (ps := ["self"]) fun _ _ _ _ _ _ us hl => match us, hl with | [_], _ => rfl
  have m_fC := PySem.W.mg_of X G bfC
  have m_fN := PySem.W.mg_of X G bfN
  have m_fWU := PySem.W.mg_of X G bfWU
  have m_fCU := PySem.W.mg_of X G bfCU
  have m_fR := PySem.W.mg_of X G bfR
  have m_fWT := PySem.W.mg_of X G bfWT
  have m_fWE := PySem.W.mg_of X G bfWE
  have m_fEO := PySem.W.mg_of X G bfEO
  have m_fB := PySem.W.mg_of X G bfB
  have m_fD := PySem.W.mg_of X G bfD
  have m_fP := PySem.W.mg_of X G bfP
  have m_fLN := PySem.W.mg_of X G bfLN
  have m_fO := PySem.W.mg_of X G bfO
  have m_fE := PySem.W.mg_of X G bfE
  have m_fTo := PySem.W.mg_of X G bfTo
  have m_fSt := PySem.W.mg_of X G bfSt
  have m_fTh := PySem.W.mg_of X G bfTh
  have n_isinstance := PySem.W.mg_none_of X G z_isinstance
  have n_tuple := PySem.W.mg_none_of X G z_tuple
  have n_list := PySem.W.mg_none_of X G z_list
  have n_dict := PySem.W.mg_none_of X G z_dict
  have n_len := PySem.W.mg_none_of X G z_len
  have n_str := PySem.W.mg_none_of X G z_str
  have n_all := PySem.W.mg_none_of X G z_all
  have n_set := PySem.W.mg_none_of X G z_set
  have n_sorted := PySem.W.mg_none_of X G z_sorted
  have n_enumerate := PySem.W.mg_none_of X G z_enumerate
  have n_range := PySem.W.mg_none_of X G z_range
  have n_min := PySem.W.mg_none_of X G z_min
  have n_repr := PySem.W.mg_none_of X G z_repr
  have n_ValueError := PySem.W.mg_none_of X G z_ValueError
  have cf := errF_of cl
  have ox : OexC K CN := ⟨oN, cf.sa, cf.ex.hs, cf.ty, cf.kp⟩
  have TC : TxtC mg := ⟨n_isinstance, n_tuple, n_list, n_dict⟩
  obtain ⟨t1, lL⟩ := lL
  obtain ⟨t2, lD⟩ := lD
  obtain ⟨t3, lO⟩ := lO
  obtain ⟨t4, lM⟩ := lM
  have TN : TxtN mg := ⟨TC, ⟨t1, PySem.W.mg_of X G lL⟩, ⟨t2, PySem.W.mg_of X G lD⟩, ⟨t3, PySem.W.mg_of X G lO⟩, n_len, n_str, n_all⟩
  have TCt : CtT K mg CC fCI := { cl := ⟨kCC.1, kCC.2.1, kCC.2.2.1, kCC.2.2.2⟩, mkC := ⟨mCC.1, dfCI, ifCI, mCC.2⟩, g := PySem.W.mg_of X G aC, n1 := nC0, n2 := nC1, n3 := nC2 }
  have TE : ErrC K CN fIN "name" := ⟨ox, dfIN, tyI, noN⟩
  have TS : TxtS K mg CC fCI CN fIN := { toTxtN := TN, ct := TCt, en := TE, gN := PySem.W.mg_of X G aN, set_ := n_set, srt := n_sorted, most := ⟨t4, PySem.W.mg_of X G lM⟩ }
  have TY : SysT K mg CS fSI fTk := { cl := ⟨kCS.1, kCS.2.1, kCS.2.2.1, kCS.2.2.2⟩, mkC := ⟨mCS.1, dfSI, ifSI, mCS.2⟩, g := PySem.W.mg_of X G aS, n1 := nS0, n2 := nS1, n3 := nS2, tk := ⟨dfTk, ifTk, F_fTk.kp⟩ }
  have TP : TxtP mg := ⟨n_tuple, n_sorted⟩
  have TB : TxtB mg := ⟨n_len⟩
  have TR : TxtR mg := ⟨TB, n_range⟩
  have TL : TxtL mg := ⟨TR, n_min, n_repr, n_dict⟩
  have PT : PropT K CS pE gE pU gU pN gN := ⟨⟨eE, sE.1, sE.2, rE⟩, ⟨eU, sU.1, sU.2, rU⟩, ⟨eN, sN.1, sN.2, rN⟩⟩
  have kO : ∀ j, j < 10 → PySem.W.kitOne K (.ref CN) (.ref (([c0, c1, c2, c3, c4, c5, c6, c7, c8, c9] : List Addr).getD j 0)) = some false := fun j hj => of_decide_eq_true (List.all_eq_true.mp ot j (List.mem_range.mpr hj))
  have TX : ErrT K mg cB CN (fun j => ([c0, c1, c2, c3, c4, c5, c6, c7, c8, c9] : List Addr).getD j 0) := { gB := PySem.W.mg_of X G aB, ex := xm, gN := PySem.W.mg_of X G aN, g0 := PySem.W.mg_of X G a0, g1 := PySem.W.mg_of X G a1, g2 := PySem.W.mg_of X G a2, g3 := PySem.W.mg_of X G a3, g4 := PySem.W.mg_of X G a4, g5 := PySem.W.mg_of X G a5, g6 := PySem.W.mg_of X G a6, g7 := PySem.W.mg_of X G a7, g8 := PySem.W.mg_of X G a8, g9 := PySem.W.mg_of X G a9, gV := n_ValueError, isi := n_isinstance, kN := kN, k := kO, kV := kV, E := cf.ex, xf := cf.xf, no := noN }
  refine ⟨fd_L, c, Tb, spLaw K Tb, ⟨hTb, tO, PySem.W.codeHd_of_K X tC⟩, ?_, fun H a ns hl hT hS => ⟨a, ns, rfl, hS, hl, hT, fun _ => rfl⟩, fun base hK hG hTB => ?_⟩
  · obtain ⟨oc, od, kV, doc, pm, an, ct, osl, rfl, _, _⟩ := F_L.ex
    exact fun s v => .of_eq rfl
  · have GC : FnOk P w K mg base CX0 2 fC fd_fC ["thing"] (spCopy K) := ok_copy F_fC TC m_fC B_fC
    have GI : FnOk P w K mg base CX0 3 fIN fd_fIN ["self", "name"] (spInit K "name") := ok_i5 F_fIN GC m_fC F_fC.kp B_fC
    have GN : FnOk P w K mg base CX0 1 fN fd_fN ["thing"] (spIsName K) := ok_isName F_fN TN
    have GCI : FnOk P w K mg base CX0 1 fCI fd_fCI ["self", "columns", "rows", "constants"] (spCtInit CC) := ok_ctInit F_fCI TCt
    have GWU : FnOk P w K mg base (L2.CX P w) 5 fWU fd_fWU ["contents", "names"] (spWU K CC CN) := ok_wu F_fWU TS GN m_fN F_fN.kp B_fN GCI B_fCI GI B_fIN
    have GCU : FnOk P w K mg base CX0 1 fCU fd_fCU ["known", "unknowns"] spCU0 := ok_cu0 F_fCU n_enumerate
    have GR : FnOk P w K mg base CX0 1 fR fd_fR ["table", "key", "thing"] spReplaced := ok_replaced F_fR
    have GWT : FnOk P w K mg base (L2.CX P w) 5 fWT fd_fWT ["contents", "name", "constant", "terms"] (spWT K CC CN) := ok_wt F_fWT TS GN m_fN F_fN.kp B_fN GCU m_fCU F_fCU.kp B_fCU GR m_fR F_fR.kp B_fR GCI B_fCI GI B_fIN
    have GWE : FnOk P w K mg base (L2.CX P w) 6 fWE fd_fWE ["contents", "name", "unknowns"] (spWE K CC CN) := ok_we F_fWE GWT m_fWT F_fWT.kp B_fWT
    have GTk : FnOk P w K mg base CX0 1 fTk fd_fTk ["self", "contents"] (spTake CS) := ok_take F_fTk TY
    have GSI : FnOk P w K mg base CX0 3 fSI fd_fSI ["self"] (spSInit K CC CS) := ok_sInit F_fSI TY TCt GCI B_fCI
    have GAU : FnR P w K mg base (L2.CX P w) 6 fAU (spAU K CC CN CS) := ok_au F_fAU TY TCt GTk B_fTk GWU m_fWU F_fWU.kp B_fWU
    have GAE : FnR P w K mg base (L2.CX P w) 7 fAE (spAE K CC CN CS) := ok_ae F_fAE TY TCt GTk B_fTk GWE m_fWE F_fWE.kp B_fWE
    have GEq : FnOk P w K mg base CX0 1 gE fd_E ["self"] (spEqs K CC CS) := ok_eqs F_E TY TCt TP
    have GUn : FnOk P w K mg base CX0 1 gU fd_U ["self"] (spUns K CC CS) := ok_uns F_U TY TCt
    have GEO : FnOk P w K mg base CX0 1 fEO fd_fEO ["contents"] (spEO0 K CC) := ok_eo0 F_fEO TCt TP
    have GEn : FnOk P w K mg base CX0 2 gN fd_N ["self"] (spEns K CC CS) := ok_ens F_N TY GEO m_fEO F_fEO.kp B_fEO
    have GB : FnOk P w K mg base CX0 1 fB fd_fB ["_law_script"] (spBegin K) := ok_begin F_fB
    have GD : FnOk P w K mg base CX0 1 fD fd_fD ["_law_tape", "_law_many"] spDraw := ok_draw F_fD TB
    have GP : FnOk P w K mg base CX0 2 fP fd_fP ["_law_tape", "_law_items"] spPick := ok_pick F_fP TB GD m_fD F_fD.kp B_fD
    have GPS : FnOk P w K mg base CX0 2 fP fd_fP ["_law_tape", "_law_items"] spPickS := ok_pickS F_fP TB GD m_fD F_fD.kp B_fD
    have GO : FnOk P w K mg base CX0 3 fO fd_fO ["_law_tape"] (spOdd K 3) := ok_odd F_fO GP GPS m_fP F_fP.kp B_fP
    have GTh : FnOk P w K mg base CX0 4 fTh fd_fTh ["_law_tape"] (spOdd K 20) := ok_thing F_fTh TR GD m_fD F_fD.kp B_fD GPS m_fP F_fP.kp B_fP GO m_fO F_fO.kp B_fO
    have GLN : FnOk P w K mg base CX0 1 fLN fd_fLN ["_law_thing_here"] (spLName K) := ok_lname F_fLN TN
    have GTo : FnOk P w K mg base CX0 1 fTo fd_fTo ["_law_plain"] (spTold K) := ok_told F_fTo TP
    have GSt : FnQ P w K mg base CX0 4 fSt fd_fSt ["_law_system", "_law_plain"] (spStands K CC CS) := ok_stands F_fSt TY n_repr PT GTo m_fTo F_fTo.kp B_fTo GEq B_E GUn B_U GEn B_N
    exact ok_law (fIN := fIN) F_L hTB ⟨TY, TCt, TX, TL, PySem.W.mg_of X G aS⟩ GB m_fB F_fB.kp B_fB GTh m_fTh F_fTh.kp B_fTh GLN m_fLN F_fLN.kp B_fLN F_fE m_fE B_fE GSt m_fSt F_fSt.kp B_fSt GSI B_fSI GAU ⟨dfAU, ifAU, F_fAU.kp⟩ GAE ⟨dfAE, ifAE, F_fAE.kp⟩ PT GUn B_U
end Bo

set_option Elab.async false
set_option linter.all false
open PySem PySem.W PyProof.Rows
set_option maxRecDepth 100000 in
set_option maxHeartbeats 0 in
theorem PySem.Challenge.cw_blockorder_k29_names_or_not_holds : PySem.Challenge.rw_blockorder_k29_names_or_not.Holds := by
  w_on; o_law; k_head; (case hw => w_witness2)
  k_fill
  refine Bo.walkTQ (l := PySem.Challenge.rw_blockorder_k29_names_or_not) (n := 63) (k := 10) (x := "_law_script") rfl (by decide) rfl ⟨rfl, by decide, by decide⟩ (fun w h Y => PySem.W.km_in_of Y) ?F
  case F =>
    intro w mg fa h Y KX G hmg
    have T := PySem.W.km_tabs_of Y
    refine' Bo.all_mk KX G hmg (c := 724) (Tb := 722) ?tb ?aB ?aN ?a0 ?a1 ?a2 ?a3 ?a4 ?a5 ?a6 ?a7 ?a8 ?a9 ?aC ?aS ?bfC ?bfN ?bfWU ?bfCU ?bfR ?bfWT ?bfWE ?bfEO ?bfB ?bfD ?bfP ?bfLN ?bfO ?bfE ?bfTo ?bfSt ?bfTh ?bfL ?dfIN ?dfCI ?dfSI ?dfTk ?dfAU ?dfAE ?eE ?rE ?sE ?eU ?rU ?sU ?eN ?rN ?sN ?hfC ?hfN ?hfWU ?hfCU ?hfR ?hfWT ?hfWE ?hfEO ?hfB ?hfD ?hfP ?hfLN ?hfO ?hfE ?hfTo ?hfSt ?hfTh ?hfIN ?hfCI ?hfSI ?hfTk ?hfAU ?hfAE ?hE ?hU ?hN ?hL ?tO ?tC ?kCC ?mCC ?kCS ?mCS ?nC0 ?nC1 ?nC2 ?nS0 ?nS1 ?nS2 ?ifCI ?ifSI ?ifTk ?ifAU ?ifAE ?tyI ?oN ?noN ?cl ?ot ?kN ?kV ?xm ?lL ?lD ?lO ?lM ?z_isinstance ?z_tuple ?z_list ?z_dict ?z_len ?z_str ?z_all ?z_set ?z_sorted ?z_enumerate ?z_range ?z_min ?z_repr ?z_ValueError
    (case tb => exact T 722 (by k_mem))
    (case aB => k_is)
    (case aN => k_is)
    (case a0 => k_is)
    (case a1 => k_is)
    (case a2 => k_is)
    (case a3 => k_is)
    (case a4 => k_is)
    (case a5 => k_is)
    (case a6 => k_is)
    (case a7 => k_is)
    (case a8 => k_is)
    (case a9 => k_is)
    (case aC => k_is)
    (case aS => k_is)
    (case bfC => k_is)
    (case bfN => k_is)
    (case bfWU => k_is)
    (case bfCU => k_is)
    (case bfR => k_is)
    (case bfWT => k_is)
    (case bfWE => k_is)
    (case bfEO => k_is)
    (case bfB => k_is)
    (case bfD => k_is)
    (case bfP => k_is)
    (case bfLN => k_is)
    (case bfO => k_is)
    (case bfE => k_is)
    (case bfTo => k_is)
    (case bfSt => k_is)
    (case bfTh => k_is)
    (case bfL => k_is)
    (case dfIN => k_is)
    (case dfCI => k_is)
    (case dfSI => k_is)
    (case dfTk => k_is)
    (case dfAU => k_is)
    (case dfAE => k_is)
    (case eE => k_is)
    (case rE => exact ⟨_, by k_is⟩)
    (case sE => exact ⟨by k_is, by k_is⟩)
    (case eU => k_is)
    (case rU => exact ⟨_, by k_is⟩)
    (case sU => exact ⟨by k_is, by k_is⟩)
    (case eN => k_is)
    (case rN => exact ⟨_, by k_is⟩)
    (case sN => exact ⟨by k_is, by k_is⟩)
    (case hfC => exact ⟨_, L2.fun_mk (by k_is) (by k_is) (by k_is)⟩)
    (case hfN => exact ⟨_, L2.fun_mk (by k_is) (by k_is) (by k_is)⟩)
    (case hfWU => exact ⟨_, L2.fun_mk (by k_is) (by k_is) (by k_is)⟩)
    (case hfCU => exact ⟨_, L2.fun_mk (by k_is) (by k_is) (by k_is)⟩)
    (case hfR => exact ⟨_, L2.fun_mk (by k_is) (by k_is) (by k_is)⟩)
    (case hfWT => exact ⟨_, L2.fun_mk (by k_is) (by k_is) (by k_is)⟩)
    (case hfWE => exact ⟨_, L2.fun_mk (by k_is) (by k_is) (by k_is)⟩)
    (case hfEO => exact ⟨_, L2.fun_mk (by k_is) (by k_is) (by k_is)⟩)
    (case hfB => exact ⟨_, L2.fun_mk (by k_is) (by k_is) (by k_is)⟩)
    (case hfD => exact ⟨_, L2.fun_mk (by k_is) (by k_is) (by k_is)⟩)
    (case hfP => exact ⟨_, L2.fun_mk (by k_is) (by k_is) (by k_is)⟩)
    (case hfLN => exact ⟨_, L2.fun_mk (by k_is) (by k_is) (by k_is)⟩)
    (case hfO => exact ⟨_, L2.fun_mk (by k_is) (by k_is) (by k_is)⟩)
    (case hfE => exact ⟨_, L2.fun_mk (by k_is) (by k_is) (by k_is)⟩)
    (case hfTo => exact ⟨_, L2.fun_mk (by k_is) (by k_is) (by k_is)⟩)
    (case hfSt => exact ⟨_, L2.fun_mk (by k_is) (by k_is) (by k_is)⟩)
    (case hfTh => exact ⟨_, L2.fun_mk (by k_is) (by k_is) (by k_is)⟩)
    (case hfIN => exact ⟨_, L2.fun_mk (by k_is) (by k_is) (by k_is)⟩)
    (case hfCI => exact ⟨_, L2.fun_mk (by k_is) (by k_is) (by k_is)⟩)
    (case hfSI => exact ⟨_, L2.fun_mk (by k_is) (by k_is) (by k_is)⟩)
    (case hfTk => exact ⟨_, L2.fun_mk (by k_is) (by k_is) (by k_is)⟩)
    (case hfAU => exact ⟨_, L2.fun_mk (by k_is) (by k_is) (by k_is)⟩)
    (case hfAE => exact ⟨_, L2.fun_mk (by k_is) (by k_is) (by k_is)⟩)
    (case hE => exact ⟨_, L2.fun_mk (by k_is) (by k_is) (by k_is)⟩)
    (case hU => exact ⟨_, L2.fun_mk (by k_is) (by k_is) (by k_is)⟩)
    (case hN => exact ⟨_, L2.fun_mk (by k_is) (by k_is) (by k_is)⟩)
    (case hL => exact ⟨_, Bo.funC_mk (by k_is) (by k_is)⟩)
    (case tO => kernel_rfl)
    (case tC => kernel_rfl)
    (case kCC => exact ⟨by k_is, by k_is, by k_is, by k_is⟩)
    (case mCC => exact ⟨by k_is, by k_is⟩)
    (case kCS => exact ⟨by k_is, by k_is, by k_is, by k_is⟩)
    (case mCS => exact ⟨by k_is, by k_is⟩)
    (case nC0 => k_is)
    (case nC1 => k_is)
    (case nC2 => k_is)
    (case nS0 => k_is)
    (case nS1 => k_is)
    (case nS2 => k_is)
    (case ifCI => k_is)
    (case ifSI => k_is)
    (case ifTk => k_is)
    (case ifAU => k_is)
    (case ifAE => k_is)
    (case tyI => k_is)
    (case oN => exact ⟨_, _, _, _, _, _, _, _, _, _, _, _, _, _, _, by k_is, by decide +kernel⟩)
    (case noN => k_is)
    (case cl => kernel_rfl)
    (case ot => kernel_rfl)
    (case kN => kernel_rfl)
    (case kV => kernel_rfl)
    (case xm => kernel_rfl)
    (case lL => exact ⟨_, by k_is⟩)
    (case lD => exact ⟨_, by k_is⟩)
    (case lO => exact ⟨_, by k_is⟩)
    (case lM => exact ⟨_, by k_is⟩)
    (case z_isinstance => k_is)
    (case z_tuple => k_is)
    (case z_list => k_is)
    (case z_dict => k_is)
    (case z_len => k_is)
    (case z_str => k_is)
    (case z_all => k_is)
    (case z_set => k_is)
    (case z_sorted => k_is)
    (case z_enumerate => k_is)
    (case z_range => k_is)
    (case z_min => k_is)
    (case z_repr => k_is)
    (case z_ValueError => k_is)
#print axioms PySem.Challenge.cw_blockorder_k29_names_or_not_holds

